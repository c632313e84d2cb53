/- CacheReads: the walk. -/
import Derived.Test.YtpmfmkpfjomgnaaGreatDoorZcg
import Derived.Test.YtpmfmkpfjomgnaaGreatDoorZap
/- CacheReads: the walk. -/
namespace Go.Proofs.YtpmfmkpfjomgnaaGreatDoor
set_option linter.unusedSimpArgs false
set_option linter.unusedVariables false
open Go.RowKit Go.WideShapes

theorem conv_arg {w : World} {B n c : Nat} {A : Option Addr} {l : List Nat} (h : Ids.Rd w B A (Ids.u8s l)) (hl : l.length = n) : (convert 60 9 (.slice A n c)).run Tryz.prog w = .ok (.string (strOfNums (natsI l))) w := by
  subst hl
  cases hq : l with
  | nil =>
    rw [strs_nil]
    exact run_convert_bytes_zero w 60 5 Tryz.underlying60 Tryz.underlying5 A c 9 Tryz.underlying9
  | cons x0 r0 =>
    rw [← hq]
    have h0 : (Ids.u8s l)[0]? = some (.int .u8 (x0 : Int)) := by rw [hq]; rfl
    obtain ⟨b, o, rfl, -, -⟩ := h 0 _ h0
    refine run_convert_bytes_arg w 60 5 Tryz.underlying60 Tryz.underlying5 b o l.length c (natsI l) (by simp [natsI]) (fun i hi => ?_) 9 Tryz.underlying9
    obtain ⟨x, hx⟩ : ∃ x, l[i]? = some x := ⟨_, List.getElem?_eq_getElem hi⟩
    have hu : (Ids.u8s l)[i]? = some (.int .u8 (x : Int)) := by unfold Ids.u8s; rw [List.getElem?_map, hx]; rfl
    obtain ⟨b', o', e, -, hc⟩ := h i _ hu
    injection e with e
    injection e with e1 e2
    subst e1
    subst e2
    have hg : (natsI l).getD i 0 = (x : Int) := by unfold natsI; rw [List.getD_eq_getElem?_getD, List.getElem?_map, hx]; rfl
    rw [hg]
    exact hc
theorem bytes_of {l : List Nat} (h : ∀ x ∈ l, x < 256) : bytesN (strOfNums (natsI l)) = l := by
  unfold bytesN
  rw [strOfNums_data]
  unfold natsI
  rw [List.map_map, List.map_map]
  conv => rhs; rw [← List.map_id l]
  refine List.map_congr_left fun x hx => ?_
  have := h x hx
  show (UInt8.ofNat (Int.ofNat x).toNat).toNat = x
  simp
  omega
/-- A row of one's own as bytes that may be read. -/
theorem rest_of {w : World} {base : Nat} {v : Value} {l : List Nat} (h : w.ownsRow base 5 1 v l.length (Ids.u8s l)) (hb : ∀ x ∈ l, x < 256) : ∃ A c b, v = .slice A l.length c ∧ RestAt w w.heap.size (strOfNums (natsI l)) b 0 0 A c := by
  have hsz : (strOfNums (natsI l)).size = l.length := by rw [strOfNums_size]; simp [natsI]
  obtain ⟨A0, c0, hv, hc1, hc2⟩ := own_form' h
  rcases own_handle h with ⟨hv0, h0⟩ | ⟨b, c, hv0⟩
  · subst hv0
    injection hv with e1 e2 e3
    subst e1 e3
    refine ⟨none, 0, 0, by rw [h0], ⟨fun hp => by rw [hsz, h0] at hp; omega, by rw [hsz, h0]; exact Nat.le_refl _, hc2, fun i hi => by rw [hsz, h0] at hi; omega, fun hp => by rw [hsz, h0] at hp; omega⟩⟩
  · subst hv0
    injection hv with e1 e2 e3
    subst e1 e3
    refine ⟨some ⟨b, 0, none⟩, c, b, rfl, fun _ => rfl, by rw [hsz]; exact hc1, hc2, fun i hi => ?_, fun _ => (h.lt b rfl).2⟩
    rw [hsz] at hi
    obtain ⟨x, hx⟩ : ∃ x, l[i]? = some x := ⟨_, List.getElem?_eq_getElem hi⟩
    have hu : (Ids.u8s l)[i]? = some (.int .u8 (x : Int)) := by unfold Ids.u8s; rw [List.getElem?_map, hx]; rfl
    obtain ⟨b', e, hc⟩ := own_ats h hu
    injection e with e
    injection e with e
    subst e
    rw [Nat.zero_add, hc]
    have hy : (bytesN (strOfNums (natsI l)))[i]? = some x := by rw [bytes_of hb]; exact hx
    unfold bytesN at hy
    rw [List.getElem?_map, Option.map_eq_some_iff] at hy
    obtain ⟨y, hy, hyx⟩ := hy
    obtain ⟨hlt, hy2⟩ := List.getElem?_eq_some_iff.1 hy
    subst hyx
    subst hy2
    rfl
theorem same_strs {l k : List Nat} (hk : ∀ x ∈ k, x < 256) (h : sameB l (strOfNums (natsI k)) = true) : strOfNums (natsI l) = strOfNums (natsI k) := by
  unfold sameB at h
  rw [bytes_of hk] at h
  have h := eq_of_beq h
  show (⟨(Lib.bytesOf (natsI l)).toArray⟩ : ByteArray) = ⟨(Lib.bytesOf (natsI k)).toArray⟩
  rw [h]
set_option maxHeartbeats 2000000 in
set_option maxRecDepth 100000 in
theorem cacheReads_any (A : Option Addr) (n c : Nat) (l : List Nat) (w : World) (hl : l.length = n) (hn : n ≤ 1048576) (hbb : ∀ x ∈ l, x < 256) (hr : Ids.Rd w w.heap.size A (Ids.u8s l)) (hT : Tabs w) :
    Calls Tryz.prog 8 #[.slice A n c] w (TrueBelow w) := by
  have C1 := Lib.hid (cacheAwake_any w hT)
  have HL := Lib.hid hl
  have HB := Lib.hid hbb
  have HR := Lib.hid hr
  have HT := Lib.hid hT
  clear hl hbb hr hT
  go_enter Tryz.func8, Tryz.ntmps8
  go_wp2_with fail
  refine C1.out.mono ?_
  rintro e w1 ⟨rfl, hb1⟩
  have hs1 := hb1.size
  have HR1 := Lib.hid (HR.out.below hb1 (Nat.le_refl _))
  clear C1
  go_wp2_with (at_builtin; go_must (refine Ids.app8 rfl _ _ rfl w1.heap.size _ 0 [] rfl (Ids.own_new0 w1 5) w.heap.size A n c l rfl HL.out (HR1.out.below ((Below.refl w1.heap.size w1).alloc (Nat.le_refl _) _) (by omega)) (by omega) (by simp) ?_); intro v4 w4 hown4 hb4; simp only [Nat.zero_add, List.nil_append] at hown4)
  obtain ⟨bs, hbs⟩ : ∃ bs, bs = strOfNums (natsI l) := ⟨_, rfl⟩
  have hsz : bs.size = n := by rw [hbs, strOfNums_size]; simp [natsI, HL.out]
  have hown5 : w4.ownsRow w1.heap.size 5 1 v4 l.length (Ids.u8s l) := by rw [HL.out]; exact hown4
  obtain ⟨A4, c4, b4, rfl, hrest⟩ := rest_of hown5 HB.out
  have hb14 : Below w1.heap.size w1 w4 := ((Below.refl w1.heap.size w1).alloc (Nat.le_refl _) _).trans hb4
  have hb04 : Below w.heap.size w w4 := hb1.trans (hb14.mono hs1)
  rw [← hbs] at hrest
  have CR := read_any hrest (by omega) (HT.out.below hb04 HT.out.two)
  rw [hsz] at CR
  have HCR := Lib.hid CR
  have HRest := Lib.hid hrest
  have HB4 := Lib.hid hb04
  have HSZ := Lib.hid hsz
  have HBS := Lib.hid hbs
  have HL' := HL.out
  rw [HL']
  clear hrest hb04 hb14 hown4 hown5 hb4 hb1 CR hsz hbs HL' HR1
  go_wp2_with fail
  refine HCR.out.mono ?_
  rintro e w5 ⟨hb5, hres⟩
  have hb05 : Below w.heap.size w w5 := HB4.out.trans (hb5.mono HB4.out.size)
  have q1 : (convert 60 9 (.slice A4 n c4)).run Tryz.prog w5 = .ok (.string bs) w5 := by
    have h := conv_rest (HRest.out.stay fun hp => hb5.block b4 (HRest.out.far hp))
    rw [HSZ.out] at h
    rw [h]
    have : bytesN bs = l := by rw [HBS.out]; exact bytes_of HB.out
    rw [this, ← HBS.out]
  have q2 : (convert 60 9 (.slice A n c)).run Tryz.prog w5 = .ok (.string bs) w5 := by
    rw [conv_arg (HR.out.below hb05 (Nat.le_refl _)) HL.out, ← HBS.out]
  have HB5 := Lib.hid hb05
  clear hb5 hb05 HCR HRest
  rcases hres with ⟨he, -⟩ | ⟨n0, pg, OP, S, T, kind, reps, ks, he, hP⟩
  · obtain rfl := he
    go_wp2_with fail
    go_ret
    exact ⟨rfl, HB5.out⟩
  · obtain rfl := he
    have CW := Lib.hid (write_any hP.pool (fun k hk => ⟨(hP.tiny k hk).2, (hP.tiny k hk).1.small⟩) hP.many.1 hP.many.2 (fun r hr => Nat.le_trans (hP.names r hr) (by decide)) (enc_le kind reps ks (fun k hk => (hP.tiny k hk).1) hP.many.1 hP.many.2 hP.names))
    have HS : Hid (strOfNums (natsI (encP kind reps ks)) = bs) := by
      show _ = bs
      have h := hP.same
      rw [HBS.out] at h ⊢
      exact same_strs HB.out h
    clear hP
    go_wp2_with fail
    refine CW.out.mono ?_
    rintro e w6 ⟨hb6, v, rfl, hown⟩
    have hb06 : Below w.heap.size w w6 := HB5.out.trans (hb6.mono HB5.out.size)
    have q3 : (convert 60 9 v).run Tryz.prog w6 = .ok (.string bs) w6 := by
      rw [conv_own hown, HS.out]
    have q4 : (convert 60 9 (.slice A n c)).run Tryz.prog w6 = .ok (.string bs) w6 := by
      rw [conv_arg (HR.out.below hb06 (Nat.le_refl _)) HL.out, ← HBS.out]
    have HB6 := Lib.hid hb06
    clear q1 q2 hb6 hown hb06 CW HB5
    go_wp2_with fail
    go_ret
    exact ⟨rfl, HB6.out⟩
theorem long_bulk {H : Type} {d : DataW H} {n c : Nat} (hlong : Long d n c) (hk : Rows.uptoBulkAll [d] ≤ 1048576) : n ≤ 1048576 := by
  rcases hlong with ⟨_, h, _⟩ | ⟨a, b, rfl, h, _⟩
  · omega
  · have h1 := Ids.bulk_len a
    simp only [Rows.uptoBulkAll, Rows.uptoBulk] at hk
    omega
theorem cacheReads_walk {H : Type} {enc : TypeId × Value → H} (W : World) {v0 : Value} {d0 : DataW H} (h0 : In enc Tryz.prog W 60 v0 d0) (hL : laidMetH Tryz.prog Rows.cacheReadsUptoRow.laid W) (hk : Rows.uptoBulkAll [d0] ≤ 1048576) :
    Calls Tryz.prog 8 #[v0] W (TrueBelow W) := by
  obtain ⟨A, n, c, zs, rfl, hl, -, -, hr, hwf, hlong⟩ := h0.ints Tryz.underlying60 Tryz.underlying5 (by kernel_rfl)
  have hn := long_bulk hlong hk
  have hz : ∀ z ∈ zs, 0 ≤ z ∧ z < 256 := fun z hz => by
    have h := hwf z hz
    have e1 : IntKind.u8.min = 0 := rfl
    have e2 : IntKind.u8.max = 255 := rfl
    simp [Lit.wf] at h
    omega
  have he : Ids.u8s (zs.map Int.toNat) = zs.map (Value.int .u8) := by
    unfold Ids.u8s
    rw [List.map_map]
    refine List.map_congr_left fun z hm => ?_
    show Value.int .u8 (((z.toNat : Nat)) : Int) = .int .u8 z
    rw [Int.toNat_of_nonneg (hz z hm).1]
  rw [MakeChecks.laidMetH_plain _ _ _ (by kernel_rfl)] at hL
  refine cacheReads_any A n c (zs.map Int.toNat) W (by rw [List.length_map]; exact hl) hn (fun x hx => ?_) (by rw [he]; exact hr) (tabs_of hL (by simp [Rows.cacheReadsUptoRow]) (by simp [Rows.cacheReadsUptoRow]))
  obtain ⟨z, hm, rfl⟩ := List.mem_map.1 hx
  have := hz z hm
  omega
end Go.Proofs.YtpmfmkpfjomgnaaGreatDoor
