/- The contract of Search. -/
import Derived.Test.YthgagobdkcikiaaDoorVals
import Derived.Test.YthgagobdkcikiaaDoorMax
namespace Go.Proofs.YthgagobdkcikiaaDoor
set_option linter.unusedSimpArgs false
set_option linter.unusedVariables false
open Go.RowKit

theorem values_ok {w : World} {mv n : Nat} {E : DataW Unit} {f : ByteArray → Option Nat} (hM : w.ownsMap Tryd.prog 9 rdM mv n E) (hA : Agr kdS (fun _ => True) enM E (fun k => (f k).map some)) (key : ByteArray) (hk : key.size ≤ maxLen) :
    (Instr.lookup 52 (.map (some mv)) (.string key) true).run Tryd.prog w = .ok (.tuple #[.map (f key), .bool (f key).isSome]) w := by
  obtain ⟨v, ps, hrun, hv⟩ := hM.look_ok lawS Tryd.underlying52 (zeroM w) (rdBy_val (en := enM) valM_inj none) (Go.WideMaps.keyOf_string_mk (P := Tryd.prog) Tryd.underlying9 hk)
  have h1 := hA.at_ key none trivial
  have h3 := hA.has key trivial
  unfold kdS at h1 h3
  rw [h1] at hv
  have h2 := rdBy_inv enM_inj hv
  subst h2
  rw [h3] at hrun
  cases hf : f key <;> rw [hf] at hrun <;> exact hrun
def SearchPost (w : World) (S : VSt) (N : Nat) (key : ByteArray) (q : ByteArray → Bool) (e : Ending) (w' : World) : Prop :=
  Below w.heap.size w w' ∧ match S.inner key with
  | none => e = .returned (.tuple #[.slice none 0 0, .int .i64 84])
  | some _ => ∃ v ids, e = .returned (.tuple #[v, .int .i64 0]) ∧ w'.ownsRow w.heap.size 3 1 v (List.length ids) (i64s ids) ∧ ids.Pairwise (· < ·) ∧ (∀ id, id ∈ ids ↔ okI id ∧ Found w S key q id) ∧ ids.length ≤ N
theorem sorted_lt {G : List Int} (h : G.Nodup) : (G.mergeSort fun x y => decide (x ≤ y)).Pairwise (· < ·) := by
  have h1 : (G.mergeSort fun x y => decide (x ≤ y)).Pairwise (fun x y => decide (x ≤ y) = true) := List.pairwise_mergeSort (fun a b c h1 h2 => by simp at *; omega) (fun a b => by simp; omega) G
  have h2 : (G.mergeSort fun x y => decide (x ≤ y)).Nodup := (List.mergeSort_perm G _).nodup_iff.2 h
  exact (h1.and h2).imp fun ⟨a, b⟩ => by simp at a; omega
theorem iter_cells {P : Program} {k : TypeId} {R : Value → Option (DataW Unit × List MemPlace)} {w : World} {b r n : Nat} {D : DataW Unit} {left : Lit → Bool} {cnt : Nat} (h : w.ranges P k R b r n D left cnt) {base : Nat} {e : TypeId} {size m : Nat} {v : Value} {xs : List Value} (ho : w.ownsRow base e size v m xs) : v.ownBlock ≠ some r := by
  obtain ⟨es, clock, since, seen, c0, _, _, _, _, hr, _⟩ := h
  intro e1
  rcases ho.2 with ⟨h, _⟩ | ⟨g, cap, cur, h, hb, hblk, _⟩
  · subst h; cases e1
  · subst h
    have : g = r := by simpa [Value.ownBlock] using e1
    subst this
    rw [hr] at hblk
    cases hblk
theorem ranges_le {P : Program} {k : TypeId} {R : Value → Option (DataW Unit × List MemPlace)} {w : World} {b r n : Nat} {D : DataW Unit} {left : Lit → Bool} {cnt : Nat} (h : w.ranges P k R b r n D left cnt) : cnt ≤ n := by
  obtain ⟨es, clock, since, seen, c0, _, _, hs, _, _, _, hc, _⟩ := h
  have : (leftOf es seen).size ≤ es.size := by unfold leftOf; exact Array.size_filter_le
  omega
set_option maxHeartbeats 4000000 in
set_option maxRecDepth 100000 in
theorem search_any (w : World) (bs : Nat) (vk : Value) (mk mv : Nat) (vd vp : Value) (S : VSt) (N : Nat) (hB : Blk w bs 56 #[vk, .map (some mk), .map (some mv), vd, vp]) (hV : ValP w vk mk mv S N) (hN : N ≤ 8796093022207) (key : ByteArray) (hkey : key.size ≤ maxLen)
    (how : Int) (hw1 : 1 ≤ how) (hw4 : how ≤ 4) (p : ByteArray) (hp : p.size ≤ 1048576) (hm : MaxAt w) (hM : 0 < w.heap.size) (htab : PowAt w) :
    Calls Tryd.prog 15 #[.pointer (some ⟨bs, 0, none⟩), .string key, .int .i64 how, .string p] w (SearchPost w S N key (fitsB how p)) := by
  obtain ⟨wa, hwa⟩ : ∃ wa, wa = (w.alloc (.cells #[.int .i64 how] 3)).alloc (.cells #[.string p] 9) := ⟨_, rfl⟩
  have hbw : Below w.heap.size w wa := by rw [hwa]; exact ((Below.refl _ _).alloc (Nat.le_refl _) _).alloc (by simp) _
  have hza : wa.heap.size = w.heap.size + 2 := by rw [hwa]; simp
  have hbl := hB.lt
  have hBa := hB.below hbw hbl
  have hVa := hV.below hbw
  have c2 : wa.cell? ⟨bs, 2, none⟩ = some (.map (some mv)) := hBa.cell 2
  have K6 : Blk wa w.heap.size 3 #[.int .i64 how] := by rw [hwa]; exact (Blk.new w _ _).alloc _
  have K7 : Blk wa (w.heap.size + 1) 9 #[.string p] := by rw [hwa]; exact Blk.new' (by simp)
  have c6 := K6.cell 0
  have c7 := K7.cell 0
  simp at c6 c7
  obtain ⟨E, hMv, hAg⟩ := hVa.vals
  have hl1 := values_ok hMv hAg key hkey
  have q1 : ¬ how < 1 := by omega
  have q2 : ¬ how > 4 := by omega
  have HBW := Lib.hid hbw
  have HV := Lib.hid hV
  have HVA := Lib.hid hVa
  have HK6 := Lib.hid K6
  have HK7 := Lib.hid K7
  have HM := Lib.hid hm
  have HMS := Lib.hid hM
  have HTAB := Lib.hid htab
  obtain ⟨i0, hi, hz0, hz1, hz2⟩ := info_parts infoI
  clear hB hV hBa hVa hMv hAg hbw K6 K7 hm hM htab hw1 hw4
  cases hr : S.inner key with
  | none =>
    have HP : Hid (∀ e w', SearchPost w S N key (fitsB how p) e w' = (Below w.heap.size w w' ∧ e = .returned (.tuple #[.slice none 0 0, .int .i64 84]))) := fun e w' => by unfold SearchPost; rw [hr]
    rw [hr] at hl1
    clear hr
    simp only [Option.isSome_none] at hl1
    go_enter Tryd.func15, Tryd.ntmps15
    go_upto_region 1 with fail
    rw [← hwa]
    clear hwa
    go_wp2_with fail
    refine bodyPost_ret (v := .tuple #[.slice none 0 0, .int .i64 84]) (by simp [results, Tryd.results15, go_sem]) rfl ?_
    rw [HP.out]
    exact ⟨HBW.out, rfl⟩
  | some ib =>
    have HP : Hid (∀ e w', SearchPost w S N key (fitsB how p) e w' = (Below w.heap.size w w' ∧ ∃ v ids, e = .returned (.tuple #[v, .int .i64 0]) ∧ w'.ownsRow w.heap.size 3 1 v (List.length ids) (i64s ids) ∧ ids.Pairwise (· < ·) ∧ (∀ id, id ∈ ids ↔ okI id ∧ Found w S key (fitsB how p) id) ∧ ids.length ≤ N)) := fun e w' => by unfold SearchPost; rw [hr]
    obtain ⟨D, hm, hA⟩ := HVA.out.inn key ib hr
    obtain ⟨D0, hm0, hA0⟩ := HV.out.inn key ib hr
    have hib := hm0.lt
    rw [hr] at hl1
    clear hr
    simp only [Option.isSome_some] at hl1
    go_enter Tryd.func15, Tryd.ntmps15
    go_upto_region 1 with fail
    rw [← hwa]
    clear hwa
    go_wp2_with (at_range; refine wpList_range_own _ rfl _ 63 rfl 3 37 lawI Tryd.underlying63 _ ib N D rfl hm ?_; intro w0 hrg0 hg0 hs0)
    rw [hza] at hrg0
    have HX0 : Hid (∃ left cnt G, w0.ranges Tryd.prog 3 rdR ib (w.heap.size + 2) N D left cnt ∧ w0.ownsRow w0.heap.size 3 1 (.slice none 0 0) (List.length G) (i64s G) ∧ Coll w S key (fitsB how p) left G ∧ Below wa.heap.size wa w0 ∧ G.length + cnt ≤ N) :=
      ⟨_, _, [], hrg0, World.ownsRow_nil _ _ _ _, Coll.start hA, ((Below.refl _ _).grown hg0 (Nat.le_refl _) (fun k hk => by cases hk)), by have := ranges_le hrg0; simpa using this⟩
    have hNn : N ≤ 8796093022207 := hN
    clear hrg0 hg0 hm hm0 hA0 hl1 c2
    go_loopw [13] (fun v13 wr => ∃ left cnt G, Hid (wr.ranges Tryd.prog 3 rdR ib (w.heap.size + 2) N D left cnt) ∧ Hid (wr.ownsRow w0.heap.size 3 1 v13 (List.length G) (i64s G)) ∧ Hid (Coll w S key (fitsB how p) left G) ∧ Hid (Below wa.heap.size wa wr) ∧ G.length + cnt ≤ N ∧ w0.heap.size ≤ wr.heap.size) (fun _ wr => wr.rangeLeft ib (w.heap.size + 2))
    case atStart =>
      obtain ⟨left, cnt, G, h1, h2, h3, h4, h5⟩ := HX0.out
      exact ⟨left, cnt, G, h1, h2, h3, h4, h5, Nat.le_refl _⟩
    case round =>
      clear HX0
      obtain ⟨left, cnt, G, HR, HO, HC, HB, hlen, hsz⟩ := hrel
      obtain ⟨Ag, cg, rfl, hg1, hg2⟩ := own_form' HO.out
      unfold maxLen at hg2
      go_wp2_with (at_next; refine wpList_next_vals HV.out hA rfl _ rfl rfl HR.out ?_ ?_)
      · intro hc0 hl0
        have HL0 := Lib.hid hl0
        clear hl0
        go_wp2_with fail
        refine (sort_own w0.heap.size G.length _ G _ HO.out (by omega) hsz).mono ?_
        rintro e w3 ⟨rfl, hown3, hb3⟩
        have HO3 := Lib.hid hown3
        have HB3 := Lib.hid hb3
        clear hown3 hb3
        go_wp2_with fail
        refine bodyPost_ret (v := .tuple #[.slice Ag G.length cg, .int .i64 0]) (by simp [results, Tryd.results15, go_sem]) rfl ?_
        rw [HP.out]
        refine ⟨HBW.out.trans ((HB.out.trans (HB3.out.mono (by omega))).mono HBW.out.size), _, _, rfl, ?_, sorted_lt HC.out.1, fun id => ?_, by rw [List.length_mergeSort]; omega⟩
        · rw [List.length_mergeSort]
          exact own_base' HO3.out (by omega)
        · rw [(List.mergeSort_perm G _).mem_iff, HC.out.2.2 id]
          simp [HL0.out]
      · intro id k m s A l w2 cnt2 hva hlk hrg2 hlt hg2w hs2 hen
        obtain ⟨wv, hwv⟩ : ∃ wv, wv = w2.alloc (.cells #[.int .i64 k, .int .i64 m, .string s, .slice A l.length l.length] 37) := ⟨_, rfl⟩
        have HBv : Hid (Below wa.heap.size wa wv) := by rw [hwv]; exact (HB.out.grown hg2w (by omega) (fun k hk => by cases hk; omega)).alloc (by omega) _
        have HRv : Hid (wv.ranges Tryd.prog 3 rdR ib (w.heap.size + 2) N D (fun z => left z && !z.sameKey (kdI id)) cnt2) := by rw [hwv]; exact hrg2.alloc _
        have HOv : Hid (wv.ownsRow w0.heap.size 3 1 (.slice Ag G.length cg) (List.length G) (i64s G)) := by rw [hwv]; exact (HO.out.kept hg2w (Or.inr (iter_cells HR.out HO.out))).alloc _
        have KV : Blk wv wr.heap.size 37 #[.int .i64 k, .int .i64 m, .string s, .slice A l.length l.length] := by rw [hwv, ← hs2]; exact Blk.new _ _ _
        have z0 := KV.cell 0
        have z1 := KV.cell 1
        have z2 := KV.cell 2
        have z3 := KV.cell 3
        simp at z0 z1 z2 z3
        have hsv : wr.heap.size ≤ wv.heap.size := by rw [hwv]; simp; omega
        have HW : Hid (Below w.heap.size w wv) := HBW.out.trans (HBv.out.mono HBW.out.size)
        have CT := Lib.hid (texts_any wv (HTAB.out.below HW.out) k m hva.num s A l hva.len (rd_more (hva.rd.below HW.out (Nat.le_refl _)) HW.out.size))
        have HVAL := Lib.hid hva
        have HM0 : Hid (wr.rangeLeft ib (w.heap.size + 2) = cnt) := HR.out.left_eq
        have HLK := Lib.hid hlk
        have HSM := Lib.hid (textsL_small (k := k) hva.num hva.sz hva.tz)
        have HFD : Hid (Found w S key (fitsB how p) id ↔ (textsL k m s l).any (fitsB how p) = true) := hva.found
        have HE : Hid (∀ (ds : List ByteArray) A c (w4 : World), Below wa.heap.size wa w4 → (∀ t ∈ ds, t.size ≤ 1048576) → Rd w4 w4.heap.size A (ds.map Value.string) → ds.length ≤ c → c ≤ maxLen →
            Calls Tryd.prog 29 #[.slice A ds.length c, .func (.func 28) #[] #[.pointer (some ⟨w.heap.size, 0, none⟩), .pointer (some ⟨w.heap.size + 1, 0, none⟩)]] w4 fun e w' => e = .returned (.bool (ds.any (fitsB how p))) ∧ Below w4.heap.size w4 w') := fun ds A c w4 hb4 hsm hrd h1 h2 =>
          hasF_any _ (enters_of Tryd.func28 (by kernel_rfl) rfl) _ _ ds A c w4 hrd h1 h2 (fun d hd w' hb => by
            have hb' : Below wa.heap.size wa w' := hb4.trans (hb.mono hb4.size)
            have e6 := (HK6.out.below hb' (by omega)).cell 0
            have e7 := (HK7.out.below hb' (by omega)).cell 0
            exact fitsC_any _ _ how p hp d (hsm d hd) w' (HM.out.below (HBW.out.trans (hb'.mono HBW.out.size)) HMS.out) (by simpa using e6) (by simpa using e7))
        clear hva hlk hrg2 hg2w KV HR HO HB
        go_upto_region 11 with fail
        rw [← hwv]
        clear hwv hen
        generalize textsL k m s l = ds at *
        go_wp2_with fail
        refine CT.out.mono ?_
        rintro e w4 ⟨⟨A4, c4, rfl, hc1, hc2, hrd4⟩, hb4⟩
        have HB4 : Hid (Below wa.heap.size wa w4) := HBv.out.trans (hb4.mono HBv.out.size)
        have CC := Lib.hid (HE.out ds A4 c4 w4 HB4.out HSM.out hrd4 hc1 hc2)
        have HT4 : Hid (Turned [] wv w4) := Turned.of_below hb4 []
        clear hc1 hc2 hrd4 hb4 CT HE HSM z0 z1 z2 z3
        generalize ds.any (fitsB how p) = ans at *
        go_wp2_with fail
        refine CC.out.mono ?_
        rintro e w5 ⟨rfl, hb5⟩
        have HB5 : Hid (Below wa.heap.size wa w5) := HB4.out.trans (hb5.mono HB4.out.size)
        have HT5 : Hid (Turned [] wv w5) := HT4.out.trans (Turned.of_below hb5 []) (Fresh.refl _ _)
        have HO5 : Hid (w5.ownsRow w0.heap.size 3 1 (.slice Ag G.length cg) (List.length G) (i64s G)) := own_turned HOv.out HT5.out (by simp)
        have HR5 : Hid (w5.ranges Tryd.prog 3 rdR ib (w.heap.size + 2) N D (fun z => left z && !z.sameKey (kdI id)) cnt2) := HRv.out.kept (HT5.out.grownBy (row := none) (by simp)) (by simp) (by simp)
        have hs5 := HT5.out.size
        clear hb5 CC HT4 HOv HRv HB4
        cases ans with
        | false =>
          go_wp2_with fail
          go_roundw
          case rel => exact ⟨_, cnt2, G, HR5.out, HO5.out, HC.out.no HLK.out (fun h => by have := HFD.out.1 h; cases this), HB5.out, by omega, by omega⟩
          case measure => rw [HR5.out.left_eq, HM0.out]; exact hlt
        | true =>
          go_wp2_with (at_builtin; refine wpList_append_own_at _ rfl (.tmp 49) (.tmp 51) 28 rfl w0.heap.size 3 i0 _ 1 8 Tryd.underlying28 hi hz0 hz1 hz2 rfl (by decide) (.slice Ag G.length cg) G.length (i64s G) rfl (HO5.out.alloc _) ⟨w5.heap.size, 0, none⟩ 1 1 [.int .i64 id] rfl rfl (cell_one_new _ _ _) (fun u hu => by simp at hu; subst hu; rfl) (by unfold maxLen; omega) (by omega) (by simp; omega) ?_; intro v6 w6 hown6 hg6 hnil6 hat6; have HO6 := Lib.hid hown6; have HG6 := Lib.hid hg6; clear hown6 hg6 hnil6 hat6)
          go_roundw
          case rel =>
            have hlo : ∀ g, (Value.slice Ag G.length cg).ownBlock = some g → w0.heap.size ≤ g := fun g hg => (HO5.out.lt g hg).1
            refine ⟨_, cnt2, G ++ [id], (HR5.out.alloc _).kept HG6.out (fun e => by have := hlo _ e.symm; omega) (fun e => by have := hlo _ e.symm; omega), ?_, HC.out.yes HVAL.out.ok HLK.out (HFD.out.2 (by first | trivial | rfl)), (HB5.out.alloc HB5.out.size _).grown HG6.out (by simp; omega) (fun g hg => by have := hlo g hg; omega), by simp; omega, by have := HG6.out.size; simp at this; omega⟩
            show Hid _
            rw [List.length_append, i64s, List.map_append]
            exact HO6
          case measure => rw [((HR5.out.alloc _).kept HG6.out (fun e => by have := (HO5.out.lt _ e.symm).1; omega) (fun e => by have := (HO5.out.lt _ e.symm).1; omega)).left_eq, HM0.out]; exact hlt
end Go.Proofs.YthgagobdkcikiaaDoor
