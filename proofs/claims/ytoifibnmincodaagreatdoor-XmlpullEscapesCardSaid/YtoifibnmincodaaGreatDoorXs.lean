/- What stands ahead of a mark; layout; a name. -/
import Derived.Test.YtoifibnmincodaaGreatDoorXr
namespace Go.Proofs.YtoifibnmincodaaGreatDoor
set_option linter.unusedSimpArgs false
set_option linter.unusedVariables false
open Go.RowKit

/-- What is kept at package level. -/
structure XEnv (B : Nat) (w : World) : Prop where
  max : ∃ m, w.cell? ⟨4, 0, none⟩ = some (.int .i64 m)
  ents : ∃ t, Blk w 0 t #[.string (mkS [108, 116]), .int .u8 60, .string (mkS [103, 116]), .int .u8 62, .string (mkS [97, 109, 112]), .int .u8 38, .string (mkS [113, 117, 111, 116]), .int .u8 34, .string (mkS [97, 112, 111, 115]), .int .u8 39]
  err : ∃ ev, w.cell? ⟨10, 0, none⟩ = some ev ∧ (ev = .nilIface ∨ ∃ te pe, ev = .iface te pe)
  lt : 4 < B ∧ 0 < B ∧ 10 < B
  size : B ≤ w.heap.size
theorem XEnv.turned {B : Nat} {w w' : World} {F : List Nat} (h : XEnv B w) (ht : Turned F w w') (hF : ∀ k ∈ F, B ≤ k) : XEnv B w' := by
  obtain ⟨h1, ⟨t, h2⟩, ⟨ev, h3, h4⟩, ⟨l1, l2, l3⟩, hz⟩ := h
  have hb : ∀ k, k < B → w'.heap[k]? = w.heap[k]? := fun k hk => ht.block k (by omega) (fun hm => by have := hF k hm; omega)
  refine ⟨?_, ⟨t, (hb _ l2).trans h2⟩, ⟨ev, (World.cell?_of_block (a := ⟨10, 0, none⟩) (hb _ l3)).trans h3, h4⟩, ⟨l1, l2, l3⟩, Nat.le_trans hz ht.size⟩
  obtain ⟨m, h1⟩ := h1
  exact ⟨m, (World.cell?_of_block (a := ⟨4, 0, none⟩) (hb _ l1)).trans h1⟩
theorem XEnv.below {B : Nat} {w w' : World} (h : XEnv B w) (hb : Below w.heap.size w w') : XEnv B w' := h.turned (Turned.of_below hb []) (fun k hk => by cases hk)
theorem XEnv.one {B g : Nat} {w w' : World} (h : XEnv B w) (ht : Turned [g] w w') (hg : B ≤ g) : XEnv B w' := h.turned ht (fun k hk => by simp at hk; omega)

section
variable {w : World} {B g : Nat} {r : Bs} {v1 v2 v3 v4 : Value}
set_option maxHeartbeats 1000000 in
set_option maxRecDepth 100000 in
theorem upTo_any (h : RdB w g r v1 v2 v3 v4) (hE : XEnv B w) (hr : r.length ≤ 40000) (p : Bs) :
    Calls Tryz.prog 58 #[.pointer (some ⟨g, 0, none⟩), .string (mkS p)] w (Ate w g v1 v2 v3 v4 (upToR p r) sV) := by
  obtain ⟨m, hm⟩ := hE.max
  have C := Lib.hid (Tryz.strings_Index (mkS r) (mkS p) m w (by rw [mkS_size]; omega) hm)
  rw [show (mkS r).data.toList = r from rfl, show (mkS p).data.toList = p from rfl] at C
  have HR := Lib.hid h
  have CY := Lib.hid (must_yes 100)
  have CX := Lib.hid (must_no 100)
  have CT := Lib.hid (fun n hn => take_any h n hn hr)
  have CW := Lib.hid (fun w' r' (h' : RdB w' g r' v1 v2 v3 v4) => want_any h' p)
  have c0 := Blk.cell h 0
  simp at c0
  have hix : Lib.index r p = -1 ∨ ∃ i : Nat, Lib.index r p = i ∧ i + (mkS p).size ≤ (mkS r).size := Lib.indexB_cases (mkS r) (mkS p)
  have HE : Hid (upToR p r = if 0 ≤ Lib.index r p then (takeR (Lib.index r p).toNat r).bind fun x => (wantR p x.2).map fun y => (x.1, y.2) else .error 100) := rfl
  clear hm hE h
  generalize upToR p r = res at *
  rcases hix with hix | ⟨n, hix, hn⟩
  · have hc : ¬ (0 : Int) ≤ Lib.index r p := by rw [hix]; omega
    rw [if_neg hc] at HE
    rw [hix] at C
    clear hix hc
    go_enter Tryz.func58, Tryz.ntmps58
    go_wp2_with fail
    refine C.out.mono ?_
    rintro e w1 ⟨rfl, rfl⟩
    go_wp2_with fail
    refine (CX.out _).mono ?_
    rintro e w2 ⟨rfl, rfl⟩
    unfold gaveUp
    go_wp2_with fail
    exact ⟨rfl, Ate.mkNo (Turned.refl _ _) HR.out HE.out⟩
  · have hc : (0 : Int) ≤ Lib.index r p := by rw [hix]; omega
    rw [if_pos hc, hix, Int.toNat_natCast] at HE
    rw [hix] at C
    rw [mkS_size, mkS_size] at hn
    have CT1 := Lib.hid (CT.out n (by omega))
    clear hix hc CT hn CX
    cases hT : takeR n r with
    | error k =>
      rw [hT] at HE
      have HT := Lib.hid hT
      clear hT
      go_enter Tryz.func58, Tryz.ntmps58
      go_wp2_with fail
      refine C.out.mono ?_
      rintro e w1 ⟨rfl, rfl⟩
      go_wp2_with fail
      refine (CY.out _).mono ?_
      rintro e w2 ⟨rfl, rfl⟩
      go_wp2_with fail
      refine CT1.out.mono ?_
      intro e w3 ha
      obtain ⟨h1, ⟨r', h2⟩, rfl⟩ := ha.no HT.out
      have H1 := Lib.hid h1
      have H2 := Lib.hid h2
      clear ha h1 h2
      unfold gaveUp
      go_wp2_with fail
      exact ⟨rfl, Ate.mkNo H1.out H2.out HE.out⟩
    | ok x =>
      obtain ⟨t, r1⟩ := x
      rw [hT] at HE
      have HT := Lib.hid hT
      clear hT
      cases hW : wantR p r1 with
      | error k =>
        have HW := Lib.hid hW
        have HE2 : Hid (res = .error k) := by show res = _; rw [HE.out]; show ((wantR p r1).map _ : RR Bs) = _; rw [hW]; rfl
        clear hW HE
        go_enter Tryz.func58, Tryz.ntmps58
        go_wp2_with fail
        refine C.out.mono ?_
        rintro e w1 ⟨rfl, rfl⟩
        go_wp2_with fail
        refine (CY.out _).mono ?_
        rintro e w2 ⟨rfl, rfl⟩
        go_wp2_with fail
        refine CT1.out.mono ?_
        intro e w3 ha
        obtain ⟨h1, h2, rfl⟩ := ha.ok HT.out
        have H1 := Lib.hid h1
        have CW1 := Lib.hid (CW.out _ _ h2)
        clear ha h1 h2
        unfold sV
        go_wp2_with fail
        refine CW1.out.mono ?_
        intro e w4 ha
        obtain ⟨h1, ⟨r', h2⟩, rfl⟩ := ha.no HW.out
        have H3 := Lib.hid (H1.out.trans h1 (frG _ _))
        have H4 := Lib.hid h2
        clear ha h1 h2
        unfold gaveUp
        go_wp2_with fail
        exact ⟨rfl, Ate.mkNo H3.out H4.out HE2.out⟩
      | ok y =>
        obtain ⟨u, r2⟩ := y
        have HW := Lib.hid hW
        have HE2 : Hid (res = .ok (t, r2)) := by show res = _; rw [HE.out]; show ((wantR p r1).map _ : RR Bs) = _; rw [hW]; rfl
        clear hW HE
        go_enter Tryz.func58, Tryz.ntmps58
        go_wp2_with fail
        refine C.out.mono ?_
        rintro e w1 ⟨rfl, rfl⟩
        go_wp2_with fail
        refine (CY.out _).mono ?_
        rintro e w2 ⟨rfl, rfl⟩
        go_wp2_with fail
        refine CT1.out.mono ?_
        intro e w3 ha
        obtain ⟨h1, h2, rfl⟩ := ha.ok HT.out
        have H1 := Lib.hid h1
        have CW1 := Lib.hid (CW.out _ _ h2)
        clear ha h1 h2
        unfold sV
        go_wp2_with fail
        refine CW1.out.mono ?_
        intro e w4 ha
        obtain ⟨h1, h2, rfl⟩ := ha.ok HW.out
        have H3 := Lib.hid (H1.out.trans h1 (frG _ _))
        have H4 := Lib.hid h2
        clear ha h1 h2
        unfold uV
        go_wp2_with fail
        go_ret
        exact Ate.mkOk H3.out H4.out HE2.out
def bV (b : Bool) : Value := .bool b
theorem isEmpty_mkS (l : Bs) : (mkS l).toList.isEmpty = l.isEmpty := by rw [ByteArray.toList_eq]; rfl
theorem lay_may (l : Bs) : (l.takeWhile xLay).all xMay = true := List.all_eq_true.2 fun c hc => by
  have := List.all_eq_true.1 (while_all (p := xLay) l) c hc
  unfold xMay
  rw [this]; simp
theorem layoutR_ok (l : Bs) : layoutR l = .ok (!(l.takeWhile xLay).isEmpty, l.dropWhile xLay) := by
  unfold layoutR takeR
  rw [← take_of_while, ← drop_of_while, if_pos (lay_may l)]
  rfl
set_option maxHeartbeats 1000000 in
set_option maxRecDepth 100000 in
theorem layout_any (h : RdB w g r v1 v2 v3 v4) (hr : r.length ≤ 40000) :
    Calls Tryz.prog 68 #[.pointer (some ⟨g, 0, none⟩)] w (Ate w g v1 v2 v3 v4 (layoutR r) bV) := by
  have C := Lib.hid (span_lay (mkS r) (by rw [mkS_size]; unfold maxLen; omega) w)
  rw [show (mkS r).data.toList = r from rfl] at C
  have CT := Lib.hid (take_any h (r.takeWhile xLay).length (while_le r) hr)
  have HT : Hid (takeR (r.takeWhile xLay).length r = .ok (r.takeWhile xLay, r.dropWhile xLay)) := by
    show takeR _ _ = _
    unfold takeR
    rw [← take_of_while, ← drop_of_while, if_pos (lay_may r)]
  have HE := Lib.hid (layoutR_ok r)
  have HI := Lib.hid (isEmpty_mkS (r.takeWhile xLay))
  have c0 := Blk.cell h 0
  simp at c0
  clear h
  generalize layoutR r = res at *
  generalize r.dropWhile xLay = D at *
  generalize (r.takeWhile xLay).length = n at *
  generalize r.takeWhile xLay = T at *
  have hb : ∀ b, T.isEmpty = b → (mkS T).toList.isEmpty = b := fun b hb => HI.out.trans hb
  cases hTe : T.isEmpty
  all_goals
    have hq := hb _ hTe
    rw [hTe] at HE
    clear hb hTe
    go_enter Tryz.func68, Tryz.ntmps68
    go_wp2_with fail
    refine C.out.mono ?_
    rintro e w1 ⟨rfl, rfl⟩
    go_wp2_with fail
    refine CT.out.mono ?_
    intro e w3 ha
    obtain ⟨h1, h2, rfl⟩ := ha.ok HT.out
    have H1 := Lib.hid h1
    have H2 := Lib.hid h2
    clear ha h1 h2
    unfold sV
    go_wp2_with fail
    go_ret
    exact Ate.mkOk H1.out H2.out HE.out
end
end Go.Proofs.YtoifibnmincodaaGreatDoor
