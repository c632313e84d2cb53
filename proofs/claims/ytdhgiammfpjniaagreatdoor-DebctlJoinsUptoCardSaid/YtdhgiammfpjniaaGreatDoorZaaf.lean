/- A region that draws its order, in which a cell is loaded ahead of a store to it: what holds of the cells hangs on which stores have come up. A region that draws its order: where two may come up next; the steps of a look-up, of a store into a map, by their runs. A relation of a piece. Comparisons of versions as plain functions of lists of bytes, and that they are orders. -/
import Derived.Deep.RegionHeld
import Derived.StillTail
import Derived.Test.YtdhgiammfpjniaaGreatDoorZaaa
import Derived.Test.YtdhgiammfpjniaaGreatDoorZaae
/- A region that draws its order, in which a cell is loaded ahead of a store to it: what holds of the cells hangs on which stores have come up. -/
namespace Go.Proofs.YtdhgiammfpjniaaGreatDoor
set_option linter.unusedSimpArgs false
set_option linter.unusedVariables false
open Go

section
variable {P : Program} {ops : Array Oper} {Q : Exit → Act → World → Prop} {md : Region.Mode} {S : Array Bool → World → Prop}

/-- Whatever order is picked, and S, which may look at what has come up, holds behind each. -/
def wpAnyS (P : Program) (md : Region.Mode) (ops : Array Oper) (Q : Exit → Act → World → Prop) (S : Array Bool → World → Prop) : Nat → Array Bool → Act → World → Prop
  | 0, listed, a, w => Region.ready md ops listed = [] ∧ Q .normal a w
  | fuel + 1, listed, a, w =>
    (Region.ready md ops listed = [] → Q .normal a w) ∧
    ∀ i ∈ Region.ready md ops listed, wpOp P ops Q i (fun a' w' => S (listed.setIfInBounds i true) w' ∧ wpAnyS P md ops Q S fuel (listed.setIfInBounds i true) a' w') a w

theorem wpAny_of_S : ∀ (fuel : Nat) (listed : Array Bool) (a : Act) (w : World), wpAnyS P md ops Q S fuel listed a w → wpAny P md ops Q fuel listed a w
  | 0, _, _, _, h => h
  | fuel + 1, _, _, _, h => ⟨h.1, fun i hi => wpOp_mono (fun a' w' h' => wpAny_of_S fuel _ a' w' h'.2) (h.2 i hi)⟩

theorem wpAnyS_first {S' : World → Prop} {i : Nat} {oi : Oper} {v : Value} (hi : ops[i]? = some oi) (hsel : ∀ (j : Nat) (o : Oper) cs b, ops[j]? = some o → o.op ≠ .select cs b)
    (hQ : ∀ c a w, Q (.panic c) (a.put oi.dst v) w → Q (.panic c) a w)
    (hin : ∀ l w, (∀ k, Region.waitsFor md ops k i = true → l.getD k true = false) → S l w → S' w)
    (hio : ∀ l w, S (l.setIfInBounds i true) w ↔ S l w) :
    ∀ (fuel : Nat) (listed : Array Bool) (a : Act) (w : World),
      (∀ j oj, ops[j]? = some oj → j ≠ i → listed.getD j true = false → (∀ e ∈ oj.after, Region.binds md e = true → e.on ≠ i) → oi.apart ops oj = true) →
      (∀ k, Region.waitsFor md ops k i = true → listed.getD k true = false) →
      i ∈ Region.ready md ops listed → YieldsIf P ops S' oi v a → S listed w →
      wpAnyS P md ops Q S fuel (listed.setIfInBounds i true) (a.put oi.dst v) w → wpAnyS P md ops Q S (fuel + 1) listed a w := by
  intro fuel
  induction fuel with
  | zero =>
    intro listed a w _ hwt hr hy hS H
    refine ⟨fun h => (by rw [h] at hr; cases hr), fun j hj => ?_⟩
    by_cases hji : j = i
    · subst hji
      exact hy.wpOp hi (hin _ _ hwt hS) ⟨(hio _ _).2 hS, H⟩
    · have := ready_mono hj hji
      rw [H.1] at this
      cases this
  | succ fuel ih =>
    intro listed a w hfree hwt hr hy hS H
    refine ⟨fun h => (by rw [h] at hr; cases hr), fun j hj => ?_⟩
    by_cases hji : j = i
    · subst hji; exact hy.wpOp hi (hin _ _ hwt hS) ⟨(hio _ _).2 hS, H⟩
    · have h1 := H.2 j (ready_mono hj hji)
      obtain ⟨hjun, oj, hoj, hall⟩ := mem_ready.1 hj
      have hnot : ∀ e ∈ oj.after, Region.binds md e = true → e.on ≠ i := fun e he hb heq => by
        have h1 := hall e he hb
        have h0 := (mem_ready.1 hr).1
        rw [heq] at h1
        rcases Nat.lt_or_ge i listed.size with h' | h'
        · simp [h'] at h0 h1; rw [h0] at h1; cases h1
        · simp [Array.getElem?_eq_none h'] at h1
      have h2 := wpOp_putIf hoj (hfree j oj hoj hji hjun hnot) (fun cs b => hsel i oi cs b hi) (fun cs b => hsel j oj cs b hoj) hQ hy h1
      have hfree' : ∀ k ok, ops[k]? = some ok → k ≠ i → (listed.setIfInBounds j true).getD k true = false →
          (∀ e ∈ ok.after, Region.binds md e = true → e.on ≠ i) → oi.apart ops ok = true := fun k ok hk hki hun hno => by
        refine hfree k ok hk hki ?_ hno
        by_cases hjk : j = k
        · subst hjk; exact hjun
        · rw [getD_set_ne true hjk] at hun; exact hun
      have hwt' : ∀ k, Region.waitsFor md ops k i = true → (listed.setIfInBounds j true).getD k true = false := fun k hk => by
        have hjk : j ≠ k := by
          rintro rfl
          obtain ⟨o', ho', e, he, hb, hon⟩ := Region.waitsFor_spec hk
          have : o' = oj := Option.some.inj (ho'.symm.trans hoj)
          subst this
          exact hnot e he hb hon
        rw [getD_set_ne true hjk]; exact hwt k hk
      refine wpOp_mono (fun a' w' h3 => ?_) h2
      obtain ⟨hy', hS', H'⟩ := h3
      rw [Array.setIfInBounds_comm _ _ (Ne.symm hji)] at hS'
      have hS2 := (hio _ _).1 hS'
      refine ⟨hS2, ih (listed.setIfInBounds j true) a' w' hfree' hwt' (ready_mono hr (Ne.symm hji)) hy' hS2 ?_⟩
      rw [Array.setIfInBounds_comm _ _ hji]
      exact H'

/-- Take number i first. -/
theorem wpAnyS_take (S' : World → Prop) {i : Nat} {oi : Oper} {v : Value} {fuel : Nat} {listed : Array Bool} {a : Act} {w : World} (hi : ops[i]? = some oi)
    (hs : Region.noSelect ops = true) (hf : Region.free md ops listed i = true) (hr : (Region.ready md ops listed).contains i = true)
    (hQ : ∀ c a w, Q (.panic c) (a.put oi.dst v) w → Q (.panic c) a w)
    (hin : ∀ l w, (∀ k, Region.waitsFor md ops k i = true → l.getD k true = false) → S l w → S' w)
    (hio : ∀ l w, S (l.setIfInBounds i true) w ↔ S l w)
    (hwt : ((List.range ops.size).all fun k => !Region.waitsFor md ops k i || !listed.getD k true) = true)
    (hS : S listed w) (hy : ∀ w, S' w → (execOp a.eval oi).run P w = .ok (.value v) w) (hw : Region.wanted oi (yielded ops a.tmps) = true)
    (h : S (listed.setIfInBounds i true) w → wpAnyS P md ops Q S fuel (listed.setIfInBounds i true) (a.put oi.dst v) w) : wpAnyS P md ops Q S (fuel + 1) listed a w := by
  refine wpAnyS_first (S' := S') hi (Region.noSelect_spec hs) hQ hin hio fuel listed a w (Region.free_spec hi hf) (fun k hk => ?_) (by simpa using hr) (.inl ⟨hw, hy⟩) hS (h ((hio _ _).2 hS))
  obtain ⟨o', ho', _⟩ := Region.waitsFor_spec hk
  have h1 := List.all_eq_true.1 hwt k (List.mem_range.2 (Array.getElem?_eq_some_iff.1 ho').1)
  rw [hk] at h1
  simpa using h1
/-- The one that may come up comes up. -/
theorem wpAnyS_one {i : Nat} {o : Oper} {fuel : Nat} {listed : Array Bool} {a : Act} {w : World} (hr : Region.ready md ops listed = [i]) (ho : ops[i]? = some o)
    (h : ∀ K' : Act → World → Prop, Shut (∀ a w, S (listed.setIfInBounds i true) w → (S (listed.setIfInBounds i true) w → wpAnyS P md ops Q S fuel (listed.setIfInBounds i true) a w) → K' a w) →
      if Region.wanted o (yielded ops a.tmps) = true then Oper.wp P o a w K' Q else K' (a.put o.dst undef) w) : wpAnyS P md ops Q S (fuel + 1) listed a w := by
  refine ⟨fun h0 => (by rw [hr] at h0; cases h0), fun j hj => ?_⟩
  rw [hr] at hj
  have : j = i := by simpa using hj
  subst this
  exact wpOp_step ho (fun K' hK => h K' (fun a w hS hW => hK a w ⟨hS, hW hS⟩))
theorem wpAnyS_done {listed : Array Bool} {a : Act} {w : World} (hr : Region.ready md ops listed = []) (h : Q .normal a w) : ∀ fuel, wpAnyS P md ops Q S fuel listed a w
  | 0 => ⟨hr, h⟩
  | _ + 1 => ⟨fun _ => h, by rw [hr]; simp⟩
theorem wp_region_S {id : Nat} {a : Act} {w : World} (S : Array Bool → World → Prop) (hm : P.follows .mixedOrders = true) (hS : S (Array.replicate ops.size false) w.drew)
    (h : S (Array.replicate ops.size false) w.drew → wpAnyS P .any ops Q S ops.size (Array.replicate ops.size false) a w.drew) : (Code.region id ops true).wp P Q a w :=
  wp_region_any hm (wpAny_of_S _ _ _ _ (h hS))
end

/-- Each cell holds its value till number k, a store, has come up. -/
def Till (L : List (Nat × Addr × Value)) (l : Array Bool) (w : World) : Prop := ∀ x, x ∈ L → l.getD x.1 true = false → w.cell? x.2.1 = some x.2.2
theorem Till.out {L : List (Nat × Addr × Value)} {l : Array Bool} {w : World} (h : Till L l w) {k : Nat} {p : Addr} {v : Value} (hx : (k, p, v) ∈ L) (hk : l.getD k true = false) : w.cell? p = some v := h _ hx hk
theorem Till.two {k k' : Nat} {p p' : Addr} {v v' : Value} {l : Array Bool} {w : World} (h : w.cell? p = some v) (h' : w.cell? p' = some v') : Till [(k, p, v), (k', p', v')] l w := fun x hx _ => by
  rcases List.mem_cons.1 hx with rfl | hx
  · exact h
  · rcases List.mem_cons.1 hx with rfl | hx
    · exact h'
    · cases hx
end Go.Proofs.YtdhgiammfpjniaaGreatDoor

/- A region that draws its order: where two may come up next; the steps of a look-up, of a store into a map, by their runs. -/
namespace Go.Proofs.YtdhgiammfpjniaaGreatDoor
set_option linter.unusedSimpArgs false
set_option linter.unusedVariables false
open Go

section
variable {P : Program} {ops : Array Oper} {Q : Exit → Act → World → Prop} {md : Region.Mode} {S : Array Bool → World → Prop}
end
end Go.Proofs.YtdhgiammfpjniaaGreatDoor

/- A relation of a piece. -/
namespace Go.Proofs.YtdhgiammfpjniaaGreatDoor
set_option linter.unusedSimpArgs false
set_option linter.unusedVariables false
open Go.RowKit

theorem res_cell_tmp {fn : Func} {t u : Tmp} {e : TypeId} (h : fn.results = #[.cell t e, .tmp u]) (tmps : Array Value) {P : Program} {w : World} {ad : Addr} (hp : tmps[t]?.getD undef = .pointer (some ad)) {v : Value} (hv : (loadVar e ad).run P w = .ok v w) :
    (results fn tmps).run P w = .ok (.tuple #[v, tmps.getD u undef]) w := by
  simp [results, h, hp, asAddr, hv]
theorem dep_get {w : World} {g : Nat} {a b c d e : Value} (h : Blk w g 39 #[a, b, c, d, e]) : (loadVar 39 ⟨g, 0, none⟩).run Tryz.prog w = .ok (.agg #[a, b, c, d, e]) w := by
  have b0 := h.cell 0
  have b1 := h.cell 1
  have b2 := h.cell 2
  have b3 := h.cell 3
  have b4 := h.cell 4
  simp at b0 b1 b2 b3 b4
  clear h
  go_simp
theorem clone_long (l : Bs) (hl : l.length ≤ 200000) (w : World) : Calls Tryz.prog 48 #[.string (mkS l)] w fun e w' => e = .returned (.string (mkS l)) ∧ Below w.heap.size w w' := by
  have C := Lib.hid (Tryz.stringslite_Clone (mkS l) w (by rw [mkS_size]; omega))
  generalize mkS l = S at *
  go_enter Tryz.func48, Tryz.ntmps48
  go_wp2_with fail
  refine C.out.mono ?_
  rintro e w1 ⟨rfl, hb⟩
  have HB := Lib.hid hb
  clear hb C
  go_wp2_with fail
  go_ret
  exact ⟨rfl, HB.out⟩
def nmS : Bs := [32, 9, 40]
def vrS : Bs := [32, 9, 41]
theorem nmS_ok : Seps nmS := ⟨by decide, by decide, by decide⟩
theorem vrS_ok : Seps vrS := ⟨by decide, by decide, by decide⟩
/-- What a piece tells: a name, a comparison, a version; whether it is a relation. -/
structure Rl where
  nm : Bs
  op : Int
  ev : Bs
  ok : Bool
def relX (l : Bs) : Rl :=
  if (cutX nmS l).2 = [] then ⟨(cutX nmS l).1, 0, [], !(cutX nmS l).1.isEmpty⟩
  else ⟨(cutX nmS l).1, (compX (Lib.trimPrefix (cutX nmS l).2 [40])).1, (cutX vrS (compX (Lib.trimPrefix (cutX nmS l).2 [40])).2).1,
    (!(cutX nmS l).1.isEmpty) && Lib.hasPrefix (cutX nmS l).2 [40] && ((compX (Lib.trimPrefix (cutX nmS l).2 [40])).1 != 0) && (!(cutX vrS (compX (Lib.trimPrefix (cutX nmS l).2 [40])).2).1.isEmpty) && ((cutX vrS (compX (Lib.trimPrefix (cutX nmS l).2 [40])).2).2 == [41])⟩
def relC (r : Rl) : Array Value := #[.int .i64 1, .string (mkS r.nm), .int .i64 r.op, .string (mkS r.ev), .slice none 0 0]
theorem eq_str (l m : Bs) : ((mkS l).toList == m) = (l == m) := by rw [ByteArray.toList_eq]; rfl
set_option maxHeartbeats 16000000 in
set_option maxRecDepth 1000000 in
theorem relation_any (l : Bs) (hl : l.length ≤ 200000) (w : World) (hS : SgnAt w) :
    Calls Tryz.prog 109 #[.string (mkS l)] w fun e w' => e = .returned (.tuple #[.agg (relC (relX l)), .bool (relX l).ok]) ∧ Below w.heap.size w w' := by
  have CU := Lib.hid (fun w => dCut_any nmS_ok l hl w)
  have hln := (cutX_len nmS l)
  unfold relX
  generalize cutX nmS l = X0 at *
  obtain ⟨nm, r1⟩ := X0
  simp only at hln CU ⊢
  have CL := Lib.hid (fun w => clone_long nm (by omega) w)
  obtain ⟨w1, hw1⟩ : ∃ w1, w1 = w.alloc (.cells #[.int .i64 0, .string ⟨#[]⟩, .int .i64 0, .string ⟨#[]⟩, .slice none 0 0] 39) := ⟨_, rfl⟩
  have Z1 : Hid (Blk w1 w.heap.size 39 #[.int .i64 0, .string ⟨#[]⟩, .int .i64 0, .string ⟨#[]⟩, .slice none 0 0]) := by rw [hw1]; exact Blk.new _ _ _
  have HB1 : Hid (Below w.heap.size w w1) := by rw [hw1]; exact (Below.refl _ _).alloc (Nat.le_refl _) _
  have HS := Lib.hid hS
  have tn := isEmpty_mkS nm
  have tr := isEmpty_mkS r1
  have q1 : Hid (mkS nmS = ⟨#[32, 9, 40]⟩) := rfl
  have q2 : Hid (mkS vrS = ⟨#[32, 9, 41]⟩) := rfl
  have q3 : Hid (mkS [40] = ⟨#[40]⟩) := rfl
  rw [q1.out] at CU
  by_cases hr : r1 = []
  · rw [if_pos hr]
    have tr1 : (mkS r1).toList.isEmpty = true := by rw [tr, hr]; rfl
    clear hln hr tr hS HS q1 q2 q3
    unfold relC
    show Calls _ _ _ _ (fun e w' => e = .returned (.tuple #[.agg #[.int .i64 1, .string (mkS nm), .int .i64 0, .string ⟨#[]⟩, .slice none 0 0], .bool (!nm.isEmpty)]) ∧ Below w.heap.size w w')
    generalize nm.isEmpty = b1 at *
    generalize mkS nm = NM at *
    generalize mkS r1 = R1 at *
    generalize mkS l = L at *
    go_enter Tryz.func109, Tryz.ntmps109
    go_upto_region 1 with fail
    rw [← hw1]
    clear hw1
    go_wp2_with fail
    refine (CU.out _).mono ?_
    rintro e w2 ⟨rfl, hb⟩
    have HB2 := Lib.hid (HB1.out.trans (hb.mono HB1.out.size))
    have Z2 := Lib.hid (Z1.out.below hb Z1.out.lt)
    clear hb CU Z1
    go_wp2_with fail
    refine (CL.out _).mono ?_
    rintro e w3 ⟨rfl, hb⟩
    have HB3 := Lib.hid (HB2.out.trans (hb.mono HB2.out.size))
    have Z3 := Lib.hid (Z2.out.below hb Z2.out.lt)
    clear hb CL Z2
    go_upto_region 3 with fail
    obtain ⟨w4, hw4⟩ : ∃ w4, w4 = w3.alloc (.cells #[.int .i64 1, .string NM, .int .i64 0, .string ⟨#[]⟩, .slice none 0 0] 39) := ⟨_, rfl⟩
    have D4 : Blk w4 w3.heap.size 39 #[.int .i64 1, .string NM, .int .i64 0, .string ⟨#[]⟩, .slice none 0 0] := by rw [hw4]; exact Blk.new _ _ _
    have hb4 : Below w3.heap.size w3 w4 := by rw [hw4]; exact (Below.refl _ _).alloc (Nat.le_refl _) _
    have HB4 := Lib.hid (HB3.out.trans (hb4.mono HB3.out.size))
    have Z4 := Z3.out.below hb4 Z3.out.lt
    rw [← hw4]
    clear hw4
    have d0 := D4.cell 0
    have d1 := D4.cell 1
    have d2 := D4.cell 2
    have d3 := D4.cell 3
    have d4 := D4.cell 4
    have z0 := Z4.cell 0
    have f0 := Z4.free 0
    have z1 := Z4.cell 1
    have f1 := Z4.free 1
    have z2 := Z4.cell 2
    have f2 := Z4.free 2
    have z3 := Z4.cell 3
    have f3 := Z4.free 3
    have z4 := Z4.cell 4
    have f4 := Z4.free 4
    simp at d0 d1 d2 d3 d4 z0 z1 z2 z3 z4
    have HK := Lib.hid (dep_get (((((Z4.set_ 0 (.int .i64 1)).set_ 1 (.string NM)).set_ 2 (.int .i64 0)).set_ 3 (.string ⟨#[]⟩)).set_ 4 (.slice none 0 0)))
    have HBZ : Hid (Below w.heap.size w (((((w4.setCell ⟨w.heap.size, 0, none⟩ (.int .i64 1)).setCell ⟨w.heap.size, 1, none⟩ (.string NM)).setCell ⟨w.heap.size, 2, none⟩ (.int .i64 0)).setCell ⟨w.heap.size, 3, none⟩ (.string ⟨#[]⟩)).setCell ⟨w.heap.size, 4, none⟩ (.slice none 0 0))) :=
      ((((HB4.out.setCell (Nat.le_refl _) _).setCell (Nat.le_refl _) _).setCell (Nat.le_refl _) _).setCell (Nat.le_refl _) _).setCell (Nat.le_refl _) _
    clear D4 Z4 hb4
    go_wp2_with fail
    refine bodyPost_ret (v := .tuple #[.agg #[.int .i64 1, .string NM, .int .i64 0, .string ⟨#[]⟩, .slice none 0 0], .bool (!b1)]) ?_ rfl ⟨rfl, HBZ.out⟩
    refine (res_cell_tmp (t := 2) (u := 3) rfl _ (ad := ⟨w.heap.size, 0, none⟩) rfl HK.out).trans ?_
    rfl
  · rw [if_neg hr]
    have tr1 : (mkS r1).toList.isEmpty = false := by rw [tr]; simpa using hr
    have CP := Lib.hid (fun w => Tryz.strings_CutPrefix (mkS r1) ⟨#[40]⟩ w)
    have hq : (⟨#[40]⟩ : ByteArray).data.toList = [40] := rfl
    rw [mkS_list, hq] at CP
    have hr2 := trim_len r1 [40]
    generalize Lib.trimPrefix r1 [40] = r2 at *
    generalize Lib.hasPrefix r1 [40] = b2 at *
    have CC := Lib.hid (fun w' (hb : Below w.heap.size w w') => comparison_any r2 (by omega) w' (HS.out.below' hb))
    have hr3 := compX_len r2
    generalize compX r2 = X1 at *
    obtain ⟨op, r3⟩ := X1
    simp only at CC hr3 ⊢
    have CV := Lib.hid (fun w => dCut_any vrS_ok r3 (by omega) w)
    have hr4 := cutX_len vrS r3
    generalize cutX vrS r3 = X2 at *
    obtain ⟨ev, r4⟩ := X2
    simp only at CV hr4 ⊢
    rw [q2.out] at CV
    have CE := Lib.hid (fun w => clone_long ev (by omega) w)
    have te := isEmpty_mkS ev
    have t4 := eq_str r4 [41]
    clear hln hr tr hS HS q1 q2 q3 hr2 hr3 hr4 hq
    unfold relC
    show Calls _ _ _ _ (fun e w' => e = .returned (.tuple #[.agg #[.int .i64 1, .string (mkS nm), .int .i64 op, .string (mkS ev), .slice none 0 0], .bool ((!nm.isEmpty) && b2 && (op != 0) && (!ev.isEmpty) && (r4 == [41]))]) ∧ Below w.heap.size w w')
    generalize nm.isEmpty = b1 at *
    generalize ev.isEmpty = b4 at *
    generalize (r4 == [41]) = b5 at *
    generalize mkS nm = NM at *
    generalize mkS r1 = R1 at *
    have hR2 : (⟨r2.toArray⟩ : ByteArray) = mkS r2 := rfl
    rw [hR2] at CP
    clear hR2
    generalize mkS r2 = R2 at *
    generalize mkS r3 = R3 at *
    generalize mkS r4 = R4 at *
    generalize mkS ev = EV at *
    generalize mkS l = L at *
    generalize ht3 : (op != 0) = b3 at *
    go_enter Tryz.func109, Tryz.ntmps109
    go_upto_region 1 with fail
    rw [← hw1]
    clear hw1
    go_wp2_with fail
    refine (CU.out _).mono ?_
    rintro e w2 ⟨rfl, hb⟩
    have HB2 := Lib.hid (HB1.out.trans (hb.mono HB1.out.size))
    have Z2 := Lib.hid (Z1.out.below hb Z1.out.lt)
    clear hb CU Z1
    go_wp2_with fail
    refine (CL.out _).mono ?_
    rintro e w3 ⟨rfl, hb⟩
    have HB3 := Lib.hid (HB2.out.trans (hb.mono HB2.out.size))
    have Z3 := Lib.hid (Z2.out.below hb Z2.out.lt)
    clear hb CL Z2
    go_upto_region 3 with fail
    obtain ⟨w4, hw4⟩ : ∃ w4, w4 = w3.alloc (.cells #[.int .i64 1, .string NM, .int .i64 0, .string ⟨#[]⟩, .slice none 0 0] 39) := ⟨_, rfl⟩
    have D4 : Hid (Blk w4 w3.heap.size 39 #[.int .i64 1, .string NM, .int .i64 0, .string ⟨#[]⟩, .slice none 0 0]) := by rw [hw4]; exact Blk.new _ _ _
    have hb4 : Below w3.heap.size w3 w4 := by rw [hw4]; exact (Below.refl _ _).alloc (Nat.le_refl _) _
    have HB4 := Lib.hid (HB3.out.trans (hb4.mono HB3.out.size))
    have Z4 := Lib.hid (Z3.out.below hb4 Z3.out.lt)
    have hne : ¬ w.heap.size = w3.heap.size := by have := Z3.out.lt; omega
    have hsz3 : w.heap.size ≤ w3.heap.size := HB3.out.size
    rw [← hw4]
    clear hw4 hb4
    go_wp2_with fail
    refine (CP.out _).mono ?_
    rintro e w4' ⟨rfl, rfl⟩
    clear CP
    go_wp2_with fail
    refine (CC.out _ HB4.out).mono ?_
    rintro e w5 ⟨rfl, hb⟩
    have HB5 := Lib.hid (HB4.out.trans (hb.mono HB4.out.size))
    have Z5 := Lib.hid (Z4.out.below hb Z4.out.lt)
    have D5 := Lib.hid (D4.out.below hb D4.out.lt)
    clear hb CC Z4 D4
    have d2 := D5.out.cell 2
    have g2 := D5.out.free 2
    simp at d2
    have D6 := Lib.hid (D5.out.set_ 2 (.int .i64 op))
    have Z6 := Lib.hid (Z5.out.far (p := ⟨w3.heap.size, 2, none⟩) hne (.int .i64 op))
    have HB6 : Hid (Below w.heap.size w (w5.setCell ⟨w3.heap.size, 2, none⟩ (.int .i64 op))) := HB5.out.setCell hsz3 _
    go_upto_region 7 with fail
    generalize w5.setCell ⟨w3.heap.size, 2, none⟩ (.int .i64 op) = w6 at *
    clear d2 g2 D5 Z5 HB5
    go_wp2_with fail
    refine (CV.out _).mono ?_
    rintro e w7 ⟨rfl, hb⟩
    have HB7 := Lib.hid (HB6.out.trans (hb.mono HB6.out.size))
    have Z7 := Lib.hid (Z6.out.below hb Z6.out.lt)
    have D7 := Lib.hid (D6.out.below hb D6.out.lt)
    clear hb CV Z6 D6
    go_wp2_with fail
    refine (CE.out _).mono ?_
    rintro e w8 ⟨rfl, hb⟩
    have HB8 := Lib.hid (HB7.out.trans (hb.mono HB7.out.size))
    have Z8 := Lib.hid (Z7.out.below hb Z7.out.lt)
    have D8 := Lib.hid (D7.out.below hb D7.out.lt)
    clear hb CE Z7 D7
    have d3 := D8.out.cell 3
    have g3 := D8.out.free 3
    simp at d3
    have D4 := (D8.out.set_ 3 (.string EV))
    have Z4 := (Z8.out.far (p := ⟨w3.heap.size, 3, none⟩) hne (.string EV))
    have HB9 : Hid (Below w.heap.size w (w8.setCell ⟨w3.heap.size, 3, none⟩ (.string EV))) := HB8.out.setCell hsz3 _
    go_upto_region 9 with fail
    generalize w8.setCell ⟨w3.heap.size, 3, none⟩ (.string EV) = w9 at *
    clear d3 g3 D8 Z8 HB8
    have d0 := D4.cell 0
    have d1 := D4.cell 1
    have d2 := D4.cell 2
    have d3 := D4.cell 3
    have d4 := D4.cell 4
    have z0 := Z4.cell 0
    have f0 := Z4.free 0
    have z1 := Z4.cell 1
    have f1 := Z4.free 1
    have z2 := Z4.cell 2
    have f2 := Z4.free 2
    have z3 := Z4.cell 3
    have f3 := Z4.free 3
    have z4 := Z4.cell 4
    have f4 := Z4.free 4
    simp at d0 d1 d2 d3 d4 z0 z1 z2 z3 z4
    have HK := Lib.hid (dep_get (((((Z4.set_ 0 (.int .i64 1)).set_ 1 (.string NM)).set_ 2 (.int .i64 op)).set_ 3 (.string EV)).set_ 4 (.slice none 0 0)))
    have HBZ : Hid (Below w.heap.size w (((((w9.setCell ⟨w.heap.size, 0, none⟩ (.int .i64 1)).setCell ⟨w.heap.size, 1, none⟩ (.string NM)).setCell ⟨w.heap.size, 2, none⟩ (.int .i64 op)).setCell ⟨w.heap.size, 3, none⟩ (.string EV)).setCell ⟨w.heap.size, 4, none⟩ (.slice none 0 0))) :=
      ((((HB9.out.setCell (Nat.le_refl _) _).setCell (Nat.le_refl _) _).setCell (Nat.le_refl _) _).setCell (Nat.le_refl _) _).setCell (Nat.le_refl _) _
    clear D4 Z4
    cases b1 with
    | true =>
      go_wp2_with fail
      refine bodyPost_ret (v := .tuple #[.agg #[.int .i64 1, .string NM, .int .i64 op, .string EV, .slice none 0 0], .bool false]) ?_ rfl ⟨rfl, HBZ.out⟩
      refine (res_cell_tmp (t := 2) (u := 3) rfl _ (ad := ⟨w.heap.size, 0, none⟩) rfl HK.out).trans ?_
      rfl
    | false =>
    cases b2 with
    | false =>
      go_wp2_with fail
      refine bodyPost_ret (v := .tuple #[.agg #[.int .i64 1, .string NM, .int .i64 op, .string EV, .slice none 0 0], .bool false]) ?_ rfl ⟨rfl, HBZ.out⟩
      refine (res_cell_tmp (t := 2) (u := 3) rfl _ (ad := ⟨w.heap.size, 0, none⟩) rfl HK.out).trans ?_
      rfl
    | true =>
    cases b3 with
    | false =>
      go_wp2_with fail
      refine bodyPost_ret (v := .tuple #[.agg #[.int .i64 1, .string NM, .int .i64 op, .string EV, .slice none 0 0], .bool false]) ?_ rfl ⟨rfl, HBZ.out⟩
      refine (res_cell_tmp (t := 2) (u := 3) rfl _ (ad := ⟨w.heap.size, 0, none⟩) rfl HK.out).trans ?_
      rfl
    | true =>
    cases b4 with
    | true =>
      go_wp2_with fail
      refine bodyPost_ret (v := .tuple #[.agg #[.int .i64 1, .string NM, .int .i64 op, .string EV, .slice none 0 0], .bool false]) ?_ rfl ⟨rfl, HBZ.out⟩
      refine (res_cell_tmp (t := 2) (u := 3) rfl _ (ad := ⟨w.heap.size, 0, none⟩) rfl HK.out).trans ?_
      rfl
    | false =>
    cases b5 with
    | false =>
      go_wp2_with fail
      refine bodyPost_ret (v := .tuple #[.agg #[.int .i64 1, .string NM, .int .i64 op, .string EV, .slice none 0 0], .bool false]) ?_ rfl ⟨rfl, HBZ.out⟩
      refine (res_cell_tmp (t := 2) (u := 3) rfl _ (ad := ⟨w.heap.size, 0, none⟩) rfl HK.out).trans ?_
      rfl
    | true =>
      go_wp2_with fail
      refine bodyPost_ret (v := .tuple #[.agg #[.int .i64 1, .string NM, .int .i64 op, .string EV, .slice none 0 0], .bool true]) ?_ rfl ⟨rfl, HBZ.out⟩
      refine (res_cell_tmp (t := 2) (u := 3) rfl _ (ad := ⟨w.heap.size, 0, none⟩) rfl HK.out).trans ?_
      rfl
end Go.Proofs.YtdhgiammfpjniaaGreatDoor

/- Comparisons of versions as plain functions of lists of bytes, and that they are orders. -/
namespace Go.Proofs.YtdhgiammfpjniaaGreatDoor.Ev
set_option linter.unusedSimpArgs false
set_option linter.unusedVariables false

/-- The first that is not nought. -/
def thenC (x y : Int) : Int := if x = 0 then y else x
section
variable {α β : Type} {c d : α → α → Int}
end
/-! Bytes. -/
def isDg (c : UInt8) : Bool := decide (48 ≤ c.toNat) && decide (c.toNat ≤ 57)
def isLt (c : UInt8) : Bool := decide (97 ≤ c.toNat) && decide (c.toNat ≤ 122) || decide (65 ≤ c.toNat) && decide (c.toNat ≤ 90)
def isMay (c : UInt8) : Bool := isDg c || isLt c || decide (c ∈ [46, 95, 43, 126, 94, 45, 58])

/-! Going through two texts part by part. -/
section
variable (T : List UInt8 → List UInt8 → Int) (R : List UInt8 → List UInt8)
def through : Nat → List UInt8 → List UInt8 → Int
  | 0, _, _ => 0
  | n + 1, a, b => thenC (T a b) (through n (R a) (R b))
variable {T R}
end

/-! Rpm's texts. -/
/-! Debian's texts. -/
/-! Versions. -/
structure Parts where
  e : List UInt8
  v : List UInt8
  r : List UInt8
/-! Taking apart. -/
/-- What stands ahead of the first such byte, and behind it. -/
def cutAt (c : UInt8) (l : List UInt8) : Option (List UInt8 × List UInt8) := if c ∈ l then some (l.takeWhile (· != c), (l.dropWhile (· != c)).tail) else none
/-- What stands ahead of the last such byte, and behind it. -/
def cutLast (c : UInt8) (l : List UInt8) : Option (List UInt8 × List UInt8) := (cutAt c l.reverse).map fun p => (p.2.reverse, p.1.reverse)
def vr (e l : List UInt8) : Option Parts :=
  if 58 ∈ l then none else
  match cutLast 45 l with
  | some (v, r) => if v = [] ∨ r = [] then none else some ⟨e, v, r⟩
  | none => if l = [] then none else some ⟨e, l, []⟩
def parse (l : List UInt8) : Option Parts :=
  if l.length ≤ 60 ∧ l.all isMay = true then
    match cutAt 58 l with
    | some (e, t) => if e ≠ [] ∧ e.length ≤ 9 ∧ e.all isDg = true then vr e t else none
    | none => vr [] l
  else none
end Go.Proofs.YtdhgiammfpjniaaGreatDoor.Ev
