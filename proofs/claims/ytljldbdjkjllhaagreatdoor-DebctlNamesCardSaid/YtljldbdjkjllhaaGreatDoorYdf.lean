/- Whether there are too many names. Whether a dependency may be: check, Check. What the rows list of the two tables, as blocks. The reference's Same of dependencies, Lists, SameTexts. -/
import Derived.Test.YtljldbdjkjllhaaGreatDoorYde
import Derived.Laws.AppendOwnNone
import Derived.Test.YtljldbdjkjllhaaGreatDoorYdb
import Derived.Test.YtljldbdjkjllhaaGreatDoorRows
import Derived.Stop.LaidErr
import Derived.MakeChecks
import Derived.OpenShut
import Derived.Test.YtljldbdjkjllhaaGreatDoorYdc
import Derived.StillTailTactics
import Derived.Deep.QuietTactic
import Derived.BigQuiet
/- Whether there are too many names. -/
namespace Go.Proofs.YtljldbdjkjllhaaGreatDoor.Ev
set_option linter.unusedSimpArgs false
set_option linter.unusedVariables false
open Go.RowKit

/-- Dependencies one behind the other, each with where its arguments lie. -/
abbrev Rows5 := List (Dep × Value)
def cells5 (r : Rows5) : List Value := r.flatMap fun x => [.int .i64 x.1.kind, .string x.1.name, .int .i64 x.1.op, .string x.1.evr, x.2]
theorem cells5_cons (x : Dep × Value) (r : Rows5) : cells5 (x :: r) = [.int .i64 x.1.kind, .string x.1.name, .int .i64 x.1.op, .string x.1.evr, x.2] ++ cells5 r := rfl
theorem cells5_append (a b : Rows5) : cells5 (a ++ b) = cells5 a ++ cells5 b := by simp [cells5]
theorem cells5_len (r : Rows5) : (cells5 r).length = r.length * 5 := by
  induction r with
  | nil => rfl
  | cons x r ih => rw [cells5_cons, List.length_append, ih]; simp; omega
theorem cells5_at {r : Rows5} {k : Nat} {x : Dep × Value} (h : r[k]? = some x) : (cells5 r)[k * 5]? = some (.int .i64 x.1.kind) ∧ (cells5 r)[k * 5 + 1]? = some (.string x.1.name) ∧ (cells5 r)[k * 5 + 2]? = some (.int .i64 x.1.op) ∧ (cells5 r)[k * 5 + 3]? = some (.string x.1.evr) ∧ (cells5 r)[k * 5 + 4]? = some x.2 := by
  induction r generalizing k with
  | nil => cases h
  | cons y r ih =>
    cases k with
    | zero => injection h with h; subst h; exact ⟨rfl, rfl, rfl, rfl, rfl⟩
    | succ k =>
      have := ih (k := k) (by simpa using h)
      rw [cells5_cons]
      have e : ∀ i, ([Value.int .i64 y.1.kind, .string y.1.name, .int .i64 y.1.op, .string y.1.evr, y.2] ++ cells5 r)[(k + 1) * 5 + i]? = (cells5 r)[k * 5 + i]? := fun i => by
        rw [List.getElem?_append_right (by simp; omega)]
        congr 1
        simp; omega
      have e0 := e 0
      simp only [Nat.add_zero] at e0
      rw [e0, e 1, e 2, e 3, e 4]
      exact this
/-- The arguments' rows. -/
theorem args_rows {w : World} {S : Nat → Prop} : ∀ (ds : List Dep) (b o : Nat), ArgsAt w S ds (some ⟨b, o, none⟩) → ∃ r : Rows5, r.map Prod.fst = ds ∧ (∀ x ∈ r, Lay w S x.1 x.2) ∧ ∀ j u, (cells5 r)[j]? = some u → w.cell? ⟨b, o + j, none⟩ = some u
  | [], b, o, _ => ⟨[], rfl, fun x hx => (by cases hx), fun j u hu => (by simp [cells5] at hu)⟩
  | a :: ds, b, o, h => by
    obtain ⟨b', o', t, e, hS, hC, hL⟩ := h 0 a rfl
    injection e with e; injection e with e1 e2
    subst e1; subst e2
    obtain ⟨r, h1, h2, h3⟩ := args_rows ds b (o + 5) fun j x hx => by
      obtain ⟨b', o', t', e, hS', hC', hL'⟩ := h (j + 1) x (by simpa using hx)
      injection e with e; injection e with e1 e2
      subst e1; subst e2
      exact ⟨b, o + 5, t', rfl, hS', by rwa [show o + 5 + j * 5 = o + (j + 1) * 5 by omega], hL'⟩
    refine ⟨(a, t) :: r, by simp [h1], fun x hx => ?_, fun j u hu => ?_⟩
    · rcases List.mem_cons.1 hx with rfl | hx
      · exact hL
      · exact h2 x hx
    · rw [cells5_cons] at hu
      obtain ⟨c0, c1, c2, c3, c4⟩ := hC
      simp only [Nat.zero_mul, Nat.add_zero] at c0 c1 c2 c3 c4
      rcases Nat.lt_or_ge j 5 with hj | hj
      · have : j = 0 ∨ j = 1 ∨ j = 2 ∨ j = 3 ∨ j = 4 := by omega
        rcases this with rfl | rfl | rfl | rfl | rfl <;> (simp at hu; subst hu; assumption)
      · rw [List.getElem?_append_right (by simp; omega)] at hu
        have hu' : (cells5 r)[j - 5]? = some u := hu
        have := h3 _ u hu'
        rwa [show o + 5 + (j - 5) = o + j by omega] at this
theorem one_cells5 {w : World} {S : Nat → Prop} {r : Rows5} (h : ∀ x ∈ r, Lay w S x.1 x.2) : ∀ u ∈ cells5 r, u.oneCell' = true := by
  intro u hu
  unfold cells5 at hu
  obtain ⟨x, hx, hu⟩ := List.mem_flatMap.1 hu
  obtain ⟨A, c, he, _, _⟩ := (h x hx).form_
  simp at hu
  rcases hu with rfl | rfl | rfl | rfl | rfl
  all_goals first | rfl | (rw [he]; rfl)
theorem info_dep5 : ∃ i z, Tryz.prog.info? 44 = some i ∧ i.zero = some z ∧ z.cells.size = 5 ∧ i.size = 5 ∧ i.bytes = 72 := by
  have h : (Tryz.prog.info? 44).map (fun i => (i.zero.map fun z => z.cells.size, i.size, i.bytes)) = some (some 5, 5, 72) := by kernel_rfl
  obtain ⟨i, hi, h2⟩ := Option.map_eq_some_iff.1 h
  simp only [Prod.mk.injEq] at h2
  obtain ⟨z, hz, h3⟩ := Option.map_eq_some_iff.1 h2.1
  exact ⟨i, z, hi, hz, h3, h2.2.1, h2.2.2⟩

structure MSt (d : Dep) (S : Nat → Prop) (w0 w : World) (v : Value) (r : Rows5) (k n : Nat) : Prop where
  own : w.ownsRow w0.heap.size 44 5 v r.length (cells5 r)
  lay : ∀ x ∈ r, Lay w S x.1 x.2 ∧ form x.1 = true
  leaf : n + leavesA ((r.drop k).map Prod.fst) = leaves d
  node : k + nodesA ((r.drop k).map Prod.fst) = nodes d
  below : Below w0.heap.size w0 w
theorem MSt.next {d : Dep} {S : Nat → Prop} {w0 w w' : World} {v v' : Value} {r q : Rows5} {k n : Nat} {a : Dep} {t : Value} (h : MSt d S w0 w v r k n) (hS : ∀ b, S b → b < w0.heap.size) (hk : r[k]? = some (a, t)) (hq : q.map Prod.fst = a.args) (hqL : ∀ x ∈ q, Lay w S x.1 x.2)
    (hown : w'.ownsRow w0.heap.size 44 5 v' (r.length + q.length) (cells5 r ++ cells5 q)) (hb : Below w0.heap.size w w') : MSt d S w0 w' v' (r ++ q) (k + 1) (n + if a.kind = 1 then 1 else 0) := by
  have hlt : k < r.length := (List.getElem?_eq_some_iff.1 hk).1
  have hst : StayS S w w' := StayS.below hb hS
  have hm : (a, t) ∈ r := List.mem_of_getElem? hk
  have hf := (h.lay _ hm).2
  have hd : r.drop k = (a, t) :: r.drop (k + 1) := by
    rw [List.drop_eq_getElem_cons hlt]
    rw [List.getElem?_eq_getElem hlt] at hk
    injection hk with hk
    rw [hk]
  have hd2 : (r ++ q).drop (k + 1) = r.drop (k + 1) ++ q := by rw [List.drop_append_of_le_length (by omega)]
  have h1 := h.leaf
  have h2 := h.node
  rw [hd] at h1 h2
  simp only [List.map_cons, leavesA, nodesA] at h1 h2
  have hl : leaves a = (if a.kind = 1 then 1 else 0) + leavesA a.args := by
    obtain ⟨ka, na, oa, ea, da⟩ := a
    by_cases hk1 : ka = 1
    · obtain ⟨_, _, rfl⟩ := may_leaf (form_may hf) hk1
      simp [leaves, Dep.kind, Dep.args, hk1, leavesA]
    · simp [leaves, Dep.kind, Dep.args, hk1]
  refine ⟨by rw [List.length_append, cells5_append]; exact hown, fun x hx => ?_, ?_, ?_, h.below.trans hb⟩
  · rcases List.mem_append.1 hx with hx | hx
    · have := h.lay x hx
      exact ⟨this.1.stay (fun _ h => h) hst, this.2⟩
    · refine ⟨(hqL x hx).stay (fun _ h => h) hst, forms_mem (form_args hf) _ ?_⟩
      show x.1 ∈ a.args
      rw [← hq]; exact List.mem_map.2 ⟨x, hx, rfl⟩
  · rw [hd2, List.map_append, hq, leavesA_append]
    omega
  · rw [hd2, List.map_append, hq, nodesA_append]
    have := nodes_parts a
    omega

set_option maxHeartbeats 4000000 in
set_option maxRecDepth 1000000 in
theorem many_any (d : Dep) (s : Value) (S : Nat → Prop) (w0 : World) (hL : Lay w0 S d s) (hS : ∀ b, S b → b < w0.heap.size) (hf : form d = true) (hN : nodes d ≤ 4194304) :
    Calls Tryz.prog 254 #[.agg (rowD d s)] w0 fun e w' => e = .returned (.bool (decide (16 < leaves d))) ∧ Below w0.heap.size w0 w' := by
  obtain ⟨A0, c0, rfl, _, _⟩ := hL.form_
  have HI : Hid (MSt d S w0 ((w0.alloc (.cells (rowD d (.slice A0 d.args.length c0)) 44)).alloc (.cells (rowD d (.slice A0 d.args.length c0)) 44)) (.slice (some ⟨w0.heap.size + 1, 0, none⟩) 1 1) [(d, .slice A0 d.args.length c0)] 0 0) := by
    have hb : Below w0.heap.size w0 ((w0.alloc (.cells (rowD d (.slice A0 d.args.length c0)) 44)).alloc (.cells (rowD d (.slice A0 d.args.length c0)) 44)) := ((Below.refl _ _).alloc (Nat.le_refl _) _).alloc (by simp) _
    refine ⟨⟨rfl, .inr ⟨w0.heap.size + 1, 1, rowD d (.slice A0 d.args.length c0), rfl, by omega, Blk.new' (w := w0.alloc (.cells (rowD d (.slice A0 d.args.length c0)) 44)) (by simp), by simp, by simp [maxLen], rfl, rfl⟩⟩, fun x hx => ?_, by simp [leavesA], by simp [nodesA], hb⟩
    have : x = (d, .slice A0 d.args.length c0) := by simpa using hx
    subst this
    exact ⟨hL.stay (fun _ h => h) (StayS.below' hb), hf⟩
  have HNL := Lib.hid (nodes_leaves d hf)
  clear hL hf
  unfold rowD at HI ⊢
  obtain ⟨x, hx⟩ : ∃ x, x = decide (16 < leaves d) := ⟨_, rfl⟩
  rw [← hx]
  have HX := Lib.hid hx
  clear hx
  go_enter Tryz.func254, Tryz.ntmps254
  go_wp2_with fail
  generalize (w0.alloc (.cells #[.int .i64 d.kind, .string d.name, .int .i64 d.op, .string d.evr, .slice A0 d.args.length c0] 44)).alloc (.cells #[.int .i64 d.kind, .string d.name, .int .i64 d.op, .string d.evr, .slice A0 d.args.length c0] 44) = w1 at *
  go_loopw [3, 4, 5] (fun v nm i wx => ∃ (r : Rows5) (k n : Nat), i = .int .i64 (k : Int) ∧ nm = .int .i64 (n : Int) ∧ k ≤ r.length ∧ r.length ≤ 31 ∧ n ≤ k ∧ Hid (MSt d S w0 wx v r k n)) (fun v nm i wx => 31 - (intOf i).toNat)
  case atStart => exact ⟨_, 0, 0, rfl, rfl, by simp, by simp, Nat.le_refl _, HI⟩
  case round =>
    obtain ⟨r, k, n, rfl, rfl, hk, hr, hnk, H⟩ := hrel
    obtain ⟨A, c, hv, hrc, hc⟩ := own_form' H.out.own
    subst hv
    clear HI
    by_cases hlt : k < r.length
    · obtain ⟨⟨a, t⟩, ha⟩ : ∃ x, r[k]? = some x := ⟨_, List.getElem?_eq_getElem hlt⟩
      have hla := H.out.lay _ (List.mem_of_getElem? ha)
      obtain ⟨A1, c1, ht, hl1, hc1⟩ := hla.1.form_
      simp only at ht hl1
      subst ht
      obtain ⟨q0, q1, q2, q3, q4⟩ := cells5_at ha
      obtain ⟨b, rfl, k0⟩ := own_ats H.out.own q0
      obtain ⟨_, e4, k4⟩ := own_ats H.out.own q4
      injection e4 with e4; injection e4 with e4
      subst e4
      have hsum : r.length + a.args.length ≤ nodes d := by
        have h2 := H.out.node
        have hd : r.drop k = (a, .slice A1 a.args.length c1) :: r.drop (k + 1) := by
          rw [List.drop_eq_getElem_cons hlt]
          rw [List.getElem?_eq_getElem hlt] at ha
          injection ha with ha
          rw [ha]
        rw [hd] at h2
        simp only [List.map_cons, nodesA] at h2
        have h3 := nodes_parts a
        have h4 := nodesA_ge a.args
        have h5 := nodesA_ge ((r.drop (k + 1)).map Prod.fst)
        rw [List.length_map, List.length_drop] at h5
        omega
      have hl8 : (r.length : Int) + (a.args.length : Int) ≤ 4194304 := by omega
      unfold maxLen at hc hc1
      by_cases hbig : 31 < r.length + a.args.length
      · have HV : Hid (x = true) := by show x = true; rw [HX.out]; have := HNL.out; exact decide_eq_true (by omega)
        have HB := Lib.hid H.out.below
        have tb : (31 : Int) < (r.length : Int) + (a.args.length : Int) := by omega
        clear H HX q0 q1 q2 q3 q4 hla ha
        go_wp2_with fail
        go_ret
        exact ⟨by rw [HV.out]; rfl, HB.out⟩
      · have tb : ¬ (31 : Int) < (r.length : Int) + (a.args.length : Int) := by omega
        have tb' : (r.length : Int) + (a.args.length : Int) ≤ 31 := by omega
        have hge := H.out.below.size
        have hbb : w0.heap.size ≤ b := by
          rcases H.out.own.2 with ⟨h1, _⟩ | ⟨g', cap, cur, h1, h2, _⟩
          · cases h1
          · injection h1 with h1
            injection h1 with h1
            injection h1 with h1
            omega
        obtain ⟨i0, z0, hi0, hz0, hz1, hz2, hz3⟩ := info_dep5
        have hi := Lib.hid hi0
        have HZ := Lib.hid (And.intro hz0 (And.intro hz1 (And.intro hz2 hz3)))
        have Ha := Lib.hid ha
        have HLa := Lib.hid hla.1
        clear hi0 hz0 hz1 hz2 hz3 q0 q1 q2 q3 q4 hla ha HX
        cases A1 with
        | none =>
          obtain ⟨rfl, h0, h00⟩ := HLa.out.nil_
          have HN := Lib.hid (H.out.next (q := []) hS Ha.out (by rw [h00]; rfl) (fun x hx => (by cases hx)) (by simpa [cells5] using H.out.own) (Below.refl _ _ |>.mono hge))
          rw [List.append_nil] at HN
          rw [h0] at k4 tb tb'
          have O := Lib.hid H.out.own
          clear h0 h00 H
          by_cases h1 : a.kind = 1
          · rw [h1] at k0
            rw [if_pos h1] at HN
            clear h1
            go_wp2_with (at_builtin; refine wpList_append_own_none rfl (.tmp 32) (.tmp 37) 40 rfl w0.heap.size 44 i0 5 Tryz.underlying40 hi.out _ _ _ rfl O.out rfl ?_)
            go_roundw
            case rel => exact ⟨r, k + 1, n + 1, by go_num, by go_num, by omega, by omega, by omega, HN⟩
            case measure => simp [intOf]; omega
          · have t1 : (a.kind == 1) = false := beq_eq_false_iff_ne.2 h1
            rw [if_neg h1] at HN
            clear h1
            go_wp2_with (at_builtin; refine wpList_append_own_none rfl (.tmp 32) (.tmp 37) 40 rfl w0.heap.size 44 i0 5 Tryz.underlying40 hi.out _ _ _ rfl O.out rfl ?_)
            go_roundw
            case rel => exact ⟨r, k + 1, n, by go_num, rfl, by omega, by omega, by omega, HN⟩
            case measure => simp [intOf]; omega
        | some ad =>
          obtain ⟨A2, c2, he2, _, _, hA⟩ := HLa.out.args_
          injection he2 with he2 _ he3
          subst he2
          subst he3
          simp only at k4
          have hq : ∃ q : Rows5, q.map Prod.fst = a.args ∧ (∀ x ∈ q, Lay wr S x.1 x.2) ∧ ∀ j u, (cells5 q)[j]? = some u → wr.cell? (ad.add j) = some u := by
            rcases Nat.eq_zero_or_pos a.args.length with h0 | h0
            · exact ⟨[], (List.eq_nil_of_length_eq_zero h0).symm, fun x hx => (by cases hx), fun j u hu => (by simp [cells5] at hu)⟩
            · obtain ⟨b', o', t', e, _, _, _⟩ := hA 0 (a.args[0]'h0) (List.getElem?_eq_getElem h0)
              injection e with e
              subst e
              obtain ⟨q, h1, h2, h3⟩ := args_rows a.args b' o' hA
              refine ⟨q, h1, h2, fun j u hu => ?_⟩
              have := h3 j u hu
              unfold Addr.add
              split
              · rename_i h0; subst h0; exact this
              · exact this
          obtain ⟨q, hq1, hq2, hq3⟩ := hq
          have hql : q.length = a.args.length := by rw [← hq1, List.length_map]
          have HQ1 := Lib.hid hq1
          have HQ2 := Lib.hid hq2
          have HQ3 := Lib.hid hq3
          have hq5 : (cells5 q).length = a.args.length * 5 := by rw [cells5_len, hql]
          have HQ5 := Lib.hid hq5
          have HQL := Lib.hid hql
          have HG := Lib.hid hge
          clear hA hq1 hq2 hq3 hq5 hql hge
          by_cases h1 : a.kind = 1
          · rw [h1] at k0
            have HK : Hid (n + 1 = n + if a.kind = 1 then 1 else 0) := by show _ = _; rw [if_pos h1]
            clear h1
            go_wp2_with (at_builtin; refine wpList_append_own_at _ rfl (.tmp 32) (.tmp 37) 40 rfl w0.heap.size 44 i0 z0 5 72 Tryz.underlying40 hi.out HZ.out.1 HZ.out.2.2.1 HZ.out.2.2.2 HZ.out.2.1 (by decide) (.slice (some ⟨b, 0, none⟩) r.length c) r.length (cells5 r) rfl H.out.own ad a.args.length c1 (cells5 q) rfl HQ5.out HQ3.out (one_cells5 HQ2.out) (by unfold maxLen; omega) (by omega) HG.out ?_; intro v4 w4 hown4 hg4 hnil4 hat4; have hb4 : Below w0.heap.size wr w4 := (Turned.grown (Turned.refl [b] wr) hg4 (fun k hk => .inl (by simp [Value.ownBlock] at hk; simp [hk]))).below (fun k hk => by simp at hk; omega) HG.out; have HN := Lib.hid (H.out.next hS Ha.out HQ1.out HQ2.out (by rw [HQL.out]; exact hown4) hb4); clear hown4 hg4 hnil4 hat4 hb4)
            rw [← HK.out] at HN
            go_roundw
            case rel => exact ⟨r ++ q, k + 1, n + 1, by go_num, by go_num, by rw [List.length_append]; omega, by rw [List.length_append, HQL.out]; omega, by omega, HN⟩
            case measure => simp [intOf]; omega
          · have t1 : (a.kind == 1) = false := beq_eq_false_iff_ne.2 h1
            have HK : Hid (n = n + if a.kind = 1 then 1 else 0) := by show _ = _; rw [if_neg h1]; rfl
            clear h1
            go_wp2_with (at_builtin; refine wpList_append_own_at _ rfl (.tmp 32) (.tmp 37) 40 rfl w0.heap.size 44 i0 z0 5 72 Tryz.underlying40 hi.out HZ.out.1 HZ.out.2.2.1 HZ.out.2.2.2 HZ.out.2.1 (by decide) (.slice (some ⟨b, 0, none⟩) r.length c) r.length (cells5 r) rfl H.out.own ad a.args.length c1 (cells5 q) rfl HQ5.out HQ3.out (one_cells5 HQ2.out) (by unfold maxLen; omega) (by omega) HG.out ?_; intro v4 w4 hown4 hg4 hnil4 hat4; have hb4 : Below w0.heap.size wr w4 := (Turned.grown (Turned.refl [b] wr) hg4 (fun k hk => .inl (by simp [Value.ownBlock] at hk; simp [hk]))).below (fun k hk => by simp at hk; omega) HG.out; have HN := Lib.hid (H.out.next hS Ha.out HQ1.out HQ2.out (by rw [HQL.out]; exact hown4) hb4); clear hown4 hg4 hnil4 hat4 hb4)
            rw [← HK.out] at HN
            go_roundw
            case rel => exact ⟨r ++ q, k + 1, n, by go_num, rfl, by rw [List.length_append]; omega, by rw [List.length_append, HQL.out]; omega, by omega, HN⟩
            case measure => simp [intOf]; omega
    · have HV : Hid (x = decide (16 < n)) := by
        show x = _
        rw [HX.out]
        have h1 := H.out.leaf
        rw [List.drop_eq_nil_of_le (by omega)] at h1
        simp only [List.map_nil, leavesA] at h1
        rw [← h1]; rfl
      have HB := Lib.hid H.out.below
      clear H HX
      go_wp2_with fail
      go_ret
      refine ⟨ret_bool ?_, HB.out⟩
      rw [HV.out, Bool.eq_iff_iff]
      simp <;> omega
end Go.Proofs.YtljldbdjkjllhaaGreatDoor.Ev

/- Whether a dependency may be: check, Check. -/
namespace Go.Proofs.YtljldbdjkjllhaaGreatDoor.Ev
set_option linter.unusedSimpArgs false
set_option linter.unusedVariables false
open Go.RowKit

def Looked (d : Dep) (w0 : World) (e : Ending) (w' : World) : Prop := Below w0.heap.size w0 w' ∧ ((mayPart d = true ∧ e = .returned (.tuple #[])) ∨ (mayPart d = false ∧ e = gaveUp 50))
set_option maxHeartbeats 1000000 in
set_option maxRecDepth 100000 in
theorem look_any (d : Dep) (s : Value) (S : Nat → Prop) (w0 : World) (hL : Lay w0 S d s) (hT : Tabs w0) :
    Calls Tryz.prog 251 #[.agg (rowD d s)] w0 (Looked d w0) := by
  obtain ⟨A, c, rfl, _, _⟩ := hL.form_
  have HB : Hid (Below w0.heap.size w0 (w0.alloc (.cells (rowD d (.slice A d.args.length c)) 44))) := (Below.refl _ _).alloc (Nat.le_refl _) _
  have C := Lib.hid (part_any d (.slice A d.args.length c) S _ (hL.stay (fun _ h => h) (StayS.below' HB.out)) (hT.below HB.out hT.two))
  have CY := Lib.hid must_yes
  have CN := Lib.hid must_no
  unfold rowD at HB C ⊢
  clear hL hT
  go_enter Tryz.func251, Tryz.ntmps251
  go_wp2_with fail
  refine C.out.mono ?_
  rintro e w1 ⟨rfl, hb1⟩
  have HB1 : Hid (Below w0.heap.size w0 w1) := HB.out.trans (hb1.mono (by simp))
  clear hb1 HB C
  cases hm : mayPart d with
  | true =>
    go_wp2_with fail
    refine (CY.out _).mono ?_
    rintro e w2 ⟨rfl, rfl⟩
    go_wp2_with fail
    go_end0
    exact ⟨HB1.out, .inl ⟨hm, rfl⟩⟩
  | false =>
    go_wp2_with fail
    refine (CN.out _).mono ?_
    rintro e w2 ⟨rfl, rfl⟩
    have HP : Hid (Looked d w0 (gaveUp 50) w1) := ⟨HB1.out, .inr ⟨hm, rfl⟩⟩
    clear hm
    unfold gaveUp
    go_wp2_with fail
    exact ⟨rfl, HP.out⟩

theorem looks (d : Dep) (N : Nat) : Sees 251 #[] d N (fun _ F _ => F = []) (fun a => !mayPart a) where
  enters := enters_of Tryz.func251 (by kernel_rfl) rfl
  stab := fun l F w w' G h _ _ => h
  call := fun S l F w a t hF hL _ _ _ hT => by
    subst hF
    refine (look_any a t S w hL hT).mono ?_
    rintro e w' ⟨hb, h⟩
    refine ⟨[], Turned.of_below hb [], fun k hk => (by cases hk), fun k hk => (by cases hk), ?_⟩
    rcases h with ⟨h1, rfl⟩ | ⟨h1, rfl⟩
    · exact .inl ⟨by simp [h1], rfl, rfl⟩
    · exact .inr ⟨by simp [h1], rfl⟩

/-- What a check does. -/
def Checked1 (d : Dep) (w0 : World) (e : Ending) (w' : World) : Prop := Below w0.heap.size w0 w' ∧ ((checkN d = 0 ∧ e = .returned (.tuple #[])) ∨ (checkN d ≠ 0 ∧ e = gaveUp (checkN d)))
theorem check_deep {d : Dep} (hf : form d = true) : checkN d = if 16 < leaves d then 51 else 0 := by unfold checkN; rw [if_pos hf]
set_option maxHeartbeats 1000000 in
set_option maxRecDepth 100000 in
theorem check_any (d : Dep) (s : Value) (S : Nat → Prop) (w0 : World) (hL : Lay w0 S d s) (hC : CleanS w0 S) (hT : Tabs w0) (hN : nodes d ≤ 4194304) :
    Calls Tryz.prog 235 #[.agg (rowD d s)] w0 (Checked1 d w0) := by
  obtain ⟨A, c, rfl, _, _⟩ := hL.form_
  have HB : Hid (Below w0.heap.size w0 (w0.alloc (.cells (rowD d (.slice A d.args.length c)) 44))) := (Below.refl _ _).alloc (Nat.le_refl _) _
  have hSlt : ∀ b, S b → b < w0.heap.size := fun b hb => by obtain ⟨cs, hc⟩ := hC b hb; exact hc.lt
  have hst := StayS.below' (S := S) HB.out
  have CE := Lib.hid (each_any d (.slice A d.args.length c) S _ [] _ _ _ _ _ (looks d (nodes d)) (hL.stay (fun _ h => h) hst) (hC.stay hst) rfl (fun k hk => (by cases hk)) (hT.below HB.out hT.two) (Nat.le_refl _) hN)
  have CM := Lib.hid (fun (hf : form d = true) w (hw : Below w0.heap.size w0 w) => many_any d (.slice A d.args.length c) S w (hL.stay (fun _ h => h) (StayS.below' hw)) (fun b hb => Nat.lt_of_lt_of_le (hSlt b hb) hw.size) hf hN)
  have K := Lib.hid (Blk.new w0 44 (rowD d (.slice A d.args.length c)))
  have HP := Lib.hid (form_parts d)
  unfold rowD at HB CE CM K ⊢
  clear hL hT hC hst hSlt
  go_enter Tryz.func235, Tryz.ntmps235
  go_wp2_with fail
  refine CE.out.mono ?_
  rintro e w1 ⟨F', ht, _, _, h⟩
  have hb1 : Below w0.heap.size w0 w1 := HB.out.trans (ht.of_nil.mono (by simp))
  have K1 := K.out.below ht.of_nil (by simp)
  have k0 := K1.cell 0
  have k1 := K1.cell 1
  have k2 := K1.cell 2
  have k3 := K1.cell 3
  have k4 := K1.cell 4
  rcases h with ⟨rfl, l, _, h1, h2⟩ | ⟨rfl, a, ha, hbad⟩
  · have hf : form d = true := HP.out.2 fun x hx => by simpa using (h2 x (h1 x hx)).2
    have HB1 := Lib.hid hb1
    have C := Lib.hid (CM.out hf w1 hb1)
    have HD := Lib.hid (check_deep hf)
    have hz := hb1.size
    clear h1 h2 ht hb1 K K1 CE CM HP HB hf
    go_wp2_with fail
    refine C.out.mono ?_
    rintro e w2 ⟨rfl, hb2⟩
    have HB2 : Hid (Below w0.heap.size w0 w2) := HB1.out.trans (hb2.mono hz)
    clear hb2 C HB1 k0 k1 k2 k3 k4
    by_cases hm : 16 < leaves d
    · have HV : Hid (checkN d = 51) := HD.out.trans (if_pos hm)
      rw [decide_eq_true hm]
      have HPP : Hid (Checked1 d w0 (gaveUp 51) w2) := ⟨HB2.out, .inr ⟨by rw [HV.out]; decide, by rw [HV.out]⟩⟩
      clear hm HD
      go_wp2_with fail
      exact ⟨rfl, HPP.out⟩
    · have HV : Hid (checkN d = 0) := HD.out.trans (if_neg hm)
      rw [decide_eq_false hm]
      clear hm HD
      go_wp2_with fail
      go_end0
      exact ⟨HB2.out, .inl ⟨HV.out, rfl⟩⟩
  · have hf : checkN d = 50 := check_bad fun h => by
      have := HP.out.1 h a ha
      simp [this] at hbad
    have HPP : Hid (Checked1 d w0 (gaveUp 50) w1) := ⟨hb1, .inr ⟨by rw [hf]; decide, by rw [hf]⟩⟩
    unfold gaveUp
    clear ht hb1 K K1 CE CM HP HB hf k0 k1 k2 k3 k4 hbad ha
    go_wp2_with fail
    exact ⟨rfl, HPP.out⟩

set_option maxHeartbeats 1000000 in
set_option maxRecDepth 100000 in
theorem checkIn_any (d : Dep) (A : Option Addr) (c : Nat) (S : Nat → Prop) (g : Nat) (w0 : World) (hK : Blk w0 g 44 (rowD d (.slice A d.args.length c))) (hL : Lay w0 S d (.slice A d.args.length c)) (hC : CleanS w0 S) (hT : Tabs w0) (hN : nodes d ≤ 4194304) :
    Calls Tryz.prog 234 #[.pointer (some ⟨g, 0, none⟩)] w0 (Checked1 d w0) := by
  have C := Lib.hid (check_any d _ S w0 hL hC hT hN)
  unfold rowD at hK C
  have k0 := hK.cell 0
  have k1 := hK.cell 1
  have k2 := hK.cell 2
  have k3 := hK.cell 3
  have k4 := hK.cell 4
  clear hL hC hT hK
  go_enter Tryz.func234, Tryz.ntmps234
  go_wp2_with fail
  refine C.out.mono ?_
  rintro e w1 ⟨hb, h⟩
  rcases h with ⟨h1, rfl⟩ | ⟨h1, rfl⟩
  · have HB := Lib.hid hb
    have H1 := Lib.hid h1
    clear hb h1 C k0 k1 k2 k3 k4
    go_wp2_with fail
    go_end0
    exact ⟨HB.out, .inl ⟨H1.out, rfl⟩⟩
  · have HPP : Hid (Checked1 d w0 (gaveUp (checkN d)) w1) := ⟨hb, .inr ⟨h1, rfl⟩⟩
    clear hb h1 C k0 k1 k2 k3 k4
    unfold gaveUp
    go_wp2_with fail
    exact ⟨rfl, HPP.out⟩
set_option maxHeartbeats 1000000 in
set_option maxRecDepth 100000 in
theorem depCheck_any (d : Dep) (s : Value) (S : Nat → Prop) (w0 : World) (hL : Lay w0 S d s) (hC : CleanS w0 S) (hT : Tabs w0) (hN : nodes d ≤ 4194304) :
    Calls Tryz.prog 187 #[.agg (rowD d s)] w0 fun e w' => e = .returned (.int .i64 (checkN d)) ∧ Below w0.heap.size w0 w' := by
  obtain ⟨A, c, rfl, _, _⟩ := hL.form_
  have hmf : ∀ (fn : Fn) (first cap : Array Value) (w : World), (Instr.makeFunc fn first cap).run Tryz.prog w = .ok (.func fn first cap) w := fun _ _ _ _ => rfl
  have hb0 : Below w0.heap.size w0 (w0.alloc (.cells (rowD d (.slice A d.args.length c)) 44)) := (Below.refl _ _).alloc (Nat.le_refl _) _
  have hbc : Below w0.heap.size w0 ((w0.alloc (.cells (rowD d (.slice A d.args.length c)) 44)).alloc (.cells #[.int .i64 0] 25)) := hb0.alloc (by simp) _
  have K : Blk ((w0.alloc (.cells (rowD d (.slice A d.args.length c)) 44)).alloc (.cells #[.int .i64 0] 25)) w0.heap.size 44 (rowD d (.slice A d.args.length c)) := (Blk.new _ _ _).alloc _
  have hst := StayS.below' (S := S) hbc
  have CC := Lib.hid (caught_any 234 #[.pointer (some ⟨w0.heap.size, 0, none⟩)] (enters_of Tryz.func234 (by kernel_rfl) rfl) [] (fun _ => checkN d = 0) (fun n _ => n = checkN d) (w0.alloc (.cells (rowD d (.slice A d.args.length c)) 44)) (fun k hk => (by cases hk))
    ((checkIn_any d A c S _ _ K (hL.stay (fun _ h => h) hst) (hC.stay hst) (hT.below hbc hT.two) hN).mono fun e w' h => by
      refine ⟨Turned.of_below h.1 [], ?_⟩
      rcases h.2 with ⟨h1, h2⟩ | ⟨h1, h2⟩
      · exact .inl ⟨h2, h1⟩
      · exact .inr ⟨_, h2, rfl⟩))
  have HB := Lib.hid hb0
  clear hL hC hT hb0 hbc K hst
  unfold rowD at CC HB ⊢
  go_enter Tryz.func187, Tryz.ntmps187
  go_wp2_with fail
  refine CC.out.mono ?_
  rintro e w1 ⟨w2, ht1, ht2, h⟩
  have HB1 : Hid (Below w0.heap.size w0 w1) := by
    have h1 := ht1.of_nil
    have h2 : Below w0.heap.size w2 w1 := ht2.below (fun k hk => by simp at hk; omega) (by have := ht1.size; simp at this; omega)
    exact ((HB.out.alloc (by simp) _).trans (h1.mono (by simp; omega))).trans h2
  rcases h with ⟨rfl, h⟩ | ⟨n, rfl, rfl⟩
  · have HV := Lib.hid h
    clear h ht1 ht2 CC HB
    go_wp2_with fail
    go_ret
    exact ⟨by rw [HV.out]; rfl, HB1.out⟩
  · clear ht1 ht2 CC HB
    go_wp2_with fail
    go_ret
    exact ⟨rfl, HB1.out⟩
end Go.Proofs.YtljldbdjkjllhaaGreatDoor.Ev

/- What the rows list of the two tables, as blocks. -/
namespace Go.Proofs.YtljldbdjkjllhaaGreatDoor.Ev
set_option linter.unusedSimpArgs false
set_option linter.unusedVariables false
open Go.RowKit

def strData {H : Type} (l : List (List UInt8)) : DataW H := .agg (l.map fun s => .lit (.string s))
/-- An array of texts that reads as these holds these. -/
theorem cells_of_strs {H : Type} {enc : TypeId × Value → H} {P : Program} {w : World} {base : Nat} {sp : Nat → Bool} {held : Bool} {fuel : Nat} {t e : TypeId} {n : Nat} {cs : List Value} {l : List (List UInt8)} {p : List MemPlace}
    (ht : P.underlying t = some (.array n e)) (he : P.underlying e = some .string) (hce : P.cellsOf e = 1) (hct : P.cellsOf t = n)
    (h : DataW.trod enc P w base sp held fuel t cs = some (strData l, p)) : cs = l.map fun s => Value.string (mkS s) := by
  obtain ⟨xs, m, _, hx, hl, hxl, hi⟩ := DataW.trod_array ht h
  have hxs : (l.map fun s => (DataW.lit (.string s) : DataW H)) = xs.map (·.1) := by
    have := congrArg Prod.fst hx
    simpa [strData] using this
  have hll : l.length = n := by
    have := congrArg List.length hxs
    simp at this
    omega
  rw [hct] at hl
  apply List.ext_getElem?
  intro i
  by_cases hlt : i < n
  · have hxi : xs[i]? = some (xs[i]'(by omega)) := List.getElem?_eq_getElem (by omega)
    have h1 := hi i hlt
    rw [hce, Nat.mul_one, hxi] at h1
    obtain ⟨s, hc, hxe, _⟩ := DataW.trod_string he h1
    have h2 : cs[i]? = some (.string s) := by
      have := congrArg (·[0]?) hc
      simpa [List.getElem?_take, List.getElem?_drop] using this
    have h3 : (xs.map (·.1))[i]? = some (DataW.lit (.string s.data.toList) : DataW H) := by rw [List.getElem?_map, hxi, hxe]; rfl
    rw [← hxs, List.getElem?_map, List.getElem?_eq_getElem (by omega)] at h3
    simp only [Option.map_some, Option.some.injEq, DataW.lit.injEq, Lit.string.injEq] at h3
    rw [h2, List.getElem?_map, List.getElem?_eq_getElem (by omega)]
    simp only [Option.map_some, Option.some.injEq, Value.string.injEq]
    rw [h3]
    rfl
  · rw [List.getElem?_eq_none (by omega), List.getElem?_eq_none (by simp; omega)]
theorem laidVars_mem {P : Program} {w : World} : ∀ (laid : List (String × DataW Unit)) (ps : List MemPlace), DataW.LaidVars P w laid ps → ∀ n d, (n, d) ∈ laid →
    ∃ g t cs fuel p, P.globalNamed n = some g ∧ (P.globals[g]?).map (·.type) = some t ∧ w.var? P n = some cs ∧ DataW.trod (fun _ => ()) P w 0 (fun _ => true) false fuel t cs.toList = some (d, p) ∧ ∀ x ∈ MemPlace.row ⟨g, 0, none⟩ cs.size, x ∈ ps
  | [], ps, h, n, d, hm => by cases hm
  | (n0, d0) :: r, ps, h, n, d, hm => by
    obtain ⟨g, t, cs, fuel, p, q, h1, h2, h3, h4, h5, rfl⟩ := h
    rcases List.mem_cons.1 hm with he | hm
    · injection he with e1 e2
      subst e1
      subst e2
      exact ⟨g, t, cs, fuel, p, h1, h2, h3, h4, fun x hx => by simp [hx]⟩
    · obtain ⟨g', t', cs', fuel', p', k1, k2, k3, k4, k5⟩ := laidVars_mem r q h5 n d hm
      exact ⟨g', t', cs', fuel', p', k1, k2, k3, k4, fun x hx => by simp [k5 x hx]⟩
theorem tab_blk {P : Program} {w : World} {laid : List (String × DataW Unit)} (h : laidMet P laid w) {name : String} {l : List (List UInt8)} (hm : (name, strData l) ∈ laid) {g : Nat} {t e : TypeId} {n : Nat}
    (hg : P.globalNamed name = some g) (hty : (P.globals[g]?).map (·.type) = some t) (ht : P.underlying t = some (.array n e)) (he : P.underlying e = some .string) (hce : P.cellsOf e = 1) (hct : P.cellsOf t = n) (hn : 0 < l.length) :
    ∃ t', Blk w g t' (l.map fun s => Value.string (mkS s)).toArray := by
  obtain ⟨ps, hv, _, hfz⟩ := h
  obtain ⟨g', t', cs, fuel, p, hg', hty', hvar, hd, hps⟩ := laidVars_mem laid ps hv name _ hm
  obtain rfl := Option.some.inj (hg.symm.trans hg')
  obtain rfl := Option.some.inj (hty.symm.trans hty')
  have hcs := cells_of_strs ht he hce hct hd
  have hsz : cs.size = l.length := by rw [← Array.length_toList, hcs, List.length_map]
  obtain ⟨⟨c, tc, hb⟩, _⟩ := hfz g 0 (hps _ (by unfold MemPlace.row; simp; omega))
  have hc : c = cs := by
    unfold World.var? at hvar
    rw [hg] at hvar
    simp [hb] at hvar
    exact hvar
  have he2 : cs = (l.map fun s => Value.string (mkS s)).toArray := by rw [← hcs]
  exact ⟨tc, by rw [← he2, ← hc]; exact hb⟩
def signL : List Wd := [[], [60], [61], [60, 61], [62], [60, 62], [62, 61], [60, 61, 62]]
def wordL : List Wd := [[], [], wAnd, wOr, wIf, wWith, wWithout, []]
theorem tabs_of {W : World} {laid : List (String × DataW Unit)} (h : laidMet Tryz.prog laid W) (h1 : ("chandler/dep.signs", Rows.laid_chandler_dep_signs) ∈ laid) (h2 : ("chandler/dep.words", Rows.laid_chandler_dep_words) ∈ laid) : Tabs W := by
  have e1 : (Rows.laid_chandler_dep_signs : DataW Unit) = strData signL := by kernel_rfl
  have e2 : (Rows.laid_chandler_dep_words : DataW Unit) = strData wordL := by kernel_rfl
  rw [e1] at h1
  rw [e2] at h2
  obtain ⟨t1, b1⟩ := tab_blk (g := 3) (t := 162) (e := 9) (n := 8) h h1 (by kernel_rfl) (by kernel_rfl) Tryz.underlying162 Tryz.underlying9 (by kernel_rfl) (by kernel_rfl) (by decide)
  obtain ⟨t2, b2⟩ := tab_blk (g := 2) (t := 162) (e := 9) (n := 8) h h2 (by kernel_rfl) (by kernel_rfl) Tryz.underlying162 Tryz.underlying9 (by kernel_rfl) (by kernel_rfl) (by decide)
  exact ⟨⟨t2, b2⟩, t1, b1⟩
end Go.Proofs.YtljldbdjkjllhaaGreatDoor.Ev

/- The reference's Same of dependencies, Lists, SameTexts. -/
namespace Go.Proofs.YtljldbdjkjllhaaGreatDoor.Ev
set_option linter.unusedSimpArgs false
set_option linter.unusedVariables false
open Go.RowKit

/-- A list of packages in memory: each one's row. -/
def PksAt (w : World) (ps : List Pkg) (A : Option Addr) : Prop := ∀ k p, ps[k]? = some p → ∃ b o ss fs, ∃ S T : Nat → Prop, A = some ⟨b, o, none⟩ ∧ PkgAt w S T p ss fs ∧ p.files.length ≤ 1048576 ∧ ∀ j, j < 12 → w.cell? ⟨b, o + k * 12 + j, none⟩ = (rowP p ss fs)[j]?
theorem PksAt.below {w w' : World} {ps : List Pkg} {A : Option Addr} (h : PksAt w ps A) (hb : Below w.heap.size w w') : PksAt w' ps A := fun k p hk => by
  obtain ⟨b, o, ss, fs, S, T, e, hp, hf, hc⟩ := h k p hk
  refine ⟨b, o, ss, fs, S, T, e, hp.below hb, hf, fun j hj => ?_⟩
  have h2 := hc j hj
  have hlt : (⟨b, o + k * 12 + j, none⟩ : Addr).block < w.heap.size := by
    obtain ⟨v, hv⟩ : ∃ v, (rowP p ss fs)[j]? = some v := by
      rcases j with _ | _ | _ | _ | _ | _ | _ | _ | _ | _ | _ | _ | j <;> first | exact ⟨_, rfl⟩ | omega
    rw [hv] at h2
    exact cell_lt h2
  exact (World.cell?_of_block (hb.block _ hlt)).trans h2
end Go.Proofs.YtljldbdjkjllhaaGreatDoor.Ev
