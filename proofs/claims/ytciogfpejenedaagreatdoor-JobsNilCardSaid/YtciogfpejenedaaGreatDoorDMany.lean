/- Whether there are too many names. -/
import Derived.Test.YtciogfpejenedaaGreatDoorDEachs
import Derived.Laws.AppendOwnNone
namespace Go.Proofs.YtciogfpejenedaaGreatDoor
set_option linter.unusedSimpArgs false
set_option linter.unusedVariables false
open Go.RowKit

/-- Dependencies one behind the other, each with where its arguments lie. -/
abbrev Rows5 := List (Dep × Value)
def cells5 (r : Rows5) : List Value := r.flatMap fun x => [.int .i64 x.1.kind, .string x.1.name, .int .i64 x.1.op, .string x.1.evr, x.2]
theorem cells5_cons (x : Dep × Value) (r : Rows5) : cells5 (x :: r) = [.int .i64 x.1.kind, .string x.1.name, .int .i64 x.1.op, .string x.1.evr, x.2] ++ cells5 r := rfl
theorem cells5_append (a b : Rows5) : cells5 (a ++ b) = cells5 a ++ cells5 b := by simp [cells5]
theorem cells5_len (r : Rows5) : (cells5 r).length = r.length * 5 := by
  induction r with
  | nil => rfl
  | cons x r ih => rw [cells5_cons, List.length_append, ih]; simp; omega
theorem cells5_at {r : Rows5} {k : Nat} {x : Dep × Value} (h : r[k]? = some x) : (cells5 r)[k * 5]? = some (.int .i64 x.1.kind) ∧ (cells5 r)[k * 5 + 1]? = some (.string x.1.name) ∧ (cells5 r)[k * 5 + 2]? = some (.int .i64 x.1.op) ∧ (cells5 r)[k * 5 + 3]? = some (.string x.1.evr) ∧ (cells5 r)[k * 5 + 4]? = some x.2 := by
  induction r generalizing k with
  | nil => cases h
  | cons y r ih =>
    cases k with
    | zero => injection h with h; subst h; exact ⟨rfl, rfl, rfl, rfl, rfl⟩
    | succ k =>
      have := ih (k := k) (by simpa using h)
      rw [cells5_cons]
      have e : ∀ i, ([Value.int .i64 y.1.kind, .string y.1.name, .int .i64 y.1.op, .string y.1.evr, y.2] ++ cells5 r)[(k + 1) * 5 + i]? = (cells5 r)[k * 5 + i]? := fun i => by
        rw [List.getElem?_append_right (by simp; omega)]
        congr 1
        simp; omega
      have e0 := e 0
      simp only [Nat.add_zero] at e0
      rw [e0, e 1, e 2, e 3, e 4]
      exact this
/-- The arguments' rows. -/
theorem args_rows {w : World} {S : Nat → Prop} : ∀ (ds : List Dep) (b o : Nat), ArgsAt w S ds (some ⟨b, o, none⟩) → ∃ r : Rows5, r.map Prod.fst = ds ∧ (∀ x ∈ r, Lay w S x.1 x.2) ∧ ∀ j u, (cells5 r)[j]? = some u → w.cell? ⟨b, o + j, none⟩ = some u
  | [], b, o, _ => ⟨[], rfl, fun x hx => (by cases hx), fun j u hu => (by simp [cells5] at hu)⟩
  | a :: ds, b, o, h => by
    obtain ⟨b', o', t, e, hS, hC, hL⟩ := h 0 a rfl
    injection e with e; injection e with e1 e2
    subst e1; subst e2
    obtain ⟨r, h1, h2, h3⟩ := args_rows ds b (o + 5) fun j x hx => by
      obtain ⟨b', o', t', e, hS', hC', hL'⟩ := h (j + 1) x (by simpa using hx)
      injection e with e; injection e with e1 e2
      subst e1; subst e2
      exact ⟨b, o + 5, t', rfl, hS', by rwa [show o + 5 + j * 5 = o + (j + 1) * 5 by omega], hL'⟩
    refine ⟨(a, t) :: r, by simp [h1], fun x hx => ?_, fun j u hu => ?_⟩
    · rcases List.mem_cons.1 hx with rfl | hx
      · exact hL
      · exact h2 x hx
    · rw [cells5_cons] at hu
      obtain ⟨c0, c1, c2, c3, c4⟩ := hC
      simp only [Nat.zero_mul, Nat.add_zero] at c0 c1 c2 c3 c4
      rcases Nat.lt_or_ge j 5 with hj | hj
      · have : j = 0 ∨ j = 1 ∨ j = 2 ∨ j = 3 ∨ j = 4 := by omega
        rcases this with rfl | rfl | rfl | rfl | rfl <;> (simp at hu; subst hu; assumption)
      · rw [List.getElem?_append_right (by simp; omega)] at hu
        have hu' : (cells5 r)[j - 5]? = some u := hu
        have := h3 _ u hu'
        rwa [show o + 5 + (j - 5) = o + j by omega] at this
theorem one_cells5 {w : World} {S : Nat → Prop} {r : Rows5} (h : ∀ x ∈ r, Lay w S x.1 x.2) : ∀ u ∈ cells5 r, u.oneCell' = true := by
  intro u hu
  unfold cells5 at hu
  obtain ⟨x, hx, hu⟩ := List.mem_flatMap.1 hu
  obtain ⟨A, c, he, _, _⟩ := (h x hx).form_
  simp at hu
  rcases hu with rfl | rfl | rfl | rfl | rfl
  all_goals first | rfl | (rw [he]; rfl)
theorem info_dep5 : ∃ i z, Tryz.prog.info? 47 = some i ∧ i.zero = some z ∧ z.cells.size = 5 ∧ i.size = 5 ∧ i.bytes = 72 := by
  have h : (Tryz.prog.info? 47).map (fun i => (i.zero.map fun z => z.cells.size, i.size, i.bytes)) = some (some 5, 5, 72) := by kernel_rfl
  obtain ⟨i, hi, h2⟩ := Option.map_eq_some_iff.1 h
  simp only [Prod.mk.injEq] at h2
  obtain ⟨z, hz, h3⟩ := Option.map_eq_some_iff.1 h2.1
  exact ⟨i, z, hi, hz, h3, h2.2.1, h2.2.2⟩

structure MSt (d : Dep) (S : Nat → Prop) (w0 w : World) (v : Value) (r : Rows5) (k n : Nat) : Prop where
  own : w.ownsRow w0.heap.size 47 5 v r.length (cells5 r)
  lay : ∀ x ∈ r, Lay w S x.1 x.2 ∧ form x.1 = true
  leaf : n + leavesA ((r.drop k).map Prod.fst) = leaves d
  node : k + nodesA ((r.drop k).map Prod.fst) = nodes d
  below : Below w0.heap.size w0 w
theorem MSt.next {d : Dep} {S : Nat → Prop} {w0 w w' : World} {v v' : Value} {r q : Rows5} {k n : Nat} {a : Dep} {t : Value} (h : MSt d S w0 w v r k n) (hS : ∀ b, S b → b < w0.heap.size) (hk : r[k]? = some (a, t)) (hq : q.map Prod.fst = a.args) (hqL : ∀ x ∈ q, Lay w S x.1 x.2)
    (hown : w'.ownsRow w0.heap.size 47 5 v' (r.length + q.length) (cells5 r ++ cells5 q)) (hb : Below w0.heap.size w w') : MSt d S w0 w' v' (r ++ q) (k + 1) (n + if a.kind = 1 then 1 else 0) := by
  have hlt : k < r.length := (List.getElem?_eq_some_iff.1 hk).1
  have hst : StayS S w w' := StayS.below hb hS
  have hm : (a, t) ∈ r := List.mem_of_getElem? hk
  have hf := (h.lay _ hm).2
  have hd : r.drop k = (a, t) :: r.drop (k + 1) := by
    rw [List.drop_eq_getElem_cons hlt]
    rw [List.getElem?_eq_getElem hlt] at hk
    injection hk with hk
    rw [hk]
  have hd2 : (r ++ q).drop (k + 1) = r.drop (k + 1) ++ q := by rw [List.drop_append_of_le_length (by omega)]
  have h1 := h.leaf
  have h2 := h.node
  rw [hd] at h1 h2
  simp only [List.map_cons, leavesA, nodesA] at h1 h2
  have hl : leaves a = (if a.kind = 1 then 1 else 0) + leavesA a.args := by
    obtain ⟨ka, na, oa, ea, da⟩ := a
    by_cases hk1 : ka = 1
    · obtain ⟨_, _, rfl⟩ := may_leaf (form_may hf) hk1
      simp [leaves, Dep.kind, Dep.args, hk1, leavesA]
    · simp [leaves, Dep.kind, Dep.args, hk1]
  refine ⟨by rw [List.length_append, cells5_append]; exact hown, fun x hx => ?_, ?_, ?_, h.below.trans hb⟩
  · rcases List.mem_append.1 hx with hx | hx
    · have := h.lay x hx
      exact ⟨this.1.stay (fun _ h => h) hst, this.2⟩
    · refine ⟨(hqL x hx).stay (fun _ h => h) hst, forms_mem (form_args hf) _ ?_⟩
      show x.1 ∈ a.args
      rw [← hq]; exact List.mem_map.2 ⟨x, hx, rfl⟩
  · rw [hd2, List.map_append, hq, leavesA_append]
    omega
  · rw [hd2, List.map_append, hq, nodesA_append]
    have := nodes_parts a
    omega

set_option maxHeartbeats 4000000 in
set_option maxRecDepth 1000000 in
theorem many_any (d : Dep) (s : Value) (S : Nat → Prop) (w0 : World) (hL : Lay w0 S d s) (hS : ∀ b, S b → b < w0.heap.size) (hf : form d = true) (hN : nodes d ≤ 4194304) :
    Calls Tryz.prog 71 #[.agg (rowD d s)] w0 fun e w' => e = .returned (.bool (decide (16 < leaves d))) ∧ Below w0.heap.size w0 w' := by
  obtain ⟨A0, c0, rfl, _, _⟩ := hL.form_
  have HI : Hid (MSt d S w0 ((w0.alloc (.cells (rowD d (.slice A0 d.args.length c0)) 47)).alloc (.cells (rowD d (.slice A0 d.args.length c0)) 47)) (.slice (some ⟨w0.heap.size + 1, 0, none⟩) 1 1) [(d, .slice A0 d.args.length c0)] 0 0) := by
    have hb : Below w0.heap.size w0 ((w0.alloc (.cells (rowD d (.slice A0 d.args.length c0)) 47)).alloc (.cells (rowD d (.slice A0 d.args.length c0)) 47)) := ((Below.refl _ _).alloc (Nat.le_refl _) _).alloc (by simp) _
    refine ⟨⟨rfl, .inr ⟨w0.heap.size + 1, 1, rowD d (.slice A0 d.args.length c0), rfl, by omega, Blk.new' (w := w0.alloc (.cells (rowD d (.slice A0 d.args.length c0)) 47)) (by simp), by simp, by simp [maxLen], rfl, rfl⟩⟩, fun x hx => ?_, by simp [leavesA], by simp [nodesA], hb⟩
    have : x = (d, .slice A0 d.args.length c0) := by simpa using hx
    subst this
    exact ⟨hL.stay (fun _ h => h) (StayS.below' hb), hf⟩
  have HNL := Lib.hid (nodes_leaves d hf)
  clear hL hf
  unfold rowD at HI ⊢
  obtain ⟨x, hx⟩ : ∃ x, x = decide (16 < leaves d) := ⟨_, rfl⟩
  rw [← hx]
  have HX := Lib.hid hx
  clear hx
  go_enter Tryz.func71, Tryz.ntmps71
  go_wp2_with fail
  generalize (w0.alloc (.cells #[.int .i64 d.kind, .string d.name, .int .i64 d.op, .string d.evr, .slice A0 d.args.length c0] 47)).alloc (.cells #[.int .i64 d.kind, .string d.name, .int .i64 d.op, .string d.evr, .slice A0 d.args.length c0] 47) = w1 at *
  go_loopw [3, 4, 5] (fun v nm i wx => ∃ (r : Rows5) (k n : Nat), i = .int .i64 (k : Int) ∧ nm = .int .i64 (n : Int) ∧ k ≤ r.length ∧ r.length ≤ 31 ∧ n ≤ k ∧ Hid (MSt d S w0 wx v r k n)) (fun v nm i wx => 31 - (intOf i).toNat)
  case atStart => exact ⟨_, 0, 0, rfl, rfl, by simp, by simp, Nat.le_refl _, HI⟩
  case round =>
    obtain ⟨r, k, n, rfl, rfl, hk, hr, hnk, H⟩ := hrel
    obtain ⟨A, c, hv, hrc, hc⟩ := own_form' H.out.own
    subst hv
    clear HI
    by_cases hlt : k < r.length
    · obtain ⟨⟨a, t⟩, ha⟩ : ∃ x, r[k]? = some x := ⟨_, List.getElem?_eq_getElem hlt⟩
      have hla := H.out.lay _ (List.mem_of_getElem? ha)
      obtain ⟨A1, c1, ht, hl1, hc1⟩ := hla.1.form_
      simp only at ht hl1
      subst ht
      obtain ⟨q0, q1, q2, q3, q4⟩ := cells5_at ha
      obtain ⟨b, rfl, k0⟩ := own_ats H.out.own q0
      obtain ⟨_, e4, k4⟩ := own_ats H.out.own q4
      injection e4 with e4; injection e4 with e4
      subst e4
      have hsum : r.length + a.args.length ≤ nodes d := by
        have h2 := H.out.node
        have hd : r.drop k = (a, .slice A1 a.args.length c1) :: r.drop (k + 1) := by
          rw [List.drop_eq_getElem_cons hlt]
          rw [List.getElem?_eq_getElem hlt] at ha
          injection ha with ha
          rw [ha]
        rw [hd] at h2
        simp only [List.map_cons, nodesA] at h2
        have h3 := nodes_parts a
        have h4 := nodesA_ge a.args
        have h5 := nodesA_ge ((r.drop (k + 1)).map Prod.fst)
        rw [List.length_map, List.length_drop] at h5
        omega
      have hl8 : (r.length : Int) + (a.args.length : Int) ≤ 4194304 := by omega
      unfold maxLen at hc hc1
      by_cases hbig : 31 < r.length + a.args.length
      · have HV : Hid (x = true) := by show x = true; rw [HX.out]; have := HNL.out; exact decide_eq_true (by omega)
        have HB := Lib.hid H.out.below
        have tb : (31 : Int) < (r.length : Int) + (a.args.length : Int) := by omega
        clear H HX q0 q1 q2 q3 q4 hla ha
        go_wp2_with fail
        go_ret
        exact ⟨by rw [HV.out]; rfl, HB.out⟩
      · have tb : ¬ (31 : Int) < (r.length : Int) + (a.args.length : Int) := by omega
        have tb' : (r.length : Int) + (a.args.length : Int) ≤ 31 := by omega
        have hge := H.out.below.size
        have hbb : w0.heap.size ≤ b := by
          rcases H.out.own.2 with ⟨h1, _⟩ | ⟨g', cap, cur, h1, h2, _⟩
          · cases h1
          · injection h1 with h1
            injection h1 with h1
            injection h1 with h1
            omega
        obtain ⟨i0, z0, hi0, hz0, hz1, hz2, hz3⟩ := info_dep5
        have hi := Lib.hid hi0
        have HZ := Lib.hid (And.intro hz0 (And.intro hz1 (And.intro hz2 hz3)))
        have Ha := Lib.hid ha
        have HLa := Lib.hid hla.1
        clear hi0 hz0 hz1 hz2 hz3 q0 q1 q2 q3 q4 hla ha HX
        cases A1 with
        | none =>
          obtain ⟨rfl, h0, h00⟩ := HLa.out.nil_
          have HN := Lib.hid (H.out.next (q := []) hS Ha.out (by rw [h00]; rfl) (fun x hx => (by cases hx)) (by simpa [cells5] using H.out.own) (Below.refl _ _ |>.mono hge))
          rw [List.append_nil] at HN
          rw [h0] at k4 tb tb'
          have O := Lib.hid H.out.own
          clear h0 h00 H
          by_cases h1 : a.kind = 1
          · rw [h1] at k0
            rw [if_pos h1] at HN
            clear h1
            go_wp2_with (at_builtin; refine wpList_append_own_none rfl (.tmp 32) (.tmp 37) 45 rfl w0.heap.size 47 i0 5 Tryz.underlying45 hi.out _ _ _ rfl O.out rfl ?_)
            go_roundw
            case rel => exact ⟨r, k + 1, n + 1, by go_num, by go_num, by omega, by omega, by omega, HN⟩
            case measure => simp [intOf]; omega
          · have t1 : (a.kind == 1) = false := beq_eq_false_iff_ne.2 h1
            rw [if_neg h1] at HN
            clear h1
            go_wp2_with (at_builtin; refine wpList_append_own_none rfl (.tmp 32) (.tmp 37) 45 rfl w0.heap.size 47 i0 5 Tryz.underlying45 hi.out _ _ _ rfl O.out rfl ?_)
            go_roundw
            case rel => exact ⟨r, k + 1, n, by go_num, rfl, by omega, by omega, by omega, HN⟩
            case measure => simp [intOf]; omega
        | some ad =>
          obtain ⟨A2, c2, he2, _, _, hA⟩ := HLa.out.args_
          injection he2 with he2 _ he3
          subst he2
          subst he3
          simp only at k4
          have hq : ∃ q : Rows5, q.map Prod.fst = a.args ∧ (∀ x ∈ q, Lay wr S x.1 x.2) ∧ ∀ j u, (cells5 q)[j]? = some u → wr.cell? (ad.add j) = some u := by
            rcases Nat.eq_zero_or_pos a.args.length with h0 | h0
            · exact ⟨[], (List.eq_nil_of_length_eq_zero h0).symm, fun x hx => (by cases hx), fun j u hu => (by simp [cells5] at hu)⟩
            · obtain ⟨b', o', t', e, _, _, _⟩ := hA 0 (a.args[0]'h0) (List.getElem?_eq_getElem h0)
              injection e with e
              subst e
              obtain ⟨q, h1, h2, h3⟩ := args_rows a.args b' o' hA
              refine ⟨q, h1, h2, fun j u hu => ?_⟩
              have := h3 j u hu
              unfold Addr.add
              split
              · rename_i h0; subst h0; exact this
              · exact this
          obtain ⟨q, hq1, hq2, hq3⟩ := hq
          have hql : q.length = a.args.length := by rw [← hq1, List.length_map]
          have HQ1 := Lib.hid hq1
          have HQ2 := Lib.hid hq2
          have HQ3 := Lib.hid hq3
          have hq5 : (cells5 q).length = a.args.length * 5 := by rw [cells5_len, hql]
          have HQ5 := Lib.hid hq5
          have HQL := Lib.hid hql
          have HG := Lib.hid hge
          clear hA hq1 hq2 hq3 hq5 hql hge
          by_cases h1 : a.kind = 1
          · rw [h1] at k0
            have HK : Hid (n + 1 = n + if a.kind = 1 then 1 else 0) := by show _ = _; rw [if_pos h1]
            clear h1
            go_wp2_with (at_builtin; refine wpList_append_own_at _ rfl (.tmp 32) (.tmp 37) 45 rfl w0.heap.size 47 i0 z0 5 72 Tryz.underlying45 hi.out HZ.out.1 HZ.out.2.2.1 HZ.out.2.2.2 HZ.out.2.1 (by decide) (.slice (some ⟨b, 0, none⟩) r.length c) r.length (cells5 r) rfl H.out.own ad a.args.length c1 (cells5 q) rfl HQ5.out HQ3.out (one_cells5 HQ2.out) (by unfold maxLen; omega) (by omega) HG.out ?_; intro v4 w4 hown4 hg4 hnil4 hat4; have hb4 : Below w0.heap.size wr w4 := (Turned.grown (Turned.refl [b] wr) hg4 (fun k hk => .inl (by simp [Value.ownBlock] at hk; simp [hk]))).below (fun k hk => by simp at hk; omega) HG.out; have HN := Lib.hid (H.out.next hS Ha.out HQ1.out HQ2.out (by rw [HQL.out]; exact hown4) hb4); clear hown4 hg4 hnil4 hat4 hb4)
            rw [← HK.out] at HN
            go_roundw
            case rel => exact ⟨r ++ q, k + 1, n + 1, by go_num, by go_num, by rw [List.length_append]; omega, by rw [List.length_append, HQL.out]; omega, by omega, HN⟩
            case measure => simp [intOf]; omega
          · have t1 : (a.kind == 1) = false := beq_eq_false_iff_ne.2 h1
            have HK : Hid (n = n + if a.kind = 1 then 1 else 0) := by show _ = _; rw [if_neg h1]; rfl
            clear h1
            go_wp2_with (at_builtin; refine wpList_append_own_at _ rfl (.tmp 32) (.tmp 37) 45 rfl w0.heap.size 47 i0 z0 5 72 Tryz.underlying45 hi.out HZ.out.1 HZ.out.2.2.1 HZ.out.2.2.2 HZ.out.2.1 (by decide) (.slice (some ⟨b, 0, none⟩) r.length c) r.length (cells5 r) rfl H.out.own ad a.args.length c1 (cells5 q) rfl HQ5.out HQ3.out (one_cells5 HQ2.out) (by unfold maxLen; omega) (by omega) HG.out ?_; intro v4 w4 hown4 hg4 hnil4 hat4; have hb4 : Below w0.heap.size wr w4 := (Turned.grown (Turned.refl [b] wr) hg4 (fun k hk => .inl (by simp [Value.ownBlock] at hk; simp [hk]))).below (fun k hk => by simp at hk; omega) HG.out; have HN := Lib.hid (H.out.next hS Ha.out HQ1.out HQ2.out (by rw [HQL.out]; exact hown4) hb4); clear hown4 hg4 hnil4 hat4 hb4)
            rw [← HK.out] at HN
            go_roundw
            case rel => exact ⟨r ++ q, k + 1, n, by go_num, rfl, by rw [List.length_append]; omega, by rw [List.length_append, HQL.out]; omega, by omega, HN⟩
            case measure => simp [intOf]; omega
    · have HV : Hid (x = decide (16 < n)) := by
        show x = _
        rw [HX.out]
        have h1 := H.out.leaf
        rw [List.drop_eq_nil_of_le (by omega)] at h1
        simp only [List.map_nil, leavesA] at h1
        rw [← h1]; rfl
      have HB := Lib.hid H.out.below
      clear H HX
      go_wp2_with fail
      go_ret
      refine ⟨ret_bool ?_, HB.out⟩
      rw [HV.out, Bool.eq_iff_iff]
      simp <;> omega
end Go.Proofs.YtciogfpejenedaaGreatDoor
