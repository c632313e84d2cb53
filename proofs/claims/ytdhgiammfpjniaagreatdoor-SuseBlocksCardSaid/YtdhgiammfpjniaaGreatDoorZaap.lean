/- Whether there are too many names. A field's relations: what the text says, cut at commas and bars. What is in memory while relations are read. relations: its walk. -/
import Derived.Test.YtdhgiammfpjniaaGreatDoorZaao
import Derived.Laws.AppendOwnNone
import Derived.Test.YtdhgiammfpjniaaGreatDoorZaae
import Derived.Lib.SplitLaws
import Derived.Deep.LoopGhost
/- Whether there are too many names. -/
namespace Go.Proofs.YtdhgiammfpjniaaGreatDoor.Ev
set_option linter.unusedSimpArgs false
set_option linter.unusedVariables false
open Go.RowKit

/-- Dependencies one behind the other, each with where its arguments lie. -/
abbrev Rows5 := List (Dep × Value)
def cells5 (r : Rows5) : List Value := r.flatMap fun x => [.int .i64 x.1.kind, .string x.1.name, .int .i64 x.1.op, .string x.1.evr, x.2]
theorem cells5_cons (x : Dep × Value) (r : Rows5) : cells5 (x :: r) = [.int .i64 x.1.kind, .string x.1.name, .int .i64 x.1.op, .string x.1.evr, x.2] ++ cells5 r := rfl
theorem cells5_append (a b : Rows5) : cells5 (a ++ b) = cells5 a ++ cells5 b := by simp [cells5]
theorem cells5_len (r : Rows5) : (cells5 r).length = r.length * 5 := by
  induction r with
  | nil => rfl
  | cons x r ih => rw [cells5_cons, List.length_append, ih]; simp; omega
theorem cells5_at {r : Rows5} {k : Nat} {x : Dep × Value} (h : r[k]? = some x) : (cells5 r)[k * 5]? = some (.int .i64 x.1.kind) ∧ (cells5 r)[k * 5 + 1]? = some (.string x.1.name) ∧ (cells5 r)[k * 5 + 2]? = some (.int .i64 x.1.op) ∧ (cells5 r)[k * 5 + 3]? = some (.string x.1.evr) ∧ (cells5 r)[k * 5 + 4]? = some x.2 := by
  induction r generalizing k with
  | nil => cases h
  | cons y r ih =>
    cases k with
    | zero => injection h with h; subst h; exact ⟨rfl, rfl, rfl, rfl, rfl⟩
    | succ k =>
      have := ih (k := k) (by simpa using h)
      rw [cells5_cons]
      have e : ∀ i, ([Value.int .i64 y.1.kind, .string y.1.name, .int .i64 y.1.op, .string y.1.evr, y.2] ++ cells5 r)[(k + 1) * 5 + i]? = (cells5 r)[k * 5 + i]? := fun i => by
        rw [List.getElem?_append_right (by simp; omega)]
        congr 1
        simp; omega
      have e0 := e 0
      simp only [Nat.add_zero] at e0
      rw [e0, e 1, e 2, e 3, e 4]
      exact this
/-- The arguments' rows. -/
theorem args_rows {w : World} {S : Nat → Prop} : ∀ (ds : List Dep) (b o : Nat), ArgsAt w S ds (some ⟨b, o, none⟩) → ∃ r : Rows5, r.map Prod.fst = ds ∧ (∀ x ∈ r, Lay w S x.1 x.2) ∧ ∀ j u, (cells5 r)[j]? = some u → w.cell? ⟨b, o + j, none⟩ = some u
  | [], b, o, _ => ⟨[], rfl, fun x hx => (by cases hx), fun j u hu => (by simp [cells5] at hu)⟩
  | a :: ds, b, o, h => by
    obtain ⟨b', o', t, e, hS, hC, hL⟩ := h 0 a rfl
    injection e with e; injection e with e1 e2
    subst e1; subst e2
    obtain ⟨r, h1, h2, h3⟩ := args_rows ds b (o + 5) fun j x hx => by
      obtain ⟨b', o', t', e, hS', hC', hL'⟩ := h (j + 1) x (by simpa using hx)
      injection e with e; injection e with e1 e2
      subst e1; subst e2
      exact ⟨b, o + 5, t', rfl, hS', by rwa [show o + 5 + j * 5 = o + (j + 1) * 5 by omega], hL'⟩
    refine ⟨(a, t) :: r, by simp [h1], fun x hx => ?_, fun j u hu => ?_⟩
    · rcases List.mem_cons.1 hx with rfl | hx
      · exact hL
      · exact h2 x hx
    · rw [cells5_cons] at hu
      obtain ⟨c0, c1, c2, c3, c4⟩ := hC
      simp only [Nat.zero_mul, Nat.add_zero] at c0 c1 c2 c3 c4
      rcases Nat.lt_or_ge j 5 with hj | hj
      · have : j = 0 ∨ j = 1 ∨ j = 2 ∨ j = 3 ∨ j = 4 := by omega
        rcases this with rfl | rfl | rfl | rfl | rfl <;> (simp at hu; subst hu; assumption)
      · rw [List.getElem?_append_right (by simp; omega)] at hu
        have hu' : (cells5 r)[j - 5]? = some u := hu
        have := h3 _ u hu'
        rwa [show o + 5 + (j - 5) = o + j by omega] at this
theorem one_cells5 {w : World} {S : Nat → Prop} {r : Rows5} (h : ∀ x ∈ r, Lay w S x.1 x.2) : ∀ u ∈ cells5 r, u.oneCell' = true := by
  intro u hu
  unfold cells5 at hu
  obtain ⟨x, hx, hu⟩ := List.mem_flatMap.1 hu
  obtain ⟨A, c, he, _, _⟩ := (h x hx).form_
  simp at hu
  rcases hu with rfl | rfl | rfl | rfl | rfl
  all_goals first | rfl | (rw [he]; rfl)
theorem info_dep5 : ∃ i z, Tryz.prog.info? 39 = some i ∧ i.zero = some z ∧ z.cells.size = 5 ∧ i.size = 5 ∧ i.bytes = 72 := by
  have h : (Tryz.prog.info? 39).map (fun i => (i.zero.map fun z => z.cells.size, i.size, i.bytes)) = some (some 5, 5, 72) := by kernel_rfl
  obtain ⟨i, hi, h2⟩ := Option.map_eq_some_iff.1 h
  simp only [Prod.mk.injEq] at h2
  obtain ⟨z, hz, h3⟩ := Option.map_eq_some_iff.1 h2.1
  exact ⟨i, z, hi, hz, h3, h2.2.1, h2.2.2⟩

structure MSt (d : Dep) (S : Nat → Prop) (w0 w : World) (v : Value) (r : Rows5) (k n : Nat) : Prop where
  own : w.ownsRow w0.heap.size 39 5 v r.length (cells5 r)
  lay : ∀ x ∈ r, Lay w S x.1 x.2 ∧ form x.1 = true
  leaf : n + leavesA ((r.drop k).map Prod.fst) = leaves d
  node : k + nodesA ((r.drop k).map Prod.fst) = nodes d
  below : Below w0.heap.size w0 w
theorem MSt.next {d : Dep} {S : Nat → Prop} {w0 w w' : World} {v v' : Value} {r q : Rows5} {k n : Nat} {a : Dep} {t : Value} (h : MSt d S w0 w v r k n) (hS : ∀ b, S b → b < w0.heap.size) (hk : r[k]? = some (a, t)) (hq : q.map Prod.fst = a.args) (hqL : ∀ x ∈ q, Lay w S x.1 x.2)
    (hown : w'.ownsRow w0.heap.size 39 5 v' (r.length + q.length) (cells5 r ++ cells5 q)) (hb : Below w0.heap.size w w') : MSt d S w0 w' v' (r ++ q) (k + 1) (n + if a.kind = 1 then 1 else 0) := by
  have hlt : k < r.length := (List.getElem?_eq_some_iff.1 hk).1
  have hst : StayS S w w' := StayS.below hb hS
  have hm : (a, t) ∈ r := List.mem_of_getElem? hk
  have hf := (h.lay _ hm).2
  have hd : r.drop k = (a, t) :: r.drop (k + 1) := by
    rw [List.drop_eq_getElem_cons hlt]
    rw [List.getElem?_eq_getElem hlt] at hk
    injection hk with hk
    rw [hk]
  have hd2 : (r ++ q).drop (k + 1) = r.drop (k + 1) ++ q := by rw [List.drop_append_of_le_length (by omega)]
  have h1 := h.leaf
  have h2 := h.node
  rw [hd] at h1 h2
  simp only [List.map_cons, leavesA, nodesA] at h1 h2
  have hl : leaves a = (if a.kind = 1 then 1 else 0) + leavesA a.args := by
    obtain ⟨ka, na, oa, ea, da⟩ := a
    by_cases hk1 : ka = 1
    · obtain ⟨_, _, rfl⟩ := may_leaf (form_may hf) hk1
      simp [leaves, Dep.kind, Dep.args, hk1, leavesA]
    · simp [leaves, Dep.kind, Dep.args, hk1]
  refine ⟨by rw [List.length_append, cells5_append]; exact hown, fun x hx => ?_, ?_, ?_, h.below.trans hb⟩
  · rcases List.mem_append.1 hx with hx | hx
    · have := h.lay x hx
      exact ⟨this.1.stay (fun _ h => h) hst, this.2⟩
    · refine ⟨(hqL x hx).stay (fun _ h => h) hst, forms_mem (form_args hf) _ ?_⟩
      show x.1 ∈ a.args
      rw [← hq]; exact List.mem_map.2 ⟨x, hx, rfl⟩
  · rw [hd2, List.map_append, hq, leavesA_append]
    omega
  · rw [hd2, List.map_append, hq, nodesA_append]
    have := nodes_parts a
    omega

set_option maxHeartbeats 4000000 in
set_option maxRecDepth 1000000 in
theorem many_any (d : Dep) (s : Value) (S : Nat → Prop) (w0 : World) (hL : Lay w0 S d s) (hS : ∀ b, S b → b < w0.heap.size) (hf : form d = true) (hN : nodes d ≤ 4194304) :
    Calls Tryz.prog 222 #[.agg (rowD d s)] w0 fun e w' => e = .returned (.bool (decide (16 < leaves d))) ∧ Below w0.heap.size w0 w' := by
  obtain ⟨A0, c0, rfl, _, _⟩ := hL.form_
  have HI : Hid (MSt d S w0 ((w0.alloc (.cells (rowD d (.slice A0 d.args.length c0)) 39)).alloc (.cells (rowD d (.slice A0 d.args.length c0)) 39)) (.slice (some ⟨w0.heap.size + 1, 0, none⟩) 1 1) [(d, .slice A0 d.args.length c0)] 0 0) := by
    have hb : Below w0.heap.size w0 ((w0.alloc (.cells (rowD d (.slice A0 d.args.length c0)) 39)).alloc (.cells (rowD d (.slice A0 d.args.length c0)) 39)) := ((Below.refl _ _).alloc (Nat.le_refl _) _).alloc (by simp) _
    refine ⟨⟨rfl, .inr ⟨w0.heap.size + 1, 1, rowD d (.slice A0 d.args.length c0), rfl, by omega, Blk.new' (w := w0.alloc (.cells (rowD d (.slice A0 d.args.length c0)) 39)) (by simp), by simp, by simp [maxLen], rfl, rfl⟩⟩, fun x hx => ?_, by simp [leavesA], by simp [nodesA], hb⟩
    have : x = (d, .slice A0 d.args.length c0) := by simpa using hx
    subst this
    exact ⟨hL.stay (fun _ h => h) (StayS.below' hb), hf⟩
  have HNL := Lib.hid (nodes_leaves d hf)
  clear hL hf
  unfold rowD at HI ⊢
  obtain ⟨x, hx⟩ : ∃ x, x = decide (16 < leaves d) := ⟨_, rfl⟩
  rw [← hx]
  have HX := Lib.hid hx
  clear hx
  go_enter Tryz.func222, Tryz.ntmps222
  go_wp2_with fail
  generalize (w0.alloc (.cells #[.int .i64 d.kind, .string d.name, .int .i64 d.op, .string d.evr, .slice A0 d.args.length c0] 39)).alloc (.cells #[.int .i64 d.kind, .string d.name, .int .i64 d.op, .string d.evr, .slice A0 d.args.length c0] 39) = w1 at *
  go_loopw [3, 4, 5] (fun v nm i wx => ∃ (r : Rows5) (k n : Nat), i = .int .i64 (k : Int) ∧ nm = .int .i64 (n : Int) ∧ k ≤ r.length ∧ r.length ≤ 31 ∧ n ≤ k ∧ Hid (MSt d S w0 wx v r k n)) (fun v nm i wx => 31 - (intOf i).toNat)
  case atStart => exact ⟨_, 0, 0, rfl, rfl, by simp, by simp, Nat.le_refl _, HI⟩
  case round =>
    obtain ⟨r, k, n, rfl, rfl, hk, hr, hnk, H⟩ := hrel
    obtain ⟨A, c, hv, hrc, hc⟩ := own_form' H.out.own
    subst hv
    clear HI
    by_cases hlt : k < r.length
    · obtain ⟨⟨a, t⟩, ha⟩ : ∃ x, r[k]? = some x := ⟨_, List.getElem?_eq_getElem hlt⟩
      have hla := H.out.lay _ (List.mem_of_getElem? ha)
      obtain ⟨A1, c1, ht, hl1, hc1⟩ := hla.1.form_
      simp only at ht hl1
      subst ht
      obtain ⟨q0, q1, q2, q3, q4⟩ := cells5_at ha
      obtain ⟨b, rfl, k0⟩ := own_ats H.out.own q0
      obtain ⟨_, e4, k4⟩ := own_ats H.out.own q4
      injection e4 with e4; injection e4 with e4
      subst e4
      have hsum : r.length + a.args.length ≤ nodes d := by
        have h2 := H.out.node
        have hd : r.drop k = (a, .slice A1 a.args.length c1) :: r.drop (k + 1) := by
          rw [List.drop_eq_getElem_cons hlt]
          rw [List.getElem?_eq_getElem hlt] at ha
          injection ha with ha
          rw [ha]
        rw [hd] at h2
        simp only [List.map_cons, nodesA] at h2
        have h3 := nodes_parts a
        have h4 := nodesA_ge a.args
        have h5 := nodesA_ge ((r.drop (k + 1)).map Prod.fst)
        rw [List.length_map, List.length_drop] at h5
        omega
      have hl8 : (r.length : Int) + (a.args.length : Int) ≤ 4194304 := by omega
      unfold maxLen at hc hc1
      by_cases hbig : 31 < r.length + a.args.length
      · have HV : Hid (x = true) := by show x = true; rw [HX.out]; have := HNL.out; exact decide_eq_true (by omega)
        have HB := Lib.hid H.out.below
        have tb : (31 : Int) < (r.length : Int) + (a.args.length : Int) := by omega
        clear H HX q0 q1 q2 q3 q4 hla ha
        go_wp2_with fail
        go_ret
        exact ⟨by rw [HV.out]; rfl, HB.out⟩
      · have tb : ¬ (31 : Int) < (r.length : Int) + (a.args.length : Int) := by omega
        have tb' : (r.length : Int) + (a.args.length : Int) ≤ 31 := by omega
        have hge := H.out.below.size
        have hbb : w0.heap.size ≤ b := by
          rcases H.out.own.2 with ⟨h1, _⟩ | ⟨g', cap, cur, h1, h2, _⟩
          · cases h1
          · injection h1 with h1
            injection h1 with h1
            injection h1 with h1
            omega
        obtain ⟨i0, z0, hi0, hz0, hz1, hz2, hz3⟩ := info_dep5
        have hi := Lib.hid hi0
        have HZ := Lib.hid (And.intro hz0 (And.intro hz1 (And.intro hz2 hz3)))
        have Ha := Lib.hid ha
        have HLa := Lib.hid hla.1
        clear hi0 hz0 hz1 hz2 hz3 q0 q1 q2 q3 q4 hla ha HX
        cases A1 with
        | none =>
          obtain ⟨rfl, h0, h00⟩ := HLa.out.nil_
          have HN := Lib.hid (H.out.next (q := []) hS Ha.out (by rw [h00]; rfl) (fun x hx => (by cases hx)) (by simpa [cells5] using H.out.own) (Below.refl _ _ |>.mono hge))
          rw [List.append_nil] at HN
          rw [h0] at k4 tb tb'
          have O := Lib.hid H.out.own
          clear h0 h00 H
          by_cases h1 : a.kind = 1
          · rw [h1] at k0
            rw [if_pos h1] at HN
            clear h1
            go_wp2_with (at_builtin; refine wpList_append_own_none rfl (.tmp 32) (.tmp 37) 35 rfl w0.heap.size 39 i0 5 Tryz.underlying35 hi.out _ _ _ rfl O.out rfl ?_)
            go_roundw
            case rel => exact ⟨r, k + 1, n + 1, by go_num, by go_num, by omega, by omega, by omega, HN⟩
            case measure => simp [intOf]; omega
          · have t1 : (a.kind == 1) = false := beq_eq_false_iff_ne.2 h1
            rw [if_neg h1] at HN
            clear h1
            go_wp2_with (at_builtin; refine wpList_append_own_none rfl (.tmp 32) (.tmp 37) 35 rfl w0.heap.size 39 i0 5 Tryz.underlying35 hi.out _ _ _ rfl O.out rfl ?_)
            go_roundw
            case rel => exact ⟨r, k + 1, n, by go_num, rfl, by omega, by omega, by omega, HN⟩
            case measure => simp [intOf]; omega
        | some ad =>
          obtain ⟨A2, c2, he2, _, _, hA⟩ := HLa.out.args_
          injection he2 with he2 _ he3
          subst he2
          subst he3
          simp only at k4
          have hq : ∃ q : Rows5, q.map Prod.fst = a.args ∧ (∀ x ∈ q, Lay wr S x.1 x.2) ∧ ∀ j u, (cells5 q)[j]? = some u → wr.cell? (ad.add j) = some u := by
            rcases Nat.eq_zero_or_pos a.args.length with h0 | h0
            · exact ⟨[], (List.eq_nil_of_length_eq_zero h0).symm, fun x hx => (by cases hx), fun j u hu => (by simp [cells5] at hu)⟩
            · obtain ⟨b', o', t', e, _, _, _⟩ := hA 0 (a.args[0]'h0) (List.getElem?_eq_getElem h0)
              injection e with e
              subst e
              obtain ⟨q, h1, h2, h3⟩ := args_rows a.args b' o' hA
              refine ⟨q, h1, h2, fun j u hu => ?_⟩
              have := h3 j u hu
              unfold Addr.add
              split
              · rename_i h0; subst h0; exact this
              · exact this
          obtain ⟨q, hq1, hq2, hq3⟩ := hq
          have hql : q.length = a.args.length := by rw [← hq1, List.length_map]
          have HQ1 := Lib.hid hq1
          have HQ2 := Lib.hid hq2
          have HQ3 := Lib.hid hq3
          have hq5 : (cells5 q).length = a.args.length * 5 := by rw [cells5_len, hql]
          have HQ5 := Lib.hid hq5
          have HQL := Lib.hid hql
          have HG := Lib.hid hge
          clear hA hq1 hq2 hq3 hq5 hql hge
          by_cases h1 : a.kind = 1
          · rw [h1] at k0
            have HK : Hid (n + 1 = n + if a.kind = 1 then 1 else 0) := by show _ = _; rw [if_pos h1]
            clear h1
            go_wp2_with (at_builtin; refine wpList_append_own_at _ rfl (.tmp 32) (.tmp 37) 35 rfl w0.heap.size 39 i0 z0 5 72 Tryz.underlying35 hi.out HZ.out.1 HZ.out.2.2.1 HZ.out.2.2.2 HZ.out.2.1 (by decide) (.slice (some ⟨b, 0, none⟩) r.length c) r.length (cells5 r) rfl H.out.own ad a.args.length c1 (cells5 q) rfl HQ5.out HQ3.out (one_cells5 HQ2.out) (by unfold maxLen; omega) (by omega) HG.out ?_; intro v4 w4 hown4 hg4 hnil4 hat4; have hb4 : Below w0.heap.size wr w4 := (Turned.grown (Turned.refl [b] wr) hg4 (fun k hk => .inl (by simp [Value.ownBlock] at hk; simp [hk]))).below (fun k hk => by simp at hk; omega) HG.out; have HN := Lib.hid (H.out.next hS Ha.out HQ1.out HQ2.out (by rw [HQL.out]; exact hown4) hb4); clear hown4 hg4 hnil4 hat4 hb4)
            rw [← HK.out] at HN
            go_roundw
            case rel => exact ⟨r ++ q, k + 1, n + 1, by go_num, by go_num, by rw [List.length_append]; omega, by rw [List.length_append, HQL.out]; omega, by omega, HN⟩
            case measure => simp [intOf]; omega
          · have t1 : (a.kind == 1) = false := beq_eq_false_iff_ne.2 h1
            have HK : Hid (n = n + if a.kind = 1 then 1 else 0) := by show _ = _; rw [if_neg h1]; rfl
            clear h1
            go_wp2_with (at_builtin; refine wpList_append_own_at _ rfl (.tmp 32) (.tmp 37) 35 rfl w0.heap.size 39 i0 z0 5 72 Tryz.underlying35 hi.out HZ.out.1 HZ.out.2.2.1 HZ.out.2.2.2 HZ.out.2.1 (by decide) (.slice (some ⟨b, 0, none⟩) r.length c) r.length (cells5 r) rfl H.out.own ad a.args.length c1 (cells5 q) rfl HQ5.out HQ3.out (one_cells5 HQ2.out) (by unfold maxLen; omega) (by omega) HG.out ?_; intro v4 w4 hown4 hg4 hnil4 hat4; have hb4 : Below w0.heap.size wr w4 := (Turned.grown (Turned.refl [b] wr) hg4 (fun k hk => .inl (by simp [Value.ownBlock] at hk; simp [hk]))).below (fun k hk => by simp at hk; omega) HG.out; have HN := Lib.hid (H.out.next hS Ha.out HQ1.out HQ2.out (by rw [HQL.out]; exact hown4) hb4); clear hown4 hg4 hnil4 hat4 hb4)
            rw [← HK.out] at HN
            go_roundw
            case rel => exact ⟨r ++ q, k + 1, n, by go_num, rfl, by rw [List.length_append]; omega, by rw [List.length_append, HQL.out]; omega, by omega, HN⟩
            case measure => simp [intOf]; omega
    · have HV : Hid (x = decide (16 < n)) := by
        show x = _
        rw [HX.out]
        have h1 := H.out.leaf
        rw [List.drop_eq_nil_of_le (by omega)] at h1
        simp only [List.map_nil, leavesA] at h1
        rw [← h1]; rfl
      have HB := Lib.hid H.out.below
      clear H HX
      go_wp2_with fail
      go_ret
      refine ⟨ret_bool ?_, HB.out⟩
      rw [HV.out, Bool.eq_iff_iff]
      simp <;> omega
end Go.Proofs.YtdhgiammfpjniaaGreatDoor.Ev

/- A field's relations: what the text says, cut at commas and bars. -/
namespace Go.Proofs.YtdhgiammfpjniaaGreatDoor
set_option linter.unusedSimpArgs false
set_option linter.unusedVariables false
open Go.RowKit

theorem split_len (sep : ByteArray) (h1 : 1 ≤ sep.size) : ∀ (N : Nat) (s : ByteArray), s.size ≤ N → (Lib.splitB sep 0 (Lib.countB s sep) s).length = Lib.countB s sep + 1 ∧ ∀ x ∈ Lib.splitB sep 0 (Lib.countB s sep) s, x.size ≤ s.size := by
  intro N
  induction N with
  | zero =>
    intro s hs
    rcases Lib.indexB_cases s sep with h | ⟨i, h, hi⟩
    · rw [Lib.countB_miss s sep h, Lib.splitB_zero]
      exact ⟨rfl, fun x hx => by simp at hx; rw [hx]; exact Nat.le_refl _⟩
    · omega
  | succ N ih =>
    intro s hs
    rcases Lib.indexB_cases s sep with h | ⟨i, h, hi⟩
    · rw [Lib.countB_miss s sep h, Lib.splitB_zero]
      exact ⟨rfl, fun x hx => by simp at hx; rw [hx]; exact Nat.le_refl _⟩
    · rw [Lib.countB_hit s sep i h1 h, Nat.add_comm 1, Lib.splitB_hit sep 0 _ s i h]
      have hz : (s.extract (i + sep.size) s.size).size ≤ N := by rw [ByteArray.size_extract]; omega
      obtain ⟨h2, h3⟩ := ih _ hz
      refine ⟨by rw [List.length_cons, h2], fun x hx => ?_⟩
      rcases List.mem_cons.1 hx with rfl | hx
      · rw [ByteArray.size_extract]; omega
      · have := h3 x hx
        rw [ByteArray.size_extract] at this
        omega
def partsX (c : UInt8) (l : Bs) : List Bs := (Lib.splitB (mkS [c]) 0 (Lib.countB (mkS l) (mkS [c])) (mkS l)).map fun s => s.data.toList
theorem parts_len (c : UInt8) (l : Bs) : (partsX c l).length = Lib.countB (mkS l) (mkS [c]) + 1 := by
  unfold partsX
  rw [List.length_map]
  exact (split_len (mkS [c]) (by rw [mkS_size]; simp) _ (mkS l) (Nat.le_refl _)).1
theorem parts_cells (c : UInt8) (l : Bs) : (Lib.splitB (mkS [c]) 0 (Lib.countB (mkS l) (mkS [c])) (mkS l)).map Value.string = (partsX c l).map fun p => Value.string (mkS p) := by
  unfold partsX
  rw [List.map_map]
  refine List.map_congr_left fun s _ => ?_
  show Value.string s = Value.string (mkS s.data.toList)
  rw [show mkS s.data.toList = s from s_ext (by rw [mkS_list])]
def depR (q : Rl) : Ev.Dep := .mk 1 (mkS q.nm) q.op (mkS q.ev) []
end Go.Proofs.YtdhgiammfpjniaaGreatDoor

/- What is in memory while relations are read. -/
namespace Go.Proofs.YtdhgiammfpjniaaGreatDoor
set_option linter.unusedSimpArgs false
set_option linter.unusedVariables false
open Go.RowKit

theorem Blk.mono {w w' : World} {g : Nat} {t : TypeId} {cs : Array Value} (h : Blk w g t cs) (hb : Below w.heap.size w w') : Blk w' g t cs := Blk.below h hb (Blk.lt h)
def MaxAt (w : World) : Prop := ∃ m, w.cell? ⟨5, 0, none⟩ = some (.int .i64 m)
theorem MaxAt.below {w w' : World} (h : MaxAt w) (hb : Below w.heap.size w w') : MaxAt w' := by
  obtain ⟨m, h⟩ := h
  exact ⟨m, (World.cell?_of_block (hb.block _ (cell_lt h))).trans h⟩
def strs_ (ps : List Bs) : Array Value := (ps.map fun p => Value.string (mkS p)).toArray
theorem split_any (c : UInt8) (l : Bs) (hl : l.length ≤ 200000) (w : World) (hm : MaxAt w) :
    Calls Tryz.prog 108 #[.string (mkS l), .string (mkS [c])] w fun e w' => ∃ b, e = .returned (.slice (some ⟨b, 0, none⟩) (partsX c l).length (partsX c l).length) ∧ Blk w' b 9 (strs_ (partsX c l)) ∧ Below w.heap.size w w' := by
  obtain ⟨m, hm⟩ := hm
  refine (Tryz.strings_Split (mkS l) (mkS [c]) m w (by rw [mkS_size]; omega) hm (by rw [mkS_size]; simp)).mono ?_
  rintro e w' ⟨rfl, rfl⟩
  rw [parts_len, parts_cells]
  exact ⟨w.heap.size, rfl, Blk.new _ _ _, (Below.refl _ _).alloc (Nat.le_refl _) _⟩
def rowR (q : Rl) : Ev.Dep × Value := (depR q, .slice none 0 0)
theorem rowR_cells (q : Rl) : Ev.cells5 [rowR q] = (relC q).toList := rfl
structure ReM (w0 w : World) (v : Value) (r : Ev.Rows5) (F : List Nat) : Prop where
  own : w.ownsRow w0.heap.size 39 5 v r.length (Ev.cells5 r)
  lay : ∀ x ∈ r, Ev.Lay w (fun b => b ∈ F) x.1 x.2
  dep : ∀ b ∈ F, w0.heap.size ≤ b ∧ (∃ cs, Blk w b 39 cs) ∧ v.ownBlock ≠ some b
  bel : Below w0.heap.size w0 w
structure EiM (w0 w : World) (v v' : Value) (qs : List Rl) (F : List Nat) : Prop where
  own : w.ownsRow w0.heap.size 39 5 v' qs.length (Ev.cells5 (qs.map rowR))
  far : ∀ k, v'.ownBlock = some k → k ∉ F ∧ v.ownBlock ≠ some k
section
variable {w0 w w' : World} {v v' v'' : Value} {r : Ev.Rows5} {F : List Nat} {qs : List Rl} {q : Rl}
theorem ReM.turned {G : List Nat} (h : ReM w0 w v r F) (ht : Turned G w w') (hG : ∀ k ∈ G, w0.heap.size ≤ k ∧ k ∉ F ∧ v.ownBlock ≠ some k) : ReM w0 w' v r F :=
  ⟨own_turned h.own ht (fun k hk hm => (hG k hm).2.2 hk), fun x hx => Ev.Lay.stay (fun _ h => h) (Ev.StayS.turned ht (fun b hb hm => (hG b hm).2.1 hb)) x.1 x.2 (h.lay x hx),
    fun b hb => by
      obtain ⟨h1, ⟨cs, h2⟩, h3⟩ := h.dep b hb
      exact ⟨h1, ⟨cs, h2.turned ht (fun hm => (hG b hm).2.1 hb)⟩, h3⟩,
    h.bel.trans (ht.below (fun k hk => (hG k hk).1) h.bel.size)⟩
theorem ReM.below (h : ReM w0 w v r F) (hb : Below w.heap.size w w') : ReM w0 w' v r F := h.turned (Turned.of_below hb []) (fun k hk => by cases hk)
theorem EiM.below (h : EiM w0 w v v' qs F) (hb : Below w.heap.size w w') : EiM w0 w' v v' qs F := ⟨own_turned h.own (Turned.of_below hb []) (fun _ _ => by simp), h.far⟩
theorem grown_turned {row : Option Nat} (h : w.grownBy w' row) : Turned row.toList w w' := (Turned.refl _ w).grown h (fun k hk => .inl (by rw [hk]; simp))
theorem cells_snoc (a : Ev.Rows5) (x : Ev.Dep × Value) : Ev.cells5 (a ++ [x]) = Ev.cells5 a ++ Ev.cells5 [x] := Ev.cells5_append a [x]
theorem EiM.put (h : EiM w0 w v v' qs F) (hR : ReM w0 w v r F) (hown : w'.ownsRow w0.heap.size 39 5 v'' (qs.length + 1) (Ev.cells5 (qs.map rowR) ++ (relC q).toList)) (hg : w.grownBy w' v'.ownBlock) (hat : v''.ownBlock = v'.ownBlock ∨ v''.ownBlock = some w.heap.size) :
    EiM w0 w' v v'' (qs ++ [q]) F ∧ ReM w0 w' v r F := by
  refine ⟨⟨?_, fun k hk => ?_⟩, hR.turned (grown_turned hg) (fun k hk => ?_)⟩
  · rw [List.map_append, List.map_singleton, cells_snoc, rowR_cells, List.length_append]
    exact hown
  · rcases hat with e | e
    · exact h.far k (by rw [← e]; exact hk)
    · rw [e] at hk
      injection hk with hk
      refine ⟨fun hm => ?_, fun hv => ?_⟩
      · obtain ⟨_, ⟨cs, hb⟩, _⟩ := hR.dep k hm
        have := hb.lt
        omega
      · have := own_lt hR.own hv
        omega
  · have hk' : v'.ownBlock = some k := by simpa using hk
    exact ⟨(h.own.lt k hk').1, (h.far k hk').1, (h.far k hk').2⟩
theorem ReM.add (h : ReM w0 w v r F) {x : Ev.Dep × Value} {G : List Nat} (hx : Ev.Lay w (fun b => b ∈ G ++ F) x.1 x.2) (hG : ∀ b ∈ G, w0.heap.size ≤ b ∧ (∃ cs, Blk w b 39 cs) ∧ v.ownBlock ≠ some b)
    (hown : w'.ownsRow w0.heap.size 39 5 v'' (r.length + 1) (Ev.cells5 r ++ Ev.cells5 [x])) (hg : w.grownBy w' v.ownBlock) (hat : v''.ownBlock = v.ownBlock ∨ v''.ownBlock = some w.heap.size) : ReM w0 w' v'' (r ++ [x]) (G ++ F) := by
  have ht := grown_turned hg
  have hall : ∀ b ∈ G ++ F, w0.heap.size ≤ b ∧ (∃ cs, Blk w b 39 cs) ∧ v.ownBlock ≠ some b := fun b hb => by
    rcases List.mem_append.1 hb with hb | hb
    · exact hG b hb
    · exact h.dep b hb
  have hst : Ev.StayS (fun b => b ∈ G ++ F) w w' := Ev.StayS.turned ht (fun b hb hm => (hall b hb).2.2 (by simpa using hm))
  refine ⟨by rw [cells_snoc, List.length_append]; exact hown, fun y hy => ?_, fun b hb => ?_, h.bel.trans (ht.below (fun k hk => (h.own.lt k (by simpa using hk)).1) h.bel.size)⟩
  · rcases List.mem_append.1 hy with hy | hy
    · exact Ev.Lay.stay (fun _ h => h) hst y.1 y.2 (Ev.Lay.stay (fun b hb => List.mem_append_right _ hb) (Ev.StayS.refl _ _) y.1 y.2 (h.lay y hy))
    · rw [List.mem_singleton] at hy
      subst hy
      exact Ev.Lay.stay (fun _ h => h) hst y.1 y.2 hx
  · obtain ⟨h1, ⟨cs, h2⟩, h3⟩ := hall b hb
    refine ⟨h1, ⟨cs, h2.turned ht (fun hm => h3 (by simpa using hm))⟩, fun hv => ?_⟩
    rcases hat with e | e
    · exact h3 (by rw [← e]; exact hv)
    · rw [e] at hv
      injection hv with hv
      have := h2.lt
      omega
theorem ReM.one (h : ReM w0 w v r F) (hown : w'.ownsRow w0.heap.size 39 5 v'' (r.length + 1) (Ev.cells5 r ++ (relC q).toList)) (hg : w.grownBy w' v.ownBlock) (hat : v''.ownBlock = v.ownBlock ∨ v''.ownBlock = some w.heap.size) : ReM w0 w' v'' (r ++ [rowR q]) F := by
  have := h.add (x := rowR q) (G := []) (Ev.Lay.none_ _ _ _ _ _ _) (fun b hb => by cases hb) hown hg hat
  simpa using this
theorem or_lay (h : EiM w0 w v v' qs F) : Ev.Lay w (fun b => b ∈ v'.ownBlock.toList ++ F) (.mk 3 ⟨#[]⟩ 0 ⟨#[]⟩ (qs.map depR)) v' := by
  rw [Ev.lay_iff]
  have hlen : (Ev.Dep.mk 3 ⟨#[]⟩ 0 ⟨#[]⟩ (qs.map depR)).args.length = qs.length := List.length_map ..
  rw [hlen]
  have hargs : (Ev.Dep.mk 3 ⟨#[]⟩ 0 ⟨#[]⟩ (qs.map depR)).args = qs.map depR := rfl
  rw [hargs]
  rcases h.own.2 with ⟨rfl, h0⟩ | ⟨g, cap, cur, rfl, hb, hg, h1, h2, h3, ht⟩
  · refine ⟨none, 0, by rw [h0], by omega, ⟨by unfold maxLen; omega, fun _ => rfl⟩, fun j a ha => ?_⟩
    have : qs = [] := List.length_eq_zero_iff.1 h0
    subst this
    simp at ha
  · refine ⟨some ⟨g, 0, none⟩, cap, rfl, h1, ⟨h2, fun e => (by cases e)⟩, fun j a ha => ?_⟩
    rw [List.getElem?_map] at ha
    obtain ⟨q, hq, rfl⟩ := Option.map_eq_some_iff.1 ha
    have hr : (qs.map rowR)[j]? = some (rowR q) := by rw [List.getElem?_map, hq]; rfl
    obtain ⟨c0, c1, c2, c3, c4⟩ := Ev.cells5_at hr
    have hat : ∀ {k : Nat} {u : Value}, (Ev.cells5 (qs.map rowR))[k]? = some u → w.cell? ⟨g, k, none⟩ = some u := fun {k u} hk => by
      obtain ⟨b, e, hc⟩ := own_ats h.own hk
      injection e with e
      injection e with e
      subst e
      exact hc
    refine ⟨g, 0, .slice none 0 0, rfl, by simp [Value.ownBlock], ⟨?_, ?_, ?_, ?_, ?_⟩, Ev.Lay.none_ _ _ _ _ _ _⟩
    · rw [Nat.zero_add]; exact hat c0
    · rw [Nat.zero_add]; exact hat c1
    · rw [Nat.zero_add]; exact hat c2
    · rw [Nat.zero_add]; exact hat c3
    · rw [Nat.zero_add]; exact hat c4
theorem ReM.or (h : ReM w0 w v r F) (he : EiM w0 w v v' qs F) (hown : w'.ownsRow w0.heap.size 39 5 v'' (r.length + 1) (Ev.cells5 r ++ [.int .i64 3, .string ⟨#[]⟩, .int .i64 0, .string ⟨#[]⟩, v'])) (hg : w.grownBy w' v.ownBlock) (hat : v''.ownBlock = v.ownBlock ∨ v''.ownBlock = some w.heap.size) :
    ReM w0 w' v'' (r ++ [(.mk 3 ⟨#[]⟩ 0 ⟨#[]⟩ (qs.map depR), v')]) (v'.ownBlock.toList ++ F) := by
  refine h.add (or_lay he) (fun b hb => ?_) hown hg hat
  have hb' : v'.ownBlock = some b := by simpa using hb
  refine ⟨(he.own.lt b hb').1, ?_, (he.far b hb').2⟩
  rcases he.own.2 with ⟨rfl, h0⟩ | ⟨g, cap, cur, rfl, hb2, hg2, _⟩
  · cases hb'
  · injection hb' with hb'
    subst hb'
    exact ⟨cur, hg2⟩
end
end Go.Proofs.YtdhgiammfpjniaaGreatDoor

/- relations: its walk. -/
namespace Go.Proofs.YtdhgiammfpjniaaGreatDoor
set_option linter.unusedSimpArgs false
set_option linter.unusedVariables false
open Go.RowKit

structure DbS (w : World) : Prop where
  max : MaxAt w
  sgn : SgnAt w
theorem DbS.below {w w' : World} (h : DbS w) (hb : Below w.heap.size w w') : DbS w' := ⟨h.max.below hb, h.sgn.below' hb⟩
end Go.Proofs.YtdhgiammfpjniaaGreatDoor
