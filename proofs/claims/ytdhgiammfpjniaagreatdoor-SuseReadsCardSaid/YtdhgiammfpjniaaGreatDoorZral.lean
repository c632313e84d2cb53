/- Parts of the proof. -/
import Derived.Test.YtdhgiammfpjniaaGreatDoorZrak
import Derived.Laws.AppendOwnNone
import Derived.Test.YtdhgiammfpjniaaGreatDoorZrad
import Derived.Lib.SplitLaws
import Derived.Deep.LoopGhost
import Derived.Test.YtdhgiammfpjniaaGreatDoorZraa
import Derived.MapKept
import Derived.Shelf.Strings.FuncGrows
import Derived.Test.YtdhgiammfpjniaaGreatDoorZrab
import Derived.Test.YtdhgiammfpjniaaGreatDoorZrai
namespace Go.Proofs.YtdhgiammfpjniaaGreatDoor.Ev
set_option linter.unusedSimpArgs false
set_option linter.unusedVariables false
open Go.RowKit
abbrev Rows5 := List (Dep × Value)
def cells5 (r : Rows5) : List Value := r.flatMap fun x => [.int .i64 x.1.kind, .string x.1.name, .int .i64 x.1.op, .string x.1.evr, x.2]
theorem aeQt (x : Dep × Value) (r : Rows5) : cells5 (x :: r) = [.int .i64 x.1.kind, .string x.1.name, .int .i64 x.1.op, .string x.1.evr, x.2] ++ cells5 r := rfl
theorem cells5_append (a b : Rows5) : cells5 (a ++ b) = cells5 a ++ cells5 b := by simp [cells5]
theorem cells5_len (r : Rows5) : (cells5 r).length = r.length * 5 := by
 induction r with
 | nil => rfl
 | cons x r ih => rw [aeQt, List.length_append, ih]; simp; omega
theorem cells5_at {r : Rows5} {k : Nat} {x : Dep × Value} (h : r[k]? = some x) : (cells5 r)[k * 5]? = some (.int .i64 x.1.kind) ∧ (cells5 r)[k * 5 + 1]? = some (.string x.1.name) ∧ (cells5 r)[k * 5 + 2]? = some (.int .i64 x.1.op) ∧ (cells5 r)[k * 5 + 3]? = some (.string x.1.evr) ∧ (cells5 r)[k * 5 + 4]? = some x.2 := by
 induction r generalizing k with
 | nil => cases h
 | cons y r ih =>
   cases k with
   | zero => injection h with h; subst h; exact ⟨rfl, rfl, rfl, rfl, rfl⟩
   | succ k =>
     have := ih (k := k) (by simpa using h)
     rw [aeQt]
     have e : ∀ i, ([Value.int .i64 y.1.kind, .string y.1.name, .int .i64 y.1.op, .string y.1.evr, y.2] ++ cells5 r)[(k + 1) * 5 + i]? = (cells5 r)[k * 5 + i]? := fun i => by
      rw [List.getElem?_append_right (by simp; omega)]
      congr 1
      simp; omega
     have e0 := e 0
     simp only [Nat.add_zero] at e0
     rw [e0, e 1, e 2, e 3, e 4]
     exact this
theorem alQs {w : World} {S : Nat → Prop} : ∀ (ds : List Dep) (b o : Nat), ArgsAt w S ds (some ⟨b, o, none⟩) → ∃ r : Rows5, r.map Prod.fst = ds ∧ (∀ x ∈ r, Lay w S x.1 x.2) ∧ ∀ j u, (cells5 r)[j]? = some u → w.cell? ⟨b, o + j, none⟩ = some u
 | [], b, o, _ => ⟨[], rfl, fun x hx => (by cases hx), fun j u hu => (by simp [cells5] at hu)⟩
 | a :: ds, b, o, h => by
   obtain ⟨b', o', t, e, hS, hC, hL⟩ := h 0 a rfl
   injection e with e; injection e with e1 e2
   subst e1; subst e2
   obtain ⟨r, h1, h2, h3⟩ := alQs ds b (o + 5) fun j x hx => by
    obtain ⟨b', o', t', e, hS', hC', hL'⟩ := h (j + 1) x (by simpa using hx)
    injection e with e; injection e with e1 e2
    subst e1; subst e2
    exact ⟨b, o + 5, t', rfl, hS', by rwa [show o + 5 + j * 5 = o + (j + 1) * 5 by omega], hL'⟩
   refine ⟨(a, t) :: r, by simp [h1], fun x hx => ?_, fun j u hu => ?_⟩
   ·rcases List.mem_cons.1 hx with rfl | hx
    ·exact hL
    ·exact h2 x hx
   ·rw [aeQt] at hu
    obtain ⟨c0, c1, c2, c3, c4⟩ := hC
    simp only [Nat.zero_mul, Nat.add_zero] at c0 c1 c2 c3 c4
    rcases Nat.lt_or_ge j 5 with hj | hj
    ·have : j = 0 ∨ j = 1 ∨ j = 2 ∨ j = 3 ∨ j = 4 := by omega
     rcases this with rfl | rfl | rfl | rfl | rfl <;> (simp at hu; subst hu; assumption)
    ·rw [List.getElem?_append_right (by simp; omega)] at hu
     have hu' : (cells5 r)[j - 5]? = some u := hu
     have := h3 _ u hu'
     rwa [show o + 5 + (j - 5) = o + j by omega] at this
theorem aiQd {w : World} {S : Nat → Prop} {r : Rows5} (h : ∀ x ∈ r, Lay w S x.1 x.2) : ∀ u ∈ cells5 r, u.oneCell' = true := by
 intro u hu
 unfold cells5 at hu
 obtain ⟨x, hx, hu⟩ := List.mem_flatMap.1 hu
 obtain ⟨A, c, he, _, _⟩ := (h x hx).form_
 simp at hu
 rcases hu with rfl | rfl | rfl | rfl | rfl
 all_goals first | rfl | (rw [he]; rfl)
theorem aaQ7 : ∃ i z, Tryz.prog.info? 39 = some i ∧ i.zero = some z ∧ z.cells.size = 5 ∧ i.size = 5 ∧ i.bytes = 72 := by
 have h : (Tryz.prog.info? 39).map (fun i => (i.zero.map fun z => z.cells.size, i.size, i.bytes)) = some (some 5, 5, 72) := by kernel_rfl
 obtain ⟨i, hi, h2⟩ := Option.map_eq_some_iff.1 h
 simp only [Prod.mk.injEq] at h2
 obtain ⟨z, hz, h3⟩ := Option.map_eq_some_iff.1 h2.1
 exact ⟨i, z, hi, hz, h3, h2.2.1, h2.2.2⟩
structure MSt (d : Dep) (S : Nat → Prop) (w0 w : World) (v : Value) (r : Rows5) (k n : Nat) : Prop where
 own : w.ownsRow w0.heap.size 39 5 v r.length (cells5 r)
 lay : ∀ x ∈ r, Lay w S x.1 x.2 ∧ form x.1 = true
 leaf : n + aaQv ((r.drop k).map Prod.fst) = abQd d
 node : k + aaQk ((r.drop k).map Prod.fst) = nodes d
 below : Below w0.heap.size w0 w
theorem MSt.next {d : Dep} {S : Nat → Prop} {w0 w w' : World} {v v' : Value} {r q : Rows5} {k n : Nat} {a : Dep} {t : Value} (h : MSt d S w0 w v r k n) (hS : ∀ b, S b → b < w0.heap.size) (hk : r[k]? = some (a, t)) (hq : q.map Prod.fst = a.args) (hqL : ∀ x ∈ q, Lay w S x.1 x.2)
 (hown : w'.ownsRow w0.heap.size 39 5 v' (r.length + q.length) (cells5 r ++ cells5 q)) (hb : Below w0.heap.size w w') : MSt d S w0 w' v' (r ++ q) (k + 1) (n + if a.kind = 1 then 1 else 0) := by
 have hlt : k < r.length := (List.getElem?_eq_some_iff.1 hk).1
 have hst : StayS S w w' := StayS.below hb hS
 have hm : (a, t) ∈ r := List.mem_of_getElem? hk
 have hf := (h.lay _ hm).2
 have hd : r.drop k = (a, t) :: r.drop (k + 1) := by
  rw [List.drop_eq_getElem_cons hlt]
  rw [List.getElem?_eq_getElem hlt] at hk
  injection hk with hk
  rw [hk]
 have hd2 : (r ++ q).drop (k + 1) = r.drop (k + 1) ++ q := by rw [List.drop_append_of_le_length (by omega)]
 have h1 := h.leaf
 have h2 := h.node
 rw [hd] at h1 h2
 simp only [List.map_cons, aaQv, aaQk] at h1 h2
 have hl : abQd a = (if a.kind = 1 then 1 else 0) + aaQv a.args := by
  obtain ⟨ka, na, oa, ea, da⟩ := a
  by_cases hk1 : ka = 1
  ·obtain ⟨_, _, rfl⟩ := aeQ3 (aeQk hf) hk1
   simp [abQd, Dep.kind, Dep.args, hk1, aaQv]
  ·simp [abQd, Dep.kind, Dep.args, hk1]
 refine ⟨by rw [List.length_append, cells5_append]; exact hown, fun x hx => ?_, ?_, ?_, h.below.trans hb⟩
 ·rcases List.mem_append.1 hx with hx | hx
  ·have := h.lay x hx
   exact ⟨this.1.stay (fun _ h => h) hst, this.2⟩
  ·refine ⟨(hqL x hx).stay (fun _ h => h) hst, acQ0 (aeQb hf) _ ?_⟩
   show x.1 ∈ a.args
   rw [← hq]; exact List.mem_map.2 ⟨x, hx, rfl⟩
 ·rw [hd2, List.map_append, hq, acQ8]
  omega
 ·rw [hd2, List.map_append, hq, abQm]
  have := abQ1 a
  omega
set_option maxHeartbeats 4000000 in
set_option maxRecDepth 1000000 in
theorem many_any (d : Dep) (s : Value) (S : Nat → Prop) (w0 : World) (hL : Lay w0 S d s) (hS : ∀ b, S b → b < w0.heap.size) (hf : form d = true) (hN : nodes d ≤ 4194304) :
 Calls Tryz.prog 222 #[.agg (rowD d s)] w0 fun e w' => e = .returned (.bool (decide (16 < abQd d))) ∧ Below w0.heap.size w0 w' := by
 obtain ⟨A0, c0, rfl, _, _⟩ := hL.form_
 have HI : Hid (MSt d S w0 ((w0.alloc (.cells (rowD d (.slice A0 d.args.length c0)) 39)).alloc (.cells (rowD d (.slice A0 d.args.length c0)) 39)) (.slice (some ⟨w0.heap.size + 1, 0, none⟩) 1 1) [(d, .slice A0 d.args.length c0)] 0 0) := by
  have hb : Below w0.heap.size w0 ((w0.alloc (.cells (rowD d (.slice A0 d.args.length c0)) 39)).alloc (.cells (rowD d (.slice A0 d.args.length c0)) 39)) := ((Below.refl _ _).alloc (Nat.le_refl _) _).alloc (by simp) _
  refine ⟨⟨rfl, .inr ⟨w0.heap.size + 1, 1, rowD d (.slice A0 d.args.length c0), rfl, by omega, Blk.new' (w := w0.alloc (.cells (rowD d (.slice A0 d.args.length c0)) 39)) (by simp), by simp, by simp [maxLen], rfl, rfl⟩⟩, fun x hx => ?_, by simp [aaQv], by simp [aaQk], hb⟩
  have : x = (d, .slice A0 d.args.length c0) := by simpa using hx
  subst this
  exact ⟨hL.stay (fun _ h => h) (StayS.below' hb), hf⟩
 have HNL := hQQ (nodes_leaves d hf)
 clear hL hf
 unfold rowD at HI ⊢
 obtain ⟨x, hx⟩ : ∃ x, x = decide (16 < abQd d) := ⟨_, rfl⟩
 rw [← hx]
 have HX := hQQ hx
 clear hx
 go_enter Tryz.func222, Tryz.ntmps222
 go_wp2_with fail
 generalize (w0.alloc (.cells #[.int .i64 d.kind, .string d.name, .int .i64 d.op, .string d.evr, .slice A0 d.args.length c0] 39)).alloc (.cells #[.int .i64 d.kind, .string d.name, .int .i64 d.op, .string d.evr, .slice A0 d.args.length c0] 39) = w1 at *
 go_loopw [3, 4, 5] (fun v nm i wx => ∃ (r : Rows5) (k n : Nat), i = .int .i64 (k : Int) ∧ nm = .int .i64 (n : Int) ∧ k ≤ r.length ∧ r.length ≤ 31 ∧ n ≤ k ∧ Hid (MSt d S w0 wx v r k n)) (fun v nm i wx => 31 - (intOf i).toNat)
 case atStart => exact ⟨_, 0, 0, rfl, rfl, by simp, by simp, Nat.le_refl _, HI⟩
 case round =>
  obtain ⟨r, k, n, rfl, rfl, hk, hr, hnk, H⟩ := hrel
  obtain ⟨A, c, hv, hrc, hc⟩ := aaQc H.out.own
  subst hv
  clear HI
  by_cases hlt : k < r.length
  ·obtain ⟨⟨a, t⟩, ha⟩ : ∃ x, r[k]? = some x := ⟨_, List.getElem?_eq_getElem hlt⟩
   have hla := H.out.lay _ (List.mem_of_getElem? ha)
   obtain ⟨A1, c1, ht, hl1, hc1⟩ := hla.1.form_
   simp only at ht hl1
   subst ht
   obtain ⟨q0, q1, q2, q3, q4⟩ := cells5_at ha
   obtain ⟨b, rfl, k0⟩ := abQl H.out.own q0
   obtain ⟨_, e4, k4⟩ := abQl H.out.own q4
   injection e4 with e4; injection e4 with e4
   subst e4
   have hsum : r.length + a.args.length ≤ nodes d := by
    have h2 := H.out.node
    have hd : r.drop k = (a, .slice A1 a.args.length c1) :: r.drop (k + 1) := by
     rw [List.drop_eq_getElem_cons hlt]
     rw [List.getElem?_eq_getElem hlt] at ha
     injection ha with ha
     rw [ha]
    rw [hd] at h2
    simp only [List.map_cons, aaQk] at h2
    have h3 := abQ1 a
    have h4 := abQ7 a.args
    have h5 := abQ7 ((r.drop (k + 1)).map Prod.fst)
    rw [List.length_map, List.length_drop] at h5
    omega
   have hl8 : (r.length : Int) + (a.args.length : Int) ≤ 4194304 := by omega
   unfold maxLen at hc hc1
   by_cases hbig : 31 < r.length + a.args.length
   ·have HV : Hid (x = true) := by show x = true; rw [HX.out]; have := HNL.out; exact decide_eq_true (by omega)
    have HB := hQQ H.out.below
    have tb : (31 : Int) < (r.length : Int) + (a.args.length : Int) := by omega
    clear H HX q0 q1 q2 q3 q4 hla ha
    go_wp2_with fail
    go_ret
    exact ⟨by rw [HV.out]; rfl, HB.out⟩
   ·have tb : ¬ (31 : Int) < (r.length : Int) + (a.args.length : Int) := by omega
    have tb' : (r.length : Int) + (a.args.length : Int) ≤ 31 := by omega
    have hge := H.out.below.size
    have hbb : w0.heap.size ≤ b := by
     rcases H.out.own.2 with ⟨h1, _⟩ | ⟨g', cap, cur, h1, h2, _⟩
     ·cases h1
     ·injection h1 with h1
      injection h1 with h1
      injection h1 with h1
      omega
    obtain ⟨i0, z0, hi0, hz0, hz1, hz2, hz3⟩ := aaQ7
    have hi := hQQ hi0
    have HZ := hQQ (And.intro hz0 (And.intro hz1 (And.intro hz2 hz3)))
    have Ha := hQQ ha
    have HLa := hQQ hla.1
    clear hi0 hz0 hz1 hz2 hz3 q0 q1 q2 q3 q4 hla ha HX
    cases A1 with
    | none =>
      obtain ⟨rfl, h0, h00⟩ := HLa.out.nil_
      have HN := hQQ (H.out.next (q := []) hS Ha.out (by rw [h00]; rfl) (fun x hx => (by cases hx)) (by simpa [cells5] using H.out.own) (Below.refl _ _ |>.mono hge))
      rw [List.append_nil] at HN
      rw [h0] at k4 tb tb'
      have O := hQQ H.out.own
      clear h0 h00 H
      by_cases h1 : a.kind = 1
      ·rw [h1] at k0
       rw [if_pos h1] at HN
       clear h1
       go_wp2_with (at_builtin; refine wpList_append_own_none rfl (.tmp 32) (.tmp 37) 35 rfl w0.heap.size 39 i0 5 Tryz.underlying35 hi.out _ _ _ rfl O.out rfl ?_)
       go_roundw
       case rel => exact ⟨r, k + 1, n + 1, by go_num, by go_num, by omega, by omega, by omega, HN⟩
       case measure => simp [intOf]; omega
      ·have t1 : (a.kind == 1) = false := beq_eq_false_iff_ne.2 h1
       rw [if_neg h1] at HN
       clear h1
       go_wp2_with (at_builtin; refine wpList_append_own_none rfl (.tmp 32) (.tmp 37) 35 rfl w0.heap.size 39 i0 5 Tryz.underlying35 hi.out _ _ _ rfl O.out rfl ?_)
       go_roundw
       case rel => exact ⟨r, k + 1, n, by go_num, rfl, by omega, by omega, by omega, HN⟩
       case measure => simp [intOf]; omega
    | some ad =>
      obtain ⟨A2, c2, he2, _, _, hA⟩ := HLa.out.args_
      injection he2 with he2 _ he3
      subst he2
      subst he3
      simp only at k4
      have hq : ∃ q : Rows5, q.map Prod.fst = a.args ∧ (∀ x ∈ q, Lay wr S x.1 x.2) ∧ ∀ j u, (cells5 q)[j]? = some u → wr.cell? (ad.add j) = some u := by
       rcases Nat.eq_zero_or_pos a.args.length with h0 | h0
       ·exact ⟨[], (List.eq_nil_of_length_eq_zero h0).symm, fun x hx => (by cases hx), fun j u hu => (by simp [cells5] at hu)⟩
       ·obtain ⟨b', o', t', e, _, _, _⟩ := hA 0 (a.args[0]'h0) (List.getElem?_eq_getElem h0)
        injection e with e
        subst e
        obtain ⟨q, h1, h2, h3⟩ := alQs a.args b' o' hA
        refine ⟨q, h1, h2, fun j u hu => ?_⟩
        have := h3 j u hu
        unfold Addr.add
        split
        ·rename_i h0; subst h0; exact this
        ·exact this
      obtain ⟨q, hq1, hq2, hq3⟩ := hq
      have hql : q.length = a.args.length := by rw [← hq1, List.length_map]
      have HQ1 := hQQ hq1
      have HQ2 := hQQ hq2
      have HQ3 := hQQ hq3
      have hq5 : (cells5 q).length = a.args.length * 5 := by rw [cells5_len, hql]
      have HQ5 := hQQ hq5
      have HQL := hQQ hql
      have HG := hQQ hge
      clear hA hq1 hq2 hq3 hq5 hql hge
      by_cases h1 : a.kind = 1
      ·rw [h1] at k0
       have HK : Hid (n + 1 = n + if a.kind = 1 then 1 else 0) := by show _ = _; rw [if_pos h1]
       clear h1
       go_wp2_with (at_builtin; refine wpList_append_own_at _ rfl (.tmp 32) (.tmp 37) 35 rfl w0.heap.size 39 i0 z0 5 72 Tryz.underlying35 hi.out HZ.out.1 HZ.out.2.2.1 HZ.out.2.2.2 HZ.out.2.1 (by decide) (.slice (some ⟨b, 0, none⟩) r.length c) r.length (cells5 r) rfl H.out.own ad a.args.length c1 (cells5 q) rfl HQ5.out HQ3.out (aiQd HQ2.out) (by unfold maxLen; omega) (by omega) HG.out ?_; intro v4 w4 hown4 hg4 hnil4 hat4; have hb4 : Below w0.heap.size wr w4 := (Turned.grown (Turned.refl [b] wr) hg4 (fun k hk => .inl (by simp [Value.ownBlock] at hk; simp [hk]))).below (fun k hk => by simp at hk; omega) HG.out; have HN := hQQ (H.out.next hS Ha.out HQ1.out HQ2.out (by rw [HQL.out]; exact hown4) hb4); clear hown4 hg4 hnil4 hat4 hb4)
       rw [← HK.out] at HN
       go_roundw
       case rel => exact ⟨r ++ q, k + 1, n + 1, by go_num, by go_num, by rw [List.length_append]; omega, by rw [List.length_append, HQL.out]; omega, by omega, HN⟩
       case measure => simp [intOf]; omega
      ·have t1 : (a.kind == 1) = false := beq_eq_false_iff_ne.2 h1
       have HK : Hid (n = n + if a.kind = 1 then 1 else 0) := by show _ = _; rw [if_neg h1]; rfl
       clear h1
       go_wp2_with (at_builtin; refine wpList_append_own_at _ rfl (.tmp 32) (.tmp 37) 35 rfl w0.heap.size 39 i0 z0 5 72 Tryz.underlying35 hi.out HZ.out.1 HZ.out.2.2.1 HZ.out.2.2.2 HZ.out.2.1 (by decide) (.slice (some ⟨b, 0, none⟩) r.length c) r.length (cells5 r) rfl H.out.own ad a.args.length c1 (cells5 q) rfl HQ5.out HQ3.out (aiQd HQ2.out) (by unfold maxLen; omega) (by omega) HG.out ?_; intro v4 w4 hown4 hg4 hnil4 hat4; have hb4 : Below w0.heap.size wr w4 := (Turned.grown (Turned.refl [b] wr) hg4 (fun k hk => .inl (by simp [Value.ownBlock] at hk; simp [hk]))).below (fun k hk => by simp at hk; omega) HG.out; have HN := hQQ (H.out.next hS Ha.out HQ1.out HQ2.out (by rw [HQL.out]; exact hown4) hb4); clear hown4 hg4 hnil4 hat4 hb4)
       rw [← HK.out] at HN
       go_roundw
       case rel => exact ⟨r ++ q, k + 1, n, by go_num, rfl, by rw [List.length_append]; omega, by rw [List.length_append, HQL.out]; omega, by omega, HN⟩
       case measure => simp [intOf]; omega
  ·have HV : Hid (x = decide (16 < n)) := by
    show x = _
    rw [HX.out]
    have h1 := H.out.leaf
    rw [List.drop_eq_nil_of_le (by omega)] at h1
    simp only [List.map_nil, aaQv] at h1
    rw [← h1]; rfl
   have HB := hQQ H.out.below
   clear H HX
   go_wp2_with fail
   go_ret
   refine ⟨aaQj ?_, HB.out⟩
   rw [HV.out, Bool.eq_iff_iff]
   simp <;> omega
end Go.Proofs.YtdhgiammfpjniaaGreatDoor.Ev

namespace Go.Proofs.YtdhgiammfpjniaaGreatDoor
set_option linter.unusedSimpArgs false
set_option linter.unusedVariables false
open Go.RowKit
theorem Blk.mono {w w' : World} {g : Nat} {t : TypeId} {cs : Array Value} (h : Blk w g t cs) (hb : Below w.heap.size w w') : Blk w' g t cs := Blk.below h hb (Blk.lt h)
def MaxAt (w : World) : Prop := ∃ m, w.cell? ⟨5, 0, none⟩ = some (.int .i64 m)
theorem MaxAt.below {w w' : World} (h : MaxAt w) (hb : Below w.heap.size w w') : MaxAt w' := by
 obtain ⟨m, h⟩ := h
 exact ⟨m, (World.cell?_of_block (hb.block _ (aeQu h))).trans h⟩
section
variable {w0 w w' : World} {v v' v'' : Value} {r : Ev.Rows5} {F : List Nat} {qs : List Rl} {q : Rl}
theorem aaQi {row : Option Nat} (h : w.grownBy w' row) : Turned row.toList w w' := (Turned.refl _ w).grown h (fun k hk => .inl (by rw [hk]; simp))
end
end Go.Proofs.YtdhgiammfpjniaaGreatDoor

namespace Go.Proofs.YtdhgiammfpjniaaGreatDoor
set_option linter.unusedSimpArgs false
set_option linter.unusedVariables false
open Go.RowKit Go.MapKept
def mapEs : List (ByteArray × Value) → Nat → List MapEntry
 | [], _ => []
 | (k, v) :: r, i => ⟨.string k, v, i⟩ :: mapEs r (i + 1)
def mapO (l : List (ByteArray × Value)) : Obj := .map (mapEs l 0).toArray l.length
def lookO (k : ByteArray) : List (ByteArray × Value) → Option Value
 | [] => none
 | (a, v) :: r => if k = a then some v else lookO k r
theorem aiQf (k : ByteArray) (v : Value) : ∀ (l : List (ByteArray × Value)) (i : Nat), mapEs (l ++ [(k, v)]) i = mapEs l i ++ [⟨.string k, v, i + l.length⟩]
 | [], i => rfl
 | (a, u) :: r, i => by
   show (⟨.string a, u, i⟩ : MapEntry) :: mapEs (r ++ [(k, v)]) (i + 1) = _
   rw [aiQf k v r (i + 1)]
   show _ = (⟨.string a, u, i⟩ : MapEntry) :: (mapEs r (i + 1) ++ [⟨.string k, v, i + (r.length + 1)⟩])
   rw [show i + 1 + r.length = i + (r.length + 1) from by omega]
theorem aiQy (a b : ByteArray) : Instr.sameNow .string (.string a) (.string b) = some (decide (a = b)) := by
 show some (a == b) = _
 congr 1
 rw [Bool.eq_iff_iff, bytes_beq]
 simp
theorem amQ1 (k : ByteArray) : ∀ (l : List (ByteArray × Value)) (i j : Nat), (lookO k l = none ∧ Instr.findNow .string (.string k) (mapEs l i) j = some none) ∨ ∃ p v, lookO k l = some v ∧ Instr.findNow .string (.string k) (mapEs l i) j = some (some (p, v))
 | [], i, j => .inl ⟨rfl, rfl⟩
 | (a, v) :: r, i, j => by
   unfold mapEs Instr.findNow lookO
   rw [aiQy]
   by_cases h : k = a
   ·rw [decide_eq_true h, if_pos h]
    exact .inr ⟨j, v, rfl, rfl⟩
   ·rw [decide_eq_false h, if_neg h]
    exact amQ1 k r (i + 1) (j + 1)
section
variable {P : Program} {w : World} {mty kt et : TypeId} {m : Nat} {l : List (ByteArray × Value)} {k : ByteArray} {v : Value}
theorem run_look (hm : P.underlying mty = some (.map kt et)) (hd : P.underlying kt = some .string) (hz : ∀ w, (zeroValue et).run P w = .ok .nilFunc w) (hb : w.heap[m]? = some (mapO l)) :
 (Instr.lookup mty (.map (some m)) (.string k) false).run P w = .ok ((lookO k l).getD .nilFunc) w := by
 have hk : IsKey .string (.string k) := by simp [IsKey]
 unfold mapO at hb
 rcases amQ1 k l 0 0 with ⟨h1, h2⟩ | ⟨p, u, h1, h2⟩
 ·rw [h1]
  simp [Instr.lookup, run_underlying hm, Go.MapKept.run_getObj_map hb, run_checkKey hd hk, run_findKey hd h2, hz, Result.andThen]
 ·rw [h1]
  simp [Instr.lookup, run_underlying hm, Go.MapKept.run_getObj_map hb, run_checkKey hd hk, run_findKey hd h2, Result.andThen]
theorem aqQe (hm : P.underlying mty = some (.map kt et)) (hd : P.underlying kt = some .string) (hb : w.heap[m]? = some (mapO l)) (hn : lookO k l = none) :
 ∃ w', (Instr.mapUpdate mty (.map (some m)) (.string k) v).run P w = .ok () w' ∧ w'.heap[m]? = some (mapO (l ++ [(k, v)])) ∧ Turned [m] w w' := by
 have hk : IsKey .string (.string k) := by simp [IsKey]
 have hb' := hb
 unfold mapO at hb
 rcases amQ1 k l 0 0 with ⟨h1, h2⟩ | ⟨p, u, h1, h2⟩
 rotate_left
 ·rw [hn] at h1; cases h1
 refine ⟨{ w with heap := w.heap.setIfInBounds m (mapO (l ++ [(k, v)])) }, ?_, (heap_set hb').1, ⟨rfl, rfl, rfl, by simp, fun j hj hjm => (heap_set hb').2 j (fun e => hjm (by simp [e]))⟩⟩
 have he : mapO (l ++ [(k, v)]) = .map ((mapEs l 0).toArray.push ⟨.string k, v, l.length⟩) (l.length + 1) := by
  unfold mapO
  rw [aiQf]
  simp
 rw [he]
 simp [Instr.mapUpdate, run_underlying hm, Go.MapKept.run_getObj_map hb, run_checkKey hd hk, run_findKey hd h2, run_setObj_map _ hb, Result.andThen]
end
theorem aaQy {P : Program} (w : World) {ops : Array Oper} {rest : List Oper} {o : Oper} {a : Act} {Q : Exit → Act → World → Prop}
 (hg : o.guard = none) (m x v : Operand) (t : TypeId) (hop : o.op = Op.insert t m x v)
 (kt et : TypeId) (ht : P.underlying t = some (.map kt et)) (hd : P.underlying kt = some .string) (b : Nat) (l : List (ByteArray × Value)) (hm : a.eval m = .map (some b)) (hb : w.heap[b]? = some (mapO l))
 (key : ByteArray) (val : Value) (hx : a.eval x = .string key) (hv : a.eval v = val) (hn : lookO key l = none)
 (hK : ∀ w', w'.heap[b]? = some (mapO (l ++ [(key, val)])) → Turned [b] w w' → wpList P ops Q rest (a.put o.dst undef) w') :
 wpList P ops Q (o :: rest) a w := by
 refine wpList_plain hg fun K' hK' => ?_
 obtain ⟨w', hrun, r1, r2⟩ := aqQe (v := val) ht hd hb hn
 unfold Oper.wp
 simp [execOp, hop, hm, hx, hv, hrun, Result.andThen]
 exact hK' _ _ (hK w' r1 r2)
theorem aqQ6 (w : World) : (w.alloc (.map #[] 0)).heap[w.heap.size]? = some (mapO []) := (heap_alloc w _).1
theorem abQ2 {w w' : World} {F : List Nat} {m : Nat} {l : List (ByteArray × Value)} (h : w.heap[m]? = some (mapO l)) (ht : Turned F w w') (hF : m ∉ F) : w'.heap[m]? = some (mapO l) := by
 rw [ht.block m (Array.getElem?_eq_some_iff.1 h).1 hF]; exact h
theorem ahQg {w w' : World} {m : Nat} {l : List (ByteArray × Value)} (h : w.heap[m]? = some (mapO l)) (hb : Below w.heap.size w w') : w'.heap[m]? = some (mapO l) := abQ2 h (Turned.of_below hb []) (fun hk => by cases hk)
theorem acQz {w : World} {m g : Nat} {l : List (ByteArray × Value)} {t : TypeId} {cs : Array Value} (h : w.heap[m]? = some (mapO l)) (hb : Blk w g t cs) : m ≠ g := fun e => by
 subst e
 have h1 : some (mapO l) = some (Obj.cells cs t (0, 0)) := h.symm.trans hb
 cases h1
end Go.Proofs.YtdhgiammfpjniaaGreatDoor

namespace Go.Proofs.YtdhgiammfpjniaaGreatDoor
open Go.Shelf
open Go.RowKit Go.Lib in
theorem Tryz.strings_ContainsFunc_grows (g : Nat) (lb : Array Value) (eg : ∀ args w, (callFunc g args).run Tryz.prog w = .ok (.enter g args) w) (p : Nat → Bool) (s : ByteArray) (w : World) (hp : PredGrows Tryz.prog g lb p w) :
 Calls Tryz.prog 122 #[.string s, .func (.func g) #[] lb] w fun e w' => e = .returned (.bool (decide (0 ≤ Lib.idxFunc p true s))) ∧ Below w.heap.size w w' := Any.strings_ContainsFunc_grows Tryz.laysGw17 g lb eg p s w hp
end Go.Proofs.YtdhgiammfpjniaaGreatDoor

namespace Go.Proofs.YtdhgiammfpjniaaGreatDoor.Ev
set_option linter.unusedSimpArgs false
set_option linter.unusedVariables false
open Go.RowKit
def Anys {α : Type} (l : List α) (G : α → Bool → Prop) (b : Bool) : Prop := (b = true ∧ ∃ a ∈ l, G a true) ∨ (b = false ∧ ∀ a ∈ l, G a false)
theorem Anys.det {α : Type} {l : List α} {G : α → Bool → Prop} {p : α → Bool} {b : Bool} (h : Anys l G b) (hg : ∀ a b, G a b → b = p a) : b = l.any p := by
 rcases h with ⟨rfl, a, ha, h1⟩ | ⟨rfl, h1⟩
 ·exact (List.any_eq_true.2 ⟨a, ha, (hg a true h1).symm⟩).symm
 ·symm
  rw [List.any_eq_false]
  intro a ha
  rw [← hg a false (h1 a ha)]
  decide
theorem alQu {α : Type} {l : List α} {k : Nat} {a : α} {P : α → Prop} (h : ∀ x ∈ l.take k, P x) (hk : l[k]? = some a) (ha : P a) : ∀ x ∈ l.take (k + 1), P x := by
 rw [List.take_add_one, hk]
 intro x hx
 rcases List.mem_append.1 hx with hx | hx
 ·exact h x hx
 ·simp at hx; subst hx; exact ha
def arQ8 {α : Type} (l : List α) (G : α → Bool → Prop) (e : Ending) : Prop := ∃ (n : Int) (b : Bool), decide (0 ≤ n) = b ∧ Anys l G b ∧ e = .returned (.int .i64 n)
def abQw (R : Bool → Prop) (e : Ending) : Prop := ∃ b, R b ∧ e = .returned (.bool b)
def acQ2 (R : Int → Prop) (e : Ending) : Prop := ∃ n, R n ∧ e = .returned (.int .i64 n)
set_option maxHeartbeats 2000000 in
set_option maxRecDepth 100000 in
theorem alQi (f : FuncId) (ef : ∀ args w, (callFunc f args).run Tryz.prog w = .ok (.enter f args) w) (G : Dep → Bool → Prop) (ds : List Dep) (A : Option Addr) (c : Nat) (S : Nat → Prop) (w0 : World) (hA : ArgsAt w0 S ds A) (hl : ds.length ≤ c) (hc : c ≤ maxLen)
 (hp : ∀ d ∈ ds, ∀ (t : Value) (w : World), Below w0.heap.size w0 w → Lay w S d t → Calls Tryz.prog f #[.agg (rowD d t)] w fun e w' => abQw (G d) e ∧ Below w.heap.size w w') :
 Calls Tryz.prog 130 #[.slice A ds.length c, .func (.func f) #[] #[]] w0 fun e w' => arQ8 ds G e ∧ Below w0.heap.size w0 w' := by
 unfold maxLen at hc
 rcases Nat.eq_zero_or_pos ds.length with h0 | h0
 ·obtain rfl := List.eq_nil_of_length_eq_zero h0
  clear hA h0 hp
  go_enter Tryz.func130, Tryz.ntmps130
  go_wp2_with fail
  go_loop [8] (fun i => i = .int .i64 0) (fun i => 0)
  case atStart => rfl
  case round =>
   subst hrel
   go_wp2_with fail
   go_ret
   exact ⟨⟨-1, false, by decide, .inr ⟨rfl, by simp⟩, rfl⟩, Below.refl _ _⟩
 obtain ⟨b, o, -, rfl, -, -, -⟩ := hA 0 ds[0] (List.getElem?_eq_getElem h0)
 have HA : Hid (∀ (k : Nat) (hk : k < ds.length), ∃ t, S b ∧ CellsD w0 b (o + k * 5) ds[k] t ∧ Lay w0 S ds[k] t) := fun k hk => by
  obtain ⟨b', o', t, e, h1, h2, h3⟩ := hA k ds[k] (List.getElem?_eq_getElem hk)
  injection e with e
  injection e with e1 e2
  subst e1; subst e2
  exact ⟨t, h1, h2, h3⟩
 have HPr := hQQ hp
 clear hA hp
 go_enter Tryz.func130, Tryz.ntmps130
 go_wp2_with fail
 go_loopw [8] (fun i wx => ∃ k : Nat, k ≤ ds.length ∧ i = .int .i64 (k : Int) ∧ Hid (∀ a ∈ ds.take k, G a false) ∧ Hid (Below w0.heap.size w0 wx)) (fun i _ => ds.length - (intOf i).toNat)
 case atStart => exact ⟨0, Nat.zero_le _, rfl, show ∀ a ∈ ds.take 0, G a false from by simp, Below.refl _ _⟩
 case round =>
  obtain ⟨k, hk, rfl, hall, hb⟩ := hrel
  by_cases hlt : k < ds.length
  ·obtain ⟨t, hS, hC, hL⟩ := HA.out k hlt
   have hC2 := hC.stay (hb.out.block b hC.lt)
   have hL2 := hL.stay (fun _ h => h) (StayS.below' hb.out)
   obtain ⟨c0, c1, c2, c3, c4⟩ := hC2
   have C := hQQ (HPr.out ds[k] (List.getElem_mem hlt) t wr hb.out hL2)
   unfold rowD at C
   have hz := hb.out.size
   clear hS hC hL hL2
   go_wp2_with fail
   refine C.out.mono ?_
   rintro e w1 ⟨⟨bb, hg, rfl⟩, hb1⟩
   have HB : Hid (Below w0.heap.size w0 w1) := hb.out.trans (hb1.mono hz)
   clear hb1 hb C c0 c1 c2 c3 c4
   have HG := hQQ hg
   clear hg
   cases bb with
   | false =>
     have HN : Hid (∀ a ∈ ds.take (k + 1), G a false) := alQu hall.out (List.getElem?_eq_getElem hlt) HG.out
     clear hall HG
     go_wp2_with fail
     go_roundw
     case rel => exact ⟨k + 1, by omega, by go_num, HN, HB⟩
     case measure => simp [intOf]; omega
   | true =>
     have HN : Hid (Anys ds G true) := .inl ⟨rfl, ds[k], List.getElem_mem hlt, HG.out⟩
     clear hall HG
     go_wp2_with fail
     go_ret
     exact ⟨⟨k, true, by simp, HN.out, rfl⟩, HB.out⟩
  ·have HN : Hid (Anys ds G false) := .inr ⟨rfl, by
    have := hall.out
    rwa [List.take_of_length_le (by omega)] at this⟩
   clear hall
   go_wp2_with fail
   go_ret
   exact ⟨⟨-1, false, by decide, HN.out, rfl⟩, hb.out⟩
set_option maxHeartbeats 1000000 in
set_option maxRecDepth 100000 in
theorem acQ1 (f : FuncId) (ef : ∀ args w, (callFunc f args).run Tryz.prog w = .ok (.enter f args) w) (G : Dep → Bool → Prop) (ds : List Dep) (A : Option Addr) (c : Nat) (S : Nat → Prop) (w0 : World) (hA : ArgsAt w0 S ds A) (hl : ds.length ≤ c) (hc : c ≤ maxLen)
 (hp : ∀ d ∈ ds, ∀ (t : Value) (w : World), Below w0.heap.size w0 w → Lay w S d t → Calls Tryz.prog f #[.agg (rowD d t)] w fun e w' => abQw (G d) e ∧ Below w.heap.size w w') :
 Calls Tryz.prog 65 #[.slice A ds.length c, .func (.func f) #[] #[]] w0 fun e w' => abQw (Anys ds G) e ∧ Below w0.heap.size w0 w' := by
 have C := hQQ (alQi f ef G ds A c S w0 hA hl hc hp)
 clear hA hp
 go_enter Tryz.func65, Tryz.ntmps65
 go_wp2_with fail
 refine C.out.mono ?_
 rintro e w1 ⟨⟨n, b, hn, ha, rfl⟩, hb1⟩
 have HB := hQQ hb1
 have HN := hQQ hn
 have HA := hQQ ha
 clear hb1 hn C ha
 go_wp2_with fail
 go_ret
 exact ⟨⟨b, HA.out, aaQj HN.out⟩, HB.out⟩
def TextsAt (w : World) (T : Nat → Prop) (fl : List ByteArray) (A : Option Addr) : Prop := ∀ k s, fl[k]? = some s → ∃ b o, A = some ⟨b, o, none⟩ ∧ T b ∧ w.cell? ⟨b, o + k, none⟩ = some (.string s)
theorem TextsAt.stay {w w' : World} {T T' : Nat → Prop} {fl : List ByteArray} {A : Option Addr} (h : TextsAt w T fl A) (hT : ∀ b, T b → T' b) (hw : ∀ b, T b → b < w.heap.size → w'.heap[b]? = w.heap[b]?) : TextsAt w' T' fl A := fun k s hk => by
 obtain ⟨b, o, e, h1, h2⟩ := h k s hk
 exact ⟨b, o, e, hT b h1, (World.cell?_of_block (hw b h1 (aeQu h2))).trans h2⟩
set_option maxHeartbeats 2000000 in
set_option maxRecDepth 100000 in
theorem ajQ8 (f : FuncId) (ef : ∀ args w, (callFunc f args).run Tryz.prog w = .ok (.enter f args) w) (G : ByteArray → Bool → Prop) (ds : List ByteArray) (A : Option Addr) (c : Nat) (T : Nat → Prop) (w0 : World) (hA : TextsAt w0 T ds A) (hl : ds.length ≤ c) (hc : c ≤ maxLen)
 (hp : ∀ d ∈ ds, ∀ (w : World), Below w0.heap.size w0 w → Calls Tryz.prog f #[.string d] w fun e w' => abQw (G d) e ∧ Below w.heap.size w w') :
 Calls Tryz.prog 128 #[.slice A ds.length c, .func (.func f) #[] #[]] w0 fun e w' => arQ8 ds G e ∧ Below w0.heap.size w0 w' := by
 unfold maxLen at hc
 rcases Nat.eq_zero_or_pos ds.length with h0 | h0
 ·obtain rfl := List.eq_nil_of_length_eq_zero h0
  clear hA h0 hp
  go_enter Tryz.func128, Tryz.ntmps128
  go_wp2_with fail
  go_loop [8] (fun i => i = .int .i64 0) (fun i => 0)
  case atStart => rfl
  case round =>
   subst hrel
   go_wp2_with fail
   go_ret
   exact ⟨⟨-1, false, by decide, .inr ⟨rfl, by simp⟩, rfl⟩, Below.refl _ _⟩
 obtain ⟨b, o, rfl, -, -⟩ := hA 0 ds[0] (List.getElem?_eq_getElem h0)
 have HA : Hid (∀ (k : Nat) (hk : k < ds.length), w0.cell? ⟨b, o + k, none⟩ = some (.string ds[k])) := fun k hk => by
  obtain ⟨b', o', e, h1, h2⟩ := hA k ds[k] (List.getElem?_eq_getElem hk)
  injection e with e
  injection e with e1 e2
  subst e1; subst e2
  exact h2
 have HPr := hQQ hp
 clear hA hp
 go_enter Tryz.func128, Tryz.ntmps128
 go_wp2_with fail
 go_loopw [8] (fun i wx => ∃ k : Nat, k ≤ ds.length ∧ i = .int .i64 (k : Int) ∧ Hid (∀ a ∈ ds.take k, G a false) ∧ Hid (Below w0.heap.size w0 wx)) (fun i _ => ds.length - (intOf i).toNat)
 case atStart => exact ⟨0, Nat.zero_le _, rfl, show ∀ a ∈ ds.take 0, G a false from by simp, Below.refl _ _⟩
 case round =>
  obtain ⟨k, hk, rfl, hall, hb⟩ := hrel
  by_cases hlt : k < ds.length
  ·have hC := HA.out k hlt
   have c0 := (World.cell?_of_block (hb.out.block b (aeQu hC))).trans hC
   have C := hQQ (HPr.out ds[k] (List.getElem_mem hlt) wr hb.out)
   have hz := hb.out.size
   clear hC
   go_wp2_with fail
   refine C.out.mono ?_
   rintro e w1 ⟨⟨bb, hg, rfl⟩, hb1⟩
   have HB : Hid (Below w0.heap.size w0 w1) := hb.out.trans (hb1.mono hz)
   clear hb1 hb C c0
   have HG := hQQ hg
   clear hg
   cases bb with
   | false =>
     have HN : Hid (∀ a ∈ ds.take (k + 1), G a false) := alQu hall.out (List.getElem?_eq_getElem hlt) HG.out
     clear hall HG
     go_wp2_with fail
     go_roundw
     case rel => exact ⟨k + 1, by omega, by go_num, HN, HB⟩
     case measure => simp [intOf]; omega
   | true =>
     have HN : Hid (Anys ds G true) := .inl ⟨rfl, ds[k], List.getElem_mem hlt, HG.out⟩
     clear hall HG
     go_wp2_with fail
     go_ret
     exact ⟨⟨k, true, by simp, HN.out, rfl⟩, HB.out⟩
  ·have HN : Hid (Anys ds G false) := .inr ⟨rfl, by
    have := hall.out
    rwa [List.take_of_length_le (by omega)] at this⟩
   clear hall
   go_wp2_with fail
   go_ret
   exact ⟨⟨-1, false, by decide, HN.out, rfl⟩, hb.out⟩
set_option maxHeartbeats 1000000 in
set_option maxRecDepth 100000 in
theorem agQ1 (f : FuncId) (ef : ∀ args w, (callFunc f args).run Tryz.prog w = .ok (.enter f args) w) (G : ByteArray → Bool → Prop) (ds : List ByteArray) (A : Option Addr) (c : Nat) (T : Nat → Prop) (w0 : World) (hA : TextsAt w0 T ds A) (hl : ds.length ≤ c) (hc : c ≤ maxLen)
 (hp : ∀ d ∈ ds, ∀ (w : World), Below w0.heap.size w0 w → Calls Tryz.prog f #[.string d] w fun e w' => abQw (G d) e ∧ Below w.heap.size w w') :
 Calls Tryz.prog 62 #[.slice A ds.length c, .func (.func f) #[] #[]] w0 fun e w' => abQw (Anys ds G) e ∧ Below w0.heap.size w0 w' := by
 have C := hQQ (ajQ8 f ef G ds A c T w0 hA hl hc hp)
 clear hA hp
 go_enter Tryz.func62, Tryz.ntmps62
 go_wp2_with fail
 refine C.out.mono ?_
 rintro e w1 ⟨⟨n, b, hn, ha, rfl⟩, hb1⟩
 have HB := hQQ hb1
 have HN := hQQ hn
 have HA := hQQ ha
 clear hb1 hn C ha
 go_wp2_with fail
 go_ret
 exact ⟨⟨b, HA.out, aaQj HN.out⟩, HB.out⟩
end Go.Proofs.YtdhgiammfpjniaaGreatDoor.Ev
