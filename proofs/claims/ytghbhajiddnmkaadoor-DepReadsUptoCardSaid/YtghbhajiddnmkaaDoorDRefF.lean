/- The reference's reading, whole. -/
import Derived.Test.YtghbhajiddnmkaaDoorDRefK2
import Derived.Test.YtghbhajiddnmkaaDoorDRefK3
import Derived.Test.YtghbhajiddnmkaaDoorDRefK4
import Derived.Test.YtghbhajiddnmkaaDoorDRefK5
import Derived.Test.YtghbhajiddnmkaaDoorDRefK6
namespace Go.Proofs.YtghbhajiddnmkaaDoor
set_option linter.unusedSimpArgs false
set_option linter.unusedVariables false
open Go.RowKit

set_option maxHeartbeats 8000000 in
set_option maxRecDepth 1000000 in
theorem refRead_none (ls : List ByteArray) (hl : ls.length ≤ 4194304) (deep n : Nat) (hd : deep ≤ 4194304) (A : Option Addr) (c : Nat) (w : World) (hn : n ≤ ls.length) (hR : RowW w A ls) (h40 : (atS ls n).data.toList = [40]) (IH : ReadsOk ls deep) (hrd : readR (wl ls) deep (n + 1) = none) :
    Calls Tryd.prog 23 #[.slice A ls.length c, .int .i64 (n : Int), .int .i64 ((deep : Int) + 1)] w (GotR w (nodeR (readR (wl ls) deep) (wl ls) n)) := by
  obtain ⟨RES, hRES⟩ : ∃ RES, Hid (RES = nodeR (readR (wl ls) deep) (wl ls) n) := ⟨_, rfl⟩
  rw [← hRES.out]
  have hlt0 : n < ls.length := at_lt (by rw [h40]; decide)
  have hW : atS ls n = ⟨#[40]⟩ := str_is h40
  have hb1 : Below w.heap.size w (w.alloc (.cells #[.int .i64 0, .string ⟨#[]⟩, .int .i64 0, .string ⟨#[]⟩, .slice none 0 0] 25)) := (Below.refl _ _).alloc (Nat.le_refl _) _
  have C0 := Lib.hid (refAt_any ls A c n (w.alloc (.cells #[.int .i64 0, .string ⟨#[]⟩, .int .i64 0, .string ⟨#[]⟩, .slice none 0 0] 25)) (hR.below hb1) (by omega))
  rw [hW] at C0
  have CI := Lib.hid (IH (n + 1) A c (w.alloc (.cells #[.int .i64 0, .string ⟨#[]⟩, .int .i64 0, .string ⟨#[]⟩, .slice none 0 0] 25)) (by omega) (hR.below hb1))
  rw [show ((n + 1 : Nat) : Int) = (n : Int) + 1 by omega] at CI
  have HR := Lib.hid hR
  have HIH := Lib.hid IH
  have hdp : ¬ (deep : Int) + 1 ≤ 0 := by omega
  rw [hrd] at CI
  have HRN : Hid (RES = none) := hRES.out.trans (nodeR_none hrd)
  clear hRES hR IH h40 hW hb1 hrd
  go_enter Tryd.func23, Tryd.ntmps23
  go_wp2_with fail
  with_reducible refine C0.out.mono ?_
  rintro e w' ⟨rfl, rfl⟩
  clear C0
  go_wp2_with fail
  with_reducible refine CI.out.mono ?_
  rintro e w2 hG
  obtain ⟨hb2, rfl⟩ := hG.no
  have hb02 : Below w.heap.size w w2 := ((Below.refl w.heap.size w).alloc (Nat.le_refl _) _).trans (hb2.mono (by simp))
  have hbk2 : Blk w2 w.heap.size 25 #[.int .i64 0, .string ⟨#[]⟩, .int .i64 0, .string ⟨#[]⟩, .slice none 0 0] := (Blk.new w _ _).below hb2 (by simp)
  have hz0 := below_five (hb02)
  have hz1 := hz0.alloc (o := .cells #[.int .i64 0, .string ⟨#[]⟩, .int .i64 0, .string ⟨#[]⟩, .slice none 0 0] 25) hz0.size
  have HP : Hid (GotR w RES zeroE ((five w2 w.heap.size zeroD (.slice none 0 0)).alloc (.cells #[.int .i64 0, .string ⟨#[]⟩, .int .i64 0, .string ⟨#[]⟩, .slice none 0 0] 25))) := ⟨hz1, .inl ⟨HRN.out, rfl⟩⟩
  have HBk : Hid (Blk w2 w.heap.size 25 #[.int .i64 0, .string ⟨#[]⟩, .int .i64 0, .string ⟨#[]⟩, .slice none 0 0]) := hbk2
  have zc0 := HBk.out.cell 0
  have zc1 := HBk.out.cell 1
  have zc2 := HBk.out.cell 2
  have zc3 := HBk.out.cell 3
  have zc4 := HBk.out.cell 4
  have fzc0 := HBk.out.free 0
  have fzc1 := HBk.out.free 1
  have fzc2 := HBk.out.free 2
  have fzc3 := HBk.out.free 3
  have fzc4 := HBk.out.free 4
  simp at zc0 zc1 zc2 zc3 zc4
  have HL : Hid _ := load5 ((five_blk HBk.out zeroD (.slice none 0 0)).alloc (.cells #[.int .i64 0, .string ⟨#[]⟩, .int .i64 0, .string ⟨#[]⟩, .slice none 0 0] 25))
  clear HBk hz0 hz1
  unfold five zeroD at HP HL
  dsimp only [Dep.kind, Dep.name, Dep.op, Dep.evr] at HP HL
  unfold zeroE at HP
  have hltz : w.heap.size < w2.heap.size := hbk2.lt
  clear hb2 hb02 hbk2 CI hG HRN
  go_wp2_with fail
  refine bodyPost_ret (v := .tuple #[.agg #[.int .i64 0, .string ⟨#[]⟩, .int .i64 0, .string ⟨#[]⟩, .slice none 0 0], .int .i64 (-1)]) ?_ rfl HP.out
  exact results_cell2 rfl _ rfl rfl HL.out
set_option maxHeartbeats 8000000 in
set_option maxRecDepth 1000000 in
theorem refRead_nok (ls : List ByteArray) (hl : ls.length ≤ 4194304) (deep n : Nat) (hd : deep ≤ 4194304) (A : Option Addr) (c : Nat) (w : World) (hn : n ≤ ls.length) (hR : RowW w A ls) (h40 : (atS ls n).data.toList = [40]) (IH : ReadsOk ls deep) (first : Dep) (n1 : Nat) (hrd : readR (wl ls) deep (n + 1) = some (first, n1)) (hk1 : numW (atW (wl ls) n1) = 0) :
    Calls Tryd.prog 23 #[.slice A ls.length c, .int .i64 (n : Int), .int .i64 ((deep : Int) + 1)] w (GotR w (nodeR (readR (wl ls) deep) (wl ls) n)) := by
  obtain ⟨RES, hRES⟩ : ∃ RES, Hid (RES = nodeR (readR (wl ls) deep) (wl ls) n) := ⟨_, rfl⟩
  rw [← hRES.out]
  have hlt0 : n < ls.length := at_lt (by rw [h40]; decide)
  have hW : atS ls n = ⟨#[40]⟩ := str_is h40
  have hb1 : Below w.heap.size w (w.alloc (.cells #[.int .i64 0, .string ⟨#[]⟩, .int .i64 0, .string ⟨#[]⟩, .slice none 0 0] 25)) := (Below.refl _ _).alloc (Nat.le_refl _) _
  have C0 := Lib.hid (refAt_any ls A c n (w.alloc (.cells #[.int .i64 0, .string ⟨#[]⟩, .int .i64 0, .string ⟨#[]⟩, .slice none 0 0] 25)) (hR.below hb1) (by omega))
  rw [hW] at C0
  have CI := Lib.hid (IH (n + 1) A c (w.alloc (.cells #[.int .i64 0, .string ⟨#[]⟩, .int .i64 0, .string ⟨#[]⟩, .slice none 0 0] 25)) (by omega) (hR.below hb1))
  rw [show ((n + 1 : Nat) : Int) = (n : Int) + 1 by omega] at CI
  have HR := Lib.hid hR
  have HIH := Lib.hid IH
  have hdp : ¬ (deep : Int) + 1 ≤ 0 := by omega
  rw [hrd] at CI
  obtain ⟨hn11, hn12⟩ := sound_lt hrd
  have HRN : Hid (RES = none) := hRES.out.trans (nodeR_nok hrd hk1)
  have hn10 : ¬ (n1 : Int) < 0 := by omega
  obtain ⟨X, HX⟩ : ∃ X, Hid (X = atS ls n1) := ⟨_, rfl⟩
  have hx : numW X.data.toList = 0 := by rw [HX.out, atS_w]; exact hk1
  have hx2 : X.data.toList ≠ [97, 110, 100] := fun e => by rw [e] at hx; revert hx; decide
  have hx3 : X.data.toList ≠ [111, 114] := fun e => by rw [e] at hx; revert hx; decide
  have hx4 : X.data.toList ≠ [105, 102] := fun e => by rw [e] at hx; revert hx; decide
  have hx5 : X.data.toList ≠ [119, 105, 116, 104] := fun e => by rw [e] at hx; revert hx; decide
  have hx6 : X.data.toList ≠ [119, 105, 116, 104, 111, 117, 116] := fun e => by rw [e] at hx; revert hx; decide
  have HX2 := Lib.hid hx2
  have HX3 := Lib.hid hx3
  have HX4 := Lib.hid hx4
  have HX5 := Lib.hid hx5
  have HX6 := Lib.hid hx6
  clear hRES hR IH h40 hW hb1 hrd hk1 hx hx2 hx3 hx4 hx5 hx6
  go_enter Tryd.func23, Tryd.ntmps23
  go_wp2_with fail
  with_reducible refine C0.out.mono ?_
  rintro e w' ⟨rfl, rfl⟩
  clear C0
  go_wp2_with fail
  with_reducible refine CI.out.mono ?_
  rintro e w2 hG
  obtain ⟨hb2, Af, cf, S, rfl, hLf, hCf, hSf⟩ := hG.yes
  have hb02 : Below w.heap.size w w2 := ((Below.refl w.heap.size w).alloc (Nat.le_refl _) _).trans (hb2.mono (by simp))
  have hbx : Below w2.heap.size w2 ((w2.alloc (.cells (rowD first (.slice Af first.args.length cf)) 25)).alloc (.cells (rowD first (.slice Af first.args.length cf)) 25)) := ((Below.refl _ _).alloc (Nat.le_refl _) _).alloc (by simp) _
  have hb5 : Below w.heap.size w (((w2.alloc (.cells (rowD first (.slice Af first.args.length cf)) 25)).alloc (.cells (rowD first (.slice Af first.args.length cf)) 25)).alloc (.cells #[.int .i64 0, .string ⟨#[]⟩, .int .i64 0, .string ⟨#[]⟩, .slice (some ⟨w2.heap.size + 1, 0, none⟩) 1 1] 25)) := (hb02.trans (hbx.mono hb02.size)).alloc (by have := hb02.size; simp; omega) _
  have C1 := Lib.hid (refAt_any ls A c n1 _ (HR.out.below hb5) (by omega))
  rw [← HX.out] at C1
  have HK2 : Hid (Blk w2 w.heap.size 25 #[.int .i64 0, .string ⟨#[]⟩, .int .i64 0, .string ⟨#[]⟩, .slice none 0 0]) := (Blk.new w _ _).below hb2 (by simp)
  have HB5 := Lib.hid hb5
  clear hb2 hb02 hbx hb5 hLf hCf hSf CI hG HX
  unfold rowD at C1 HB5 ⊢
  go_wp2_with fail
  with_reducible refine C1.out.mono ?_
  rintro e wq ⟨rfl, rfl⟩
  clear C1
  obtain ⟨a2, b2⟩ := isnt2 HX2.out
  obtain ⟨a3, b3⟩ := isnt2 HX3.out
  obtain ⟨a4, b4⟩ := isnt2 HX4.out
  obtain ⟨a5, b5⟩ := isnt2 HX5.out
  obtain ⟨a6, b6⟩ := isnt2 HX6.out
  go_upto_region 18 with fail
  have HKz : Hid (Blk (((w2.alloc (.cells #[.int .i64 first.kind, .string first.name, .int .i64 first.op, .string first.evr, .slice Af first.args.length cf] 25)).alloc (.cells #[.int .i64 first.kind, .string first.name, .int .i64 first.op, .string first.evr, .slice Af first.args.length cf] 25)).alloc (.cells #[.int .i64 0, .string ⟨#[]⟩, .int .i64 0, .string ⟨#[]⟩, .slice (some ⟨w2.heap.size + 1, 0, none⟩) 1 1] 25)) w.heap.size 25 #[.int .i64 0, .string ⟨#[]⟩, .int .i64 0, .string ⟨#[]⟩, .slice none 0 0]) := ((HK2.out.alloc _).alloc _).alloc _
  generalize World.alloc (World.alloc (World.alloc w2 _) _) _ = wz at HKz HB5 ⊢
  have hz0 := below_five (HB5.out)
  have HP : Hid (GotR w RES zeroE (five wz w.heap.size zeroD (.slice none 0 0))) := ⟨hz0, .inl ⟨HRN.out, rfl⟩⟩
  have HBk : Hid (Blk wz w.heap.size 25 #[.int .i64 0, .string ⟨#[]⟩, .int .i64 0, .string ⟨#[]⟩, .slice none 0 0]) := HKz.out
  have zc0 := HBk.out.cell 0
  have zc1 := HBk.out.cell 1
  have zc2 := HBk.out.cell 2
  have zc3 := HBk.out.cell 3
  have zc4 := HBk.out.cell 4
  have fzc0 := HBk.out.free 0
  have fzc1 := HBk.out.free 1
  have fzc2 := HBk.out.free 2
  have fzc3 := HBk.out.free 3
  have fzc4 := HBk.out.free 4
  simp at zc0 zc1 zc2 zc3 zc4
  have HL : Hid _ := load5 (five_blk HBk.out zeroD (.slice none 0 0))
  clear HBk hz0
  unfold five zeroD at HP HL
  dsimp only [Dep.kind, Dep.name, Dep.op, Dep.evr] at HP HL
  unfold zeroE at HP
  clear HRN HK2 HB5 HKz
  go_wp2_with fail
  refine bodyPost_ret (v := .tuple #[.agg #[.int .i64 0, .string ⟨#[]⟩, .int .i64 0, .string ⟨#[]⟩, .slice none 0 0], .int .i64 (-1)]) ?_ rfl HP.out
  exact results_cell2 rfl _ rfl rfl HL.out
set_option maxHeartbeats 8000000 in
set_option maxRecDepth 1000000 in
theorem refRead_zero (ls : List ByteArray) (hl : ls.length ≤ 4194304) (n : Nat) (A : Option Addr) (c : Nat) (w : World) (hR : RowW w A ls) (h40 : (atS ls n).data.toList = [40]) (hn : n ≤ ls.length) :
    Calls Tryd.prog 23 #[.slice A ls.length c, .int .i64 (n : Int), .int .i64 0] w (GotR w none) := by
  obtain ⟨RES, hRES⟩ : ∃ RES : Option (Dep × Nat), Hid (RES = none) := ⟨_, rfl⟩
  rw [← hRES.out]
  have HRN := hRES
  have hW : atS ls n = ⟨#[40]⟩ := str_is h40
  have hb1 : Below w.heap.size w (w.alloc (.cells #[.int .i64 0, .string ⟨#[]⟩, .int .i64 0, .string ⟨#[]⟩, .slice none 0 0] 25)) := (Below.refl _ _).alloc (Nat.le_refl _) _
  have C0 := Lib.hid (refAt_any ls A c n (w.alloc (.cells #[.int .i64 0, .string ⟨#[]⟩, .int .i64 0, .string ⟨#[]⟩, .slice none 0 0] 25)) (hR.below hb1) (by omega))
  rw [hW] at C0
  have HP : Hid (GotR w RES zeroE (w.alloc (.cells #[.int .i64 0, .string ⟨#[]⟩, .int .i64 0, .string ⟨#[]⟩, .slice none 0 0] 25))) := ⟨hb1, .inl ⟨HRN.out, rfl⟩⟩
  unfold zeroE at HP
  clear hRES HRN hR h40 hW hb1
  go_enter Tryd.func23, Tryd.ntmps23
  go_wp2_with fail
  with_reducible refine C0.out.mono ?_
  rintro e w' ⟨rfl, rfl⟩
  clear C0
  go_wp2_with fail
  refine bodyPost_ret (v := .tuple #[.agg #[.int .i64 0, .string ⟨#[]⟩, .int .i64 0, .string ⟨#[]⟩, .slice none 0 0], .int .i64 (-1)]) ?_ rfl HP.out
  exact results_cell2 rfl _ rfl rfl (load5 (Blk.new _ _ _))
theorem numW_cases {l : Wd} (h : numW l ≠ 0) : l = [97, 110, 100] ∨ l = [111, 114] ∨ l = [105, 102] ∨ l = [119, 105, 116, 104] ∨ l = [119, 105, 116, 104, 111, 117, 116] := by
  unfold numW at h
  by_cases h1 : l = wAnd
  · exact .inl h1
  by_cases h2 : l = wOr
  · exact .inr (.inl h2)
  by_cases h3 : l = wIf
  · exact .inr (.inr (.inl h3))
  by_cases h4 : l = wWith
  · exact .inr (.inr (.inr (.inl h4)))
  by_cases h5 : l = wWithout
  · exact .inr (.inr (.inr (.inr h5)))
  rw [if_neg h1, if_neg h2, if_neg h3, if_neg h4, if_neg h5] at h
  exact absurd rfl h
theorem refRead_any (ls : List ByteArray) (hl : ls.length ≤ 4194304) (hsz : ∀ y ∈ ls, y.size ≤ 4194304) : ∀ deep, deep ≤ 4194304 → ReadsOk ls deep
  | 0, _ => by
    intro n A c w hn hR
    by_cases h40 : (atS ls n).data.toList = [40]
    · have e : readR (wl ls) 0 n = none := by unfold readR; rw [if_pos (by rw [← atS_w]; exact h40)]
      rw [e]
      exact refRead_zero ls hl n A c w hR h40 hn
    · have e : readR (wl ls) 0 n = leafR (wl ls) n := by unfold readR; rw [if_neg (by rw [← atS_w]; exact h40)]
      rw [e]
      exact refRead_leaf ls hl hsz 0 n A c w hn hR h40
  | deep + 1, hd => by
    have IH := refRead_any ls hl hsz deep (by omega)
    intro n A c w hn hR
    by_cases h40 : (atS ls n).data.toList = [40]
    · have e : readR (wl ls) (deep + 1) n = nodeR (readR (wl ls) deep) (wl ls) n := by
        show (if atW (wl ls) n = [40] then nodeR (readR (wl ls) deep) (wl ls) n else leafR (wl ls) n) = _
        rw [if_pos (by rw [← atS_w]; exact h40)]
      rw [e, show ((deep + 1 : Nat) : Int) = (deep : Int) + 1 by omega]
      cases hrd : readR (wl ls) deep (n + 1) with
      | none => exact refRead_none ls hl deep n (by omega) A c w hn hR h40 IH hrd
      | some q =>
        obtain ⟨first, n1⟩ := q
        by_cases hk : numW (atW (wl ls) n1) = 0
        · exact refRead_nok ls hl deep n (by omega) A c w hn hR h40 IH first n1 hrd hk
        · have hk' := numW_cases hk
          rw [← atS_w] at hk'
          rcases hk' with h | h | h | h | h
          · exact refRead_k2 ls hl deep n (by omega) A c w hn hR h40 IH first n1 hrd h
          · exact refRead_k3 ls hl deep n (by omega) A c w hn hR h40 IH first n1 hrd h
          · exact refRead_k4 ls hl deep n (by omega) A c w hn hR h40 IH first n1 hrd h
          · exact refRead_k5 ls hl deep n (by omega) A c w hn hR h40 IH first n1 hrd h
          · exact refRead_k6 ls hl deep n (by omega) A c w hn hR h40 IH first n1 hrd h
    · have e : readR (wl ls) (deep + 1) n = leafR (wl ls) n := by
        show (if atW (wl ls) n = [40] then nodeR (readR (wl ls) deep) (wl ls) n else leafR (wl ls) n) = _
        rw [if_neg (by rw [← atS_w]; exact h40)]
      rw [e]
      exact refRead_leaf ls hl hsz (deep + 1) n A c w hn hR h40
end Go.Proofs.YtghbhajiddnmkaaDoor
