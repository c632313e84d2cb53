/- Parts of the proof. -/
import Derived.Test.YtdhgiammfpjniaaGreatDoorZrap
import Derived.Test.YtdhgiammfpjniaaGreatDoorZraf
namespace Go.Proofs.YtdhgiammfpjniaaGreatDoor
set_option linter.unusedSimpArgs false
set_option linter.unusedVariables false
open Go.RowKit Go.MapKept
theorem refW_sep {l : Bs} {n i fr : Nat} {out : List Bs} (h : i = l.length ∨ l[i]? = some 32) : refW l (n + 1) i fr out = refW l n (i + 1) (i + 1) (if fr < i then out ++ [(l.drop fr).take (i - fr)] else out) := if_pos h
theorem refW_no {l : Bs} {n i fr : Nat} {out : List Bs} (h1 : i ≠ l.length) (h2 : l[i]? ≠ some 32) : refW l (n + 1) i fr out = refW l n (i + 1) fr out := if_neg (by rintro (e | e); exact h1 e; exact h2 e)
set_option maxHeartbeats 8000000 in
set_option maxRecDepth 1000000 in
theorem adQ1 (t : Bs) (ht : t.length ≤ 1048576) (w : World) : Calls Tryz.prog 142 #[.string (mkS t)] w fun e w' =>
 ∃ v, e = .returned v ∧ w'.ownsRow w.heap.size 9 1 v (aeQm t).length ((aeQm t).map fun p => Value.string (mkS p)) ∧ Below w.heap.size w w' := by
 obtain ⟨is_, zs, his, hzs, hzs1, hzs2, hzs3⟩ := adQs
 have HIS := hQQ his
 have hS : (mkS t).size = t.length := aaQg t
 have HEX := hQQ (ajQb t)
 have HBY := hQQ (fun k (h : k < (mkS t).size) => aaQw h)
 rw [aaQn] at HBY
 have HO0 : Hid (w.ownsRow w.heap.size 9 1 (.slice none 0 0) ([] : List Bs).length (([] : List Bs).map fun p => Value.string (mkS p))) := World.ownsRow_nil _ _ _ _
 have HB0 : Hid (Below w.heap.size w w) := Below.refl _ _
 have HL0 : Hid (aeQm t = refW t (t.length + 1) 0 0 []) := rfl
 generalize mkS t = S at *
 clear his
 go_enter Tryz.func142, Tryz.ntmps142
 go_wp2_with fail
 go_loopg [3, 4, 5] (t.length + 1) (fun gk v3 v4 v5 wx => ∃ (i fr : Nat) (L : List Bs), i + gk = t.length + 1 ∧ fr ≤ i ∧ L.length ≤ i ∧ v4 = .int .i64 (fr : Int) ∧ v5 = .int .i64 (i : Int) ∧ Hid (wx.ownsRow w.heap.size 9 1 v3 L.length (L.map fun p => Value.string (mkS p))) ∧ Hid (Below w.heap.size w wx) ∧ Hid (aeQm t = refW t gk i fr L))
 case atStart => exact ⟨0, 0, [], by omega, Nat.le_refl _, Nat.le_refl _, rfl, rfl, HO0, HB0, HL0⟩
 case round =>
  obtain ⟨i, fr, L, hig, hfi, hLi, rfl, rfl, HO, HB, HL⟩ := hrel
  clear HO0 HB0 HL0
  obtain ⟨Ag, cg, rfl, hcg1, hcg2⟩ := aaQc HO.out
  have hf0 : (0 : Int) ≤ (fr : Int) := by omega
  have hfiI : (fr : Int) ≤ (i : Int) := by omega
  have hgl2 : (L.map fun p => Value.string (mkS p)).length = L.length := List.length_map _
  by_cases hle : i ≤ t.length
  rotate_left
  ·have hleI : ¬ (i : Int) ≤ (S.size : Int) := by omega
   have hg0 : gk = 0 := by omega
   have HL2 : Hid (aeQm t = L) := by have := HL.out; rw [hg0] at this; exact this
   clear HL hg0
   go_wp2_with fail
   go_ret
   exact ⟨_, rfl, by rw [HL2.out]; exact HO.out, HB.out⟩
  have hleI : (i : Int) ≤ (S.size : Int) := by omega
  obtain ⟨gk, rfl⟩ : ∃ g', gk = g' + 1 := ⟨gk - 1, by omega⟩
  by_cases hsep : i = t.length ∨ t[i]? = some 32
  ·have hL := HL.out
   rw [refW_sep hsep] at hL
   by_cases hlt : fr < i
   ·rw [if_pos hlt] at hL
    have HL2 := hQQ hL
    have hltI : (fr : Int) < (i : Int) := by omega
    have hex := HEX.out fr i
    generalize (t.drop fr).take (i - fr) = cur at *
    have hbA : Below wr.heap.size wr (wr.alloc (.cells #[.string (mkS cur)] 9)) := (Below.refl _ _).alloc (Nat.le_refl _) _
    have HOA := hQQ (aaQf HO.out (Turned.of_below hbA []) (fun _ _ => by simp))
    have HBA := hQQ (HB.out.trans (hbA.mono HB.out.size))
    have HCN := hQQ (cell_one_new wr (.string (mkS cur)) 9)
    have hszz : w.heap.size ≤ wr.heap.size := HB.out.size
    clear hL HL HB HO hbA
    rcases hsep with hsep | hsep
    ·subst hsep
     have qe : ((t.length : Int) == (S.size : Int)) = true := by rw [hS]; simp
     go_wp2_with (at_builtin; refine wpList_append_own_at _ rfl (.tmp 25) (.tmp 30) 32 rfl w.heap.size 9 is_ zs 1 16 Tryz.underlying32 HIS.out hzs hzs2 hzs3 hzs1 (by decide) (.slice Ag L.length cg) L.length (L.map fun p => Value.string (mkS p)) rfl HOA.out ⟨wr.heap.size, 0, none⟩ 1 1 [.string (mkS cur)] rfl rfl HCN.out (by intro u hu; simp at hu; subst hu; rfl) (by unfold maxLen; omega) (by omega) (by simp; omega) ?_; intro v7 w7 hown7 hg7 hnil7 hat7; have HO7 : Hid (w7.ownsRow w.heap.size 9 1 v7 (L ++ [cur]).length ((L ++ [cur]).map fun p => Value.string (mkS p))) := (by rw [List.length_append, List.map_append]; exact hown7); have HB7 := hQQ (HBA.out.trans ((aaQi hg7).below (B := w.heap.size) (fun k hk => (HOA.out.lt k (by simpa using hk)).1) HBA.out.size)); clear hown7 hg7 hnil7 hat7)
     go_roundg gk
     case measure => omega
     case rel => exact ⟨t.length + 1, t.length + 1, L ++ [cur], by omega, Nat.le_refl _, by simp; omega, by go_num, by go_num, HO7, HB7, HL2⟩
    ·have hltS : i < S.size := by
      have := (List.getElem?_eq_some_iff.1 hsep).1
      omega
     have hil2 : (i : Int) < (S.size : Int) := by omega
     have qe : ((i : Int) == (S.size : Int)) = false := by simp; omega
     have hget : S[i]'hltS = 32 := by
      have h1 := HBY.out i hltS
      rw [hsep] at h1
      injection h1 with h1
      exact h1.symm
     have t32 : ((S[i].toNat : Int) == 32) = true := by rw [hget]; rfl
     clear hsep hget
     go_wp2_with (at_builtin; refine wpList_append_own_at _ rfl (.tmp 25) (.tmp 30) 32 rfl w.heap.size 9 is_ zs 1 16 Tryz.underlying32 HIS.out hzs hzs2 hzs3 hzs1 (by decide) (.slice Ag L.length cg) L.length (L.map fun p => Value.string (mkS p)) rfl HOA.out ⟨wr.heap.size, 0, none⟩ 1 1 [.string (mkS cur)] rfl rfl HCN.out (by intro u hu; simp at hu; subst hu; rfl) (by unfold maxLen; omega) (by omega) (by simp; omega) ?_; intro v7 w7 hown7 hg7 hnil7 hat7; have HO7 : Hid (w7.ownsRow w.heap.size 9 1 v7 (L ++ [cur]).length ((L ++ [cur]).map fun p => Value.string (mkS p))) := (by rw [List.length_append, List.map_append]; exact hown7); have HB7 := hQQ (HBA.out.trans ((aaQi hg7).below (B := w.heap.size) (fun k hk => (HOA.out.lt k (by simpa using hk)).1) HBA.out.size)); clear hown7 hg7 hnil7 hat7)
     go_roundg gk
     case measure => omega
     case rel => exact ⟨i + 1, i + 1, L ++ [cur], by omega, Nat.le_refl _, by simp; omega, by go_num, by go_num, HO7, HB7, HL2⟩
   ·rw [if_neg hlt] at hL
    have HL2 := hQQ hL
    have hltI : ¬ (fr : Int) < (i : Int) := by omega
    clear hL HL
    rcases hsep with hsep | hsep
    ·subst hsep
     have qe : ((t.length : Int) == (S.size : Int)) = true := by rw [hS]; simp
     go_wp2_with fail
     go_roundg gk
     case measure => omega
     case rel => exact ⟨t.length + 1, t.length + 1, L, by omega, Nat.le_refl _, by omega, by go_num, by go_num, HO, HB, HL2⟩
    ·have hltS : i < S.size := by
      have := (List.getElem?_eq_some_iff.1 hsep).1
      omega
     have hil2 : (i : Int) < (S.size : Int) := by omega
     have qe : ((i : Int) == (S.size : Int)) = false := by simp; omega
     have hget : S[i]'hltS = 32 := by
      have h1 := HBY.out i hltS
      rw [hsep] at h1
      injection h1 with h1
      exact h1.symm
     have t32 : ((S[i].toNat : Int) == 32) = true := by rw [hget]; rfl
     clear hsep hget
     go_wp2_with fail
     go_roundg gk
     case measure => omega
     case rel => exact ⟨i + 1, i + 1, L, by omega, Nat.le_refl _, by omega, by go_num, by go_num, HO, HB, HL2⟩
  ·have hni : i ≠ t.length := fun e => hsep (.inl e)
   have hn32 : t[i]? ≠ some 32 := fun e => hsep (.inr e)
   have hL := HL.out
   rw [refW_no hni hn32] at hL
   have HL2 := hQQ hL
   have hltS : i < S.size := by omega
   have hil2 : (i : Int) < (S.size : Int) := by omega
   have qe : ((i : Int) == (S.size : Int)) = false := by simp; omega
   have hget : S[i]'hltS ≠ 32 := fun e => hn32 (by rw [HBY.out i hltS, e])
   have t32 : ((S[i].toNat : Int) == 32) = false := beq_eq_false_iff_ne.2 fun e => hget (UInt8.toNat_inj.1 (by show _ = 32; omega))
   clear hL HL hsep hget hni hn32
   go_wp2_with fail
   go_roundg gk
   case measure => omega
   case rel => exact ⟨i + 1, fr, L, by omega, by omega, by omega, rfl, by go_num, HO, HB, HL2⟩
def tagR (l : Bs) : Nat → Nat → Bs × Bs × Bool
 | 0, _ => ([], [], false)
 | n + 1, i => if l.length ≤ i then ([], [], false) else if l[i]? = some 32 ∨ l[i]? = some 9 then ([], [], false) else if l[i]? = some 58 then ((l.drop 1).take (i - 1), l.drop (i + 1), decide (1 < i)) else tagR l n (i + 1)
def tagX (l : Bs) : Bs × Bs × Bool := tagR l l.length 1
theorem anQe {l : Bs} {n i : Nat} (h : l.length ≤ i) : tagR l n i = ([], [], false) := by
 cases n with
 | zero => rfl
 | succ n => exact if_pos h
theorem aiQx {l : Bs} {n i : Nat} (h : i < l.length) (h2 : l[i]? = some 32 ∨ l[i]? = some 9) : tagR l (n + 1) i = ([], [], false) := (if_neg (by omega)).trans (if_pos h2)
theorem anQf {l : Bs} {n i : Nat} (h : i < l.length) (h2 : l[i]? = some 58) : tagR l (n + 1) i = ((l.drop 1).take (i - 1), l.drop (i + 1), decide (1 < i)) :=
 (if_neg (by omega)).trans ((if_neg (by rw [h2]; rintro (e | e) <;> cases e)).trans (if_pos h2))
theorem apQ7 {l : Bs} {n i : Nat} (h : i < l.length) (h2 : l[i]? ≠ some 32) (h3 : l[i]? ≠ some 9) (h4 : l[i]? ≠ some 58) : tagR l (n + 1) i = tagR l n (i + 1) :=
 (if_neg (by omega)).trans ((if_neg (by rintro (e | e); exact h2 e; exact h3 e)).trans (if_neg h4))
theorem acQo {fn : Func} {t u v : Tmp} (h : fn.results = #[.tmp t, .tmp u, .tmp v]) (tmps : Array Value) (P : Program) (w : World) :
 (results fn tmps).run P w = .ok (.tuple #[tmps.getD t undef, tmps.getD u undef, tmps.getD v undef]) w := by
 simp [results, h]
set_option maxHeartbeats 8000000 in
set_option maxRecDepth 1000000 in
theorem ahQ7 (t : Bs) (ht : t.length ≤ 1048576) (w : World) : Calls Tryz.prog 36 #[.string (mkS t)] w fun e w' =>
 e = .returned (.tuple #[.string (mkS (tagX t).1), .string (mkS (tagX t).2.1), .bool (tagX t).2.2]) ∧ Below w.heap.size w w' := by
 have hS : (mkS t).size = t.length := aaQg t
 have HEX := hQQ (ajQb t)
 have HBY := hQQ (fun k (h : k < (mkS t).size) => aaQw h)
 rw [aaQn] at HBY
 obtain ⟨X, hX⟩ : ∃ X, X = tagX t := ⟨_, rfl⟩
 rw [← hX]
 have HL0 : Hid (X = tagR t t.length 1) := hX
 clear hX
 generalize mkS t = S at *
 go_enter Tryz.func36, Tryz.ntmps36
 go_wp2_with fail
 go_loop [5] (fun v5 => ∃ i n : Nat, 1 ≤ i ∧ i ≤ t.length + 1 ∧ t.length ≤ i + n ∧ v5 = .int .i64 (i : Int) ∧ Hid (X = tagR t n i)) (fun v5 => t.length + 1 - (intOf v5).toNat)
 case atStart => exact ⟨1, t.length, Nat.le_refl _, by omega, by omega, rfl, HL0⟩
 case round =>
  obtain ⟨i, n, hi1, hil, hin, rfl, HL⟩ := hrel
  clear HL0
  have h1I : (1 : Int) ≤ (i : Int) := by omega
  by_cases hlt : i < t.length
  rotate_left
  ·have hltI : ¬ (i : Int) < (S.size : Int) := by omega
   have HE : Hid (X = ([], [], false)) := by show X = _; rw [HL.out]; exact anQe (by omega)
   clear HL
   go_wp2_with fail
   exact bodyPost_ret (acQo rfl _ _ _) rfl ⟨by rw [HE.out]; rfl, Below.refl _ _⟩
  have hltI : (i : Int) < (S.size : Int) := by omega
  have hltS : i < S.size := by omega
  obtain ⟨n, rfl⟩ : ∃ n', n = n' + 1 := ⟨n - 1, by omega⟩
  have hby := HBY.out i hltS
  by_cases h32 : S[i]'hltS = 32
  ·have t32 : ((S[i].toNat : Int) == 32) = true := by rw [h32]; rfl
   have HE : Hid (X = ([], [], false)) := by show X = _; rw [HL.out]; exact aiQx hlt (.inl (by rw [hby, h32]))
   clear HL hby h32
   go_wp2_with fail
   exact bodyPost_ret (acQo rfl _ _ _) rfl ⟨by rw [HE.out]; rfl, Below.refl _ _⟩
  have t32 : ((S[i].toNat : Int) == 32) = false := beq_eq_false_iff_ne.2 fun e => h32 (UInt8.toNat_inj.1 (by show _ = 32; omega))
  by_cases h9 : S[i]'hltS = 9
  ·have t9 : ((S[i].toNat : Int) == 9) = true := by rw [h9]; rfl
   have HE : Hid (X = ([], [], false)) := by show X = _; rw [HL.out]; exact aiQx hlt (.inr (by rw [hby, h9]))
   clear HL hby h9 h32
   go_wp2_with fail
   exact bodyPost_ret (acQo rfl _ _ _) rfl ⟨by rw [HE.out]; rfl, Below.refl _ _⟩
  have t9 : ((S[i].toNat : Int) == 9) = false := beq_eq_false_iff_ne.2 fun e => h9 (UInt8.toNat_inj.1 (by show _ = 9; omega))
  by_cases h58 : S[i]'hltS = 58
  ·have t58 : ((S[i].toNat : Int) == 58) = true := by rw [h58]; rfl
   have HE : Hid (X = ((t.drop 1).take (i - 1), t.drop (i + 1), decide (1 < i))) := by show X = _; rw [HL.out]; exact anQf hlt (by rw [hby, h58])
   have e1 := HEX.out 1 i
   have e2 := HEX.out (i + 1) t.length
   rw [List.take_of_length_le (by simp)] at e2
   have e3 : Hid (decide (1 < i) = decide ((1 : Int) < (i : Int))) := by show decide _ = decide _; rw [decide_eq_decide]; omega
   have hi2 : (i : Int) + 1 ≤ (S.size : Int) := by omega
   have hi3 : (0 : Int) ≤ (i : Int) + 1 := by omega
   have hiS : (i : Int) ≤ (S.size : Int) := by omega
   clear HL hby h9 h32 h58
   go_upto_region 7 with fail
   go_quiet (fail)
   go_wp2_with fail
   exact bodyPost_ret (acQo rfl _ _ _) rfl ⟨by rw [HE.out, e3.out, List.drop_one]; rfl, aaQs (Below.refl _ _) _⟩
  have t58 : ((S[i].toNat : Int) == 58) = false := beq_eq_false_iff_ne.2 fun e => h58 (UInt8.toNat_inj.1 (by show _ = 58; omega))
  have HN : Hid (X = tagR t n (i + 1)) := by show X = _; rw [HL.out]; exact apQ7 hlt (by rw [hby]; intro e; injection e with e; exact h32 e) (by rw [hby]; intro e; injection e with e; exact h9 e) (by rw [hby]; intro e; injection e with e; exact h58 e)
  clear HL hby h9 h32 h58
  go_wp2_with fail
  go_round
  case rel => exact ⟨i + 1, n, by omega, by omega, by omega, by go_num, HN⟩
  case measure => simp [intOf]; omega
def tagL : Bs → Bs → Bs × Bs × Bool
 | _, [] => ([], [], false)
 | pre, c :: r => if c = 32 ∨ c = 9 then ([], [], false) else if c = 58 then (pre, r, !pre.isEmpty) else tagL (pre ++ [c]) r
theorem tagR_L (b : UInt8) (r : Bs) : ∀ (n : Nat) (pre rest : Bs), r = pre ++ rest → rest.length ≤ n → tagR (b :: r) n (pre.length + 1) = tagL pre rest
 | n, pre, [], he, hn => by
   rw [anQe (by rw [he]; simp)]
   rfl
 | 0, pre, c :: rest, he, hn => by simp at hn
 | n + 1, pre, c :: rest, he, hn => by
   have hlt : pre.length + 1 < (b :: r).length := by rw [he]; simp
   have hc : (b :: r)[pre.length + 1]? = some c := by
    rw [List.getElem?_cons_succ, he, List.getElem?_append_right (Nat.le_refl _), Nat.sub_self]
    rfl
   show _ = (if c = 32 ∨ c = 9 then _ else _)
   by_cases h1 : c = 32 ∨ c = 9
   ·rw [if_pos h1, aiQx hlt (by rw [hc]; rcases h1 with h | h; exact .inl (by rw [h]); exact .inr (by rw [h]))]
   ·rw [if_neg h1]
    by_cases h2 : c = 58
    ·rw [if_pos h2, anQf hlt (by rw [hc, h2])]
     have e1 : ((b :: r).drop 1).take (pre.length + 1 - 1) = pre := by
      show r.take (pre.length + 1 - 1) = pre
      rw [he, Nat.add_sub_cancel, List.take_left']
      rfl
     have e2 : (b :: r).drop (pre.length + 1 + 1) = rest := by
      show r.drop (pre.length + 1) = rest
      rw [he, List.drop_append, List.drop_eq_nil_of_le (by omega)]
      simp
     have e3 : decide (1 < pre.length + 1) = !pre.isEmpty := by
      cases pre with
      | nil => rfl
      | cons x y => simp
     rw [e1, e2, e3]
    ·rw [if_neg h2, apQ7 hlt (by rw [hc]; intro e; injection e with e; exact h1 (.inl e)) (by rw [hc]; intro e; injection e with e; exact h1 (.inr e)) (by rw [hc]; intro e; injection e with e; exact h2 e)]
     have := tagR_L b r n (pre ++ [c]) rest (by rw [he]; simp) (by simp at hn; omega)
     rw [← this]
     simp
theorem anQg : ∀ (rest pre : Bs), pre.all (fun c => !dLay c) = true → tagL pre rest = if (Lib.cut rest [58]).2.2 = true ∧ ((Lib.cut rest [58]).1.all fun c => !dLay c) = true then (pre ++ (Lib.cut rest [58]).1, (Lib.cut rest [58]).2.1, !(pre ++ (Lib.cut rest [58]).1).isEmpty) else ([], [], false)
 | [], pre, hp => by
   rw [if_neg (by rintro ⟨h, _⟩; cases h)]
   rfl
 | c :: r, pre, hp => by
   have hl : (c = 32 ∨ c = 9) ↔ dLay c = true := by unfold dLay; simp
   show (if c = 32 ∨ c = 9 then _ else if c = 58 then _ else tagL (pre ++ [c]) r) = _
   rw [afQc]
   by_cases h1 : c = 32 ∨ c = 9
   ·have h58 : c ≠ 58 := by rcases h1 with h | h <;> rw [h] <;> decide
    rw [if_pos h1, if_neg h58, if_neg]
    rintro ⟨_, h⟩
    dsimp only at h
    rw [List.all_cons, hl.1 h1] at h
    cases h
   ·rw [if_neg h1]
    have hd : dLay c = false := by
     cases hc : dLay c with
     | false => rfl
     | true => exact absurd (hl.2 hc) h1
    by_cases h2 : c = 58
    ·rw [if_pos h2, if_pos h2, if_pos ⟨rfl, rfl⟩]
     simp
    ·rw [if_neg h2, if_neg h2, anQg r (pre ++ [c]) (by rw [List.all_append, hp]; simp [hd])]
     dsimp only
     have e : ((c :: (Lib.cut r [58]).1).all fun c => !dLay c) = ((Lib.cut r [58]).1.all fun c => !dLay c) := by rw [List.all_cons, hd]; rfl
     rw [e, List.append_assoc]
     rfl
theorem akQr (l : Bs) : decide (adQ3 dLayS l < l.length) = !(l.all fun c => !dLay c) := by
 have e : ∀ c, nos dLayS c = !dLay c := fun c => by unfold nos; rw [anQ3]
 have h1 : adQ3 dLayS l = (l.takeWhile fun c => !dLay c).length := by
  rw [afQu]
  congr 2
  funext c
  exact e c
 rw [h1]
 cases ha : (l.all fun c => !dLay c) with
 | true =>
   have : (l.takeWhile fun c => !dLay c) = l := ajQ5 (fun c hc => List.all_eq_true.1 ha c hc)
   rw [this]
   simp
 | false =>
   have hlt : (l.takeWhile fun c => !dLay c).length < l.length := by
    apply Nat.lt_of_le_of_ne (List.takeWhile_prefix _).length_le
    intro he
    have he2 : (l.takeWhile fun c => !dLay c) = l := (List.takeWhile_prefix (p := fun c => !dLay c) (l := l)).eq_of_length he
    have : (l.all fun c => !dLay c) = true := by
     rw [← he2]
     exact List.all_takeWhile
    rw [this] at ha
    cases ha
   simp [hlt]
theorem aiQw (b : UInt8) (r : Bs) : tagX (b :: r) = if tagOk (Lib.cut r [58]) = true ∨ ((Lib.cut r [58]).2.2 = true ∧ (Lib.cut r [58]).1 = []) then ((Lib.cut r [58]).1, (Lib.cut r [58]).2.1, tagOk (Lib.cut r [58])) else ([], [], false) := by
 unfold tagX
 have h := tagR_L b r (b :: r).length [] r rfl (by simp)
 rw [show ([] : Bs).length + 1 = 1 from rfl] at h
 rw [h, anQg r [] rfl]
 have hp := akQr (Lib.cut r [58]).1
 unfold tagOk
 rw [hp]
 generalize (Lib.cut r [58]) = c at *
 obtain ⟨c1, c2, c3⟩ := c
 dsimp only
 cases c3 with
 | false => simp
 | true =>
   cases c1 with
   | nil => simp
   | cons x y =>
     by_cases hall : ((x :: y : Bs).all fun c => !dLay c) = true
     ·rw [if_pos ⟨rfl, hall⟩, hall, if_pos (.inl rfl)]
      rfl
     ·have hf : ((x :: y : Bs).all fun c => !dLay c) = false := by simpa using hall
      rw [if_neg (fun h => hall h.2), hf, if_neg (by simp)]
structure TagW (t : Bs) : Prop where
 ne : t ≠ []
 col : ∀ c ∈ t, c ≠ 58
 lay : (t.all fun c => !dLay c) = true
theorem ajQm : ∀ r : Bs, (Lib.cut r [58]).2.2 = true → r = (Lib.cut r [58]).1 ++ 58 :: (Lib.cut r [58]).2.1 ∧ ∀ c ∈ (Lib.cut r [58]).1, c ≠ 58
 | [], h => by cases h
 | c :: r, h => by
   rw [afQc] at h ⊢
   by_cases h1 : c = 58
   ·rw [if_pos h1] at h ⊢
    refine ⟨by rw [h1]; rfl, fun d hd => (by cases hd)⟩
   ·rw [if_neg h1] at h ⊢
    obtain ⟨e1, e2⟩ := ajQm r h
    refine ⟨?_, fun d hd => ?_⟩
    ·show c :: r = c :: ((Lib.cut r [58]).1 ++ 58 :: (Lib.cut r [58]).2.1)
     rw [← e1]
    ·rcases List.mem_cons.1 hd with rfl | hd
     ·exact h1
     ·exact e2 d hd
theorem agQy (c : Bs × Bs × Bool) : tagOk c = true ↔ c.2.2 = true ∧ c.1 ≠ [] ∧ (c.1.all fun c => !dLay c) = true := by
 unfold tagOk
 rw [akQr, Bool.not_not, Bool.and_eq_true, Bool.and_eq_true]
 constructor
 ·rintro ⟨⟨h1, h2⟩, h3⟩
  refine ⟨h1, ?_, h3⟩
  intro e
  rw [e] at h2
  cases h2
 ·rintro ⟨h1, h2, h3⟩
  refine ⟨⟨h1, ?_⟩, h3⟩
  cases hc : c.1 with
  | nil => exact absurd hc h2
  | cons a r => rfl
theorem tagX_ok {s : Bs} (h : (tagX s).2.2 = true) : TagW (tagX s).1 := by
 cases s with
 | nil => cases h
 | cons b r =>
   rw [aiQw] at h ⊢
   split at h
   ·next hc =>
    rw [if_pos hc]
    obtain ⟨h1, h2, h3⟩ := (agQy _).1 h
    exact ⟨h2, (ajQm r h1).2, h3⟩
   ·cases h
theorem tagX_is {t : Bs} (h : TagW t) (b : UInt8) (u : Bs) : tagX (b :: (t ++ 58 :: u)) = (t, u, true) := by
 have hc := arQn 58 u t h.col
 have ho : tagOk (Lib.cut (t ++ 58 :: u) [58]) = true := by
  rw [hc]
  exact (agQy _).2 ⟨rfl, h.ne, h.lay⟩
 rw [aiQw, if_pos (.inl ho), ho, hc]
theorem end_same {t : Bs} (h : TagW t) (s : Bs) : endB t s = (decide (s.headD 0 = 45) && ((tagX s).2.2 && decide ((tagX s).1 = t) && isLay (tagX s).2.1)) := by
 cases s with
 | nil => rfl
 | cons b r =>
   by_cases hb : b = 45
   ·subst hb
    have e1 : endB t (45 :: r) = ((t ++ [58]).isPrefixOf r && isLay (r.drop (t.length + 1))) := by
     unfold endB Lib.hasPrefix
     have : (45 :: t ++ [58] : Bs).isPrefixOf (45 :: r) = (t ++ [58]).isPrefixOf r := by
      show ((45 : UInt8) == 45 && (t ++ [58]).isPrefixOf r) = _
      simp
     rw [this]
     rfl
    rw [e1]
    have hd : decide (((45 : UInt8) :: r).headD 0 = 45) = true := rfl
    rw [hd, Bool.true_and]
    by_cases hp : (t ++ [58]).isPrefixOf r = true
    ·obtain ⟨u, hu⟩ := List.isPrefixOf_iff_prefix.1 hp
     have hr : r = t ++ 58 :: u := by rw [← hu]; simp
     rw [hp, Bool.true_and, hr, tagX_is h]
     have : (t ++ 58 :: u).drop (t.length + 1) = u := by
      rw [List.drop_append, List.drop_eq_nil_of_le (by omega)]
      simp
     rw [this]
     simp
    ·have hpf : (t ++ [58]).isPrefixOf r = false := Bool.eq_false_iff.2 hp
     rw [hpf, Bool.false_and]
     refine Eq.symm ?_
     rw [Bool.eq_false_iff]
     intro hx
     rw [Bool.and_eq_true, Bool.and_eq_true, decide_eq_true_eq] at hx
     obtain ⟨⟨h1, h2⟩, _⟩ := hx
     apply hp
     rw [aiQw] at h1 h2
     split at h1
     ·next hc =>
      rw [if_pos hc] at h2
      have h3 := (ajQm r ((agQy _).1 h1).1).1
      have h2 : (Lib.cut r [58]).1 = t := h2
      rw [h2] at h3
      exact List.isPrefixOf_iff_prefix.2 ⟨(Lib.cut r [58]).2.1, by rw [List.append_assoc]; exact h3.symm⟩
     ·cases h1
   ·have hd : decide ((b :: r).headD 0 = 45) = false := decide_eq_false hb
    rw [hd, Bool.false_and]
    unfold endB Lib.hasPrefix
    have : (45 :: t ++ [58] : Bs).isPrefixOf (b :: r) = false := by
     show ((45 : UInt8) == b && (t ++ [58]).isPrefixOf r) = false
     have : ((45 : UInt8) == b) = false := beq_eq_false_iff_ne.2 (fun e => hb e.symm)
     rw [this]
     rfl
    rw [this]
    rfl
end Go.Proofs.YtdhgiammfpjniaaGreatDoor

namespace Go.Proofs.YtdhgiammfpjniaaGreatDoor.Ev
set_option linter.unusedSimpArgs false
set_option linter.unusedVariables false
open Go.RowKit
set_option maxRecDepth 100000 in
theorem afQ9 : aiQq 209 isDg := by
 intro c w
 have h := hQQ (dgI c)
 go_enter Tryz.func209, Tryz.ntmps209
 go_wp2_with fail
 all_goals
  go_ret
  refine ⟨aaQj ?_, rfl⟩
  rw [h.out, Bool.eq_iff_iff]
  simp <;> omega
set_option maxRecDepth 100000 in
theorem aiQ4 : aiQq 208 isLt := by
 intro c w
 have h := hQQ (ltI c)
 go_enter Tryz.func208, Tryz.ntmps208
 go_wp2_with fail
 all_goals
  go_ret
  refine ⟨aaQj ?_, rfl⟩
  rw [h.out, Bool.eq_iff_iff]
  simp <;> omega
theorem u8_eq {a b : UInt8} : ((a.toNat : Int) == (b.toNat : Int)) = decide (a = b) := by
 rw [Bool.eq_iff_iff]
 simp only [beq_iff_eq, decide_eq_true_eq]
 constructor
 ·intro h; exact UInt8.toNat_inj.1 (by omega)
 ·rintro rfl; rfl
set_option maxRecDepth 100000 in
theorem adQ2 (c : UInt8) (s : ByteArray) (hs : s.size ≤ maxLen) (w : World) :
 Calls Tryz.prog 174 #[.int .u8 (c.toNat : Int), .string s] w fun e w' => e = .returned (.bool (decide (c ∈ s.data.toList))) ∧ w = w' := by
 unfold maxLen at hs
 generalize hz : decide (c ∈ s.data.toList) = z
 have HZ := hQQ hz
 clear hz
 go_enter Tryz.func174, Tryz.ntmps174
 go_wp2_with fail
 go_loop [5] (fun i => ∃ k : Nat, k ≤ s.size ∧ i = .int .i64 (k : Int) ∧ Hid (c ∉ s.data.toList.take k)) (fun i => s.size - (intOf i).toNat)
 case atStart => exact ⟨0, Nat.zero_le _, rfl, show c ∉ s.data.toList.take 0 by simp⟩
 case round =>
  obtain ⟨k, hk, rfl, hn⟩ := hrel
  by_cases hlt : k < s.size
  ·have HB := hQQ (aaQw hlt)
   by_cases hc : s[k] = c
   ·have t1 : ((s[k].toNat : Int) == (c.toNat : Int)) = true := by rw [u8_eq]; simp [hc]
    have HM := hQQ (show decide (c ∈ s.data.toList) = true from decide_eq_true (by rw [← hc]; exact List.mem_of_getElem? HB.out))
    clear hc
    go_wp2_with fail
    go_ret
    exact ⟨aaQj (by rw [← HZ.out, HM.out]), rfl⟩
   ·have t1 : ((s[k].toNat : Int) == (c.toNat : Int)) = false := by rw [u8_eq]; simp [hc]
    have HN : Hid (c ∉ s.data.toList.take (k + 1)) := by
     show ¬ _
     rw [List.take_add_one, HB.out]
     intro hm
     rcases List.mem_append.1 hm with h | h
     ·exact hn.out h
     ·simp at h; exact hc h.symm
    clear hc
    go_wp2_with fail
    go_round
    case rel => exact ⟨k + 1, by omega, by go_num, HN.out⟩
    case measure => simp [intOf]; omega
  ·have HM := hQQ (show decide (c ∈ s.data.toList) = false from decide_eq_false (by
    have := hn.out
    rwa [List.take_of_length_le (by simp; omega)] at this))
   go_wp2_with fail
   go_ret
   exact ⟨aaQj (by rw [← HZ.out, HM.out]), rfl⟩
def mayB (l : List UInt8) : Bool := l.all isMay && decide (1 ≤ l.length) && decide (l.length ≤ 60)
set_option maxHeartbeats 1000000 in
set_option maxRecDepth 100000 in
theorem aoQy (s : ByteArray) (hs : s.size ≤ maxLen) (w : World) :
 Calls Tryz.prog 172 #[.string s] w fun e w' => e = .returned (.bool (mayB s.data.toList)) ∧ w = w' := by
 unfold maxLen at hs
 go_enter Tryz.func172, Tryz.ntmps172
 go_wp2_with fail
 go_loop [3] (fun i => ∃ k : Nat, k ≤ s.size ∧ i = .int .i64 (k : Int) ∧ Hid ((s.data.toList.take k).all isMay = true)) (fun i => s.size - (intOf i).toNat)
 case atStart => exact ⟨0, Nat.zero_le _, rfl, show (s.data.toList.take 0).all isMay = true from rfl⟩
 case round =>
  obtain ⟨k, hk, rfl, hall⟩ := hrel
  by_cases hlt : k < s.size
  ·have HB := hQQ (aaQw hlt)
   have CL := hQQ (aiQ4 s[k])
   have CD := hQQ (afQ9 s[k])
   have CI := hQQ (fun w => adQ2 s[k] ⟨#[46, 95, 43, 126, 94, 45, 58]⟩ (by decide) w)
   change Hid (∀ w, Calls Tryz.prog 174 #[.int .u8 (s[k].toNat : Int), .string ⟨#[46, 95, 43, 126, 94, 45, 58]⟩] w fun e w' => e = .returned (.bool (decide (s[k] ∈ ([46, 95, 43, 126, 94, 45, 58] : List UInt8)))) ∧ w = w') at CI
   have HM := hQQ (show isMay s[k] = (isDg s[k] || isLt s[k] || decide (s[k] ∈ ([46, 95, 43, 126, 94, 45, 58] : List UInt8))) from rfl)
   have HY := hQQ (fun (h : isMay s[k] = true) => acQ6 hall.out HB.out h)
   have HNo : Hid (isMay s[k] = false → mayB s.data.toList = false) := fun h => by
    unfold mayB
    have : s.data.toList.all isMay = false := by
     cases hx : s.data.toList.all isMay with
     | false => rfl
     | true =>
       have := List.all_eq_true.1 hx s[k] (List.mem_of_getElem? HB.out)
       rw [h] at this; cases this
    rw [this]; rfl
   clear hall
   generalize isMay s[k] = m at *
   generalize isDg s[k] = d at *
   generalize isLt s[k] = t at *
   generalize decide (s[k] ∈ ([46, 95, 43, 126, 94, 45, 58] : List UInt8)) = x at *
   cases d <;> cases t <;> cases x
   all_goals
    go_wp2_with fail
    refine (CL.out _).mono ?_
    rintro e w1 ⟨rfl, rfl⟩
    go_wp2_with fail
    refine (CD.out _).mono ?_
    rintro e w1 ⟨rfl, rfl⟩
    go_wp2_with fail
    try
     refine (CI.out _).mono ?_
     rintro e w1 ⟨rfl, rfl⟩
     go_wp2_with fail
    first
    | (go_ret
       exact ⟨aaQj (by rw [HNo.out (by rw [HM.out]; rfl)]), rfl⟩)
    | (go_round
       case rel => exact ⟨k + 1, by omega, by go_num, HY.out (by rw [HM.out]; rfl)⟩
       case measure => simp [intOf]; omega)
  ·have HM : Hid (mayB s.data.toList = (decide (1 ≤ s.size) && decide (s.size ≤ 60))) := by
    show mayB _ = _
    have := hall.out
    rw [List.take_of_length_le (by simp; omega)] at this
    unfold mayB
    rw [this, aaQd]; rfl
   go_wp2_with fail
   all_goals
    go_ret
    refine ⟨aaQj ?_, rfl⟩
    rw [HM.out, Bool.eq_iff_iff]
    simp <;> omega
def digB (l : List UInt8) : Bool := l.all isDg && decide (1 ≤ l.length) && decide (l.length ≤ 9)
set_option maxHeartbeats 1000000 in
set_option maxRecDepth 100000 in
theorem aiQ5 (s : ByteArray) (hs : s.size ≤ maxLen) (w : World) :
 Calls Tryz.prog 173 #[.string s] w fun e w' => e = .returned (.bool (digB s.data.toList)) ∧ w = w' := by
 unfold maxLen at hs
 go_enter Tryz.func173, Tryz.ntmps173
 go_wp2_with fail
 go_loop [3] (fun i => ∃ k : Nat, k ≤ s.size ∧ i = .int .i64 (k : Int) ∧ Hid ((s.data.toList.take k).all isDg = true)) (fun i => s.size - (intOf i).toNat)
 case atStart => exact ⟨0, Nat.zero_le _, rfl, show (s.data.toList.take 0).all isDg = true from rfl⟩
 case round =>
  obtain ⟨k, hk, rfl, hall⟩ := hrel
  by_cases hlt : k < s.size
  ·have HB := hQQ (aaQw hlt)
   have CD := hQQ (afQ9 s[k])
   have HY := hQQ (fun (h : isDg s[k] = true) => acQ6 hall.out HB.out h)
   have HNo : Hid (isDg s[k] = false → digB s.data.toList = false) := fun h => by
    unfold digB
    have : s.data.toList.all isDg = false := by
     cases hx : s.data.toList.all isDg with
     | false => rfl
     | true =>
       have := List.all_eq_true.1 hx s[k] (List.mem_of_getElem? HB.out)
       rw [h] at this; cases this
    rw [this]; rfl
   clear hall
   generalize isDg s[k] = d at *
   cases d
   ·have HN2 : Hid (digB s.data.toList = false) := HNo.out rfl
    clear HNo HY
    go_wp2_with fail
    refine (CD.out _).mono ?_
    rintro e w1 ⟨rfl, rfl⟩
    go_wp2_with fail
    go_ret
    exact ⟨aaQj (by rw [HN2.out]), rfl⟩
   ·have HY2 : Hid ((s.data.toList.take (k + 1)).all isDg = true) := HY.out rfl
    clear HY
    go_wp2_with fail
    refine (CD.out _).mono ?_
    rintro e w1 ⟨rfl, rfl⟩
    go_wp2_with fail
    go_round
    case rel => exact ⟨k + 1, by omega, by go_num, HY2.out⟩
    case measure => simp [intOf]; omega
  ·have HM : Hid (digB s.data.toList = (decide (1 ≤ s.size) && decide (s.size ≤ 9))) := by
    show digB _ = _
    have := hall.out
    rw [List.take_of_length_le (by simp; omega)] at this
    unfold digB
    rw [this, aaQd]; rfl
   go_wp2_with fail
   all_goals
    go_ret
    refine ⟨aaQj ?_, rfl⟩
    rw [HM.out, Bool.eq_iff_iff]
    simp <;> omega
end Go.Proofs.YtdhgiammfpjniaaGreatDoor.Ev
