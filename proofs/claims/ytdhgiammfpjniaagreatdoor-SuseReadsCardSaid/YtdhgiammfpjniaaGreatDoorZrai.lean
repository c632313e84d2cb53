/- Parts of the proof. -/
import Derived.Test.YtdhgiammfpjniaaGreatDoorZrah
import Derived.Defers
import Derived.Recover
import Derived.Laws.Pointers
namespace Go.Proofs.YtdhgiammfpjniaaGreatDoor.Ev
set_option linter.unusedSimpArgs false
set_option linter.unusedVariables false
open Go.RowKit
theorem afQp {s : ByteArray} {k o : Nat} (h : k < s.size) : aaQq o (s.data.toList.drop k) = if s[k] = 32 then 0 else if s[k] = 41 ∧ o = 0 then 0 else 1 + aaQq (if s[k] = 40 then o + 1 else if s[k] = 41 then o - 1 else o) (s.data.toList.drop (k + 1)) := by
 have h1 := aaQw h
 have h2 : s.data.toList.drop k = s[k] :: s.data.toList.drop (k + 1) := by
  rw [List.drop_eq_getElem_cons (by rw [aaQd]; exact h)]
  rw [List.getElem?_eq_getElem (by rw [aaQd]; exact h)] at h1
  injection h1 with h1
  rw [h1]
 rw [h2]
 simp only [aaQq]
theorem arQj {s : ByteArray} (h : 0 < s.size) : endN s.data.toList = if s[0] = 40 ∨ s[0] = 41 then 1 else aaQq 0 s.data.toList := by
 rw [adQg h]
 simp only [endN]
set_option maxHeartbeats 4000000 in
set_option maxRecDepth 100000 in
theorem end_any (s : ByteArray) (hs : s.size ≤ maxLen) (w : World) : Calls Tryz.prog 227 #[.string s] w fun e w' => e = .returned (.int .i64 (endN s.data.toList : Nat)) ∧ w = w' := by
 unfold maxLen at hs
 obtain ⟨x, hx⟩ : ∃ x, x = endN s.data.toList := ⟨_, rfl⟩
 rw [← hx]
 have HX := hQQ hx
 clear hx
 by_cases h0 : s.size = 0
 ·obtain rfl := afQa h0
  have HV : Hid (x = 0) := HX.out
  clear HX h0 hs
  go_enter Tryz.func227, Tryz.ntmps227
  go_wp2_with fail
  go_loop [20] (fun i => i = .int .i64 0) (fun i => 0)
  case atStart => rfl
  case round =>
   subst hrel
   go_wp2_with fail
   go_ret
   exact ⟨by rw [HV.out]; rfl, rfl⟩
 have hp : 0 < s.size := by omega
 obtain ⟨b1, b2, b3⟩ := abQg h0
 by_cases hpar : s[0] = 40 ∨ s[0] = 41
 ·have HV : Hid (x = 1) := HX.out.trans ((arQj hp).trans (if_pos hpar))
  clear HX b3
  by_cases h4 : s[0] = 40
  ·obtain ⟨t4, _⟩ := abQu (n := 40) rfl h4
   clear hpar h4
   go_enter Tryz.func227, Tryz.ntmps227
   go_wp2_with fail
   go_ret
   exact ⟨by rw [HV.out]; rfl, rfl⟩
  ·obtain ⟨t4, _⟩ := aaQ6 (n := 40) rfl h4
   obtain ⟨t5, _⟩ := abQu (n := 41) rfl (hpar.resolve_left h4)
   clear hpar h4
   go_enter Tryz.func227, Tryz.ntmps227
   go_wp2_with fail
   go_ret
   exact ⟨by rw [HV.out]; rfl, rfl⟩
 have HV : Hid (x = 0 + aaQq 0 (s.data.toList.drop 0)) := HX.out.trans ((arQj hp).trans ((if_neg hpar).trans (by simp)))
 obtain ⟨t4, _⟩ := aaQ6 (n := 40) rfl (fun e => hpar (.inl e))
 obtain ⟨t5, _⟩ := aaQ6 (n := 41) rfl (fun e => hpar (.inr e))
 clear HX b3 hpar
 go_enter Tryz.func227, Tryz.ntmps227
 go_wp2_with fail
 go_loop [3, 20] (fun o i => ∃ k n : Nat, k ≤ s.size ∧ n ≤ k ∧ i = .int .i64 (k : Int) ∧ o = .int .i64 (n : Int) ∧ Hid (x = k + aaQq n (s.data.toList.drop k))) (fun _ i => s.size - (intOf i).toNat)
 case atStart => exact ⟨0, 0, Nat.zero_le _, Nat.le_refl _, rfl, rfl, HV⟩
 case round =>
  obtain ⟨k, n, hk, hnk, rfl, rfl, hn⟩ := hrel
  clear HV t4 t5
  by_cases hlt : k < s.size
  ·have HS : Hid (aaQq n (s.data.toList.drop k) = if s[k] = 32 then 0 else if s[k] = 41 ∧ n = 0 then 0 else 1 + aaQq (if s[k] = 40 then n + 1 else if s[k] = 41 then n - 1 else n) (s.data.toList.drop (k + 1))) := afQp hlt
   by_cases h2 : s[k] = 32
   ·obtain ⟨t2, _⟩ := abQu (n := 32) rfl h2
    have HV : Hid (x = k) := by show x = _; rw [hn.out, HS.out, if_pos h2]; omega
    clear HS hn h2
    go_wp2_with fail
    go_ret
    exact ⟨by rw [HV.out]; rfl, rfl⟩
   ·obtain ⟨t2, _⟩ := aaQ6 (n := 32) rfl h2
    by_cases h4 : s[k] = 40
    ·obtain ⟨t4, _⟩ := abQu (n := 40) rfl h4
     have h5 : ¬ s[k] = 41 := by rw [h4]; decide
     obtain ⟨t5, _⟩ := aaQ6 (n := 41) rfl h5
     have HV : Hid (x = k + 1 + aaQq (n + 1) (s.data.toList.drop (k + 1))) := by show x = _; rw [hn.out, HS.out, if_neg h2, if_neg (fun e => h5 e.1), if_pos h4]; omega
     clear HS hn h2 h4 h5
     go_wp2_with fail
     go_round
     case rel => exact ⟨k + 1, n + 1, by omega, by omega, by go_num, by go_num, HV⟩
     case measure => simp [intOf]; omega
    ·obtain ⟨t4, _⟩ := aaQ6 (n := 40) rfl h4
     by_cases h5 : s[k] = 41
     ·obtain ⟨t5, _⟩ := abQu (n := 41) rfl h5
      by_cases hn0 : n = 0
      ·subst hn0
       have HV : Hid (x = k) := by show x = _; rw [hn.out, HS.out, if_neg h2, if_pos ⟨h5, rfl⟩]; omega
       clear HS hn h2 h4 h5
       go_wp2_with fail
       go_ret
       exact ⟨by rw [HV.out]; rfl, rfl⟩
      ·have HV : Hid (x = k + 1 + aaQq (n - 1) (s.data.toList.drop (k + 1))) := by show x = _; rw [hn.out, HS.out, if_neg h2, if_neg (fun e => hn0 e.2), if_neg h4, if_pos h5]; omega
       have tn : ((n : Int) == 0) = false := beq_eq_false_iff_ne.2 (by omega)
       have hn1 : 1 ≤ n := by omega
       clear HS hn h2 h4 h5 hn0
       go_wp2_with fail
       go_round
       case rel => exact ⟨k + 1, n - 1, by omega, by omega, by go_num, by congr 1; omega, HV⟩
       case measure => simp [intOf]; omega
     ·obtain ⟨t5, _⟩ := aaQ6 (n := 41) rfl h5
      have HV : Hid (x = k + 1 + aaQq n (s.data.toList.drop (k + 1))) := by show x = _; rw [hn.out, HS.out, if_neg h2, if_neg (fun e => h5 e.1), if_neg h4, if_neg h5]; omega
      clear HS hn h2 h4 h5
      go_wp2_with fail
      go_round
      case rel => exact ⟨k + 1, n, by omega, by omega, by go_num, rfl, HV⟩
      case measure => simp [intOf]; omega
  ·have HV : Hid (x = s.size) := by
    show x = _
    rw [hn.out, List.drop_eq_nil_of_le (by rw [aaQd]; omega)]
    simp only [aaQq]
    omega
   clear hn
   go_wp2_with fail
   go_ret
   exact ⟨by rw [HV.out]; rfl, rfl⟩
theorem apQ5 (s : ByteArray) : (⟨(Lib.trimLeftB s.data.toList 32).toArray⟩ : ByteArray) = mkS (skipB s.data.toList) := rfl
set_option maxHeartbeats 1000000 in
set_option maxRecDepth 100000 in
theorem amQ4 (s : ByteArray) (hs : s.size ≤ maxLen) (w : World) : Calls Tryz.prog 216 #[.string s] w fun e w' => e = .returned (.tuple #[.string (mkS (cutW s.data.toList).1), .string (mkS (cutW s.data.toList).2)]) ∧ ∃ n, w' = w.drewN n := by
 have CT := hQQ (fun w => Tryz.strings_TrimLeft_one s 32 (by decide) w)
 rw [apQ5] at CT
 have hz : (mkS (skipB s.data.toList)).size ≤ maxLen := by
  rw [aaQg]; have := agQj s.data.toList; rw [aaQd] at this; omega
 obtain ⟨t, ht⟩ : ∃ t, t = mkS (skipB s.data.toList) := ⟨_, rfl⟩
 have HT : Hid (t.data.toList = skipB s.data.toList) := by show _ = _; rw [ht]; rfl
 rw [← ht] at CT hz
 have CE := hQQ (fun w => end_any t hz w)
 have hn : endN t.data.toList ≤ t.size := by rw [← aaQd]; exact endN_le _
 have H1 : Hid (mkS (cutW s.data.toList).1 = t.extract 0 (endN t.data.toList)) := by
  show _ = _
  refine Eq.symm (mkS_of ?_)
  rw [acQa]
  unfold cutW
  rw [HT.out]
 have H2 : Hid (mkS (cutW s.data.toList).2 = t.extract (endN t.data.toList) t.size) := by
  show _ = _
  refine Eq.symm (mkS_of ?_)
  rw [acQ9]
  unfold cutW
  rw [HT.out]
 rw [H1.out, H2.out]
 generalize endN t.data.toList = n at *
 unfold maxLen at hz
 clear H1 H2 HT ht hs
 go_enter Tryz.func216, Tryz.ntmps216
 go_wp2_with fail
 refine (CT.out _).mono ?_
 rintro e w1 ⟨rfl, rfl⟩
 go_wp2_with fail
 refine (CE.out _).mono ?_
 rintro e w1 ⟨rfl, rfl⟩
 go_wp2_with fail
 go_quiet (fail)
 go_wp2_with fail
 exact bodyPost_ret (v := .tuple #[.string (t.extract 0 n), .string (t.extract n t.size)]) (by simp [results, Tryz.results216, go_sem]) rfl ⟨rfl, _, rfl⟩
end Go.Proofs.YtdhgiammfpjniaaGreatDoor.Ev
namespace Go.Proofs.YtdhgiammfpjniaaGreatDoor.Ev
set_option linter.unusedSimpArgs false
set_option linter.unusedVariables false
open Go.RowKit
theorem ajQi (o : Option Parts) : ∃ a b c : ByteArray, evrV o = .agg #[.string a, .string b, .string c] := by
 cases o with
 | none => exact ⟨_, _, _, rfl⟩
 | some p => exact ⟨_, _, _, rfl⟩
theorem amQ3 (l : Wd) : (errV (parse l) == 0) = evrB l := by
 unfold errV evrB
 cases parse l <;> rfl
theorem amQy (l : Wd) : acQc 0 l = decide (l = []) := rfl
theorem akQ2 {o : Int} (h : o ≠ 0) (l : Wd) : acQc o l = (decide (0 ≤ o) && decide (o < 8) && evrB l) := by unfold acQc; rw [if_neg h]
set_option maxHeartbeats 1000000 in
set_option maxRecDepth 100000 in
theorem ahQ1 (o : Int) (s : ByteArray) (w : World) : Calls Tryz.prog 228 #[.int .i64 o, .string s] w fun e w' => e = .returned (.bool (acQc o s.data.toList)) ∧ Below w.heap.size w w' := by
 by_cases ho : o = 0
 ·subst ho
  rw [amQy]
  by_cases h0 : s.size = 0
  ·obtain rfl := afQa h0
   clear h0
   go_enter Tryz.func228, Tryz.ntmps228
   go_wp2_with fail
   go_ret
   exact ⟨rfl, Below.refl _ _⟩
  ·obtain ⟨b1, b2, b3⟩ := abQg h0
   have HV := hQQ (decide_eq_false b3)
   clear b3 h0
   go_enter Tryz.func228, Tryz.ntmps228
   go_wp2_with fail
   go_ret
   exact ⟨aaQj (by rw [HV.out]), Below.refl _ _⟩
 ·rw [akQ2 ho, ← amQ3]
  have C := hQQ (fun w => akQu s w)
  obtain ⟨a, b, c, hA⟩ := ajQi (parse s.data.toList)
  generalize errV (parse s.data.toList) = x at *
  rw [hA] at C
  have tto : (o == 0) = false := beq_eq_false_iff_ne.2 ho
  clear hA ho
  go_enter Tryz.func228, Tryz.ntmps228
  go_wp2_with fail
  refine (C.out _).mono ?_
  rintro e w1 ⟨rfl, hb⟩
  have HB := hQQ hb
  have hz := hb.size
  clear hb C
  by_cases h1 : 0 ≤ o <;> by_cases h2 : o < 8
  all_goals first
  | (exfalso; omega)
  | (go_wp2_with fail
     go_ret
     refine ⟨aaQj ?_, HB.out.alloc hz _⟩
     simp [h1, h2] <;> omega)
theorem aqQb (d : Dep) : single d = (decide (d.kind = 1) || decide (d.kind = 5) || decide (d.kind = 6)) := rfl
set_option maxHeartbeats 1000000 in
set_option maxRecDepth 100000 in
theorem akQ7 (d : Dep) (s : Value) (w : World) : Calls Tryz.prog 229 #[.agg (rowD d s)] w fun e w' => e = .returned (.bool (!single d)) ∧ Below w.heap.size w w' := by
 unfold rowD
 have HV := hQQ (aqQb d)
 generalize single d = x at *
 generalize d.kind = k at *
 have c0 : (w.alloc (.cells #[.int .i64 k, .string d.name, .int .i64 d.op, .string d.evr, s] 39)).cell? ⟨w.heap.size, 0, none⟩ = some (.int .i64 k) := (Blk.new _ _ _).cell 0
 have HB : Hid (Below w.heap.size w (w.alloc (.cells #[.int .i64 k, .string d.name, .int .i64 d.op, .string d.evr, s] 39))) := (Below.refl _ _).alloc (Nat.le_refl _) _
 by_cases h1 : k = 1
 ·subst h1
  go_enter Tryz.func229, Tryz.ntmps229
  go_wp2_with fail
  go_ret
  exact ⟨aaQj (by rw [HV.out]; rfl), HB.out⟩
 by_cases h5 : k = 5
 ·subst h5
  go_enter Tryz.func229, Tryz.ntmps229
  go_wp2_with fail
  go_ret
  exact ⟨aaQj (by rw [HV.out]; rfl), HB.out⟩
 by_cases h6 : k = 6
 ·subst h6
  go_enter Tryz.func229, Tryz.ntmps229
  go_wp2_with fail
  go_ret
  exact ⟨aaQj (by rw [HV.out]; rfl), HB.out⟩
 have HX : Hid (x = false) := by show x = _; rw [HV.out]; simp [h1, h5, h6]
 have t1 : (k != 1) = true := by simpa using h1
 have t5 : (k != 5) = true := by simpa using h5
 have t6 : (k != 6) = true := by simpa using h6
 clear HV h1 h5 h6
 go_enter Tryz.func229, Tryz.ntmps229
 go_wp2_with fail
 go_ret
 exact ⟨aaQj (by rw [HX.out]; rfl), HB.out⟩
theorem amQa {ds : List Dep} {k : Nat} {d : Dep} (h : (ds.take k).all single = true) (hk : ds[k]? = some d) (hd : single d = true) : (ds.take (k + 1)).all single = true := by
 rw [List.take_add_one, hk, List.all_append, h]; simp [hd]
set_option maxHeartbeats 2000000 in
set_option maxRecDepth 100000 in
theorem ajQf (ds : List Dep) (A : Option Addr) (c : Nat) (S : Nat → Prop) (w0 : World) (hA : ArgsAt w0 S ds A) (hl : ds.length ≤ c) (hc : c ≤ maxLen) :
 Calls Tryz.prog 130 #[.slice A ds.length c, .func (.func 229) #[] #[]] w0 fun e w' => (∃ n : Int, (decide (0 ≤ n) = !ds.all single) ∧ e = .returned (.int .i64 n)) ∧ Below w0.heap.size w0 w' := by
 have ef : ∀ args w, (callFunc 229 args).run Tryz.prog w = .ok (.enter 229 args) w := enters_of Tryz.func229 (by kernel_rfl) rfl
 unfold maxLen at hc
 rcases Nat.eq_zero_or_pos ds.length with h0 | h0
 ·obtain rfl := List.eq_nil_of_length_eq_zero h0
  clear hA h0
  go_enter Tryz.func130, Tryz.ntmps130
  go_wp2_with fail
  go_loop [8] (fun i => i = .int .i64 0) (fun i => 0)
  case atStart => rfl
  case round =>
   subst hrel
   go_wp2_with fail
   go_ret
   exact ⟨⟨-1, by decide, rfl⟩, Below.refl _ _⟩
 obtain ⟨b, o, -, rfl, -, -, -⟩ := hA 0 ds[0] (List.getElem?_eq_getElem h0)
 have HA : Hid (∀ (k : Nat) (hk : k < ds.length), ∃ t, S b ∧ CellsD w0 b (o + k * 5) ds[k] t ∧ Lay w0 S ds[k] t) := fun k hk => by
  obtain ⟨b', o', t, e, h1, h2, h3⟩ := hA k ds[k] (List.getElem?_eq_getElem hk)
  injection e with e
  injection e with e1 e2
  subst e1; subst e2
  exact ⟨t, h1, h2, h3⟩
 clear hA
 go_enter Tryz.func130, Tryz.ntmps130
 go_wp2_with fail
 go_loopw [8] (fun i wx => ∃ k : Nat, k ≤ ds.length ∧ i = .int .i64 (k : Int) ∧ Hid ((ds.take k).all single = true) ∧ Hid (Below w0.heap.size w0 wx)) (fun i _ => ds.length - (intOf i).toNat)
 case atStart => exact ⟨0, Nat.zero_le _, rfl, show (ds.take 0).all single = true from rfl, Below.refl _ _⟩
 case round =>
  obtain ⟨k, hk, rfl, hall, hb⟩ := hrel
  by_cases hlt : k < ds.length
  ·obtain ⟨t, hS, hC, hL⟩ := HA.out k hlt
   have hC2 := hC.stay (hb.out.block b hC.lt)
   obtain ⟨c0, c1, c2, c3, c4⟩ := hC2
   have C := hQQ (fun w => akQ7 ds[k] t w)
   unfold rowD at C
   have hz := hb.out.size
   cases hs : single ds[k] with
   | true =>
     have HN := hQQ (amQa hall.out (List.getElem?_eq_getElem hlt) hs)
     rw [hs] at C
     clear hs hS hC hL hall
     go_wp2_with fail
     refine (C.out _).mono ?_
     rintro e w1 ⟨rfl, hb1⟩
     have HB : Hid (Below w0.heap.size w0 w1) := hb.out.trans (hb1.mono hz)
     clear hb1 hb C
     go_wp2_with fail
     go_roundw
     case rel => exact ⟨k + 1, by omega, by go_num, HN.out, HB.out⟩
     case measure => simp [intOf]; omega
   | false =>
     have HN : Hid (ds.all single = false) := by
      show _ = _
      cases hx : ds.all single with
      | false => rfl
      | true => rw [List.all_eq_true.1 hx ds[k] (List.getElem_mem hlt)] at hs; cases hs
     rw [hs] at C
     clear hs hS hC hL hall
     go_wp2_with fail
     refine (C.out _).mono ?_
     rintro e w1 ⟨rfl, hb1⟩
     have HB : Hid (Below w0.heap.size w0 w1) := hb.out.trans (hb1.mono hz)
     clear hb1 hb C
     go_wp2_with fail
     go_ret
     exact ⟨⟨k, by rw [HN.out]; simp, rfl⟩, HB.out⟩
  ·have HN : Hid (ds.all single = true) := by
    have := hall.out
    rwa [List.take_of_length_le (by omega)] at this
   clear hall
   go_wp2_with fail
   go_ret
   exact ⟨⟨-1, by rw [HN.out]; rfl, rfl⟩, hb.out⟩
set_option maxHeartbeats 1000000 in
set_option maxRecDepth 100000 in
theorem agQf (ds : List Dep) (A : Option Addr) (c : Nat) (S : Nat → Prop) (w0 : World) (hA : ArgsAt w0 S ds A) (hl : ds.length ≤ c) (hc : c ≤ maxLen) :
 Calls Tryz.prog 65 #[.slice A ds.length c, .func (.func 229) #[] #[]] w0 fun e w' => e = .returned (.bool (!ds.all single)) ∧ Below w0.heap.size w0 w' := by
 have C := hQQ (ajQf ds A c S w0 hA hl hc)
 clear hA
 go_enter Tryz.func65, Tryz.ntmps65
 go_wp2_with fail
 refine C.out.mono ?_
 rintro e w1 ⟨⟨n, hn, rfl⟩, hb1⟩
 have HB := hQQ hb1
 have HN := hQQ hn
 clear hb1 hn C
 go_wp2_with fail
 go_ret
 refine ⟨aaQj ?_, HB.out⟩
 rw [← HN.out]
theorem aqQx {d : Dep} (h : d.kind = 1) : mayPart d = (nameB d.name.data.toList && acQc d.op d.evr.data.toList && decide (d.args.length = 0)) := by
 obtain ⟨k, n, o, e, ds⟩ := d
 unfold mayPart
 rw [if_pos h]
theorem aqQw {d : Dep} (h : d.kind ≠ 1) : mayPart d = (decide (d.name.data.toList = []) && decide (d.op = 0) && decide (d.evr.data.toList = []) && abQ0 d.kind d.args) := by
 obtain ⟨k, n, o, e, ds⟩ := d
 unfold mayPart
 rw [if_neg h]
theorem afQg {s : ByteArray} (h : s.data.toList ≠ []) : s.size ≠ 0 := fun e => h (abQe e)
set_option maxHeartbeats 4000000 in
set_option maxRecDepth 100000 in
theorem apQf (d : Dep) (s : Value) (S : Nat → Prop) (w0 : World) (hL : Lay w0 S d s) (hT : Tabs w0) (hk : d.kind = 1) :
 Calls Tryz.prog 221 #[.agg (rowD d s)] w0 fun e w' => e = .returned (.bool (mayPart d)) ∧ Below w0.heap.size w0 w' := by
 obtain ⟨A, c, rfl, hl, hc⟩ := hL.form_
 have hp := aqQx hk
 have CN := hQQ (fun w h => agQl d.name w h)
 have CM := hQQ (fun w => ahQ1 d.op d.evr w)
 unfold rowD
 rw [hk, hp]
 clear hp hk hL
 generalize nameB d.name.data.toList = x at *
 generalize acQc d.op d.evr.data.toList = y at *
 generalize d.name = n at *
 generalize d.op = o at *
 generalize d.evr = v at *
 generalize d.args.length = m at *
 have HT := hQQ (hT.below ((Below.refl _ _).alloc (Nat.le_refl _) (.cells #[.int .i64 1, .string n, .int .i64 o, .string v, .slice A m c] 39)) hT.two)
 have HB : Hid (Below w0.heap.size w0 (w0.alloc (.cells #[.int .i64 1, .string n, .int .i64 o, .string v, .slice A m c] 39))) := (Below.refl _ _).alloc (Nat.le_refl _) _
 have K := hQQ (Blk.new w0 39 #[.int .i64 1, .string n, .int .i64 o, .string v, .slice A m c])
 clear hT
 go_enter Tryz.func221, Tryz.ntmps221
 go_wp2_with fail
 refine (CN.out _ HT.out).mono ?_
 rintro e w1 ⟨rfl, hb1⟩
 have HB1 : Hid (Below w0.heap.size w0 w1) := HB.out.trans (hb1.mono (by simp))
 have hz1 := HB1.out.size
 have K1 := hQQ (K.out.below hb1 (by simp))
 have c0 := K1.out.cell 0
 have c1 := K1.out.cell 1
 have c2 := K1.out.cell 2
 have c3 := K1.out.cell 3
 have c4 := K1.out.cell 4
 clear hb1 K HB HT CN
 cases x with
 | false =>
   go_wp2_with fail
   go_ret
   exact ⟨rfl, HB1.out⟩
 | true =>
   go_wp2_with fail
   refine (CM.out _).mono ?_
   rintro e w2 ⟨rfl, hb2⟩
   have HB2 : Hid (Below w0.heap.size w0 w2) := HB1.out.trans (hb2.mono hz1)
   clear hb2 HB1 K1 c0 c1 c2 c3 c4 CM
   cases y with
   | false =>
     go_wp2_with fail
     go_ret
     exact ⟨rfl, HB2.out⟩
   | true =>
     go_wp2_with fail
     go_ret
     refine ⟨aaQj ?_, HB2.out⟩
     rw [Bool.eq_iff_iff]
     simp <;> omega
set_option maxHeartbeats 8000000 in
set_option maxRecDepth 100000 in
theorem apQe (d : Dep) (s : Value) (S : Nat → Prop) (w0 : World) (hL : Lay w0 S d s) (hk : d.kind ≠ 1) :
 Calls Tryz.prog 221 #[.agg (rowD d s)] w0 fun e w' => e = .returned (.bool (mayPart d)) ∧ Below w0.heap.size w0 w' := by
 obtain ⟨A, c, rfl, hl, hc, hA⟩ := hL.args_
 have HP := hQQ (aqQw hk)
 have HB : Hid (Below w0.heap.size w0 (w0.alloc (.cells (rowD d (.slice A d.args.length c)) 39))) := (Below.refl _ _).alloc (Nat.le_refl _) _
 have CC := hQQ (fun w (hw : Below w0.heap.size w0 w) => agQf d.args A c S w (hA.stay (fun _ h => h) (StayS.below' hw)) hl hc)
 have N2 := hQQ (fun (h : d.kind = 2 ∨ d.kind = 3) => show abQ0 d.kind d.args = decide (2 ≤ d.args.length) by unfold abQ0; rw [if_pos h])
 have N4 := hQQ (fun (h : d.kind = 4) => show abQ0 d.kind d.args = (decide (d.args.length = 2) || decide (d.args.length = 3)) by rw [h]; rfl)
 have N5 := hQQ (fun (h : d.kind = 5) => show abQ0 d.kind d.args = (decide (2 ≤ d.args.length) && d.args.all single) by rw [h]; rfl)
 have N6 := hQQ (fun (h : d.kind = 6) => show abQ0 d.kind d.args = (decide (d.args.length = 2) && d.args.all single) by rw [h]; rfl)
 have N0 := hQQ (fun (h : ¬ (d.kind = 2 ∨ d.kind = 3) ∧ d.kind ≠ 4 ∧ d.kind ≠ 5 ∧ d.kind ≠ 6) => show abQ0 d.kind d.args = false by unfold abQ0; rw [if_neg h.1, if_neg h.2.1, if_neg h.2.2.1, if_neg h.2.2.2])
 unfold rowD at HB ⊢
 generalize mayPart d = x at *
 generalize d.name = n at *
 generalize d.op = o at *
 generalize d.evr = v at *
 generalize abQ0 d.kind d.args = z at *
 generalize d.args.all single = q at *
 generalize d.args.length = m at *
 generalize d.kind = k at *
 have tk : (k == 1) = false := beq_eq_false_iff_ne.2 hk
 clear hA hL
 unfold maxLen at hc
 by_cases hn : n.data.toList = []
 ·obtain rfl := aaQx hn
  by_cases ho : o = 0
  ·subst ho
   by_cases hv : v.data.toList = []
   ·obtain rfl := aaQx hv
    have HX : Hid (x = z) := by show x = z; rw [HP.out]; simp
    clear HP hn hv
    have HB' := HB.out
    clear HB
    by_cases k2 : k = 2 ∨ k = 3
    ·have HZ : Hid (x = decide (2 ≤ m)) := HX.out.trans (N2.out k2)
     clear N2 N4 N5 N6 N0 HX CC
     have HB := hQQ HB'
     clear HB'
     rcases k2 with rfl | rfl
     all_goals
      go_enter Tryz.func221, Tryz.ntmps221
      go_wp2_with fail
      go_ret
      refine ⟨aaQj ?_, HB.out⟩
      rw [HZ.out, Bool.eq_iff_iff]
      simp <;> omega
    ·by_cases k4 : k = 4
     ·have HZ : Hid (x = (decide (m = 2) || decide (m = 3))) := HX.out.trans (N4.out k4)
      subst k4
      clear N2 N4 N5 N6 N0 HX CC k2 hk tk
      have HB := hQQ HB'
      clear HB'
      by_cases m2 : (m : Int) = 2
      ·obtain rfl : m = 2 := by omega
       clear m2
       go_enter Tryz.func221, Tryz.ntmps221
       go_wp2_with fail
       go_ret
       refine ⟨aaQj ?_, HB.out⟩
       rw [HZ.out]; rfl
      ·have t : ((m : Int) == 2) = false := beq_eq_false_iff_ne.2 m2
       have HM : Hid (¬ m = 2) := fun e => m2 (by omega)
       clear m2
       go_enter Tryz.func221, Tryz.ntmps221
       go_wp2_with fail
       go_ret
       refine ⟨aaQj ?_, HB.out⟩
       rw [HZ.out, decide_eq_false HM.out, Bool.eq_iff_iff]
       simp <;> omega
     ·by_cases k5 : k = 5
      ·have HZ : Hid (x = (decide (2 ≤ m) && q)) := HX.out.trans (N5.out k5)
       subst k5
       clear N2 N4 N5 N6 N0 HX k2 k4 hk tk
       have HB := hQQ HB'
       clear HB'
       by_cases m2 : (2 : Int) ≤ (m : Int)
       ·have HM : Hid (2 ≤ m) := by show 2 ≤ m; omega
        have C := hQQ (CC.out _ HB.out)
        clear CC
        have hz := HB.out.size
        go_enter Tryz.func221, Tryz.ntmps221
        go_wp2_with fail
        refine C.out.mono ?_
        rintro e w1 ⟨rfl, hb1⟩
        have HB1 : Hid (Below w0.heap.size w0 w1) := HB.out.trans (hb1.mono hz)
        clear hb1 HB C
        go_wp2_with fail
        go_ret
        refine ⟨aaQj ?_, HB1.out⟩
        rw [HZ.out, decide_eq_true HM.out]
        simp
       ·have HM : Hid (¬ 2 ≤ m) := by show ¬ 2 ≤ m; omega
        clear CC
        go_enter Tryz.func221, Tryz.ntmps221
        go_wp2_with fail
        go_ret
        refine ⟨aaQj ?_, HB.out⟩
        rw [HZ.out, decide_eq_false HM.out]
        rfl
      ·by_cases k6 : k = 6
       ·have HZ : Hid (x = (decide (m = 2) && q)) := HX.out.trans (N6.out k6)
        subst k6
        clear N2 N4 N5 N6 N0 HX k2 k4 k5 hk tk
        have HB := hQQ HB'
        clear HB'
        by_cases m2 : (m : Int) = 2
        ·have HM : Hid (m = 2) := by show m = 2; omega
         have t : ((m : Int) == 2) = true := by rw [m2]; rfl
         have C := hQQ (CC.out _ HB.out)
         clear CC m2
         have hz := HB.out.size
         go_enter Tryz.func221, Tryz.ntmps221
         go_wp2_with fail
         refine C.out.mono ?_
         rintro e w1 ⟨rfl, hb1⟩
         have HB1 : Hid (Below w0.heap.size w0 w1) := HB.out.trans (hb1.mono hz)
         clear hb1 HB C
         go_wp2_with fail
         go_ret
         refine ⟨aaQj ?_, HB1.out⟩
         rw [HZ.out, decide_eq_true HM.out]
         simp
        ·have HM : Hid (¬ m = 2) := by show ¬ m = 2; omega
         have t : ((m : Int) == 2) = false := beq_eq_false_iff_ne.2 m2
         clear CC m2
         go_enter Tryz.func221, Tryz.ntmps221
         go_wp2_with fail
         go_ret
         refine ⟨aaQj ?_, HB.out⟩
         rw [HZ.out, decide_eq_false HM.out]
         rfl
       ·have HZ : Hid (x = false) := HX.out.trans (N0.out ⟨k2, k4, k5, k6⟩)
        have t2 : (k == 2) = false := beq_eq_false_iff_ne.2 fun e => k2 (.inl e)
        have t3 : (k == 3) = false := beq_eq_false_iff_ne.2 fun e => k2 (.inr e)
        have t4 : (k == 4) = false := beq_eq_false_iff_ne.2 k4
        have t5 : (k == 5) = false := beq_eq_false_iff_ne.2 k5
        have t6 : (k == 6) = false := beq_eq_false_iff_ne.2 k6
        clear N2 N4 N5 N6 N0 HX k2 k4 k5 k6 hk CC
        have HB := hQQ HB'
        clear HB'
        go_enter Tryz.func221, Tryz.ntmps221
        go_wp2_with fail
        go_ret
        exact ⟨by rw [HZ.out]; rfl, HB.out⟩
   ·have HX : Hid (x = false) := by show x = false; rw [HP.out, decide_eq_false hv]; simp
    obtain ⟨b1, b2, b3⟩ := abQg (afQg hv)
    clear HP hn hv b3 N2 N4 N5 N6 N0 CC hk
    go_enter Tryz.func221, Tryz.ntmps221
    go_wp2_with fail
    go_ret
    exact ⟨by rw [HX.out]; rfl, HB.out⟩
  ·have HX : Hid (x = false) := by show x = false; rw [HP.out, decide_eq_false ho]; simp
   have tto : (o != 0) = true := by simpa using ho
   clear HP hn ho N2 N4 N5 N6 N0 CC hk
   go_enter Tryz.func221, Tryz.ntmps221
   go_wp2_with fail
   go_ret
   exact ⟨by rw [HX.out]; rfl, HB.out⟩
 ·have HX : Hid (x = false) := by show x = false; rw [HP.out, decide_eq_false hn]; simp
  obtain ⟨b1, b2, b3⟩ := abQg (afQg hn)
  clear HP hn b3 N2 N4 N5 N6 N0 CC hk
  go_enter Tryz.func221, Tryz.ntmps221
  go_wp2_with fail
  go_ret
  exact ⟨by rw [HX.out]; rfl, HB.out⟩
theorem part_any (d : Dep) (s : Value) (S : Nat → Prop) (w0 : World) (hL : Lay w0 S d s) (hT : Tabs w0) :
 Calls Tryz.prog 221 #[.agg (rowD d s)] w0 fun e w' => e = .returned (.bool (mayPart d)) ∧ Below w0.heap.size w0 w' := by
 by_cases hk : d.kind = 1
 ·exact apQf d s S w0 hL hT hk
 ·exact apQe d s S w0 hL hk
end Go.Proofs.YtdhgiammfpjniaaGreatDoor.Ev
namespace Go.Proofs.YtdhgiammfpjniaaGreatDoor.Ev
set_option linter.unusedSimpArgs false
set_option linter.unusedVariables false
open Go.RowKit
theorem amQ8 (n : Int) (w : World) : (Instr.typeAssert (.iface 24 (.int .i64 n)) 20 24 true).run Tryz.prog w = .ok (.tuple #[.int .i64 n, .bool true]) w := by
 simp [Instr.typeAssert, run_underlying Tryz.underlying24, Result.andThen]
theorem amQ9 (w : World) : (Instr.typeAssert .nilIface 20 24 true).run Tryz.prog w = .ok (.tuple #[.int .i64 0, .bool false]) w := by
 simp [Instr.typeAssert, run_underlying Tryz.underlying24, Tryz.zeroValue24, Result.andThen]
theorem aqQ5 : Tryz.prog.methodsAt 20 = #[] := by kernel_rfl
theorem ajQ4 : Tryz.prog.underlying 20 = some (.interface (Tryz.prog.methodsAt 20)) := by rw [aqQ5]; exact Tryz.underlying20
theorem neq_some (n : Int) (w : World) : (binOp .neq 20 (.iface 24 (.int .i64 n)) .nilIface).run Tryz.prog w = .ok (.bool true) w := run_neq_held_nil w _ _ _ ajQ4
theorem neq_none (w : World) : (binOp .neq 20 .nilIface .nilIface).run Tryz.prog w = .ok (.bool false) w := run_neq_nil_nil w _ ajQ4
theorem agQd (p : Addr) : (#[Value.pointer (some p)] ++ Array.replicate (Tryz.f215.ntmps - (#[Value.pointer (some p)] : Array Value).size) undef) = #[Value.pointer (some p), undef, undef, undef, undef, undef, undef, undef, undef, undef, undef, undef, undef, undef, undef, undef, undef, undef] := by
 rw [Tryz.ntmps215]; rfl
set_option maxHeartbeats 400000 in
set_option maxRecDepth 100000 in
theorem arQt (p : Addr) (x n : Int) (w : World) (hc : w.cell? p = some (.int .i64 x)) (hz : w.frozen? p = false) :
 CallsD Tryz.prog 215 #[.pointer (some p)] (.panicking [{ v := .iface 24 (.int .i64 n), recovered := false }]) w fun e u' w' =>
  e = .returned (.tuple #[]) ∧ u' = .panicking [{ v := .iface 24 (.int .i64 n), recovered := true }] ∧ w' = w.setCell p (.int .i64 n) := by
 refine callsD_of_wpS Tryz.func215 rfl fun c₀ cs hu => ?_
 rw [agQd]
 apply wpS_seq
 apply wpS_region
 simp [wpOpsS, go_sem, recoverD, hu, Exit.thenS]
 refine wpS_of_wp ?_
 clear hu
 have ht := amQ8 n
 have hn := neq_some n
 go_wp2_with fail
 exact ⟨rfl, _, rfl, _, results_none rfl _ _ _, rfl, rfl, rfl⟩
set_option maxHeartbeats 400000 in
set_option maxRecDepth 100000 in
theorem apQ1 (p : Addr) (x : Int) (w : World) (hc : w.cell? p = some (.int .i64 x)) (hz : w.frozen? p = false) :
 CallsD Tryz.prog 215 #[.pointer (some p)] .returning w fun e u' w' =>
  e = .returned (.tuple #[]) ∧ u' = .returning ∧ w' = w.setCell p (.int .i64 0) := by
 refine callsD_of_wpS Tryz.func215 rfl fun c₀ cs hu => ?_
 rw [agQd]
 apply wpS_seq
 apply wpS_region
 simp [wpOpsS, go_sem, recoverD, hu, Exit.thenS]
 refine wpS_of_wp ?_
 have HU := hQQ hu
 clear hu
 have ht := amQ9
 have hn := neq_none
 go_wp2_with fail
 exact ⟨rfl, _, (by cases c₀; have := HU.out; simp at this; subst this; rfl), _, results_none rfl _ _ _, rfl, rfl, rfl⟩
def Done (F : List Nat) (w : World) (Q : World → Prop) (Qp : Int → World → Prop) (e : Ending) (w' : World) : Prop :=
 Turned F w w' ∧ ((e = .returned (.tuple #[]) ∧ Q w') ∨ ∃ n, e = abQf n ∧ Qp n w')
set_option maxHeartbeats 400000 in
set_option maxRecDepth 100000 in
theorem aiQl (g : FuncId) (caps : Array Value) (ef : ∀ args w, (callFunc g args).run Tryz.prog w = .ok (.enter g args) w) (F : List Nat) (Q : World → Prop) (Qp : Int → World → Prop) (w0 : World) (hF : ∀ k ∈ F, k < w0.heap.size)
 (hdo : Calls Tryz.prog g caps (w0.alloc (.cells #[.int .i64 0] 24)) (Done F (w0.alloc (.cells #[.int .i64 0] 24)) Q Qp)) :
 Calls Tryz.prog 184 #[.func (.func g) #[] caps] w0 fun e w' => ∃ w1, Turned F (w0.alloc (.cells #[.int .i64 0] 24)) w1 ∧ Turned [w0.heap.size] w1 w' ∧ ((e = .returned (.int .i64 0) ∧ Q w1) ∨ ∃ n, e = .returned (.int .i64 n) ∧ Qp n w1) := by
 have hmf : ∀ (fn : Fn) (first cap : Array Value) (w : World), (Instr.makeFunc fn first cap).run Tryz.prog w = .ok (.func fn first cap) w := fun _ _ _ _ => rfl
 have HD := hQQ hdo
 have K0 := hQQ (Blk.new w0 24 #[.int .i64 0])
 have HF := hQQ hF
 clear hdo hF
 go_enter_defers Tryz.func184, Tryz.ntmps184
 go_wp2_with fail
 refine HD.out.mono ?_
 rintro e w1 ⟨ht, h | h⟩
 ·obtain ⟨rfl, hq⟩ := h
  have K1 := hQQ (K0.out.turned ht (fun hm => absurd (HF.out _ hm) (Nat.lt_irrefl _)))
  have HT := hQQ ht
  have HQ := hQQ hq
  clear ht hq HD K0
  have c0 := K1.out.cell 0
  have f0 := K1.out.free 0
  go_wp2_with fail
  have K2 : Blk (w1.setCell ⟨w0.heap.size, 0, none⟩ (.int .i64 0)) w0.heap.size 24 #[.int .i64 0] := K1.out.set_ 0 (.int .i64 0)
  refine leaves_cons (f := 215) (args := #[.pointer (some ⟨w0.heap.size, 0, none⟩)]) (by simp) (by simp [go_sem]) ?_
  refine (apQ1 ⟨w0.heap.size, 0, none⟩ 0 _ (K2.cell 0) (K2.free 0)).mono ?_
  rintro e u' w'' ⟨rfl, rfl, rfl⟩
  have K3 : Blk ((w1.setCell ⟨w0.heap.size, 0, none⟩ (.int .i64 0)).setCell ⟨w0.heap.size, 0, none⟩ (.int .i64 0)) w0.heap.size 24 #[.int .i64 0] := K2.set_ 0 (.int .i64 0)
  have d0 : ((w1.setCell ⟨w0.heap.size, 0, none⟩ (.int .i64 0)).setCell ⟨w0.heap.size, 0, none⟩ (.int .i64 0)).cell? ⟨w0.heap.size, 0, none⟩ = some (.int .i64 0) := K3.cell 0
  have e0 := K3.free 0
  have TT : Turned [w0.heap.size] w1 ((w1.setCell ⟨w0.heap.size, 0, none⟩ (.int .i64 0)).setCell ⟨w0.heap.size, 0, none⟩ (.int .i64 0)) := ((Turned.refl _ _).setCell (.inl (by simp)) _).setCell (.inl (by simp)) _
  refine ⟨.int .i64 0, ?_, w1, HT.out, TT, .inl ⟨rfl, HQ.out⟩⟩
  simp only [results, Tryz.results184]
  simp [go_sem, d0, e0]
 ·obtain ⟨n, rfl, hq⟩ := h
  have K1 := hQQ (K0.out.turned ht (fun hm => absurd (HF.out _ hm) (Nat.lt_irrefl _)))
  have HT := hQQ ht
  have HQ := hQQ hq
  clear ht hq HD K0
  have c0 := K1.out.cell 0
  have f0 := K1.out.free 0
  unfold abQf
  go_wp2_with fail
  refine leaves_cons (f := 215) (args := #[.pointer (some ⟨w0.heap.size, 0, none⟩)]) (by simp) (by simp [go_sem]) ?_
  refine (arQt ⟨w0.heap.size, 0, none⟩ 0 n _ c0 f0).mono ?_
  rintro e u' w'' ⟨rfl, rfl, rfl⟩
  have K3 : Blk (w1.setCell ⟨w0.heap.size, 0, none⟩ (.int .i64 n)) w0.heap.size 24 #[.int .i64 n] := K1.out.set_ 0 (.int .i64 n)
  have d0 : (w1.setCell ⟨w0.heap.size, 0, none⟩ (.int .i64 n)).cell? ⟨w0.heap.size, 0, none⟩ = some (.int .i64 n) := K3.cell 0
  have e0 := K3.free 0
  have TT : Turned [w0.heap.size] w1 (w1.setCell ⟨w0.heap.size, 0, none⟩ (.int .i64 n)) := (Turned.refl _ _).setCell (.inl (by simp)) _
  refine ⟨.int .i64 n, ?_, w1, HT.out, TT, .inr ⟨n, rfl, HQ.out⟩⟩
  simp only [results, Tryz.results184]
  simp [go_sem, d0, e0]
end Go.Proofs.YtdhgiammfpjniaaGreatDoor.Ev
