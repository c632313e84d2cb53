/- A text's first word, and what stands behind it. Which parts may be. -/
import Derived.Test.YtdhgiammfpjniaaGreatDoorZaak
/- A text's first word, and what stands behind it. Which parts may be. -/
namespace Go.Proofs.YtdhgiammfpjniaaGreatDoor.Ev
set_option linter.unusedSimpArgs false
set_option linter.unusedVariables false
open Go.RowKit

theorem scanEnd_at {s : ByteArray} {k o : Nat} (h : k < s.size) : scanEnd o (s.data.toList.drop k) = if s[k] = 32 then 0 else if s[k] = 41 ∧ o = 0 then 0 else 1 + scanEnd (if s[k] = 40 then o + 1 else if s[k] = 41 then o - 1 else o) (s.data.toList.drop (k + 1)) := by
  have h1 := byte_at h
  have h2 : s.data.toList.drop k = s[k] :: s.data.toList.drop (k + 1) := by
    rw [List.drop_eq_getElem_cons (by rw [size_len]; exact h)]
    rw [List.getElem?_eq_getElem (by rw [size_len]; exact h)] at h1
    injection h1 with h1
    rw [h1]
  rw [h2]
  simp only [scanEnd]
theorem endN_at {s : ByteArray} (h : 0 < s.size) : endN s.data.toList = if s[0] = 40 ∨ s[0] = 41 then 1 else scanEnd 0 s.data.toList := by
  rw [list_cons h]
  simp only [endN]

set_option maxHeartbeats 4000000 in
set_option maxRecDepth 100000 in
theorem end_any (s : ByteArray) (hs : s.size ≤ maxLen) (w : World) : Calls Tryz.prog 227 #[.string s] w fun e w' => e = .returned (.int .i64 (endN s.data.toList : Nat)) ∧ w = w' := by
  unfold maxLen at hs
  obtain ⟨x, hx⟩ : ∃ x, x = endN s.data.toList := ⟨_, rfl⟩
  rw [← hx]
  have HX := Lib.hid hx
  clear hx
  by_cases h0 : s.size = 0
  · obtain rfl := empty_of h0
    have HV : Hid (x = 0) := HX.out
    clear HX h0 hs
    go_enter Tryz.func227, Tryz.ntmps227
    go_wp2_with fail
    go_loop [20] (fun i => i = .int .i64 0) (fun i => 0)
    case atStart => rfl
    case round =>
      subst hrel
      go_wp2_with fail
      go_ret
      exact ⟨by rw [HV.out]; rfl, rfl⟩
  have hp : 0 < s.size := by omega
  obtain ⟨b1, b2, b3⟩ := blank_of h0
  by_cases hpar : s[0] = 40 ∨ s[0] = 41
  · have HV : Hid (x = 1) := HX.out.trans ((endN_at hp).trans (if_pos hpar))
    clear HX b3
    by_cases h4 : s[0] = 40
    · obtain ⟨t4, _⟩ := u8_hit (n := 40) rfl h4
      clear hpar h4
      go_enter Tryz.func227, Tryz.ntmps227
      go_wp2_with fail
      go_ret
      exact ⟨by rw [HV.out]; rfl, rfl⟩
    · obtain ⟨t4, _⟩ := u8_miss (n := 40) rfl h4
      obtain ⟨t5, _⟩ := u8_hit (n := 41) rfl (hpar.resolve_left h4)
      clear hpar h4
      go_enter Tryz.func227, Tryz.ntmps227
      go_wp2_with fail
      go_ret
      exact ⟨by rw [HV.out]; rfl, rfl⟩
  have HV : Hid (x = 0 + scanEnd 0 (s.data.toList.drop 0)) := HX.out.trans ((endN_at hp).trans ((if_neg hpar).trans (by simp)))
  obtain ⟨t4, _⟩ := u8_miss (n := 40) rfl (fun e => hpar (.inl e))
  obtain ⟨t5, _⟩ := u8_miss (n := 41) rfl (fun e => hpar (.inr e))
  clear HX b3 hpar
  go_enter Tryz.func227, Tryz.ntmps227
  go_wp2_with fail
  go_loop [3, 20] (fun o i => ∃ k n : Nat, k ≤ s.size ∧ n ≤ k ∧ i = .int .i64 (k : Int) ∧ o = .int .i64 (n : Int) ∧ Hid (x = k + scanEnd n (s.data.toList.drop k))) (fun _ i => s.size - (intOf i).toNat)
  case atStart => exact ⟨0, 0, Nat.zero_le _, Nat.le_refl _, rfl, rfl, HV⟩
  case round =>
    obtain ⟨k, n, hk, hnk, rfl, rfl, hn⟩ := hrel
    clear HV t4 t5
    by_cases hlt : k < s.size
    · have HS : Hid (scanEnd n (s.data.toList.drop k) = if s[k] = 32 then 0 else if s[k] = 41 ∧ n = 0 then 0 else 1 + scanEnd (if s[k] = 40 then n + 1 else if s[k] = 41 then n - 1 else n) (s.data.toList.drop (k + 1))) := scanEnd_at hlt
      by_cases h2 : s[k] = 32
      · obtain ⟨t2, _⟩ := u8_hit (n := 32) rfl h2
        have HV : Hid (x = k) := by show x = _; rw [hn.out, HS.out, if_pos h2]; omega
        clear HS hn h2
        go_wp2_with fail
        go_ret
        exact ⟨by rw [HV.out]; rfl, rfl⟩
      · obtain ⟨t2, _⟩ := u8_miss (n := 32) rfl h2
        by_cases h4 : s[k] = 40
        · obtain ⟨t4, _⟩ := u8_hit (n := 40) rfl h4
          have h5 : ¬ s[k] = 41 := by rw [h4]; decide
          obtain ⟨t5, _⟩ := u8_miss (n := 41) rfl h5
          have HV : Hid (x = k + 1 + scanEnd (n + 1) (s.data.toList.drop (k + 1))) := by show x = _; rw [hn.out, HS.out, if_neg h2, if_neg (fun e => h5 e.1), if_pos h4]; omega
          clear HS hn h2 h4 h5
          go_wp2_with fail
          go_round
          case rel => exact ⟨k + 1, n + 1, by omega, by omega, by go_num, by go_num, HV⟩
          case measure => simp [intOf]; omega
        · obtain ⟨t4, _⟩ := u8_miss (n := 40) rfl h4
          by_cases h5 : s[k] = 41
          · obtain ⟨t5, _⟩ := u8_hit (n := 41) rfl h5
            by_cases hn0 : n = 0
            · subst hn0
              have HV : Hid (x = k) := by show x = _; rw [hn.out, HS.out, if_neg h2, if_pos ⟨h5, rfl⟩]; omega
              clear HS hn h2 h4 h5
              go_wp2_with fail
              go_ret
              exact ⟨by rw [HV.out]; rfl, rfl⟩
            · have HV : Hid (x = k + 1 + scanEnd (n - 1) (s.data.toList.drop (k + 1))) := by show x = _; rw [hn.out, HS.out, if_neg h2, if_neg (fun e => hn0 e.2), if_neg h4, if_pos h5]; omega
              have tn : ((n : Int) == 0) = false := beq_eq_false_iff_ne.2 (by omega)
              have hn1 : 1 ≤ n := by omega
              clear HS hn h2 h4 h5 hn0
              go_wp2_with fail
              go_round
              case rel => exact ⟨k + 1, n - 1, by omega, by omega, by go_num, by congr 1; omega, HV⟩
              case measure => simp [intOf]; omega
          · obtain ⟨t5, _⟩ := u8_miss (n := 41) rfl h5
            have HV : Hid (x = k + 1 + scanEnd n (s.data.toList.drop (k + 1))) := by show x = _; rw [hn.out, HS.out, if_neg h2, if_neg (fun e => h5 e.1), if_neg h4, if_neg h5]; omega
            clear HS hn h2 h4 h5
            go_wp2_with fail
            go_round
            case rel => exact ⟨k + 1, n, by omega, by omega, by go_num, rfl, HV⟩
            case measure => simp [intOf]; omega
    · have HV : Hid (x = s.size) := by
        show x = _
        rw [hn.out, List.drop_eq_nil_of_le (by rw [size_len]; omega)]
        simp only [scanEnd]
        omega
      clear hn
      go_wp2_with fail
      go_ret
      exact ⟨by rw [HV.out]; rfl, rfl⟩

theorem trim_skip (s : ByteArray) : (⟨(Lib.trimLeftB s.data.toList 32).toArray⟩ : ByteArray) = mkS (skipB s.data.toList) := rfl
set_option maxHeartbeats 1000000 in
set_option maxRecDepth 100000 in
theorem cut_any (s : ByteArray) (hs : s.size ≤ maxLen) (w : World) : Calls Tryz.prog 216 #[.string s] w fun e w' => e = .returned (.tuple #[.string (mkS (cutW s.data.toList).1), .string (mkS (cutW s.data.toList).2)]) ∧ ∃ n, w' = w.drewN n := by
  have CT := Lib.hid (fun w => Tryz.strings_TrimLeft_one s 32 (by decide) w)
  rw [trim_skip] at CT
  have hz : (mkS (skipB s.data.toList)).size ≤ maxLen := by
    rw [mkS_size]; have := skipB_le s.data.toList; rw [size_len] at this; omega
  obtain ⟨t, ht⟩ : ∃ t, t = mkS (skipB s.data.toList) := ⟨_, rfl⟩
  have HT : Hid (t.data.toList = skipB s.data.toList) := by show _ = _; rw [ht]; rfl
  rw [← ht] at CT hz
  have CE := Lib.hid (fun w => end_any t hz w)
  have hn : endN t.data.toList ≤ t.size := by rw [← size_len]; exact endN_le _
  have H1 : Hid (mkS (cutW s.data.toList).1 = t.extract 0 (endN t.data.toList)) := by
    show _ = _
    refine Eq.symm (mkS_of ?_)
    rw [bl_upto]
    unfold cutW
    rw [HT.out]
  have H2 : Hid (mkS (cutW s.data.toList).2 = t.extract (endN t.data.toList) t.size) := by
    show _ = _
    refine Eq.symm (mkS_of ?_)
    rw [bl_from]
    unfold cutW
    rw [HT.out]
  rw [H1.out, H2.out]
  generalize endN t.data.toList = n at *
  unfold maxLen at hz
  clear H1 H2 HT ht hs
  go_enter Tryz.func216, Tryz.ntmps216
  go_wp2_with fail
  refine (CT.out _).mono ?_
  rintro e w1 ⟨rfl, rfl⟩
  go_wp2_with fail
  refine (CE.out _).mono ?_
  rintro e w1 ⟨rfl, rfl⟩
  go_wp2_with fail
  go_quiet (fail)
  go_wp2_with fail
  exact bodyPost_ret (v := .tuple #[.string (t.extract 0 n), .string (t.extract n t.size)]) (by simp [results, Tryz.results216, go_sem]) rfl ⟨rfl, _, rfl⟩
end Go.Proofs.YtdhgiammfpjniaaGreatDoor.Ev
namespace Go.Proofs.YtdhgiammfpjniaaGreatDoor.Ev
set_option linter.unusedSimpArgs false
set_option linter.unusedVariables false
open Go.RowKit

theorem evrV_agg (o : Option Parts) : ∃ a b c : ByteArray, evrV o = .agg #[.string a, .string b, .string c] := by
  cases o with
  | none => exact ⟨_, _, _, rfl⟩
  | some p => exact ⟨_, _, _, rfl⟩
theorem errV_ok (l : Wd) : (errV (parse l) == 0) = evrB l := by
  unfold errV evrB
  cases parse l <;> rfl
theorem mayCmp_zero (l : Wd) : mayCmp 0 l = decide (l = []) := rfl
theorem mayCmp_other {o : Int} (h : o ≠ 0) (l : Wd) : mayCmp o l = (decide (0 ≤ o) && decide (o < 8) && evrB l) := by unfold mayCmp; rw [if_neg h]
set_option maxHeartbeats 1000000 in
set_option maxRecDepth 100000 in
theorem mayCompare_any (o : Int) (s : ByteArray) (w : World) : Calls Tryz.prog 228 #[.int .i64 o, .string s] w fun e w' => e = .returned (.bool (mayCmp o s.data.toList)) ∧ Below w.heap.size w w' := by
  by_cases ho : o = 0
  · subst ho
    rw [mayCmp_zero]
    by_cases h0 : s.size = 0
    · obtain rfl := empty_of h0
      clear h0
      go_enter Tryz.func228, Tryz.ntmps228
      go_wp2_with fail
      go_ret
      exact ⟨rfl, Below.refl _ _⟩
    · obtain ⟨b1, b2, b3⟩ := blank_of h0
      have HV := Lib.hid (decide_eq_false b3)
      clear b3 h0
      go_enter Tryz.func228, Tryz.ntmps228
      go_wp2_with fail
      go_ret
      exact ⟨ret_bool (by rw [HV.out]), Below.refl _ _⟩
  · rw [mayCmp_other ho, ← errV_ok]
    have C := Lib.hid (fun w => parse_any s w)
    obtain ⟨a, b, c, hA⟩ := evrV_agg (parse s.data.toList)
    generalize errV (parse s.data.toList) = x at *
    rw [hA] at C
    have tto : (o == 0) = false := beq_eq_false_iff_ne.2 ho
    clear hA ho
    go_enter Tryz.func228, Tryz.ntmps228
    go_wp2_with fail
    refine (C.out _).mono ?_
    rintro e w1 ⟨rfl, hb⟩
    have HB := Lib.hid hb
    have hz := hb.size
    clear hb C
    by_cases h1 : 0 ≤ o <;> by_cases h2 : o < 8
    all_goals first
    | (exfalso; omega)
    | (go_wp2_with fail
       go_ret
       refine ⟨ret_bool ?_, HB.out.alloc hz _⟩
       simp [h1, h2] <;> omega)

theorem single_at (d : Dep) : single d = (decide (d.kind = 1) || decide (d.kind = 5) || decide (d.kind = 6)) := rfl
set_option maxHeartbeats 1000000 in
set_option maxRecDepth 100000 in
theorem isOfMany_any (d : Dep) (s : Value) (w : World) : Calls Tryz.prog 229 #[.agg (rowD d s)] w fun e w' => e = .returned (.bool (!single d)) ∧ Below w.heap.size w w' := by
  unfold rowD
  have HV := Lib.hid (single_at d)
  generalize single d = x at *
  generalize d.kind = k at *
  have c0 : (w.alloc (.cells #[.int .i64 k, .string d.name, .int .i64 d.op, .string d.evr, s] 39)).cell? ⟨w.heap.size, 0, none⟩ = some (.int .i64 k) := (Blk.new _ _ _).cell 0
  have HB : Hid (Below w.heap.size w (w.alloc (.cells #[.int .i64 k, .string d.name, .int .i64 d.op, .string d.evr, s] 39))) := (Below.refl _ _).alloc (Nat.le_refl _) _
  by_cases h1 : k = 1
  · subst h1
    go_enter Tryz.func229, Tryz.ntmps229
    go_wp2_with fail
    go_ret
    exact ⟨ret_bool (by rw [HV.out]; rfl), HB.out⟩
  by_cases h5 : k = 5
  · subst h5
    go_enter Tryz.func229, Tryz.ntmps229
    go_wp2_with fail
    go_ret
    exact ⟨ret_bool (by rw [HV.out]; rfl), HB.out⟩
  by_cases h6 : k = 6
  · subst h6
    go_enter Tryz.func229, Tryz.ntmps229
    go_wp2_with fail
    go_ret
    exact ⟨ret_bool (by rw [HV.out]; rfl), HB.out⟩
  have HX : Hid (x = false) := by show x = _; rw [HV.out]; simp [h1, h5, h6]
  have t1 : (k != 1) = true := by simpa using h1
  have t5 : (k != 5) = true := by simpa using h5
  have t6 : (k != 6) = true := by simpa using h6
  clear HV h1 h5 h6
  go_enter Tryz.func229, Tryz.ntmps229
  go_wp2_with fail
  go_ret
  exact ⟨ret_bool (by rw [HX.out]; rfl), HB.out⟩

/-- None of the first k is other than single. -/
theorem single_snoc {ds : List Dep} {k : Nat} {d : Dep} (h : (ds.take k).all single = true) (hk : ds[k]? = some d) (hd : single d = true) : (ds.take (k + 1)).all single = true := by
  rw [List.take_add_one, hk, List.all_append, h]; simp [hd]
set_option maxHeartbeats 2000000 in
set_option maxRecDepth 100000 in
theorem indexFunc_any (ds : List Dep) (A : Option Addr) (c : Nat) (S : Nat → Prop) (w0 : World) (hA : ArgsAt w0 S ds A) (hl : ds.length ≤ c) (hc : c ≤ maxLen) :
    Calls Tryz.prog 130 #[.slice A ds.length c, .func (.func 229) #[] #[]] w0 fun e w' => (∃ n : Int, (decide (0 ≤ n) = !ds.all single) ∧ e = .returned (.int .i64 n)) ∧ Below w0.heap.size w0 w' := by
  have ef : ∀ args w, (callFunc 229 args).run Tryz.prog w = .ok (.enter 229 args) w := enters_of Tryz.func229 (by kernel_rfl) rfl
  unfold maxLen at hc
  rcases Nat.eq_zero_or_pos ds.length with h0 | h0
  · obtain rfl := List.eq_nil_of_length_eq_zero h0
    clear hA h0
    go_enter Tryz.func130, Tryz.ntmps130
    go_wp2_with fail
    go_loop [8] (fun i => i = .int .i64 0) (fun i => 0)
    case atStart => rfl
    case round =>
      subst hrel
      go_wp2_with fail
      go_ret
      exact ⟨⟨-1, by decide, rfl⟩, Below.refl _ _⟩
  obtain ⟨b, o, -, rfl, -, -, -⟩ := hA 0 ds[0] (List.getElem?_eq_getElem h0)
  have HA : Hid (∀ (k : Nat) (hk : k < ds.length), ∃ t, S b ∧ CellsD w0 b (o + k * 5) ds[k] t ∧ Lay w0 S ds[k] t) := fun k hk => by
    obtain ⟨b', o', t, e, h1, h2, h3⟩ := hA k ds[k] (List.getElem?_eq_getElem hk)
    injection e with e
    injection e with e1 e2
    subst e1; subst e2
    exact ⟨t, h1, h2, h3⟩
  clear hA
  go_enter Tryz.func130, Tryz.ntmps130
  go_wp2_with fail
  go_loopw [8] (fun i wx => ∃ k : Nat, k ≤ ds.length ∧ i = .int .i64 (k : Int) ∧ Hid ((ds.take k).all single = true) ∧ Hid (Below w0.heap.size w0 wx)) (fun i _ => ds.length - (intOf i).toNat)
  case atStart => exact ⟨0, Nat.zero_le _, rfl, show (ds.take 0).all single = true from rfl, Below.refl _ _⟩
  case round =>
    obtain ⟨k, hk, rfl, hall, hb⟩ := hrel
    by_cases hlt : k < ds.length
    · obtain ⟨t, hS, hC, hL⟩ := HA.out k hlt
      have hC2 := hC.stay (hb.out.block b hC.lt)
      obtain ⟨c0, c1, c2, c3, c4⟩ := hC2
      have C := Lib.hid (fun w => isOfMany_any ds[k] t w)
      unfold rowD at C
      have hz := hb.out.size
      cases hs : single ds[k] with
      | true =>
        have HN := Lib.hid (single_snoc hall.out (List.getElem?_eq_getElem hlt) hs)
        rw [hs] at C
        clear hs hS hC hL hall
        go_wp2_with fail
        refine (C.out _).mono ?_
        rintro e w1 ⟨rfl, hb1⟩
        have HB : Hid (Below w0.heap.size w0 w1) := hb.out.trans (hb1.mono hz)
        clear hb1 hb C
        go_wp2_with fail
        go_roundw
        case rel => exact ⟨k + 1, by omega, by go_num, HN.out, HB.out⟩
        case measure => simp [intOf]; omega
      | false =>
        have HN : Hid (ds.all single = false) := by
          show _ = _
          cases hx : ds.all single with
          | false => rfl
          | true => rw [List.all_eq_true.1 hx ds[k] (List.getElem_mem hlt)] at hs; cases hs
        rw [hs] at C
        clear hs hS hC hL hall
        go_wp2_with fail
        refine (C.out _).mono ?_
        rintro e w1 ⟨rfl, hb1⟩
        have HB : Hid (Below w0.heap.size w0 w1) := hb.out.trans (hb1.mono hz)
        clear hb1 hb C
        go_wp2_with fail
        go_ret
        exact ⟨⟨k, by rw [HN.out]; simp, rfl⟩, HB.out⟩
    · have HN : Hid (ds.all single = true) := by
        have := hall.out
        rwa [List.take_of_length_le (by omega)] at this
      clear hall
      go_wp2_with fail
      go_ret
      exact ⟨⟨-1, by rw [HN.out]; rfl, rfl⟩, hb.out⟩

set_option maxHeartbeats 1000000 in
set_option maxRecDepth 100000 in
theorem containsFunc_any (ds : List Dep) (A : Option Addr) (c : Nat) (S : Nat → Prop) (w0 : World) (hA : ArgsAt w0 S ds A) (hl : ds.length ≤ c) (hc : c ≤ maxLen) :
    Calls Tryz.prog 65 #[.slice A ds.length c, .func (.func 229) #[] #[]] w0 fun e w' => e = .returned (.bool (!ds.all single)) ∧ Below w0.heap.size w0 w' := by
  have C := Lib.hid (indexFunc_any ds A c S w0 hA hl hc)
  clear hA
  go_enter Tryz.func65, Tryz.ntmps65
  go_wp2_with fail
  refine C.out.mono ?_
  rintro e w1 ⟨⟨n, hn, rfl⟩, hb1⟩
  have HB := Lib.hid hb1
  have HN := Lib.hid hn
  clear hb1 hn C
  go_wp2_with fail
  go_ret
  refine ⟨ret_bool ?_, HB.out⟩
  rw [← HN.out]
end Go.Proofs.YtdhgiammfpjniaaGreatDoor.Ev
