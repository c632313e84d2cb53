/- The document's answer: its small functions of bytes and texts. A version taken apart: split. A version taken apart: split, where its bytes may be. A version taken apart: split, with an epoch. A version's parts by Parse: its pieces are copies. -/
import Derived.Test.YtpmfmkpfjomgnaaGreatDoorZad
import Derived.Test.YtpmfmkpfjomgnaaGreatDoorZaa
/- The document's answer: its small functions of bytes and texts. -/
namespace Go.Proofs.YtpmfmkpfjomgnaaGreatDoor
set_option linter.unusedSimpArgs false
set_option linter.unusedVariables false
open Go.RowKit

theorem u8_eq {a b : UInt8} : ((a.toNat : Int) == (b.toNat : Int)) = decide (a = b) := by
  rw [Bool.eq_iff_iff]
  simp only [beq_iff_eq, decide_eq_true_eq]
  constructor
  · intro h; exact UInt8.toNat_inj.1 (by omega)
  · rintro rfl; rfl
set_option maxRecDepth 100000 in
theorem refIn_any (c : UInt8) (s : ByteArray) (hs : s.size ≤ maxLen) (w : World) :
    Calls Tryz.prog 137 #[.int .u8 (c.toNat : Int), .string s] w fun e w' => e = .returned (.bool (decide (c ∈ s.data.toList))) ∧ w = w' := by
  unfold maxLen at hs
  generalize hz : decide (c ∈ s.data.toList) = z
  have HZ := Lib.hid hz
  clear hz
  go_enter Tryz.func137, Tryz.ntmps137
  go_wp2_with fail
  go_loop [5] (fun i => ∃ k : Nat, k ≤ s.size ∧ i = .int .i64 (k : Int) ∧ Hid (c ∉ s.data.toList.take k)) (fun i => s.size - (intOf i).toNat)
  case atStart => exact ⟨0, Nat.zero_le _, rfl, show c ∉ s.data.toList.take 0 by simp⟩
  case round =>
    obtain ⟨k, hk, rfl, hn⟩ := hrel
    by_cases hlt : k < s.size
    · have HB := Lib.hid (byte_at hlt)
      by_cases hc : s[k] = c
      · have t1 : ((s[k].toNat : Int) == (c.toNat : Int)) = true := by rw [u8_eq]; simp [hc]
        have HM := Lib.hid (show decide (c ∈ s.data.toList) = true from decide_eq_true (by rw [← hc]; exact List.mem_of_getElem? HB.out))
        clear hc
        go_wp2_with fail
        go_ret
        exact ⟨ret_bool (by rw [← HZ.out, HM.out]), rfl⟩
      · have t1 : ((s[k].toNat : Int) == (c.toNat : Int)) = false := by rw [u8_eq]; simp [hc]
        have HN : Hid (c ∉ s.data.toList.take (k + 1)) := by
          show ¬ _
          rw [List.take_add_one, HB.out]
          intro hm
          rcases List.mem_append.1 hm with h | h
          · exact hn.out h
          · simp at h; exact hc h.symm
        clear hc
        go_wp2_with fail
        go_round
        case rel => exact ⟨k + 1, by omega, by go_num, HN.out⟩
        case measure => simp [intOf]; omega
    · have HM := Lib.hid (show decide (c ∈ s.data.toList) = false from decide_eq_false (by
        have := hn.out
        rwa [List.take_of_length_le (by simp; omega)] at this))
      go_wp2_with fail
      go_ret
      exact ⟨ret_bool (by rw [← HZ.out, HM.out]), rfl⟩

def mayB (l : List UInt8) : Bool := l.all isMay && decide (1 ≤ l.length) && decide (l.length ≤ 60)
set_option maxHeartbeats 1000000 in
set_option maxRecDepth 100000 in
theorem refMay_any (s : ByteArray) (hs : s.size ≤ maxLen) (w : World) :
    Calls Tryz.prog 135 #[.string s] w fun e w' => e = .returned (.bool (mayB s.data.toList)) ∧ w = w' := by
  unfold maxLen at hs
  go_enter Tryz.func135, Tryz.ntmps135
  go_wp2_with fail
  go_loop [3] (fun i => ∃ k : Nat, k ≤ s.size ∧ i = .int .i64 (k : Int) ∧ Hid ((s.data.toList.take k).all isMay = true)) (fun i => s.size - (intOf i).toNat)
  case atStart => exact ⟨0, Nat.zero_le _, rfl, show (s.data.toList.take 0).all isMay = true from rfl⟩
  case round =>
    obtain ⟨k, hk, rfl, hall⟩ := hrel
    by_cases hlt : k < s.size
    · have HB := Lib.hid (byte_at hlt)
      have CL := Lib.hid (refLetter_any s[k])
      have CD := Lib.hid (refDigit_any s[k])
      have CI := Lib.hid (fun w => refIn_any s[k] ⟨#[46, 95, 43, 126, 94, 45, 58]⟩ (by decide) w)
      change Hid (∀ w, Calls Tryz.prog 137 #[.int .u8 (s[k].toNat : Int), .string ⟨#[46, 95, 43, 126, 94, 45, 58]⟩] w fun e w' => e = .returned (.bool (decide (s[k] ∈ ([46, 95, 43, 126, 94, 45, 58] : List UInt8)))) ∧ w = w') at CI
      have HM := Lib.hid (show isMay s[k] = (isDg s[k] || isLt s[k] || decide (s[k] ∈ ([46, 95, 43, 126, 94, 45, 58] : List UInt8))) from rfl)
      have HY := Lib.hid (fun (h : isMay s[k] = true) => all_snoc hall.out HB.out h)
      have HNo : Hid (isMay s[k] = false → mayB s.data.toList = false) := fun h => by
        unfold mayB
        have : s.data.toList.all isMay = false := by
          cases hx : s.data.toList.all isMay with
          | false => rfl
          | true =>
            have := List.all_eq_true.1 hx s[k] (List.mem_of_getElem? HB.out)
            rw [h] at this; cases this
        rw [this]; rfl
      clear hall
      generalize isMay s[k] = m at *
      generalize isDg s[k] = d at *
      generalize isLt s[k] = t at *
      generalize decide (s[k] ∈ ([46, 95, 43, 126, 94, 45, 58] : List UInt8)) = x at *
      cases d <;> cases t <;> cases x
      all_goals
        go_wp2_with fail
        refine (CL.out _).mono ?_
        rintro e w1 ⟨rfl, rfl⟩
        go_wp2_with fail
        refine (CD.out _).mono ?_
        rintro e w1 ⟨rfl, rfl⟩
        go_wp2_with fail
        try
          refine (CI.out _).mono ?_
          rintro e w1 ⟨rfl, rfl⟩
          go_wp2_with fail
        first
        | (go_ret
           exact ⟨ret_bool (by rw [HNo.out (by rw [HM.out]; rfl)]), rfl⟩)
        | (go_round
           case rel => exact ⟨k + 1, by omega, by go_num, HY.out (by rw [HM.out]; rfl)⟩
           case measure => simp [intOf]; omega)
    · have HM : Hid (mayB s.data.toList = (decide (1 ≤ s.size) && decide (s.size ≤ 60))) := by
        show mayB _ = _
        have := hall.out
        rw [List.take_of_length_le (by simp; omega)] at this
        unfold mayB
        rw [this, size_len]; rfl
      go_wp2_with fail
      all_goals
        go_ret
        refine ⟨ret_bool ?_, rfl⟩
        rw [HM.out, Bool.eq_iff_iff]
        simp <;> omega

def digB (l : List UInt8) : Bool := l.all isDg && decide (1 ≤ l.length) && decide (l.length ≤ 9)
set_option maxHeartbeats 1000000 in
set_option maxRecDepth 100000 in
theorem refDigits_any (s : ByteArray) (hs : s.size ≤ maxLen) (w : World) :
    Calls Tryz.prog 136 #[.string s] w fun e w' => e = .returned (.bool (digB s.data.toList)) ∧ w = w' := by
  unfold maxLen at hs
  go_enter Tryz.func136, Tryz.ntmps136
  go_wp2_with fail
  go_loop [3] (fun i => ∃ k : Nat, k ≤ s.size ∧ i = .int .i64 (k : Int) ∧ Hid ((s.data.toList.take k).all isDg = true)) (fun i => s.size - (intOf i).toNat)
  case atStart => exact ⟨0, Nat.zero_le _, rfl, show (s.data.toList.take 0).all isDg = true from rfl⟩
  case round =>
    obtain ⟨k, hk, rfl, hall⟩ := hrel
    by_cases hlt : k < s.size
    · have HB := Lib.hid (byte_at hlt)
      have CD := Lib.hid (refDigit_any s[k])
      have HY := Lib.hid (fun (h : isDg s[k] = true) => all_snoc hall.out HB.out h)
      have HNo : Hid (isDg s[k] = false → digB s.data.toList = false) := fun h => by
        unfold digB
        have : s.data.toList.all isDg = false := by
          cases hx : s.data.toList.all isDg with
          | false => rfl
          | true =>
            have := List.all_eq_true.1 hx s[k] (List.mem_of_getElem? HB.out)
            rw [h] at this; cases this
        rw [this]; rfl
      clear hall
      generalize isDg s[k] = d at *
      cases d
      · have HN2 : Hid (digB s.data.toList = false) := HNo.out rfl
        clear HNo HY
        go_wp2_with fail
        refine (CD.out _).mono ?_
        rintro e w1 ⟨rfl, rfl⟩
        go_wp2_with fail
        go_ret
        exact ⟨ret_bool (by rw [HN2.out]), rfl⟩
      · have HY2 : Hid ((s.data.toList.take (k + 1)).all isDg = true) := HY.out rfl
        clear HY
        go_wp2_with fail
        refine (CD.out _).mono ?_
        rintro e w1 ⟨rfl, rfl⟩
        go_wp2_with fail
        go_round
        case rel => exact ⟨k + 1, by omega, by go_num, HY2.out⟩
        case measure => simp [intOf]; omega
    · have HM : Hid (digB s.data.toList = (decide (1 ≤ s.size) && decide (s.size ≤ 9))) := by
        show digB _ = _
        have := hall.out
        rw [List.take_of_length_le (by simp; omega)] at this
        unfold digB
        rw [this, size_len]; rfl
      go_wp2_with fail
      all_goals
        go_ret
        refine ⟨ret_bool ?_, rfl⟩
        rw [HM.out, Bool.eq_iff_iff]
        simp <;> omega

end Go.Proofs.YtpmfmkpfjomgnaaGreatDoor

/- A version taken apart: split. -/
namespace Go.Proofs.YtpmfmkpfjomgnaaGreatDoor
set_option linter.unusedSimpArgs false
set_option linter.unusedVariables false
open Go.RowKit

/-- A version's parts as a value. -/
def evrV : Option Parts → Value
  | none => .agg #[.string ⟨#[]⟩, .string ⟨#[]⟩, .string ⟨#[]⟩]
  | some p => .agg #[.string (mkS p.e), .string (mkS p.v), .string (mkS p.r)]
def SplitPost (w0 : World) (o : Option Parts) (e : Ending) (w : World) : Prop := e = .returned (.tuple #[evrV o, .bool o.isSome]) ∧ Below w0.heap.size w0 w
theorem SplitPost.mk_none {w0 w : World} {o : Option Parts} (h : o = none) (hb : Below w0.heap.size w0 w) : SplitPost w0 o (.returned (.tuple #[.agg #[.string ⟨#[]⟩, .string ⟨#[]⟩, .string ⟨#[]⟩], .bool false])) w := by
  subst h; exact ⟨rfl, hb⟩
theorem SplitPost.mk_some {w0 w : World} {o : Option Parts} {e v r : ByteArray} (h : o = some ⟨e.data.toList, v.data.toList, r.data.toList⟩) (hb : Below w0.heap.size w0 w) : SplitPost w0 o (.returned (.tuple #[.agg #[.string e, .string v, .string r], .bool true])) w := by
  subst h; exact ⟨rfl, hb⟩

set_option maxHeartbeats 1000000 in
set_option maxRecDepth 100000 in
theorem split_long (s : ByteArray) (h : 60 < s.size) (w : World) : Calls Tryz.prog 174 #[.string s] w (SplitPost w (parse s.data.toList)) := by
  have HP := Lib.hid (parse_bad (l := s.data.toList) (by rw [size_len]; omega))
  have h1 : (60 : Int) < (s.size : Int) := by omega
  go_enter Tryz.func174, Tryz.ntmps174
  go_wp2_with fail
  refine bodyPost_ret (v := .tuple #[.agg #[.string ⟨#[]⟩, .string ⟨#[]⟩, .string ⟨#[]⟩], .bool false]) (by simp [results, Tryz.results174, go_sem]) rfl (SplitPost.mk_none HP.out ?_)
  exact (Below.refl _ _).alloc (Nat.le_refl _) _
end Go.Proofs.YtpmfmkpfjomgnaaGreatDoor

/- A version taken apart: split, where its bytes may be. -/
namespace Go.Proofs.YtpmfmkpfjomgnaaGreatDoor
set_option linter.unusedSimpArgs false
set_option linter.unusedVariables false
open Go.RowKit

set_option maxHeartbeats 2000000 in
set_option maxRecDepth 100000 in
theorem split_may (s : ByteArray) (h : s.size ≤ 60) (hm : s.data.toList.all isMay = false) (w : World) : Calls Tryz.prog 174 #[.string s] w (SplitPost w (parse s.data.toList)) := by
  have HP := Lib.hid (parse_bad (l := s.data.toList) (by rw [hm]; rintro ⟨_, h⟩; cases h))
  have CM := Lib.hid (fun w => run_any mayBe_any (enters_of Tryz.func202 (by kernel_rfl) rfl) s (by unfold maxLen; omega) w)
  have CI := Lib.hid (fun w => Tryz.strings_IndexByte s 58 w)
  have h60 : (s.size : Int) ≤ 60 := by omega
  have h0 : (0 : Int) ≤ (s.size : Int) := by omega
  have hlt := not_all_while hm
  rw [size_len] at hlt
  generalize (s.data.toList.takeWhile isMay).length = n at *
  clear hm
  go_enter Tryz.func174, Tryz.ntmps174
  go_wp2_with fail
  refine (CM.out _).mono ?_
  rintro e w1 ⟨rfl, rfl⟩
  go_wp2_with fail
  refine bodyPost_ret (v := .tuple #[.agg #[.string ⟨#[]⟩, .string ⟨#[]⟩, .string ⟨#[]⟩], .bool false]) (by simp [results, Tryz.results174, go_sem]) rfl (SplitPost.mk_none HP.out ?_)
  first | exact (Below.refl _ _).alloc (Nat.le_refl _) _ | exact ((Below.refl _ _).alloc (Nat.le_refl _) _).alloc (by simp) _ | exact (((Below.refl _ _).alloc (Nat.le_refl _) _).alloc (by simp) _).drew | exact ((((Below.refl _ _).alloc (Nat.le_refl _) _).alloc (by simp) _).drew).drew

set_option maxHeartbeats 8000000 in
set_option maxRecDepth 100000 in
theorem split_plain (s : ByteArray) (h : s.size ≤ 60) (hm : s.data.toList.all isMay = true) (hc : (58 : UInt8) ∉ s.data.toList) (w : World) : Calls Tryz.prog 174 #[.string s] w (SplitPost w (parse s.data.toList)) := by
  have CM := Lib.hid (fun w => run_any mayBe_any (enters_of Tryz.func202 (by kernel_rfl) rfl) s (by unfold maxLen; omega) w)
  have CI := Lib.hid (fun w => Tryz.strings_IndexByte s 58 w)
  have h60 : (s.size : Int) ≤ 60 := by omega
  have h0 : (0 : Int) ≤ (s.size : Int) := by omega
  have HG := Lib.hid (show s.data.toList.length ≤ 60 ∧ s.data.toList.all isMay = true from ⟨by rw [size_len]; exact h, hm⟩)
  have hall := all_while hm
  rw [size_len] at hall
  have HP0 := Lib.hid (parse_plain HG.out hc)
  change Hid (∀ w, Calls Tryz.prog 203 #[.string s, .int .u8 58] w fun e w' => e = .returned (.int .i64 (Lib.indexByte s.data.toList 58)) ∧ w' = w) at CI
  rw [index_no hc] at CI
  rw [hall] at CM
  clear hm hall
  by_cases hd : (45 : UInt8) ∈ s.data.toList
  · skip
    obtain ⟨j, hj, ej, hj45, hjn⟩ := last_yes (s := s) hd
    have CL := Lib.hid (fun w => Tryz.strings_LastIndexByte (s) 45 (by omega) w)
    rw [show (45 : Int) = ((45 : UInt8).toNat : Int) from rfl, ej] at CL
    change Hid (∀ w, Calls Tryz.prog 205 #[.string (s), .int .u8 45] w fun e w' => e = .returned (.int .i64 (j : Int)) ∧ w' = w) at CL
    have CC := Lib.hid (fun w => Tryz.strings_Contains_one (s) 58 w)
    rw [indexB_ge] at CC
    have LV : (s.extract 0 j).data.toList = s.data.toList.take j := bl_upto _ _
    have LR : (s.extract (j + 1) s.size).data.toList = s.data.toList.drop (j + 1) := bl_from _ _
    have j0 : (0 : Int) ≤ (j : Int) := by omega
    have j1 : (j : Int) + 1 ≤ (s.size : Int) := by omega
    have j2 : (j : Int) ≤ (s.size : Int) := by omega
    have j3 : (s.size : Int) ≤ 60 := by omega
    clear hd ej hj
    by_cases zr : (s.extract (j + 1) s.size).data.toList = []
    · skip
      have HP := Lib.hid (HP0.out.trans (vr_empty hj45 hjn (.inr (LR ▸ zr))))
      have zra : (s.extract (j + 1) s.size).toList.isEmpty = true := by rw [ByteArray.toList_eq, zr]; rfl
      have zrb : (s.extract (j + 1) s.size).toList = [] := by rw [ByteArray.toList_eq, zr]
      clear zr LV LR hj45 hjn HP0 CC
      go_enter Tryz.func174, Tryz.ntmps174
      go_wp2_with fail
      refine (CM.out _).mono ?_
      rintro e w1 ⟨rfl, rfl⟩
      go_wp2_with fail
      refine (CI.out _).mono ?_
      rintro e w1 ⟨rfl, rfl⟩
      go_wp2_with fail
      refine (CL.out _).mono ?_
      rintro e w1 ⟨rfl, rfl⟩
      go_wp2_with fail
      go_region
      all_goals go_wp2_with fail
      all_goals
        refine bodyPost_ret (v := .tuple #[.agg #[.string ⟨#[]⟩, .string ⟨#[]⟩, .string ⟨#[]⟩], .bool false]) (by simp [results, Tryz.results174, go_sem]) rfl (SplitPost.mk_none HP.out ?_)
        first | exact (Below.refl _ _).alloc (Nat.le_refl _) _ | exact ((Below.refl _ _).alloc (Nat.le_refl _) _).alloc (by simp) _ | exact (((Below.refl _ _).alloc (Nat.le_refl _) _).alloc (by simp) _).drew | exact ((((Below.refl _ _).alloc (Nat.le_refl _) _).alloc (by simp) _).drew).drew
    · skip
      have hr0 : 0 < (s.extract (j + 1) s.size).size := by rw [← size_len]; exact List.length_pos_iff.2 zr
      have zra := toList_cons (s := s.extract (j + 1) s.size) (by exact hr0)
      have zrb : (s.extract (j + 1) s.size).toList ≠ [] := by intro h; rw [h] at zra; cases zra
      by_cases zv : (s.extract 0 j).data.toList = []
      · skip
        have HP := Lib.hid (HP0.out.trans (vr_empty hj45 hjn (.inl (LV ▸ zv))))
        have zva : (s.extract 0 j).toList.isEmpty = true := by rw [ByteArray.toList_eq, zv]; rfl
        have zvb : (s.extract 0 j).toList = [] := by rw [ByteArray.toList_eq, zv]
        clear zr zv hr0 LV LR hj45 hjn HP0 CC
        go_enter Tryz.func174, Tryz.ntmps174
        go_wp2_with fail
        refine (CM.out _).mono ?_
        rintro e w1 ⟨rfl, rfl⟩
        go_wp2_with fail
        refine (CI.out _).mono ?_
        rintro e w1 ⟨rfl, rfl⟩
        go_wp2_with fail
        refine (CL.out _).mono ?_
        rintro e w1 ⟨rfl, rfl⟩
        go_wp2_with fail
        go_region
        all_goals go_wp2_with fail
        all_goals
          refine bodyPost_ret (v := .tuple #[.agg #[.string ⟨#[]⟩, .string ⟨#[]⟩, .string ⟨#[]⟩], .bool false]) (by simp [results, Tryz.results174, go_sem]) rfl (SplitPost.mk_none HP.out ?_)
          first | exact (Below.refl _ _).alloc (Nat.le_refl _) _ | exact ((Below.refl _ _).alloc (Nat.le_refl _) _).alloc (by simp) _ | exact (((Below.refl _ _).alloc (Nat.le_refl _) _).alloc (by simp) _).drew | exact ((((Below.refl _ _).alloc (Nat.le_refl _) _).alloc (by simp) _).drew).drew
      · skip
        have hv0 : 0 < (s.extract 0 j).size := by rw [← size_len]; exact List.length_pos_iff.2 zv
        have zva := toList_cons (s := s.extract 0 j) (by exact hv0)
        have zvb : (s.extract 0 j).toList ≠ [] := by intro h; rw [h] at zva; cases zva
        have hc2 := hc
        have HP : Hid (parse s.data.toList = some ⟨((⟨#[]⟩ : ByteArray)).data.toList, (s.extract 0 j).data.toList, (s.extract (j + 1) s.size).data.toList⟩) := by
          refine HP0.out.trans ?_
          rw [vr_dash hc2 hj45 hjn, ← LV, ← LR, if_neg (fun h => h.elim zv zr)]
          try rfl
        rw [show decide ((58 : UInt8) ∈ s.data.toList) = false from decide_eq_false hc2] at CC
        clear zr zv hr0 hv0 LV LR hj45 hjn HP0 hc2
        go_enter Tryz.func174, Tryz.ntmps174
        go_wp2_with fail
        refine (CM.out _).mono ?_
        rintro e w1 ⟨rfl, rfl⟩
        go_wp2_with fail
        refine (CI.out _).mono ?_
        rintro e w1 ⟨rfl, rfl⟩
        go_wp2_with fail
        refine (CL.out _).mono ?_
        rintro e w1 ⟨rfl, rfl⟩
        go_wp2_with fail
        go_region
        all_goals
          go_wp2_with fail
          refine (CC.out _).mono ?_
          rintro e w1 ⟨rfl, rfl⟩
          go_wp2_with fail
          refine bodyPost_ret (v := .tuple #[.agg #[.string (⟨#[]⟩ : ByteArray), .string (s.extract 0 j), .string (s.extract (j + 1) s.size)], .bool true]) (by simp [results, Tryz.results174, go_sem]) rfl (SplitPost.mk_some HP.out ?_)
          first | exact (Below.refl _ _).alloc (Nat.le_refl _) _ | exact ((Below.refl _ _).alloc (Nat.le_refl _) _).alloc (by simp) _ | exact (((Below.refl _ _).alloc (Nat.le_refl _) _).alloc (by simp) _).drew | exact ((((Below.refl _ _).alloc (Nat.le_refl _) _).alloc (by simp) _).drew).drew
  · skip
    have CL := Lib.hid (fun w => Tryz.strings_LastIndexByte (s) 45 (by omega) w)
    rw [show (45 : Int) = ((45 : UInt8).toNat : Int) from rfl, last_no hd] at CL
    change Hid (∀ w, Calls Tryz.prog 205 #[.string (s), .int .u8 45] w fun e w' => e = .returned (.int .i64 (-1)) ∧ w' = w) at CL
    have CC := Lib.hid (fun w => Tryz.strings_Contains_one (s) 58 w)
    rw [indexB_ge] at CC
    by_cases zv : (s).data.toList = []
    · skip
      have HP : Hid (parse s.data.toList = none) := HP0.out.trans (by rw [vr_plain (by rw [zv]; simp) hd, if_pos zv])
      have zva : (s).toList.isEmpty = true := by rw [ByteArray.toList_eq, zv]; rfl
      have zvb : (s).toList = [] := by rw [ByteArray.toList_eq, zv]
      clear zv hd HP0 CC
      go_enter Tryz.func174, Tryz.ntmps174
      go_wp2_with fail
      refine (CM.out _).mono ?_
      rintro e w1 ⟨rfl, rfl⟩
      go_wp2_with fail
      refine (CI.out _).mono ?_
      rintro e w1 ⟨rfl, rfl⟩
      go_wp2_with fail
      refine (CL.out _).mono ?_
      rintro e w1 ⟨rfl, rfl⟩
      go_wp2_with fail
      refine bodyPost_ret (v := .tuple #[.agg #[.string ⟨#[]⟩, .string ⟨#[]⟩, .string ⟨#[]⟩], .bool false]) (by simp [results, Tryz.results174, go_sem]) rfl (SplitPost.mk_none HP.out ?_)
      first | exact (Below.refl _ _).alloc (Nat.le_refl _) _ | exact ((Below.refl _ _).alloc (Nat.le_refl _) _).alloc (by simp) _ | exact (((Below.refl _ _).alloc (Nat.le_refl _) _).alloc (by simp) _).drew | exact ((((Below.refl _ _).alloc (Nat.le_refl _) _).alloc (by simp) _).drew).drew
    · skip
      have hv0 : 0 < (s).size := by rw [← size_len]; exact List.length_pos_iff.2 zv
      have zva := toList_cons (s := s) (by exact hv0)
      have zvb : (s).toList ≠ [] := by intro h; rw [h] at zva; cases zva
      have hc2 := hc
      have HP : Hid (parse s.data.toList = some ⟨((⟨#[]⟩ : ByteArray)).data.toList, (s).data.toList, (⟨#[]⟩ : ByteArray).data.toList⟩) := by
        refine HP0.out.trans ?_
        rw [vr_plain hc2 hd, if_neg zv]
        try rfl
      rw [show decide ((58 : UInt8) ∈ s.data.toList) = false from decide_eq_false hc2] at CC
      clear zv hv0 hd HP0 hc2
      go_enter Tryz.func174, Tryz.ntmps174
      go_wp2_with fail
      refine (CM.out _).mono ?_
      rintro e w1 ⟨rfl, rfl⟩
      go_wp2_with fail
      refine (CI.out _).mono ?_
      rintro e w1 ⟨rfl, rfl⟩
      go_wp2_with fail
      refine (CL.out _).mono ?_
      rintro e w1 ⟨rfl, rfl⟩
      go_wp2_with fail
      refine (CC.out _).mono ?_
      rintro e w1 ⟨rfl, rfl⟩
      go_wp2_with fail
      refine bodyPost_ret (v := .tuple #[.agg #[.string (⟨#[]⟩ : ByteArray), .string (s), .string ⟨#[]⟩], .bool true]) (by simp [results, Tryz.results174, go_sem]) rfl (SplitPost.mk_some HP.out ?_)
      first | exact (Below.refl _ _).alloc (Nat.le_refl _) _ | exact ((Below.refl _ _).alloc (Nat.le_refl _) _).alloc (by simp) _ | exact (((Below.refl _ _).alloc (Nat.le_refl _) _).alloc (by simp) _).drew | exact ((((Below.refl _ _).alloc (Nat.le_refl _) _).alloc (by simp) _).drew).drew
set_option maxHeartbeats 8000000 in
set_option maxRecDepth 100000 in
theorem split_epoch (s : ByteArray) (h : s.size ≤ 60) (hm : s.data.toList.all isMay = true) (hc : (58 : UInt8) ∈ s.data.toList) (w : World) (hbad : ∀ k, k = (s.data.toList.takeWhile (· != 58)).length → ¬ (k ≠ 0 ∧ k ≤ 9 ∧ (s.data.toList.take k).all isDg = true)) : Calls Tryz.prog 174 #[.string s] w (SplitPost w (parse s.data.toList)) := by
  have CM := Lib.hid (fun w => run_any mayBe_any (enters_of Tryz.func202 (by kernel_rfl) rfl) s (by unfold maxLen; omega) w)
  have CI := Lib.hid (fun w => Tryz.strings_IndexByte s 58 w)
  have h60 : (s.size : Int) ≤ 60 := by omega
  have h0 : (0 : Int) ≤ (s.size : Int) := by omega
  have HG := Lib.hid (show s.data.toList.length ≤ 60 ∧ s.data.toList.all isMay = true from ⟨by rw [size_len]; exact h, hm⟩)
  have hall := all_while hm
  rw [size_len] at hall
  have HCI := Lib.hid (index_yes hc)
  change Hid (∀ w, Calls Tryz.prog 203 #[.string s, .int .u8 58] w fun e w' => e = .returned (.int .i64 (Lib.indexByte s.data.toList 58)) ∧ w' = w) at CI
  rw [index_yes hc] at CI
  have HPC := Lib.hid (fun k hk => parse_colon HG.out hc (k := k) hk)
  have klt := while_lt hc
  rw [size_len] at klt
  rw [hall] at CM
  clear hm hall HCI
  obtain ⟨k, hk⟩ : ∃ k, k = (s.data.toList.takeWhile (· != 58)).length := ⟨_, rfl⟩
  have HP1 := Lib.hid (HPC.out k hk)
  have hbad := hbad k hk
  rw [← hk] at CI klt
  clear hk HPC hc
  have k0 : (0 : Int) ≤ (k : Int) := by omega
  have k1 : (k : Int) + 1 ≤ (s.size : Int) := by omega
  have k2 : (k : Int) ≤ (s.size : Int) := by omega
  have HP := Lib.hid (HP1.out.trans (if_neg hbad))
  by_cases kz : k = 0
  · subst kz
    clear hbad HP1
    go_enter Tryz.func174, Tryz.ntmps174
    go_wp2_with fail
    refine (CM.out _).mono ?_
    rintro e w1 ⟨rfl, rfl⟩
    go_wp2_with fail
    refine (CI.out _).mono ?_
    rintro e w1 ⟨rfl, rfl⟩
    go_wp2_with fail
    go_region
    all_goals go_wp2_with fail
    all_goals
      refine bodyPost_ret (v := .tuple #[.agg #[.string ⟨#[]⟩, .string ⟨#[]⟩, .string ⟨#[]⟩], .bool false]) (by simp [results, Tryz.results174, go_sem]) rfl (SplitPost.mk_none HP.out ?_)
      first | exact (Below.refl _ _).alloc (Nat.le_refl _) _ | exact ((Below.refl _ _).alloc (Nat.le_refl _) _).alloc (by simp) _ | exact (((Below.refl _ _).alloc (Nat.le_refl _) _).alloc (by simp) _).drew | exact ((((Below.refl _ _).alloc (Nat.le_refl _) _).alloc (by simp) _).drew).drew
  · by_cases k9 : 9 < k
    · have k3 : (9 : Int) < (k : Int) := by omega
      have k4 : ((k : Int) == 0) = false := by simp; omega
      clear hbad HP1 kz k9
      go_enter Tryz.func174, Tryz.ntmps174
      go_wp2_with fail
      refine (CM.out _).mono ?_
      rintro e w1 ⟨rfl, rfl⟩
      go_wp2_with fail
      refine (CI.out _).mono ?_
      rintro e w1 ⟨rfl, rfl⟩
      go_wp2_with fail
      go_region
      all_goals go_wp2_with fail
      all_goals
        refine bodyPost_ret (v := .tuple #[.agg #[.string ⟨#[]⟩, .string ⟨#[]⟩, .string ⟨#[]⟩], .bool false]) (by simp [results, Tryz.results174, go_sem]) rfl (SplitPost.mk_none HP.out ?_)
        first | exact (Below.refl _ _).alloc (Nat.le_refl _) _ | exact ((Below.refl _ _).alloc (Nat.le_refl _) _).alloc (by simp) _ | exact (((Below.refl _ _).alloc (Nat.le_refl _) _).alloc (by simp) _).drew | exact ((((Below.refl _ _).alloc (Nat.le_refl _) _).alloc (by simp) _).drew).drew
    · have hd : (s.data.toList.take k).all isDg = false := by
        cases hx : (s.data.toList.take k).all isDg with
        | false => rfl
        | true => exact absurd ⟨kz, by omega, hx⟩ hbad
      have hlt := not_all_while hd
      rw [← bl_upto, size_len] at hlt
      have hsz : (s.extract 0 k).size = k := by rw [← size_len, bl_upto, List.length_take, size_len]; omega
      rw [hsz] at hlt
      have CE := Lib.hid (fun w => run_any isDigit_any (enters_of Tryz.func204 (by kernel_rfl) rfl) (s.extract 0 k) (by rw [hsz]; unfold maxLen; omega) w)
      generalize ((s.extract 0 k).data.toList.takeWhile isDg).length = m at *
      have k3 : (k : Int) ≤ 9 := by omega
      have k4 : ((k : Int) == 0) = false := by simp; omega
      have k5 : (m : Int) < (k : Int) := by omega
      have k6 : ¬ (9 : Int) < (k : Int) := by omega
      clear hbad HP1 kz k9 hd hlt hsz
      go_enter Tryz.func174, Tryz.ntmps174
      go_wp2_with fail
      refine (CM.out _).mono ?_
      rintro e w1 ⟨rfl, rfl⟩
      go_wp2_with fail
      refine (CI.out _).mono ?_
      rintro e w1 ⟨rfl, rfl⟩
      go_wp2_with fail
      go_region
      all_goals go_wp2_with fail
      all_goals
        refine (CE.out _).mono ?_
        rintro e w1 ⟨rfl, rfl⟩
        go_wp2_with fail
        refine bodyPost_ret (v := .tuple #[.agg #[.string ⟨#[]⟩, .string ⟨#[]⟩, .string ⟨#[]⟩], .bool false]) (by simp [results, Tryz.results174, go_sem]) rfl (SplitPost.mk_none HP.out ?_)
        first | exact (Below.refl _ _).alloc (Nat.le_refl _) _ | exact ((Below.refl _ _).alloc (Nat.le_refl _) _).alloc (by simp) _ | exact (((Below.refl _ _).alloc (Nat.le_refl _) _).alloc (by simp) _).drew | exact ((((Below.refl _ _).alloc (Nat.le_refl _) _).alloc (by simp) _).drew).drew
end Go.Proofs.YtpmfmkpfjomgnaaGreatDoor

/- A version taken apart: split, with an epoch. -/
namespace Go.Proofs.YtpmfmkpfjomgnaaGreatDoor
set_option linter.unusedSimpArgs false
set_option linter.unusedVariables false
open Go.RowKit

set_option maxHeartbeats 8000000 in
set_option maxRecDepth 100000 in
theorem split_colon (s : ByteArray) (h : s.size ≤ 60) (hm : s.data.toList.all isMay = true) (hc : (58 : UInt8) ∈ s.data.toList) (w : World) (hgood : ∀ k, k = (s.data.toList.takeWhile (· != 58)).length → (k ≠ 0 ∧ k ≤ 9 ∧ (s.data.toList.take k).all isDg = true)) : Calls Tryz.prog 174 #[.string s] w (SplitPost w (parse s.data.toList)) := by
  have CM := Lib.hid (fun w => run_any mayBe_any (enters_of Tryz.func202 (by kernel_rfl) rfl) s (by unfold maxLen; omega) w)
  have CI := Lib.hid (fun w => Tryz.strings_IndexByte s 58 w)
  have h60 : (s.size : Int) ≤ 60 := by omega
  have h0 : (0 : Int) ≤ (s.size : Int) := by omega
  have HG := Lib.hid (show s.data.toList.length ≤ 60 ∧ s.data.toList.all isMay = true from ⟨by rw [size_len]; exact h, hm⟩)
  have hall := all_while hm
  rw [size_len] at hall
  have HCI := Lib.hid (index_yes hc)
  change Hid (∀ w, Calls Tryz.prog 203 #[.string s, .int .u8 58] w fun e w' => e = .returned (.int .i64 (Lib.indexByte s.data.toList 58)) ∧ w' = w) at CI
  rw [index_yes hc] at CI
  have HPC := Lib.hid (fun k hk => parse_colon HG.out hc (k := k) hk)
  have klt := while_lt hc
  rw [size_len] at klt
  rw [hall] at CM
  clear hm hall HCI
  obtain ⟨k, hk⟩ : ∃ k, k = (s.data.toList.takeWhile (· != 58)).length := ⟨_, rfl⟩
  have HP1 := Lib.hid (HPC.out k hk)
  have hgood := hgood k hk
  rw [← hk] at CI klt
  clear hk HPC hc
  have k0 : (0 : Int) ≤ (k : Int) := by omega
  have k1 : (k : Int) + 1 ≤ (s.size : Int) := by omega
  have k2 : (k : Int) ≤ (s.size : Int) := by omega
  have HP0 : Hid (parse s.data.toList = vr (s.data.toList.take k) (s.extract (k + 1) s.size).data.toList) := by
    show parse s.data.toList = _
    rw [bl_from]
    exact HP1.out.trans (if_pos hgood)
  obtain ⟨kz, k9, hdig⟩ := hgood
  have hw := all_while hdig
  rw [← bl_upto, size_len] at hw
  have hsz : (s.extract 0 k).size = k := by rw [← size_len, bl_upto, List.length_take, size_len]; omega
  rw [hsz] at hw
  have CE := Lib.hid (fun w => run_any isDigit_any (enters_of Tryz.func204 (by kernel_rfl) rfl) (s.extract 0 k) (by rw [hsz]; unfold maxLen; omega) w)
  rw [hw] at CE
  have k4 : ((k : Int) == 0) = false := by simp; omega
  have k6 : ¬ (9 : Int) < (k : Int) := by omega
  have ht60 : (s.extract (k + 1) s.size).size ≤ 60 := by rw [← size_len, bl_from, List.length_drop, size_len]; omega
  clear HP1 kz k9 hdig hw hsz
  by_cases hd : (45 : UInt8) ∈ (s.extract (k + 1) s.size).data.toList
  · skip
    obtain ⟨j, hj, ej, hj45, hjn⟩ := last_yes (s := (s.extract (k + 1) s.size)) hd
    have CL := Lib.hid (fun w => Tryz.strings_LastIndexByte ((s.extract (k + 1) s.size)) 45 (by omega) w)
    rw [show (45 : Int) = ((45 : UInt8).toNat : Int) from rfl, ej] at CL
    change Hid (∀ w, Calls Tryz.prog 205 #[.string ((s.extract (k + 1) s.size)), .int .u8 45] w fun e w' => e = .returned (.int .i64 (j : Int)) ∧ w' = w) at CL
    have CC := Lib.hid (fun w => Tryz.strings_Contains_one ((s.extract (k + 1) s.size)) 58 w)
    rw [indexB_ge] at CC
    have LV : ((s.extract (k + 1) s.size).extract 0 j).data.toList = (s.extract (k + 1) s.size).data.toList.take j := bl_upto _ _
    have LR : ((s.extract (k + 1) s.size).extract (j + 1) (s.extract (k + 1) s.size).size).data.toList = (s.extract (k + 1) s.size).data.toList.drop (j + 1) := bl_from _ _
    have j0 : (0 : Int) ≤ (j : Int) := by omega
    have j1 : (j : Int) + 1 ≤ ((s.extract (k + 1) s.size).size : Int) := by omega
    have j2 : (j : Int) ≤ ((s.extract (k + 1) s.size).size : Int) := by omega
    have j3 : ((s.extract (k + 1) s.size).size : Int) ≤ 60 := by omega
    clear hd ej hj
    by_cases zr : ((s.extract (k + 1) s.size).extract (j + 1) (s.extract (k + 1) s.size).size).data.toList = []
    · skip
      have HP := Lib.hid (HP0.out.trans (vr_empty hj45 hjn (.inr (LR ▸ zr))))
      have zra : ((s.extract (k + 1) s.size).extract (j + 1) (s.extract (k + 1) s.size).size).toList.isEmpty = true := by rw [ByteArray.toList_eq, zr]; rfl
      have zrb : ((s.extract (k + 1) s.size).extract (j + 1) (s.extract (k + 1) s.size).size).toList = [] := by rw [ByteArray.toList_eq, zr]
      clear zr LV LR hj45 hjn HP0 CC
      go_enter Tryz.func174, Tryz.ntmps174
      go_wp2_with fail
      refine (CM.out _).mono ?_
      rintro e w1 ⟨rfl, rfl⟩
      go_wp2_with fail
      refine (CI.out _).mono ?_
      rintro e w1 ⟨rfl, rfl⟩
      go_wp2_with fail
      go_region
      generalize s.extract (k + 1) s.size = t at *
      go_wp2_with fail
      refine (CE.out _).mono ?_
      rintro e w1 ⟨rfl, rfl⟩
      go_wp2_with fail
      refine (CL.out _).mono ?_
      rintro e w1 ⟨rfl, rfl⟩
      go_wp2_with fail
      go_region
      all_goals go_wp2_with fail
      all_goals
        refine bodyPost_ret (v := .tuple #[.agg #[.string ⟨#[]⟩, .string ⟨#[]⟩, .string ⟨#[]⟩], .bool false]) (by simp [results, Tryz.results174, go_sem]) rfl (SplitPost.mk_none HP.out ?_)
        first | exact (Below.refl _ _).alloc (Nat.le_refl _) _ | exact ((Below.refl _ _).alloc (Nat.le_refl _) _).alloc (by simp) _ | exact (((Below.refl _ _).alloc (Nat.le_refl _) _).alloc (by simp) _).drew | exact ((((Below.refl _ _).alloc (Nat.le_refl _) _).alloc (by simp) _).drew).drew | exact (((((Below.refl _ _).alloc (Nat.le_refl _) _).alloc (by simp) _).drew).drew).drew
    · skip
      have hr0 : 0 < ((s.extract (k + 1) s.size).extract (j + 1) (s.extract (k + 1) s.size).size).size := by rw [← size_len]; exact List.length_pos_iff.2 zr
      have zra := toList_cons (s := (s.extract (k + 1) s.size).extract (j + 1) (s.extract (k + 1) s.size).size) (by exact hr0)
      have zrb : ((s.extract (k + 1) s.size).extract (j + 1) (s.extract (k + 1) s.size).size).toList ≠ [] := by intro h; rw [h] at zra; cases zra
      by_cases zv : ((s.extract (k + 1) s.size).extract 0 j).data.toList = []
      · skip
        have HP := Lib.hid (HP0.out.trans (vr_empty hj45 hjn (.inl (LV ▸ zv))))
        have zva : ((s.extract (k + 1) s.size).extract 0 j).toList.isEmpty = true := by rw [ByteArray.toList_eq, zv]; rfl
        have zvb : ((s.extract (k + 1) s.size).extract 0 j).toList = [] := by rw [ByteArray.toList_eq, zv]
        clear zr zv hr0 LV LR hj45 hjn HP0 CC
        go_enter Tryz.func174, Tryz.ntmps174
        go_wp2_with fail
        refine (CM.out _).mono ?_
        rintro e w1 ⟨rfl, rfl⟩
        go_wp2_with fail
        refine (CI.out _).mono ?_
        rintro e w1 ⟨rfl, rfl⟩
        go_wp2_with fail
        go_region
        generalize s.extract (k + 1) s.size = t at *
        go_wp2_with fail
        refine (CE.out _).mono ?_
        rintro e w1 ⟨rfl, rfl⟩
        go_wp2_with fail
        refine (CL.out _).mono ?_
        rintro e w1 ⟨rfl, rfl⟩
        go_wp2_with fail
        go_region
        all_goals go_wp2_with fail
        all_goals
          refine bodyPost_ret (v := .tuple #[.agg #[.string ⟨#[]⟩, .string ⟨#[]⟩, .string ⟨#[]⟩], .bool false]) (by simp [results, Tryz.results174, go_sem]) rfl (SplitPost.mk_none HP.out ?_)
          first | exact (Below.refl _ _).alloc (Nat.le_refl _) _ | exact ((Below.refl _ _).alloc (Nat.le_refl _) _).alloc (by simp) _ | exact (((Below.refl _ _).alloc (Nat.le_refl _) _).alloc (by simp) _).drew | exact ((((Below.refl _ _).alloc (Nat.le_refl _) _).alloc (by simp) _).drew).drew | exact (((((Below.refl _ _).alloc (Nat.le_refl _) _).alloc (by simp) _).drew).drew).drew
      · skip
        have hv0 : 0 < ((s.extract (k + 1) s.size).extract 0 j).size := by rw [← size_len]; exact List.length_pos_iff.2 zv
        have zva := toList_cons (s := (s.extract (k + 1) s.size).extract 0 j) (by exact hv0)
        have zvb : ((s.extract (k + 1) s.size).extract 0 j).toList ≠ [] := by intro h; rw [h] at zva; cases zva
        by_cases hc2 : (58 : UInt8) ∈ (s.extract (k + 1) s.size).data.toList
        · skip
          have HP := Lib.hid (HP0.out.trans (vr_colon hc2))
          rw [show decide ((58 : UInt8) ∈ (s.extract (k + 1) s.size).data.toList) = true from decide_eq_true hc2] at CC
          clear zr zv hr0 hv0 LV LR hj45 hjn HP0 hc2
          go_enter Tryz.func174, Tryz.ntmps174
          go_wp2_with fail
          refine (CM.out _).mono ?_
          rintro e w1 ⟨rfl, rfl⟩
          go_wp2_with fail
          refine (CI.out _).mono ?_
          rintro e w1 ⟨rfl, rfl⟩
          go_wp2_with fail
          go_region
          generalize s.extract (k + 1) s.size = t at *
          go_wp2_with fail
          refine (CE.out _).mono ?_
          rintro e w1 ⟨rfl, rfl⟩
          go_wp2_with fail
          refine (CL.out _).mono ?_
          rintro e w1 ⟨rfl, rfl⟩
          go_wp2_with fail
          go_region
          all_goals
            go_wp2_with fail
            refine (CC.out _).mono ?_
            rintro e w1 ⟨rfl, rfl⟩
            go_wp2_with fail
            refine bodyPost_ret (v := .tuple #[.agg #[.string ⟨#[]⟩, .string ⟨#[]⟩, .string ⟨#[]⟩], .bool false]) (by simp [results, Tryz.results174, go_sem]) rfl (SplitPost.mk_none HP.out ?_)
            first | exact (Below.refl _ _).alloc (Nat.le_refl _) _ | exact ((Below.refl _ _).alloc (Nat.le_refl _) _).alloc (by simp) _ | exact (((Below.refl _ _).alloc (Nat.le_refl _) _).alloc (by simp) _).drew | exact ((((Below.refl _ _).alloc (Nat.le_refl _) _).alloc (by simp) _).drew).drew | exact (((((Below.refl _ _).alloc (Nat.le_refl _) _).alloc (by simp) _).drew).drew).drew
        · skip
          have HP : Hid (parse s.data.toList = some ⟨((s.extract 0 k)).data.toList, ((s.extract (k + 1) s.size).extract 0 j).data.toList, ((s.extract (k + 1) s.size).extract (j + 1) (s.extract (k + 1) s.size).size).data.toList⟩) := by
            refine HP0.out.trans ?_
            rw [vr_dash hc2 hj45 hjn, ← LV, ← LR, if_neg (fun h => h.elim zv zr), bl_upto s k]
            try rfl
          rw [show decide ((58 : UInt8) ∈ (s.extract (k + 1) s.size).data.toList) = false from decide_eq_false hc2] at CC
          clear zr zv hr0 hv0 LV LR hj45 hjn HP0 hc2
          go_enter Tryz.func174, Tryz.ntmps174
          go_wp2_with fail
          refine (CM.out _).mono ?_
          rintro e w1 ⟨rfl, rfl⟩
          go_wp2_with fail
          refine (CI.out _).mono ?_
          rintro e w1 ⟨rfl, rfl⟩
          go_wp2_with fail
          go_region
          generalize s.extract (k + 1) s.size = t at *
          go_wp2_with fail
          refine (CE.out _).mono ?_
          rintro e w1 ⟨rfl, rfl⟩
          go_wp2_with fail
          refine (CL.out _).mono ?_
          rintro e w1 ⟨rfl, rfl⟩
          go_wp2_with fail
          go_region
          all_goals
            go_wp2_with fail
            refine (CC.out _).mono ?_
            rintro e w1 ⟨rfl, rfl⟩
            go_wp2_with fail
            refine bodyPost_ret (v := .tuple #[.agg #[.string (s.extract 0 k), .string (t.extract 0 j), .string (t.extract (j + 1) t.size)], .bool true]) (by simp [results, Tryz.results174, go_sem]) rfl (SplitPost.mk_some HP.out ?_)
            first | exact (Below.refl _ _).alloc (Nat.le_refl _) _ | exact ((Below.refl _ _).alloc (Nat.le_refl _) _).alloc (by simp) _ | exact (((Below.refl _ _).alloc (Nat.le_refl _) _).alloc (by simp) _).drew | exact ((((Below.refl _ _).alloc (Nat.le_refl _) _).alloc (by simp) _).drew).drew | exact (((((Below.refl _ _).alloc (Nat.le_refl _) _).alloc (by simp) _).drew).drew).drew
  · skip
    have CL := Lib.hid (fun w => Tryz.strings_LastIndexByte ((s.extract (k + 1) s.size)) 45 (by omega) w)
    rw [show (45 : Int) = ((45 : UInt8).toNat : Int) from rfl, last_no hd] at CL
    change Hid (∀ w, Calls Tryz.prog 205 #[.string ((s.extract (k + 1) s.size)), .int .u8 45] w fun e w' => e = .returned (.int .i64 (-1)) ∧ w' = w) at CL
    have CC := Lib.hid (fun w => Tryz.strings_Contains_one ((s.extract (k + 1) s.size)) 58 w)
    rw [indexB_ge] at CC
    by_cases zv : ((s.extract (k + 1) s.size)).data.toList = []
    · skip
      have HP : Hid (parse s.data.toList = none) := HP0.out.trans (by rw [vr_plain (by rw [zv]; simp) hd, if_pos zv])
      have zva : ((s.extract (k + 1) s.size)).toList.isEmpty = true := by rw [ByteArray.toList_eq, zv]; rfl
      have zvb : ((s.extract (k + 1) s.size)).toList = [] := by rw [ByteArray.toList_eq, zv]
      clear zv hd HP0 CC
      go_enter Tryz.func174, Tryz.ntmps174
      go_wp2_with fail
      refine (CM.out _).mono ?_
      rintro e w1 ⟨rfl, rfl⟩
      go_wp2_with fail
      refine (CI.out _).mono ?_
      rintro e w1 ⟨rfl, rfl⟩
      go_wp2_with fail
      go_region
      generalize s.extract (k + 1) s.size = t at *
      go_wp2_with fail
      refine (CE.out _).mono ?_
      rintro e w1 ⟨rfl, rfl⟩
      go_wp2_with fail
      refine (CL.out _).mono ?_
      rintro e w1 ⟨rfl, rfl⟩
      go_wp2_with fail
      refine bodyPost_ret (v := .tuple #[.agg #[.string ⟨#[]⟩, .string ⟨#[]⟩, .string ⟨#[]⟩], .bool false]) (by simp [results, Tryz.results174, go_sem]) rfl (SplitPost.mk_none HP.out ?_)
      first | exact (Below.refl _ _).alloc (Nat.le_refl _) _ | exact ((Below.refl _ _).alloc (Nat.le_refl _) _).alloc (by simp) _ | exact (((Below.refl _ _).alloc (Nat.le_refl _) _).alloc (by simp) _).drew | exact ((((Below.refl _ _).alloc (Nat.le_refl _) _).alloc (by simp) _).drew).drew | exact (((((Below.refl _ _).alloc (Nat.le_refl _) _).alloc (by simp) _).drew).drew).drew
    · skip
      have hv0 : 0 < ((s.extract (k + 1) s.size)).size := by rw [← size_len]; exact List.length_pos_iff.2 zv
      have zva := toList_cons (s := (s.extract (k + 1) s.size)) (by exact hv0)
      have zvb : ((s.extract (k + 1) s.size)).toList ≠ [] := by intro h; rw [h] at zva; cases zva
      by_cases hc2 : (58 : UInt8) ∈ (s.extract (k + 1) s.size).data.toList
      · skip
        have HP := Lib.hid (HP0.out.trans (vr_colon hc2))
        rw [show decide ((58 : UInt8) ∈ (s.extract (k + 1) s.size).data.toList) = true from decide_eq_true hc2] at CC
        clear zv hv0 hd HP0 hc2
        go_enter Tryz.func174, Tryz.ntmps174
        go_wp2_with fail
        refine (CM.out _).mono ?_
        rintro e w1 ⟨rfl, rfl⟩
        go_wp2_with fail
        refine (CI.out _).mono ?_
        rintro e w1 ⟨rfl, rfl⟩
        go_wp2_with fail
        go_region
        generalize s.extract (k + 1) s.size = t at *
        go_wp2_with fail
        refine (CE.out _).mono ?_
        rintro e w1 ⟨rfl, rfl⟩
        go_wp2_with fail
        refine (CL.out _).mono ?_
        rintro e w1 ⟨rfl, rfl⟩
        go_wp2_with fail
        refine (CC.out _).mono ?_
        rintro e w1 ⟨rfl, rfl⟩
        go_wp2_with fail
        refine bodyPost_ret (v := .tuple #[.agg #[.string ⟨#[]⟩, .string ⟨#[]⟩, .string ⟨#[]⟩], .bool false]) (by simp [results, Tryz.results174, go_sem]) rfl (SplitPost.mk_none HP.out ?_)
        first | exact (Below.refl _ _).alloc (Nat.le_refl _) _ | exact ((Below.refl _ _).alloc (Nat.le_refl _) _).alloc (by simp) _ | exact (((Below.refl _ _).alloc (Nat.le_refl _) _).alloc (by simp) _).drew | exact ((((Below.refl _ _).alloc (Nat.le_refl _) _).alloc (by simp) _).drew).drew | exact (((((Below.refl _ _).alloc (Nat.le_refl _) _).alloc (by simp) _).drew).drew).drew
      · skip
        have HP : Hid (parse s.data.toList = some ⟨((s.extract 0 k)).data.toList, ((s.extract (k + 1) s.size)).data.toList, (⟨#[]⟩ : ByteArray).data.toList⟩) := by
          refine HP0.out.trans ?_
          rw [vr_plain hc2 hd, if_neg zv, bl_upto s k]
          try rfl
        rw [show decide ((58 : UInt8) ∈ (s.extract (k + 1) s.size).data.toList) = false from decide_eq_false hc2] at CC
        clear zv hv0 hd HP0 hc2
        go_enter Tryz.func174, Tryz.ntmps174
        go_wp2_with fail
        refine (CM.out _).mono ?_
        rintro e w1 ⟨rfl, rfl⟩
        go_wp2_with fail
        refine (CI.out _).mono ?_
        rintro e w1 ⟨rfl, rfl⟩
        go_wp2_with fail
        go_region
        generalize s.extract (k + 1) s.size = t at *
        go_wp2_with fail
        refine (CE.out _).mono ?_
        rintro e w1 ⟨rfl, rfl⟩
        go_wp2_with fail
        refine (CL.out _).mono ?_
        rintro e w1 ⟨rfl, rfl⟩
        go_wp2_with fail
        refine (CC.out _).mono ?_
        rintro e w1 ⟨rfl, rfl⟩
        go_wp2_with fail
        refine bodyPost_ret (v := .tuple #[.agg #[.string (s.extract 0 k), .string t, .string ⟨#[]⟩], .bool true]) (by simp [results, Tryz.results174, go_sem]) rfl (SplitPost.mk_some HP.out ?_)
        first | exact (Below.refl _ _).alloc (Nat.le_refl _) _ | exact ((Below.refl _ _).alloc (Nat.le_refl _) _).alloc (by simp) _ | exact (((Below.refl _ _).alloc (Nat.le_refl _) _).alloc (by simp) _).drew | exact ((((Below.refl _ _).alloc (Nat.le_refl _) _).alloc (by simp) _).drew).drew | exact (((((Below.refl _ _).alloc (Nat.le_refl _) _).alloc (by simp) _).drew).drew).drew

theorem split_any (s : ByteArray) (w : World) : Calls Tryz.prog 174 #[.string s] w (SplitPost w (parse s.data.toList)) := by
  by_cases h : s.size ≤ 60
  · cases hm : s.data.toList.all isMay with
    | false => exact split_may s h hm w
    | true =>
      by_cases hc : (58 : UInt8) ∈ s.data.toList
      · by_cases hg : (s.data.toList.takeWhile (· != 58)).length ≠ 0 ∧ (s.data.toList.takeWhile (· != 58)).length ≤ 9 ∧ (s.data.toList.take (s.data.toList.takeWhile (· != 58)).length).all isDg = true
        · exact split_colon s h hm hc w (fun k hk => hk ▸ hg)
        · exact split_epoch s h hm hc w (fun k hk => hk ▸ hg)
      · exact split_plain s h hm hc w
  · exact split_long s (by omega) w
end Go.Proofs.YtpmfmkpfjomgnaaGreatDoor

/- A version's parts by Parse: its pieces are copies. -/
namespace Go.Proofs.YtpmfmkpfjomgnaaGreatDoor
set_option linter.unusedSimpArgs false
set_option linter.unusedVariables false
open Go.RowKit

/-- Two blocks hold what they held, and all that was there before stays. -/
def KeepG (w0 : World) (g : Nat) (cg : Array Value) (h : Nat) (ch : Array Value) (w : World) : Prop := Blk w g 143 cg ∧ Blk w h 143 ch ∧ Below w0.heap.size w0 w
theorem KeepG.below {w0 w w' : World} {g h : Nat} {cg ch : Array Value} (k : KeepG w0 g cg h ch w) (hb : Below w.heap.size w w') : KeepG w0 g cg h ch w' :=
  ⟨k.1.below hb k.1.lt, k.2.1.below hb k.2.1.lt, k.2.2.trans (hb.mono k.2.2.size)⟩
theorem KeepG.set {w0 w : World} {g h : Nat} {cg ch : Array Value} (p : KeepG w0 g cg h ch w) {k : Nat} {u : Value} (hu : ch.setIfInBounds k u = ch) (hh : g ≠ h ∧ w0.heap.size ≤ h) : KeepG w0 g cg h ch (w.setCell ⟨h, k, none⟩ u) :=
  ⟨p.1.far hh.1 _, by have := p.2.1.set_ k u; rwa [hu] at this, p.2.2.setCell hh.2 _⟩

set_option maxRecDepth 100000 in
theorem clone_any (s : ByteArray) (hs : s.size ≤ 60) (w : World) : Calls Tryz.prog 47 #[.string s] w fun e w' => e = .returned (.string s) ∧ Below w.heap.size w w' := by
  have C := Lib.hid (fun w => Tryz.stringslite_Clone s w (by omega))
  go_enter Tryz.func47, Tryz.ntmps47
  go_wp2_with fail
  refine (C.out _).mono ?_
  rintro e w1 ⟨rfl, hb1⟩
  go_wp2_with fail
  go_ret
  exact ⟨rfl, hb1⟩

theorem cutAt_mem {c : UInt8} {l a b : List UInt8} (h : cutAt c l = some (a, b)) : a.length + b.length < l.length := by
  unfold cutAt at h
  split at h
  · rename_i hc
    injection h with h
    injection h with h1 h2
    subst h1; subst h2
    have h3 := while_lt hc
    rw [drop_of_while, List.tail_drop, List.length_drop]
    omega
  · cases h
theorem vr_size {e l : List UInt8} {p : Parts} (h : vr e l = some p) : p.e = e ∧ p.v.length + p.r.length ≤ l.length := by
  unfold vr at h
  split at h
  · cases h
  · split at h
    · rename_i v r hc
      split at h
      · cases h
      · injection h with h; subst h
        refine ⟨rfl, ?_⟩
        unfold cutLast at hc
        cases hx : cutAt 45 l.reverse with
        | none => rw [hx] at hc; cases hc
        | some q =>
          rw [hx] at hc
          injection hc with hc
          injection hc with h1 h2
          subst h1; subst h2
          have := cutAt_mem (a := q.1) (b := q.2) hx
          simp only [List.length_reverse] at this ⊢
          omega
    · split at h
      · cases h
      · injection h with h; subst h; simp
theorem parse_size {l : List UInt8} {p : Parts} (h : parse l = some p) : p.e.length ≤ 60 ∧ p.v.length ≤ 60 ∧ p.r.length ≤ 60 ∧ p.v.length + p.r.length ≤ l.length ∧ l.length ≤ 60 := by
  unfold parse at h
  split at h
  · rename_i hl
    split at h
    · rename_i e t hc
      split at h
      · rename_i he
        have h1 := vr_size h
        have h2 := cutAt_mem hc
        rw [h1.1]
        omega
      · cases h
    · have h1 := vr_size h
      rw [h1.1]
      simp
      omega
  · cases h
def errV : Option Parts → Int
  | none => 30
  | some _ => 0
theorem mkS_size (l : List UInt8) : (mkS l).size = l.length := by rw [← size_len]; rfl

set_option maxHeartbeats 1000000 in
set_option maxRecDepth 100000 in
theorem parse_any (s : ByteArray) (w0 : World) : Calls Tryz.prog 129 #[.string s] w0 fun e w' => e = .returned (.tuple #[evrV (parse s.data.toList), .int .i64 (errV (parse s.data.toList))]) ∧ Below w0.heap.size w0 w' := by
  have C := Lib.hid (fun w => split_any s w)
  cases hp : parse s.data.toList with
  | none =>
    rw [hp] at C
    clear hp
    go_enter Tryz.func129, Tryz.ntmps129
    go_wp2_with fail
    refine (C.out _).mono ?_
    rintro e w1 ⟨rfl, hb1⟩
    have K1 := (Blk.new w0 143 #[Value.string ⟨#[]⟩, .string ⟨#[]⟩, .string ⟨#[]⟩]).below hb1 (by simp)
    have HB : Hid (Below w0.heap.size w0 w1) := ((Below.refl _ _).alloc (Nat.le_refl _) _).trans (hb1.mono (by simp))
    have hz := hb1.size
    simp only [World.size_alloc] at hz
    have hlt : w0.heap.size < w1.heap.size := by omega
    have hne : w0.heap.size ≠ w1.heap.size := by omega
    have c0 : w1.cell? ⟨w0.heap.size, 0, none⟩ = some (.string ⟨#[]⟩) := K1.cell 0
    have c1 : w1.cell? ⟨w0.heap.size, 1, none⟩ = some (.string ⟨#[]⟩) := K1.cell 1
    have c2 : w1.cell? ⟨w0.heap.size, 2, none⟩ = some (.string ⟨#[]⟩) := K1.cell 2
    have f0 := K1.free 0
    have f1 := K1.free 1
    have f2 := K1.free 2
    have KK := Lib.hid K1
    clear K1 hb1 C
    unfold evrV
    go_wp2_with fail
    refine bodyPost_ret (v := .tuple #[.agg #[.string ⟨#[]⟩, .string ⟨#[]⟩, .string ⟨#[]⟩], .int .i64 30]) (by simp [results, Tryz.results129, go_sem, hlt, hne, c0, c1, c2, f0, f1, f2]) rfl ⟨rfl, ?_⟩
    exact (((HB.out.setCell (Nat.le_refl _) _).setCell (Nat.le_refl _) _).setCell (Nat.le_refl _) _).alloc (by simp; omega) _
  | some p =>
    rw [hp] at C
    have hsz := parse_size hp
    obtain ⟨e, he⟩ : ∃ e, e = mkS p.e := ⟨_, rfl⟩
    obtain ⟨v, hv⟩ : ∃ v, v = mkS p.v := ⟨_, rfl⟩
    obtain ⟨r, hr⟩ : ∃ r, r = mkS p.r := ⟨_, rfl⟩
    have se : e.size ≤ 60 := by rw [he, mkS_size]; omega
    have sv : v.size ≤ 60 := by rw [hv, mkS_size]; omega
    have sr : r.size ≤ 60 := by rw [hr, mkS_size]; omega
    have EV : Hid (evrV (some p) = .agg #[.string e, .string v, .string r]) := by show evrV _ = _; rw [he, hv, hr]; rfl
    unfold SplitPost at C
    rw [EV.out] at C
    have EV2 := Lib.hid EV.out
    rw [EV.out]
    clear hp hsz he hv hr EV EV2
    go_enter Tryz.func129, Tryz.ntmps129
    go_wp2_with fail
    refine (C.out _).mono ?_
    rintro e' w1 ⟨rfl, hb1⟩
    have K1 := Lib.hid ((Blk.new w0 143 #[Value.string ⟨#[]⟩, .string ⟨#[]⟩, .string ⟨#[]⟩]).below hb1 (by simp))
    have HB : Hid (Below w0.heap.size w0 w1) := ((Below.refl _ _).alloc (Nat.le_refl _) _).trans (hb1.mono (by simp))
    have hz := hb1.size
    simp only [World.size_alloc] at hz
    have hg : w0.heap.size ≠ w1.heap.size ∧ w0.heap.size ≤ w1.heap.size := by omega
    clear hb1 C
    go_wp2_with fail
    refine wp_region_S (fun _ w => KeepG w0 w0.heap.size #[Value.string ⟨#[]⟩, .string ⟨#[]⟩, .string ⟨#[]⟩] w1.heap.size #[Value.string e, .string v, .string r] w) (by kernel_rfl) ?_ (fun hS => ?_)
    · exact ⟨K1.out.alloc _, Blk.new _ _ _, (HB.out.alloc hg.2 _).drew⟩
    refine wpAnyS_take (i := 0) (KeepG w0 w0.heap.size #[Value.string ⟨#[]⟩, .string ⟨#[]⟩, .string ⟨#[]⟩] w1.heap.size #[Value.string e, .string v, .string r]) (v := .pointer (some ⟨w1.heap.size, 0, none⟩)) rfl (by kernel_rfl) (by kernel_rfl) (by kernel_rfl) (fun _ _ _ h => h) (fun _ _ _ h => h) (fun _ _ => Iff.rfl) (by kernel_rfl) hS (fun w' hSw => ?_) (by rfl) (fun hS => ?_)
    · go_simp
    try simp only [Act.put, List.setIfInBounds_toArray, List.set_cons_zero, List.set_cons_succ]
    refine wpAnyS_take (i := 1) (KeepG w0 w0.heap.size #[Value.string ⟨#[]⟩, .string ⟨#[]⟩, .string ⟨#[]⟩] w1.heap.size #[Value.string e, .string v, .string r]) (v := .string e) rfl (by kernel_rfl) (by kernel_rfl) (by kernel_rfl) (fun _ _ _ h => h) (fun _ _ _ h => h) (fun _ _ => Iff.rfl) (by kernel_rfl) hS (fun w' hSw => ?_) (by rfl) (fun hS => ?_)
    · have c : w'.cell? ⟨w1.heap.size, 0, none⟩ = some (.string e) := hSw.2.1.cell 0
      go_simp
    try simp only [Act.put, List.setIfInBounds_toArray, List.set_cons_zero, List.set_cons_succ]
    refine wpAnyS_take (i := 3) (KeepG w0 w0.heap.size #[Value.string ⟨#[]⟩, .string ⟨#[]⟩, .string ⟨#[]⟩] w1.heap.size #[Value.string e, .string v, .string r]) (v := .pointer (some ⟨w1.heap.size, 1, none⟩)) rfl (by kernel_rfl) (by kernel_rfl) (by kernel_rfl) (fun _ _ _ h => h) (fun _ _ _ h => h) (fun _ _ => Iff.rfl) (by kernel_rfl) hS (fun w' hSw => ?_) (by rfl) (fun hS => ?_)
    · go_simp
    try simp only [Act.put, List.setIfInBounds_toArray, List.set_cons_zero, List.set_cons_succ]
    refine wpAnyS_take (i := 4) (KeepG w0 w0.heap.size #[Value.string ⟨#[]⟩, .string ⟨#[]⟩, .string ⟨#[]⟩] w1.heap.size #[Value.string e, .string v, .string r]) (v := .string v) rfl (by kernel_rfl) (by kernel_rfl) (by kernel_rfl) (fun _ _ _ h => h) (fun _ _ _ h => h) (fun _ _ => Iff.rfl) (by kernel_rfl) hS (fun w' hSw => ?_) (by rfl) (fun hS => ?_)
    · have c : w'.cell? ⟨w1.heap.size, 1, none⟩ = some (.string v) := hSw.2.1.cell 1
      go_simp
    try simp only [Act.put, List.setIfInBounds_toArray, List.set_cons_zero, List.set_cons_succ]
    refine wpAnyS_take (i := 6) (KeepG w0 w0.heap.size #[Value.string ⟨#[]⟩, .string ⟨#[]⟩, .string ⟨#[]⟩] w1.heap.size #[Value.string e, .string v, .string r]) (v := .pointer (some ⟨w1.heap.size, 2, none⟩)) rfl (by kernel_rfl) (by kernel_rfl) (by kernel_rfl) (fun _ _ _ h => h) (fun _ _ _ h => h) (fun _ _ => Iff.rfl) (by kernel_rfl) hS (fun w' hSw => ?_) (by rfl) (fun hS => ?_)
    · go_simp
    try simp only [Act.put, List.setIfInBounds_toArray, List.set_cons_zero, List.set_cons_succ]
    refine wpAnyS_take (i := 7) (KeepG w0 w0.heap.size #[Value.string ⟨#[]⟩, .string ⟨#[]⟩, .string ⟨#[]⟩] w1.heap.size #[Value.string e, .string v, .string r]) (v := .string r) rfl (by kernel_rfl) (by kernel_rfl) (by kernel_rfl) (fun _ _ _ h => h) (fun _ _ _ h => h) (fun _ _ => Iff.rfl) (by kernel_rfl) hS (fun w' hSw => ?_) (by rfl) (fun hS => ?_)
    · have c : w'.cell? ⟨w1.heap.size, 2, none⟩ = some (.string r) := hSw.2.1.cell 2
      go_simp
    try simp only [Act.put, List.setIfInBounds_toArray, List.set_cons_zero, List.set_cons_succ]
    refine wpAnyS_one (i := 2) (by kernel_rfl) rfl (fun K hK => ?_)
    go_simp
    refine (clone_any e (by omega) _).mono ?_
    rintro e' w3 ⟨rfl, hb3⟩
    refine hK.out _ _ (hS.below hb3) (fun hS => ?_)
    clear hK K
    try simp only [Act.put, List.setIfInBounds_toArray, List.set_cons_zero, List.set_cons_succ]
    refine wpAnyS_take (i := 9) (KeepG w0 w0.heap.size #[Value.string ⟨#[]⟩, .string ⟨#[]⟩, .string ⟨#[]⟩] w1.heap.size #[Value.string e, .string v, .string r]) (v := .pointer (some ⟨w1.heap.size, 0, none⟩)) rfl (by kernel_rfl) (by kernel_rfl) (by kernel_rfl) (fun _ _ _ h => h) (fun _ _ _ h => h) (fun _ _ => Iff.rfl) (by kernel_rfl) hS (fun w' hSw => ?_) (by rfl) (fun hS => ?_)
    · go_simp
    try simp only [Act.put, List.setIfInBounds_toArray, List.set_cons_zero, List.set_cons_succ]
    refine wpAnyS_one (i := 5) (by kernel_rfl) rfl (fun K hK => ?_)
    go_simp
    refine (clone_any v (by omega) _).mono ?_
    rintro e' w4 ⟨rfl, hb4⟩
    refine hK.out _ _ (hS.below hb4) (fun hS => ?_)
    clear hK K
    try simp only [Act.put, List.setIfInBounds_toArray, List.set_cons_zero, List.set_cons_succ]
    refine wpAnyS_one (i := 8) (by kernel_rfl) rfl (fun K hK => ?_)
    go_simp
    refine (clone_any r (by omega) _).mono ?_
    rintro e' w5 ⟨rfl, hb5⟩
    refine hK.out _ _ (hS.below hb5) (fun hS => ?_)
    clear hK K
    try simp only [Act.put, List.setIfInBounds_toArray, List.set_cons_zero, List.set_cons_succ]
    have c0 := hS.2.1.cell 0
    have f0 := hS.2.1.free 0
    refine wpAnyS_one (i := 10) (by kernel_rfl) rfl (fun K hK => ?_)
    go_simp
    refine hK.out _ _ (hS.set (k := 0) rfl hg) (fun hS => ?_)
    clear hK K
    try simp only [Act.put, List.setIfInBounds_toArray, List.set_cons_zero, List.set_cons_succ]
    clear c0 f0
    refine wpAnyS_take (i := 11) (KeepG w0 w0.heap.size #[Value.string ⟨#[]⟩, .string ⟨#[]⟩, .string ⟨#[]⟩] w1.heap.size #[Value.string e, .string v, .string r]) (v := .pointer (some ⟨w1.heap.size, 1, none⟩)) rfl (by kernel_rfl) (by kernel_rfl) (by kernel_rfl) (fun _ _ _ h => h) (fun _ _ _ h => h) (fun _ _ => Iff.rfl) (by kernel_rfl) hS (fun w' hSw => ?_) (by rfl) (fun hS => ?_)
    · go_simp
    try simp only [Act.put, List.setIfInBounds_toArray, List.set_cons_zero, List.set_cons_succ]
    have c1 := hS.2.1.cell 1
    have f1 := hS.2.1.free 1
    refine wpAnyS_one (i := 12) (by kernel_rfl) rfl (fun K hK => ?_)
    go_simp
    refine hK.out _ _ (hS.set (k := 1) rfl hg) (fun hS => ?_)
    clear hK K
    try simp only [Act.put, List.setIfInBounds_toArray, List.set_cons_zero, List.set_cons_succ]
    clear c1 f1
    refine wpAnyS_take (i := 13) (KeepG w0 w0.heap.size #[Value.string ⟨#[]⟩, .string ⟨#[]⟩, .string ⟨#[]⟩] w1.heap.size #[Value.string e, .string v, .string r]) (v := .pointer (some ⟨w1.heap.size, 2, none⟩)) rfl (by kernel_rfl) (by kernel_rfl) (by kernel_rfl) (fun _ _ _ h => h) (fun _ _ _ h => h) (fun _ _ => Iff.rfl) (by kernel_rfl) hS (fun w' hSw => ?_) (by rfl) (fun hS => ?_)
    · go_simp
    try simp only [Act.put, List.setIfInBounds_toArray, List.set_cons_zero, List.set_cons_succ]
    have c2 := hS.2.1.cell 2
    have f2 := hS.2.1.free 2
    refine wpAnyS_one (i := 14) (by kernel_rfl) rfl (fun K hK => ?_)
    go_simp
    refine hK.out _ _ (hS.set (k := 2) rfl hg) (fun hS => ?_)
    clear hK K
    try simp only [Act.put, List.setIfInBounds_toArray, List.set_cons_zero, List.set_cons_succ]
    clear c2 f2
    refine wpAnyS_done (by kernel_rfl) ?_ _
    generalize ((w5.setCell ⟨w1.heap.size, 0, none⟩ (.string e)).setCell ⟨w1.heap.size, 1, none⟩ (.string v)).setCell ⟨w1.heap.size, 2, none⟩ (.string r) = w6 at *
    have c0 : w6.cell? ⟨w1.heap.size, 0, none⟩ = some (.string e) := hS.2.1.cell 0
    have c1 : w6.cell? ⟨w1.heap.size, 1, none⟩ = some (.string v) := hS.2.1.cell 1
    have c2 : w6.cell? ⟨w1.heap.size, 2, none⟩ = some (.string r) := hS.2.1.cell 2
    have d0 : w6.cell? ⟨w0.heap.size, 0, none⟩ = some (.string ⟨#[]⟩) := hS.1.cell 0
    have d1 : w6.cell? ⟨w0.heap.size, 1, none⟩ = some (.string ⟨#[]⟩) := hS.1.cell 1
    have d2 : w6.cell? ⟨w0.heap.size, 2, none⟩ = some (.string ⟨#[]⟩) := hS.1.cell 2
    have f0 := hS.1.free 0
    have f1 := hS.1.free 1
    have f2 := hS.1.free 2
    have HB6 := Lib.hid hS.2.2
    clear hS
    go_wp2_with fail
    refine bodyPost_ret (v := .tuple #[.agg #[.string e, .string v, .string r], .int .i64 0]) (by simp [results, Tryz.results129, go_sem, d0, d1, d2, f0, f1, f2]) rfl ⟨rfl, ?_⟩
    exact ((HB6.out.setCell (Nat.le_refl _) _).setCell (Nat.le_refl _) _).setCell (Nat.le_refl _) _
end Go.Proofs.YtpmfmkpfjomgnaaGreatDoor
