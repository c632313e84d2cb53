/- The kinds of bytes, and how many stand at a text's beginning. Pieces of texts. The contracts of the library's functions on texts: they stand in the shelf's text. (nothing but what stands below it) Which bytes a version may have. A version taken apart: split. A version taken apart: split, where its bytes may be. -/
import Derived.Test.YtdhgiammfpjniaaGreatDoorZaaa
import Derived.Test.YtdhgiammfpjniaaGreatDoorZaaf
import Derived.Shelf.Abstract
import Derived.Test.YtdhgiammfpjniaaGreatDoorZaae
import Derived.Test.YtdhgiammfpjniaaGreatDoorZaac
/- The kinds of bytes, and how many stand at a text's beginning. -/
namespace Go.Proofs.YtdhgiammfpjniaaGreatDoor.Ev
set_option linter.unusedSimpArgs false
set_option linter.unusedVariables false
open Go.RowKit

/-- A function that tells of a byte. -/
def IsPred (f : FuncId) (p : UInt8 → Bool) : Prop := ∀ (c : UInt8) (w : World), Calls Tryz.prog f #[.int .u8 (c.toNat : Int)] w fun e w' => e = .returned (.bool (p c)) ∧ w = w'

theorem dgI (c : UInt8) : isDg c = (decide ((48 : Int) ≤ (c.toNat : Int)) && decide ((c.toNat : Int) ≤ 57)) := by
  unfold isDg
  rw [Bool.eq_iff_iff]; simp; omega
theorem ltI (c : UInt8) : isLt c = (decide ((97 : Int) ≤ (c.toNat : Int)) && decide ((c.toNat : Int) ≤ 122) || decide ((65 : Int) ≤ (c.toNat : Int)) && decide ((c.toNat : Int) ≤ 90)) := by
  unfold isLt
  rw [Bool.eq_iff_iff]; simp; omega

set_option maxRecDepth 100000 in
theorem isDigit_any : IsPred 178 isDg := by
  intro c w
  have h := Lib.hid (dgI c)
  go_enter Tryz.func178, Tryz.ntmps178
  go_wp2_with fail
  all_goals
    go_ret
    refine ⟨ret_bool ?_, rfl⟩
    rw [h.out, Bool.eq_iff_iff]
    simp <;> omega
set_option maxRecDepth 100000 in
theorem isLetter_any : IsPred 212 isLt := by
  intro c w
  have h := Lib.hid (ltI c)
  go_enter Tryz.func212, Tryz.ntmps212
  go_wp2_with fail
  all_goals
    go_ret
    refine ⟨ret_bool ?_, rfl⟩
    rw [h.out, Bool.eq_iff_iff]
    simp <;> omega
theorem all_snoc {p : UInt8 → Bool} {l : List UInt8} {k : Nat} {c : UInt8} (h : (l.take k).all p = true) (hc : l[k]? = some c) (hp : p c = true) : (l.take (k + 1)).all p = true := by
  rw [List.take_add_one, hc, List.all_append, h]
  simp [hp]
theorem while_is {p : UInt8 → Bool} {l : List UInt8} {k : Nat} (h : (l.take k).all p = true) (hk : k ≤ l.length) (hc : ∀ c, l[k]? = some c → p c = false) : k = (l.takeWhile p).length := by
  induction l generalizing k with
  | nil => simp at hk; subst hk; rfl
  | cons b l ih =>
    cases k with
    | zero =>
      have := hc b rfl
      simp [this]
    | succ k =>
      simp only [List.take_succ_cons, List.all_cons, Bool.and_eq_true] at h
      rw [List.takeWhile_cons, h.1]
      have := ih h.2 (by simpa using hk) (fun c hcc => hc c (by simpa using hcc))
      simp [← this]
theorem byte_at {s : ByteArray} {k : Nat} (h : k < s.size) : s.data.toList[k]? = some s[k] := by
  have h' : k < s.data.size := h
  rw [Array.getElem?_toList, Array.getElem?_eq_getElem h']
  rfl
set_option maxHeartbeats 400000 in
set_option maxRecDepth 100000 in
theorem run_any {f : FuncId} {p : UInt8 → Bool} (hp : IsPred f p) (ef : ∀ args w, (callFunc f args).run Tryz.prog w = .ok (.enter f args) w) (s : ByteArray) (hs : s.size ≤ maxLen) (w : World) :
    Calls Tryz.prog 176 #[.string s, .func (.func f) #[] #[]] w fun e w' => e = .returned (.int .i64 ((s.data.toList.takeWhile p).length : Nat)) ∧ w = w' := by
  unfold maxLen at hs
  have HP := Lib.hid hp
  clear hp
  go_enter Tryz.func176, Tryz.ntmps176
  go_wp2_with fail
  go_loop [5] (fun n => ∃ k : Nat, k ≤ s.size ∧ n = .int .i64 (k : Int) ∧ Hid ((s.data.toList.take k).all p = true)) (fun n => s.size - (intOf n).toNat)
  case atStart => exact ⟨0, Nat.zero_le _, rfl, show ((s.data.toList.take 0).all p = true) from rfl⟩
  case round =>
    obtain ⟨k, hk, rfl, hall⟩ := hrel
    by_cases hlt : k < s.size
    · have C := Lib.hid (HP.out s[k])
      cases hpk : p s[k] with
      | true =>
        have HN := Lib.hid (all_snoc hall.out (byte_at hlt) hpk)
        rw [hpk] at C
        clear hpk
        go_wp2_with fail
        refine (C.out _).mono ?_
        rintro e w' ⟨rfl, rfl⟩
        go_wp2_with fail
        go_round
        case rel => exact ⟨k + 1, by omega, by go_num, HN.out⟩
        case measure => simp [intOf]; omega
      | false =>
        have HN := Lib.hid (while_is hall.out (by simpa using hk) (fun c hc => by rw [byte_at hlt] at hc; injection hc with hc; rw [← hc]; exact hpk))
        rw [hpk] at C
        clear hpk
        go_wp2_with fail
        refine (C.out _).mono ?_
        rintro e w' ⟨rfl, rfl⟩
        go_wp2_with fail
        go_ret
        rw [← HN.out]
        exact ⟨rfl, rfl⟩
    · have HN := Lib.hid (while_is hall.out (by simpa using hk) (fun c hc => by have := (List.getElem?_eq_some_iff.1 hc).1; simp at this; exact absurd this hlt))
      go_wp2_with fail
      go_ret
      rw [← HN.out]
      exact ⟨rfl, rfl⟩
end Go.Proofs.YtdhgiammfpjniaaGreatDoor.Ev

/- Pieces of texts. -/
namespace Go.Proofs.YtdhgiammfpjniaaGreatDoor.Ev
set_option linter.unusedSimpArgs false
set_option linter.unusedVariables false
open Go.RowKit
theorem list_nil {s : ByteArray} (h : s.size = 0) : s.data.toList = [] := by
  apply List.eq_nil_of_length_eq_zero
  simpa using h
theorem list_cons {s : ByteArray} (h : 0 < s.size) : s.data.toList = s[0] :: s.data.toList.tail := by
  have h0 := byte_at h
  cases hl : s.data.toList with
  | nil => rw [hl] at h0; cases h0
  | cons b r => rw [hl] at h0; simp at h0; rw [← h0]; rfl
theorem size_len (s : ByteArray) : s.data.toList.length = s.size := by simp
theorem empty_of {s : ByteArray} (h : s.size = 0) : s = ⟨#[]⟩ := by
  obtain ⟨⟨l⟩⟩ := s
  have : l = [] := List.eq_nil_of_length_eq_zero h
  rw [this]
theorem toList_cons {s : ByteArray} (h : 0 < s.size) : s.toList.isEmpty = false := by
  rw [ByteArray.toList_eq, list_cons h]; rfl

theorem bl_from (s : ByteArray) (n : Nat) : (s.extract n s.size).data.toList = s.data.toList.drop n := by
  rw [Lib.extract_data, List.take_of_length_le (by simp)]
theorem bl_upto (s : ByteArray) (n : Nat) : (s.extract 0 n).data.toList = s.data.toList.take n := by
  rw [Lib.extract_data]; simp
end Go.Proofs.YtdhgiammfpjniaaGreatDoor.Ev

/- The contracts of the library's functions on texts: they stand in the shelf's text. -/

/- (nothing but what stands below it) -/

/- Which bytes a version may have. -/
namespace Go.Proofs.YtdhgiammfpjniaaGreatDoor.Ev
set_option linter.unusedSimpArgs false
set_option linter.unusedVariables false
open Go.RowKit

theorem u8_back (c : UInt8) : ((c.toNat : Int)).toNat.toUInt8 = c := by simp
theorem indexB_ge {l : List UInt8} {c : UInt8} : decide (0 ≤ Lib.indexByte l c) = decide (c ∈ l) := by
  by_cases h : c ∈ l
  · rw [index_yes h]; simp [h]
  · rw [index_no h]; simp [h]
set_option maxRecDepth 100000 in
theorem mayBe_any : IsPred 177 isMay := by
  intro c w
  have CD := Lib.hid (isDigit_any c)
  have CL := Lib.hid (isLetter_any c)
  have CI := Lib.hid (fun w => Tryz.strings_IndexByte ⟨#[46, 95, 43, 126, 94, 45, 58]⟩ (c.toNat : Int) w)
  rw [u8_back] at CI
  have hx := @indexB_ge [46, 95, 43, 126, 94, 45, 58] c
  have hm : isMay c = (isDg c || isLt c || decide (c ∈ ([46, 95, 43, 126, 94, 45, 58] : List UInt8))) := rfl
  rw [← hx] at hm
  have HM := Lib.hid hm
  clear hx hm
  change Hid (∀ w, Calls Tryz.prog 43 #[.string ⟨#[46, 95, 43, 126, 94, 45, 58]⟩, .int .u8 (c.toNat : Int)] w fun e w' => e = .returned (.int .i64 (Lib.indexByte [46, 95, 43, 126, 94, 45, 58] c)) ∧ w' = w) at CI
  generalize Lib.indexByte [46, 95, 43, 126, 94, 45, 58] c = x at *
  generalize isDg c = d at *
  generalize isLt c = l at *
  cases d <;> cases l
  all_goals
    go_enter Tryz.func177, Tryz.ntmps177
    go_wp2_with fail
    refine (CD.out _).mono ?_
    rintro e w' ⟨rfl, rfl⟩
    go_wp2_with fail
    try
      refine (CL.out _).mono ?_
      rintro e w' ⟨rfl, rfl⟩
      go_wp2_with fail
    try
      refine (CI.out _).mono ?_
      rintro e w' ⟨rfl, rfl⟩
      go_wp2_with fail
  all_goals
    go_ret
    refine ⟨ret_bool ?_, rfl⟩
    rw [HM.out]
    first | rfl | simp

end Go.Proofs.YtdhgiammfpjniaaGreatDoor.Ev

/- A version taken apart: split. -/
namespace Go.Proofs.YtdhgiammfpjniaaGreatDoor.Ev
set_option linter.unusedSimpArgs false
set_option linter.unusedVariables false
open Go.RowKit

/-- A version's parts as a value. -/
def evrV : Option Parts → Value
  | none => .agg #[.string ⟨#[]⟩, .string ⟨#[]⟩, .string ⟨#[]⟩]
  | some p => .agg #[.string (mkS p.e), .string (mkS p.v), .string (mkS p.r)]
def SplitPost (w0 : World) (o : Option Parts) (e : Ending) (w : World) : Prop := e = .returned (.tuple #[evrV o, .bool o.isSome]) ∧ Below w0.heap.size w0 w
theorem SplitPost.mk_none {w0 w : World} {o : Option Parts} (h : o = none) (hb : Below w0.heap.size w0 w) : SplitPost w0 o (.returned (.tuple #[.agg #[.string ⟨#[]⟩, .string ⟨#[]⟩, .string ⟨#[]⟩], .bool false])) w := by
  subst h; exact ⟨rfl, hb⟩
theorem SplitPost.mk_some {w0 w : World} {o : Option Parts} {e v r : ByteArray} (h : o = some ⟨e.data.toList, v.data.toList, r.data.toList⟩) (hb : Below w0.heap.size w0 w) : SplitPost w0 o (.returned (.tuple #[.agg #[.string e, .string v, .string r], .bool true])) w := by
  subst h; exact ⟨rfl, hb⟩

set_option maxHeartbeats 1000000 in
set_option maxRecDepth 100000 in
theorem split_long (s : ByteArray) (h : 60 < s.size) (w : World) : Calls Tryz.prog 119 #[.string s] w (SplitPost w (parse s.data.toList)) := by
  have HP := Lib.hid (parse_bad (l := s.data.toList) (by rw [size_len]; omega))
  have h1 : (60 : Int) < (s.size : Int) := by omega
  go_enter Tryz.func119, Tryz.ntmps119
  go_wp2_with fail
  refine bodyPost_ret (v := .tuple #[.agg #[.string ⟨#[]⟩, .string ⟨#[]⟩, .string ⟨#[]⟩], .bool false]) (by simp [results, Tryz.results119, go_sem]) rfl (SplitPost.mk_none HP.out ?_)
  exact (Below.refl _ _).alloc (Nat.le_refl _) _
end Go.Proofs.YtdhgiammfpjniaaGreatDoor.Ev

/- A version taken apart: split, where its bytes may be. -/
namespace Go.Proofs.YtdhgiammfpjniaaGreatDoor.Ev
set_option linter.unusedSimpArgs false
set_option linter.unusedVariables false
open Go.RowKit

set_option maxHeartbeats 2000000 in
set_option maxRecDepth 100000 in
theorem split_may (s : ByteArray) (h : s.size ≤ 60) (hm : s.data.toList.all isMay = false) (w : World) : Calls Tryz.prog 119 #[.string s] w (SplitPost w (parse s.data.toList)) := by
  have HP := Lib.hid (parse_bad (l := s.data.toList) (by rw [hm]; rintro ⟨_, h⟩; cases h))
  have CM := Lib.hid (fun w => run_any mayBe_any (enters_of Tryz.func177 (by kernel_rfl) rfl) s (by unfold maxLen; omega) w)
  have CI := Lib.hid (fun w => Tryz.strings_IndexByte s 58 w)
  have h60 : (s.size : Int) ≤ 60 := by omega
  have h0 : (0 : Int) ≤ (s.size : Int) := by omega
  have hlt := not_all_while hm
  rw [size_len] at hlt
  generalize (s.data.toList.takeWhile isMay).length = n at *
  clear hm
  go_enter Tryz.func119, Tryz.ntmps119
  go_wp2_with fail
  refine (CM.out _).mono ?_
  rintro e w1 ⟨rfl, rfl⟩
  go_wp2_with fail
  refine bodyPost_ret (v := .tuple #[.agg #[.string ⟨#[]⟩, .string ⟨#[]⟩, .string ⟨#[]⟩], .bool false]) (by simp [results, Tryz.results119, go_sem]) rfl (SplitPost.mk_none HP.out ?_)
  first | exact (Below.refl _ _).alloc (Nat.le_refl _) _ | exact ((Below.refl _ _).alloc (Nat.le_refl _) _).alloc (by simp) _ | exact (((Below.refl _ _).alloc (Nat.le_refl _) _).alloc (by simp) _).drew | exact ((((Below.refl _ _).alloc (Nat.le_refl _) _).alloc (by simp) _).drew).drew

set_option maxHeartbeats 8000000 in
set_option maxRecDepth 100000 in
theorem split_plain (s : ByteArray) (h : s.size ≤ 60) (hm : s.data.toList.all isMay = true) (hc : (58 : UInt8) ∉ s.data.toList) (w : World) : Calls Tryz.prog 119 #[.string s] w (SplitPost w (parse s.data.toList)) := by
  have CM := Lib.hid (fun w => run_any mayBe_any (enters_of Tryz.func177 (by kernel_rfl) rfl) s (by unfold maxLen; omega) w)
  have CI := Lib.hid (fun w => Tryz.strings_IndexByte s 58 w)
  have h60 : (s.size : Int) ≤ 60 := by omega
  have h0 : (0 : Int) ≤ (s.size : Int) := by omega
  have HG := Lib.hid (show s.data.toList.length ≤ 60 ∧ s.data.toList.all isMay = true from ⟨by rw [size_len]; exact h, hm⟩)
  have hall := all_while hm
  rw [size_len] at hall
  have HP0 := Lib.hid (parse_plain HG.out hc)
  change Hid (∀ w, Calls Tryz.prog 43 #[.string s, .int .u8 58] w fun e w' => e = .returned (.int .i64 (Lib.indexByte s.data.toList 58)) ∧ w' = w) at CI
  rw [index_no hc] at CI
  rw [hall] at CM
  clear hm hall
  by_cases hd : (45 : UInt8) ∈ s.data.toList
  · skip
    obtain ⟨j, hj, ej, hj45, hjn⟩ := last_yes (s := s) hd
    have CL := Lib.hid (fun w => Tryz.strings_LastIndexByte (s) 45 (by omega) w)
    rw [show (45 : Int) = ((45 : UInt8).toNat : Int) from rfl, ej] at CL
    change Hid (∀ w, Calls Tryz.prog 179 #[.string (s), .int .u8 45] w fun e w' => e = .returned (.int .i64 (j : Int)) ∧ w' = w) at CL
    have CC := Lib.hid (fun w => Tryz.strings_Contains_one (s) 58 w)
    rw [indexB_ge] at CC
    have LV : (s.extract 0 j).data.toList = s.data.toList.take j := bl_upto _ _
    have LR : (s.extract (j + 1) s.size).data.toList = s.data.toList.drop (j + 1) := bl_from _ _
    have j0 : (0 : Int) ≤ (j : Int) := by omega
    have j1 : (j : Int) + 1 ≤ (s.size : Int) := by omega
    have j2 : (j : Int) ≤ (s.size : Int) := by omega
    have j3 : (s.size : Int) ≤ 60 := by omega
    clear hd ej hj
    by_cases zr : (s.extract (j + 1) s.size).data.toList = []
    · skip
      have HP := Lib.hid (HP0.out.trans (vr_empty hj45 hjn (.inr (LR ▸ zr))))
      have zra : (s.extract (j + 1) s.size).toList.isEmpty = true := by rw [ByteArray.toList_eq, zr]; rfl
      have zrb : (s.extract (j + 1) s.size).toList = [] := by rw [ByteArray.toList_eq, zr]
      clear zr LV LR hj45 hjn HP0 CC
      go_enter Tryz.func119, Tryz.ntmps119
      go_wp2_with fail
      refine (CM.out _).mono ?_
      rintro e w1 ⟨rfl, rfl⟩
      go_wp2_with fail
      refine (CI.out _).mono ?_
      rintro e w1 ⟨rfl, rfl⟩
      go_wp2_with fail
      refine (CL.out _).mono ?_
      rintro e w1 ⟨rfl, rfl⟩
      go_wp2_with fail
      go_region
      all_goals go_wp2_with fail
      all_goals
        refine bodyPost_ret (v := .tuple #[.agg #[.string ⟨#[]⟩, .string ⟨#[]⟩, .string ⟨#[]⟩], .bool false]) (by simp [results, Tryz.results119, go_sem]) rfl (SplitPost.mk_none HP.out ?_)
        first | exact (Below.refl _ _).alloc (Nat.le_refl _) _ | exact ((Below.refl _ _).alloc (Nat.le_refl _) _).alloc (by simp) _ | exact (((Below.refl _ _).alloc (Nat.le_refl _) _).alloc (by simp) _).drew | exact ((((Below.refl _ _).alloc (Nat.le_refl _) _).alloc (by simp) _).drew).drew
    · skip
      have hr0 : 0 < (s.extract (j + 1) s.size).size := by rw [← size_len]; exact List.length_pos_iff.2 zr
      have zra := toList_cons (s := s.extract (j + 1) s.size) (by exact hr0)
      have zrb : (s.extract (j + 1) s.size).toList ≠ [] := by intro h; rw [h] at zra; cases zra
      by_cases zv : (s.extract 0 j).data.toList = []
      · skip
        have HP := Lib.hid (HP0.out.trans (vr_empty hj45 hjn (.inl (LV ▸ zv))))
        have zva : (s.extract 0 j).toList.isEmpty = true := by rw [ByteArray.toList_eq, zv]; rfl
        have zvb : (s.extract 0 j).toList = [] := by rw [ByteArray.toList_eq, zv]
        clear zr zv hr0 LV LR hj45 hjn HP0 CC
        go_enter Tryz.func119, Tryz.ntmps119
        go_wp2_with fail
        refine (CM.out _).mono ?_
        rintro e w1 ⟨rfl, rfl⟩
        go_wp2_with fail
        refine (CI.out _).mono ?_
        rintro e w1 ⟨rfl, rfl⟩
        go_wp2_with fail
        refine (CL.out _).mono ?_
        rintro e w1 ⟨rfl, rfl⟩
        go_wp2_with fail
        go_region
        all_goals go_wp2_with fail
        all_goals
          refine bodyPost_ret (v := .tuple #[.agg #[.string ⟨#[]⟩, .string ⟨#[]⟩, .string ⟨#[]⟩], .bool false]) (by simp [results, Tryz.results119, go_sem]) rfl (SplitPost.mk_none HP.out ?_)
          first | exact (Below.refl _ _).alloc (Nat.le_refl _) _ | exact ((Below.refl _ _).alloc (Nat.le_refl _) _).alloc (by simp) _ | exact (((Below.refl _ _).alloc (Nat.le_refl _) _).alloc (by simp) _).drew | exact ((((Below.refl _ _).alloc (Nat.le_refl _) _).alloc (by simp) _).drew).drew
      · skip
        have hv0 : 0 < (s.extract 0 j).size := by rw [← size_len]; exact List.length_pos_iff.2 zv
        have zva := toList_cons (s := s.extract 0 j) (by exact hv0)
        have zvb : (s.extract 0 j).toList ≠ [] := by intro h; rw [h] at zva; cases zva
        have hc2 := hc
        have HP : Hid (parse s.data.toList = some ⟨((⟨#[]⟩ : ByteArray)).data.toList, (s.extract 0 j).data.toList, (s.extract (j + 1) s.size).data.toList⟩) := by
          refine HP0.out.trans ?_
          rw [vr_dash hc2 hj45 hjn, ← LV, ← LR, if_neg (fun h => h.elim zv zr)]
          try rfl
        rw [show decide ((58 : UInt8) ∈ s.data.toList) = false from decide_eq_false hc2] at CC
        clear zr zv hr0 hv0 LV LR hj45 hjn HP0 hc2
        go_enter Tryz.func119, Tryz.ntmps119
        go_wp2_with fail
        refine (CM.out _).mono ?_
        rintro e w1 ⟨rfl, rfl⟩
        go_wp2_with fail
        refine (CI.out _).mono ?_
        rintro e w1 ⟨rfl, rfl⟩
        go_wp2_with fail
        refine (CL.out _).mono ?_
        rintro e w1 ⟨rfl, rfl⟩
        go_wp2_with fail
        go_region
        all_goals
          go_wp2_with fail
          refine (CC.out _).mono ?_
          rintro e w1 ⟨rfl, rfl⟩
          go_wp2_with fail
          refine bodyPost_ret (v := .tuple #[.agg #[.string (⟨#[]⟩ : ByteArray), .string (s.extract 0 j), .string (s.extract (j + 1) s.size)], .bool true]) (by simp [results, Tryz.results119, go_sem]) rfl (SplitPost.mk_some HP.out ?_)
          first | exact (Below.refl _ _).alloc (Nat.le_refl _) _ | exact ((Below.refl _ _).alloc (Nat.le_refl _) _).alloc (by simp) _ | exact (((Below.refl _ _).alloc (Nat.le_refl _) _).alloc (by simp) _).drew | exact ((((Below.refl _ _).alloc (Nat.le_refl _) _).alloc (by simp) _).drew).drew
  · skip
    have CL := Lib.hid (fun w => Tryz.strings_LastIndexByte (s) 45 (by omega) w)
    rw [show (45 : Int) = ((45 : UInt8).toNat : Int) from rfl, last_no hd] at CL
    change Hid (∀ w, Calls Tryz.prog 179 #[.string (s), .int .u8 45] w fun e w' => e = .returned (.int .i64 (-1)) ∧ w' = w) at CL
    have CC := Lib.hid (fun w => Tryz.strings_Contains_one (s) 58 w)
    rw [indexB_ge] at CC
    by_cases zv : (s).data.toList = []
    · skip
      have HP : Hid (parse s.data.toList = none) := HP0.out.trans (by rw [vr_plain (by rw [zv]; simp) hd, if_pos zv])
      have zva : (s).toList.isEmpty = true := by rw [ByteArray.toList_eq, zv]; rfl
      have zvb : (s).toList = [] := by rw [ByteArray.toList_eq, zv]
      clear zv hd HP0 CC
      go_enter Tryz.func119, Tryz.ntmps119
      go_wp2_with fail
      refine (CM.out _).mono ?_
      rintro e w1 ⟨rfl, rfl⟩
      go_wp2_with fail
      refine (CI.out _).mono ?_
      rintro e w1 ⟨rfl, rfl⟩
      go_wp2_with fail
      refine (CL.out _).mono ?_
      rintro e w1 ⟨rfl, rfl⟩
      go_wp2_with fail
      refine bodyPost_ret (v := .tuple #[.agg #[.string ⟨#[]⟩, .string ⟨#[]⟩, .string ⟨#[]⟩], .bool false]) (by simp [results, Tryz.results119, go_sem]) rfl (SplitPost.mk_none HP.out ?_)
      first | exact (Below.refl _ _).alloc (Nat.le_refl _) _ | exact ((Below.refl _ _).alloc (Nat.le_refl _) _).alloc (by simp) _ | exact (((Below.refl _ _).alloc (Nat.le_refl _) _).alloc (by simp) _).drew | exact ((((Below.refl _ _).alloc (Nat.le_refl _) _).alloc (by simp) _).drew).drew
    · skip
      have hv0 : 0 < (s).size := by rw [← size_len]; exact List.length_pos_iff.2 zv
      have zva := toList_cons (s := s) (by exact hv0)
      have zvb : (s).toList ≠ [] := by intro h; rw [h] at zva; cases zva
      have hc2 := hc
      have HP : Hid (parse s.data.toList = some ⟨((⟨#[]⟩ : ByteArray)).data.toList, (s).data.toList, (⟨#[]⟩ : ByteArray).data.toList⟩) := by
        refine HP0.out.trans ?_
        rw [vr_plain hc2 hd, if_neg zv]
        try rfl
      rw [show decide ((58 : UInt8) ∈ s.data.toList) = false from decide_eq_false hc2] at CC
      clear zv hv0 hd HP0 hc2
      go_enter Tryz.func119, Tryz.ntmps119
      go_wp2_with fail
      refine (CM.out _).mono ?_
      rintro e w1 ⟨rfl, rfl⟩
      go_wp2_with fail
      refine (CI.out _).mono ?_
      rintro e w1 ⟨rfl, rfl⟩
      go_wp2_with fail
      refine (CL.out _).mono ?_
      rintro e w1 ⟨rfl, rfl⟩
      go_wp2_with fail
      refine (CC.out _).mono ?_
      rintro e w1 ⟨rfl, rfl⟩
      go_wp2_with fail
      refine bodyPost_ret (v := .tuple #[.agg #[.string (⟨#[]⟩ : ByteArray), .string (s), .string ⟨#[]⟩], .bool true]) (by simp [results, Tryz.results119, go_sem]) rfl (SplitPost.mk_some HP.out ?_)
      first | exact (Below.refl _ _).alloc (Nat.le_refl _) _ | exact ((Below.refl _ _).alloc (Nat.le_refl _) _).alloc (by simp) _ | exact (((Below.refl _ _).alloc (Nat.le_refl _) _).alloc (by simp) _).drew | exact ((((Below.refl _ _).alloc (Nat.le_refl _) _).alloc (by simp) _).drew).drew
set_option maxHeartbeats 8000000 in
set_option maxRecDepth 100000 in
theorem split_epoch (s : ByteArray) (h : s.size ≤ 60) (hm : s.data.toList.all isMay = true) (hc : (58 : UInt8) ∈ s.data.toList) (w : World) (hbad : ∀ k, k = (s.data.toList.takeWhile (· != 58)).length → ¬ (k ≠ 0 ∧ k ≤ 9 ∧ (s.data.toList.take k).all isDg = true)) : Calls Tryz.prog 119 #[.string s] w (SplitPost w (parse s.data.toList)) := by
  have CM := Lib.hid (fun w => run_any mayBe_any (enters_of Tryz.func177 (by kernel_rfl) rfl) s (by unfold maxLen; omega) w)
  have CI := Lib.hid (fun w => Tryz.strings_IndexByte s 58 w)
  have h60 : (s.size : Int) ≤ 60 := by omega
  have h0 : (0 : Int) ≤ (s.size : Int) := by omega
  have HG := Lib.hid (show s.data.toList.length ≤ 60 ∧ s.data.toList.all isMay = true from ⟨by rw [size_len]; exact h, hm⟩)
  have hall := all_while hm
  rw [size_len] at hall
  have HCI := Lib.hid (index_yes hc)
  change Hid (∀ w, Calls Tryz.prog 43 #[.string s, .int .u8 58] w fun e w' => e = .returned (.int .i64 (Lib.indexByte s.data.toList 58)) ∧ w' = w) at CI
  rw [index_yes hc] at CI
  have HPC := Lib.hid (fun k hk => parse_colon HG.out hc (k := k) hk)
  have klt := while_lt hc
  rw [size_len] at klt
  rw [hall] at CM
  clear hm hall HCI
  obtain ⟨k, hk⟩ : ∃ k, k = (s.data.toList.takeWhile (· != 58)).length := ⟨_, rfl⟩
  have HP1 := Lib.hid (HPC.out k hk)
  have hbad := hbad k hk
  rw [← hk] at CI klt
  clear hk HPC hc
  have k0 : (0 : Int) ≤ (k : Int) := by omega
  have k1 : (k : Int) + 1 ≤ (s.size : Int) := by omega
  have k2 : (k : Int) ≤ (s.size : Int) := by omega
  have HP := Lib.hid (HP1.out.trans (if_neg hbad))
  by_cases kz : k = 0
  · subst kz
    clear hbad HP1
    go_enter Tryz.func119, Tryz.ntmps119
    go_wp2_with fail
    refine (CM.out _).mono ?_
    rintro e w1 ⟨rfl, rfl⟩
    go_wp2_with fail
    refine (CI.out _).mono ?_
    rintro e w1 ⟨rfl, rfl⟩
    go_wp2_with fail
    go_region
    all_goals go_wp2_with fail
    all_goals
      refine bodyPost_ret (v := .tuple #[.agg #[.string ⟨#[]⟩, .string ⟨#[]⟩, .string ⟨#[]⟩], .bool false]) (by simp [results, Tryz.results119, go_sem]) rfl (SplitPost.mk_none HP.out ?_)
      first | exact (Below.refl _ _).alloc (Nat.le_refl _) _ | exact ((Below.refl _ _).alloc (Nat.le_refl _) _).alloc (by simp) _ | exact (((Below.refl _ _).alloc (Nat.le_refl _) _).alloc (by simp) _).drew | exact ((((Below.refl _ _).alloc (Nat.le_refl _) _).alloc (by simp) _).drew).drew
  · by_cases k9 : 9 < k
    · have k3 : (9 : Int) < (k : Int) := by omega
      have k4 : ((k : Int) == 0) = false := by simp; omega
      clear hbad HP1 kz k9
      go_enter Tryz.func119, Tryz.ntmps119
      go_wp2_with fail
      refine (CM.out _).mono ?_
      rintro e w1 ⟨rfl, rfl⟩
      go_wp2_with fail
      refine (CI.out _).mono ?_
      rintro e w1 ⟨rfl, rfl⟩
      go_wp2_with fail
      go_region
      all_goals go_wp2_with fail
      all_goals
        refine bodyPost_ret (v := .tuple #[.agg #[.string ⟨#[]⟩, .string ⟨#[]⟩, .string ⟨#[]⟩], .bool false]) (by simp [results, Tryz.results119, go_sem]) rfl (SplitPost.mk_none HP.out ?_)
        first | exact (Below.refl _ _).alloc (Nat.le_refl _) _ | exact ((Below.refl _ _).alloc (Nat.le_refl _) _).alloc (by simp) _ | exact (((Below.refl _ _).alloc (Nat.le_refl _) _).alloc (by simp) _).drew | exact ((((Below.refl _ _).alloc (Nat.le_refl _) _).alloc (by simp) _).drew).drew
    · have hd : (s.data.toList.take k).all isDg = false := by
        cases hx : (s.data.toList.take k).all isDg with
        | false => rfl
        | true => exact absurd ⟨kz, by omega, hx⟩ hbad
      have hlt := not_all_while hd
      rw [← bl_upto, size_len] at hlt
      have hsz : (s.extract 0 k).size = k := by rw [← size_len, bl_upto, List.length_take, size_len]; omega
      rw [hsz] at hlt
      have CE := Lib.hid (fun w => run_any isDigit_any (enters_of Tryz.func178 (by kernel_rfl) rfl) (s.extract 0 k) (by rw [hsz]; unfold maxLen; omega) w)
      generalize ((s.extract 0 k).data.toList.takeWhile isDg).length = m at *
      have k3 : (k : Int) ≤ 9 := by omega
      have k4 : ((k : Int) == 0) = false := by simp; omega
      have k5 : (m : Int) < (k : Int) := by omega
      have k6 : ¬ (9 : Int) < (k : Int) := by omega
      clear hbad HP1 kz k9 hd hlt hsz
      go_enter Tryz.func119, Tryz.ntmps119
      go_wp2_with fail
      refine (CM.out _).mono ?_
      rintro e w1 ⟨rfl, rfl⟩
      go_wp2_with fail
      refine (CI.out _).mono ?_
      rintro e w1 ⟨rfl, rfl⟩
      go_wp2_with fail
      go_region
      all_goals go_wp2_with fail
      all_goals
        refine (CE.out _).mono ?_
        rintro e w1 ⟨rfl, rfl⟩
        go_wp2_with fail
        refine bodyPost_ret (v := .tuple #[.agg #[.string ⟨#[]⟩, .string ⟨#[]⟩, .string ⟨#[]⟩], .bool false]) (by simp [results, Tryz.results119, go_sem]) rfl (SplitPost.mk_none HP.out ?_)
        first | exact (Below.refl _ _).alloc (Nat.le_refl _) _ | exact ((Below.refl _ _).alloc (Nat.le_refl _) _).alloc (by simp) _ | exact (((Below.refl _ _).alloc (Nat.le_refl _) _).alloc (by simp) _).drew | exact ((((Below.refl _ _).alloc (Nat.le_refl _) _).alloc (by simp) _).drew).drew
end Go.Proofs.YtdhgiammfpjniaaGreatDoor.Ev
