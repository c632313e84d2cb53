/- Words in a table: (table).number; between; must. Whether a text may be a name. A text's first word, and what stands behind it. Which parts may be. Whether one of a list's things is so: slices.IndexFunc and slices.ContainsFunc at texts and dependencies. -/
import Derived.Test.YtljldbdjkjllhaaGreatDoorZba
import Derived.Test.YtljldbdjkjllhaaGreatDoorZbb
/- Words in a table: (table).number; between; must. Whether a text may be a name. -/
namespace Go.Proofs.YtljldbdjkjllhaaGreatDoor.Ev
set_option linter.unusedSimpArgs false
set_option linter.unusedVariables false
open Go.RowKit

def firstS : List ByteArray → ByteArray → Nat → Int
  | [], _, _ => 0
  | a :: r, s, i => if a = s then (i : Int) else firstS r s (i + 1)
theorem str_yes {a b : ByteArray} (h : a = b) : (a.toList == b.toList) = true := by subst h; simp

set_option maxHeartbeats 2000000 in
set_option maxRecDepth 100000 in
theorem number_any (a0 a1 a2 a3 a4 a5 a6 a7 s : ByteArray) (w : World) : Calls Tryz.prog 126 #[.agg #[.string a0, .string a1, .string a2, .string a3, .string a4, .string a5, .string a6, .string a7], .string s] w fun e w' =>
    e = .returned (.int .i64 (firstS [a0, a1, a2, a3, a4, a5, a6, a7] s 0)) ∧ Below w.heap.size w w' := by
  obtain ⟨x, hx⟩ : ∃ x, x = firstS [a0, a1, a2, a3, a4, a5, a6, a7] s 0 := ⟨_, rfl⟩
  rw [← hx]
  have HB : Hid (Below w.heap.size w (w.alloc (.cells #[.string a0, .string a1, .string a2, .string a3, .string a4, .string a5, .string a6, .string a7] 162))) := (Below.refl _ _).alloc (Nat.le_refl _) _
  have HX := Lib.hid hx
  have ix0 : ∀ w, (Instr.index 162 (.agg #[.string a0, .string a1, .string a2, .string a3, .string a4, .string a5, .string a6, .string a7]) (.int .i64 0)).run Tryz.prog w = .ok (.string a0) w := fun _ => by kernel_rfl
  have ix1 : ∀ w, (Instr.index 162 (.agg #[.string a0, .string a1, .string a2, .string a3, .string a4, .string a5, .string a6, .string a7]) (.int .i64 1)).run Tryz.prog w = .ok (.string a1) w := fun _ => by kernel_rfl
  have ix2 : ∀ w, (Instr.index 162 (.agg #[.string a0, .string a1, .string a2, .string a3, .string a4, .string a5, .string a6, .string a7]) (.int .i64 2)).run Tryz.prog w = .ok (.string a2) w := fun _ => by kernel_rfl
  have ix3 : ∀ w, (Instr.index 162 (.agg #[.string a0, .string a1, .string a2, .string a3, .string a4, .string a5, .string a6, .string a7]) (.int .i64 3)).run Tryz.prog w = .ok (.string a3) w := fun _ => by kernel_rfl
  have ix4 : ∀ w, (Instr.index 162 (.agg #[.string a0, .string a1, .string a2, .string a3, .string a4, .string a5, .string a6, .string a7]) (.int .i64 4)).run Tryz.prog w = .ok (.string a4) w := fun _ => by kernel_rfl
  have ix5 : ∀ w, (Instr.index 162 (.agg #[.string a0, .string a1, .string a2, .string a3, .string a4, .string a5, .string a6, .string a7]) (.int .i64 5)).run Tryz.prog w = .ok (.string a5) w := fun _ => by kernel_rfl
  have ix6 : ∀ w, (Instr.index 162 (.agg #[.string a0, .string a1, .string a2, .string a3, .string a4, .string a5, .string a6, .string a7]) (.int .i64 6)).run Tryz.prog w = .ok (.string a6) w := fun _ => by kernel_rfl
  have ix7 : ∀ w, (Instr.index 162 (.agg #[.string a0, .string a1, .string a2, .string a3, .string a4, .string a5, .string a6, .string a7]) (.int .i64 7)).run Tryz.prog w = .ok (.string a7) w := fun _ => by kernel_rfl
  clear hx
  go_enter Tryz.func126, Tryz.ntmps126
  go_wp2_with fail
  generalize w.alloc (.cells #[.string a0, .string a1, .string a2, .string a3, .string a4, .string a5, .string a6, .string a7] 162) = w1 at *
  go_loop [8] (fun i => ∃ k : Nat, k ≤ 8 ∧ i = .int .i64 (k : Int) ∧ Hid (x = firstS ([a0, a1, a2, a3, a4, a5, a6, a7].drop k) s k)) (fun i => 8 - (intOf i).toNat)
  case atStart => exact ⟨0, Nat.zero_le _, rfl, HX⟩
  case round =>
    obtain ⟨k, hk, rfl, hn⟩ := hrel
    have hk' : k = 0 ∨ k = 1 ∨ k = 2 ∨ k = 3 ∨ k = 4 ∨ k = 5 ∨ k = 6 ∨ k = 7 ∨ k = 8 := by omega
    rcases hk' with rfl | rfl | rfl | rfl | rfl | rfl | rfl | rfl | rfl
    case inr.inr.inr.inr.inr.inr.inr.inr =>
      go_wp2_with fail
      go_ret
      exact ⟨by rw [hn.out]; rfl, HB.out⟩
    all_goals clear HX
    · clear ix1 ix2 ix3 ix4 ix5 ix6 ix7
      by_cases h : a0 = s
      · have t1 := str_yes h
        have HV : Hid (x = 0) := hn.out.trans (if_pos h)
        clear h hn
        go_wp2_with fail
        go_ret
        exact ⟨by rw [HV.out]; rfl, HB.out⟩
      · have t1 := str_ne h
        have HV : Hid (x = firstS [a1, a2, a3, a4, a5, a6, a7] s 1) := hn.out.trans (if_neg h)
        clear h hn
        go_wp2_with fail
        go_round
        case rel => exact ⟨1, by omega, rfl, HV⟩
        case measure => simp [intOf]
    · clear ix0 ix2 ix3 ix4 ix5 ix6 ix7
      by_cases h : a1 = s
      · have t1 := str_yes h
        have HV : Hid (x = 1) := hn.out.trans (if_pos h)
        clear h hn
        go_wp2_with fail
        go_ret
        exact ⟨by rw [HV.out]; rfl, HB.out⟩
      · have t1 := str_ne h
        have HV : Hid (x = firstS [a2, a3, a4, a5, a6, a7] s 2) := hn.out.trans (if_neg h)
        clear h hn
        go_wp2_with fail
        go_round
        case rel => exact ⟨2, by omega, rfl, HV⟩
        case measure => simp [intOf]
    · clear ix0 ix1 ix3 ix4 ix5 ix6 ix7
      by_cases h : a2 = s
      · have t1 := str_yes h
        have HV : Hid (x = 2) := hn.out.trans (if_pos h)
        clear h hn
        go_wp2_with fail
        go_ret
        exact ⟨by rw [HV.out]; rfl, HB.out⟩
      · have t1 := str_ne h
        have HV : Hid (x = firstS [a3, a4, a5, a6, a7] s 3) := hn.out.trans (if_neg h)
        clear h hn
        go_wp2_with fail
        go_round
        case rel => exact ⟨3, by omega, rfl, HV⟩
        case measure => simp [intOf]
    · clear ix0 ix1 ix2 ix4 ix5 ix6 ix7
      by_cases h : a3 = s
      · have t1 := str_yes h
        have HV : Hid (x = 3) := hn.out.trans (if_pos h)
        clear h hn
        go_wp2_with fail
        go_ret
        exact ⟨by rw [HV.out]; rfl, HB.out⟩
      · have t1 := str_ne h
        have HV : Hid (x = firstS [a4, a5, a6, a7] s 4) := hn.out.trans (if_neg h)
        clear h hn
        go_wp2_with fail
        go_round
        case rel => exact ⟨4, by omega, rfl, HV⟩
        case measure => simp [intOf]
    · clear ix0 ix1 ix2 ix3 ix5 ix6 ix7
      by_cases h : a4 = s
      · have t1 := str_yes h
        have HV : Hid (x = 4) := hn.out.trans (if_pos h)
        clear h hn
        go_wp2_with fail
        go_ret
        exact ⟨by rw [HV.out]; rfl, HB.out⟩
      · have t1 := str_ne h
        have HV : Hid (x = firstS [a5, a6, a7] s 5) := hn.out.trans (if_neg h)
        clear h hn
        go_wp2_with fail
        go_round
        case rel => exact ⟨5, by omega, rfl, HV⟩
        case measure => simp [intOf]
    · clear ix0 ix1 ix2 ix3 ix4 ix6 ix7
      by_cases h : a5 = s
      · have t1 := str_yes h
        have HV : Hid (x = 5) := hn.out.trans (if_pos h)
        clear h hn
        go_wp2_with fail
        go_ret
        exact ⟨by rw [HV.out]; rfl, HB.out⟩
      · have t1 := str_ne h
        have HV : Hid (x = firstS [a6, a7] s 6) := hn.out.trans (if_neg h)
        clear h hn
        go_wp2_with fail
        go_round
        case rel => exact ⟨6, by omega, rfl, HV⟩
        case measure => simp [intOf]
    · clear ix0 ix1 ix2 ix3 ix4 ix5 ix7
      by_cases h : a6 = s
      · have t1 := str_yes h
        have HV : Hid (x = 6) := hn.out.trans (if_pos h)
        clear h hn
        go_wp2_with fail
        go_ret
        exact ⟨by rw [HV.out]; rfl, HB.out⟩
      · have t1 := str_ne h
        have HV : Hid (x = firstS [a7] s 7) := hn.out.trans (if_neg h)
        clear h hn
        go_wp2_with fail
        go_round
        case rel => exact ⟨7, by omega, rfl, HV⟩
        case measure => simp [intOf]
    · clear ix0 ix1 ix2 ix3 ix4 ix5 ix6
      by_cases h : a7 = s
      · have t1 := str_yes h
        have HV : Hid (x = 7) := hn.out.trans (if_pos h)
        clear h hn
        go_wp2_with fail
        go_ret
        exact ⟨by rw [HV.out]; rfl, HB.out⟩
      · have t1 := str_ne h
        have HV : Hid (x = firstS [] s 8) := hn.out.trans (if_neg h)
        clear h hn
        go_wp2_with fail
        go_round
        case rel => exact ⟨8, by omega, rfl, HV⟩
        case measure => simp [intOf]

/-- The two tables lie where the program keeps them. -/
def wordsRow : Array Value := #[.string ⟨#[]⟩, .string ⟨#[]⟩, .string (mkS wAnd), .string (mkS wOr), .string (mkS wIf), .string (mkS wWith), .string (mkS wWithout), .string ⟨#[]⟩]
def signsRow : Array Value := #[.string ⟨#[]⟩, .string (mkS [60]), .string (mkS [61]), .string (mkS [60, 61]), .string (mkS [62]), .string (mkS [60, 62]), .string (mkS [62, 61]), .string (mkS [60, 61, 62])]
def WordsAt (w : World) : Prop := ∃ t, Blk w 2 t wordsRow
def SignsAt (w : World) : Prop := ∃ t, Blk w 3 t signsRow
theorem WordsAt.cell {w : World} (h : WordsAt w) (i : Nat) : w.cell? ⟨2, i, none⟩ = (#[.string ⟨#[]⟩, .string ⟨#[]⟩, .string (mkS wAnd), .string (mkS wOr), .string (mkS wIf), .string (mkS wWith), .string (mkS wWithout), .string ⟨#[]⟩] : Array Value)[i]? := by
  obtain ⟨t, h⟩ := h
  exact Blk.cell h i
theorem SignsAt.cell {w : World} (h : SignsAt w) (i : Nat) : w.cell? ⟨3, i, none⟩ = (#[.string ⟨#[]⟩, .string (mkS [60]), .string (mkS [61]), .string (mkS [60, 61]), .string (mkS [62]), .string (mkS [60, 62]), .string (mkS [62, 61]), .string (mkS [60, 61, 62])] : Array Value)[i]? := by
  obtain ⟨t, h⟩ := h
  exact Blk.cell h i
theorem SignsAt.below {B : Nat} {w w' : World} (h : SignsAt w) (hb : Below B w w') (hB : 3 < B) : SignsAt w' := by
  obtain ⟨t, h⟩ := h
  exact ⟨t, Blk.below h hb hB⟩
theorem WordsAt.below {B : Nat} {w w' : World} (h : WordsAt w) (hb : Below B w w') (hB : 2 < B) : WordsAt w' := by
  obtain ⟨t, h⟩ := h
  exact ⟨t, Blk.below h hb hB⟩
theorem SignsAt.lt {w : World} (h : SignsAt w) : 3 < w.heap.size := by
  obtain ⟨t, h⟩ := h
  exact Blk.lt h
theorem WordsAt.lt {w : World} (h : WordsAt w) : 2 < w.heap.size := by
  obtain ⟨t, h⟩ := h
  exact Blk.lt h
structure Tabs (w : World) : Prop where
  words : WordsAt w
  signs : SignsAt w
theorem Tabs.two {w : World} (h : Tabs w) : 4 ≤ w.heap.size := by
  obtain ⟨_, h1⟩ := h.signs
  obtain ⟨_, h2⟩ := h.words
  have := Blk.lt h1
  have := Blk.lt h2
  omega
theorem Tabs.turned {F : List Nat} {w w' : World} (h : Tabs w) (ht : Turned F w w') (hF : ∀ k ∈ F, 4 ≤ k) : Tabs w' := by
  obtain ⟨⟨t1, h1⟩, t2, h2⟩ := h
  exact ⟨⟨t1, h1.turned ht (fun hm => by have := hF _ hm; omega)⟩, t2, h2.turned ht (fun hm => by have := hF _ hm; omega)⟩
theorem Tabs.below {B : Nat} {w w' : World} (h : Tabs w) (hb : Below B w w') (hB : 4 ≤ B) : Tabs w' := by
  obtain ⟨⟨t1, h1⟩, t2, h2⟩ := h
  exact ⟨⟨t1, Blk.below h1 hb (by omega)⟩, t2, Blk.below h2 hb (by omega)⟩

theorem mkS_eq {l : List UInt8} {s : ByteArray} : (mkS l = s) ↔ s.data.toList = l := by
  constructor
  · rintro rfl; rfl
  · intro h; rw [← h]; rfl
theorem nil_eq {s : ByteArray} : ((⟨#[]⟩ : ByteArray) = s) ↔ s.data.toList = [] := by
  constructor
  · rintro rfl; rfl
  · intro h; exact (empty_back h).symm
theorem firstW (s : ByteArray) : firstS [⟨#[]⟩, ⟨#[]⟩, mkS wAnd, mkS wOr, mkS wIf, mkS wWith, mkS wWithout, ⟨#[]⟩] s 0 = numW s.data.toList := by
  simp only [firstS, mkS_eq, nil_eq]
  unfold numW
  by_cases h0 : s.data.toList = []
  · rw [h0]; decide
  · simp only [h0, if_false]
    repeat' split
    all_goals rfl
theorem firstG (s : ByteArray) : firstS [⟨#[]⟩, mkS [60], mkS [61], mkS [60, 61], mkS [62], mkS [60, 62], mkS [62, 61], mkS [60, 61, 62]] s 0 = numS s.data.toList := by
  simp only [firstS, mkS_eq, nil_eq]
  unfold numS
  by_cases h0 : s.data.toList = []
  · rw [h0]; decide
  · simp only [h0, if_false]
    repeat' split
    all_goals rfl
theorem numW_any (s : ByteArray) (w : World) : Calls Tryz.prog 126 #[.agg #[.string ⟨#[]⟩, .string ⟨#[]⟩, .string (mkS wAnd), .string (mkS wOr), .string (mkS wIf), .string (mkS wWith), .string (mkS wWithout), .string ⟨#[]⟩], .string s] w fun e w' =>
    e = .returned (.int .i64 (numW s.data.toList)) ∧ Below w.heap.size w w' := by rw [← firstW]; exact number_any _ _ _ _ _ _ _ _ s w
theorem numS_any (s : ByteArray) (w : World) : Calls Tryz.prog 126 #[.agg #[.string ⟨#[]⟩, .string (mkS [60]), .string (mkS [61]), .string (mkS [60, 61]), .string (mkS [62]), .string (mkS [60, 62]), .string (mkS [62, 61]), .string (mkS [60, 61, 62])], .string s] w fun e w' =>
    e = .returned (.int .i64 (numS s.data.toList)) ∧ Below w.heap.size w w' := by rw [← firstG]; exact number_any _ _ _ _ _ _ _ _ s w

/-- The error that is given up with. -/
def gaveUp (n : Int) : Ending := .panicked [{ v := .iface 25 (.int .i64 n), recovered := false }]
set_option maxRecDepth 100000 in
theorem must_yes (w : World) : Calls Tryz.prog 252 #[.bool true] w fun e w' => e = .returned (.tuple #[]) ∧ w = w' := by
  go_enter Tryz.func252, Tryz.ntmps252
  go_wp2_with fail
  go_end0
  exact ⟨rfl, rfl⟩
set_option maxRecDepth 100000 in
theorem must_no (w : World) : Calls Tryz.prog 252 #[.bool false] w fun e w' => e = gaveUp 50 ∧ w = w' := by
  go_enter Tryz.func252, Tryz.ntmps252
  go_wp2_with fail
  exact ⟨rfl, ⟨rfl, rfl⟩⟩

end Go.Proofs.YtljldbdjkjllhaaGreatDoor.Ev
namespace Go.Proofs.YtljldbdjkjllhaaGreatDoor.Ev
set_option linter.unusedSimpArgs false
set_option linter.unusedVariables false
open Go.RowKit

theorem scan_at {s : ByteArray} {k o : Nat} (h : k < s.size) : scan o (s.data.toList.drop k) = if s[k] < 33 ∨ 126 < s[k] then false else if s[k] = 40 then scan (o + 1) (s.data.toList.drop (k + 1)) else if s[k] = 41 then (if o = 0 then false else scan (o - 1) (s.data.toList.drop (k + 1))) else scan o (s.data.toList.drop (k + 1)) := by
  have h1 := byte_at h
  have h2 : s.data.toList.drop k = s[k] :: s.data.toList.drop (k + 1) := by
    rw [List.drop_eq_getElem_cons (by rw [size_len]; exact h)]
    rw [List.getElem?_eq_getElem (by rw [size_len]; exact h)] at h1
    injection h1 with h1
    rw [h1]
  rw [h2]
  simp only [scan]
theorem u8_lt {c : UInt8} {n : Nat} (hn : n < 256) : (decide ((c.toNat : Int) < (n : Int))) = decide (c < UInt8.ofNat n) := by
  rw [Bool.eq_iff_iff]
  simp only [decide_eq_true_eq, UInt8.lt_iff_toNat_lt]
  rw [UInt8.toNat_ofNat_of_lt' hn]
  omega
theorem name_cons {l : Wd} (h1 : 1 ≤ l.length) (h2 : l.length ≤ 60) (h3 : l.head? ≠ some 40) (h4 : l ≠ wElse) (h5 : numW l = 0) (h6 : numS l = 0) : nameB l = scan 0 l := by
  unfold nameB
  simp [h1, h2, h3, h4, h5, h6]
theorem name_no {l : Wd} (h : l.length = 0 ∨ 60 < l.length ∨ l.head? = some 40 ∨ l = wElse ∨ numW l ≠ 0 ∨ numS l ≠ 0) : nameB l = false := by
  cases hn : nameB l with
  | false => rfl
  | true =>
    unfold nameB at hn
    simp only [Bool.and_eq_true, decide_eq_true_eq] at hn
    obtain ⟨⟨⟨⟨⟨⟨a1, a2⟩, a3⟩, a4⟩, a5⟩, a6⟩, a7⟩ := hn
    rcases h with h | h | h | h | h | h
    · omega
    · omega
    · exact absurd h a3
    · exact absurd h a4
    · exact absurd a5 h
    · exact absurd a6 h
theorem head_at {s : ByteArray} (h : 0 < s.size) : s.data.toList.head? = some s[0] := by rw [list_cons h]; rfl
/-- A text held against one that is written out. -/
theorem str_is {s : ByteArray} {l : List UInt8} (h : s.data.toList = l) : s = ⟨l.toArray⟩ := by rw [← h]
theorem str_isnt {s : ByteArray} {l : List UInt8} (h : s.data.toList ≠ l) : (s.toList == (⟨l.toArray⟩ : ByteArray).toList) = false := str_ne fun e => h (by rw [e])

set_option maxHeartbeats 4000000 in
set_option maxRecDepth 100000 in
theorem name_any (s : ByteArray) (w : World) (hT : Tabs w) : Calls Tryz.prog 66 #[.string s] w fun e w' => e = .returned (.bool (nameB s.data.toList)) ∧ Below w.heap.size w w' := by
  obtain ⟨x, hx⟩ : ∃ x, x = nameB s.data.toList := ⟨_, rfl⟩
  rw [← hx]
  have HX := Lib.hid hx
  clear hx
  by_cases h0 : s.size = 0
  · obtain rfl := empty_of h0
    have HV : Hid (x = false) := HX.out.trans (name_no (.inl rfl))
    clear HX h0 hT
    go_enter Tryz.func66, Tryz.ntmps66
    go_wp2_with fail
    go_ret
    exact ⟨by rw [HV.out]; rfl, Below.refl _ _⟩
  have hp : 0 < s.size := by omega
  have e0 : s.toList.isEmpty = false ∧ ¬ s.toList = [] ∧ s.data.toList ≠ [] := blank_of h0
  obtain ⟨b1, b2, b3⟩ := e0
  by_cases h60 : 60 < s.size
  · have HV : Hid (x = false) := HX.out.trans (name_no (.inr (.inl (by rw [size_len]; exact h60))))
    have t60 : (60 : Int) < (s.size : Int) := by omega
    clear HX hT
    go_enter Tryz.func66, Tryz.ntmps66
    go_wp2_with fail
    go_ret
    exact ⟨by rw [HV.out]; rfl, Below.refl _ _⟩
  have t60 : ¬ (60 : Int) < (s.size : Int) := by omega
  by_cases h40 : s[0] = 40
  · obtain ⟨t1, _⟩ := u8_hit (n := 40) rfl h40
    have HV : Hid (x = false) := HX.out.trans (name_no (.inr (.inr (.inl (by rw [head_at hp, h40])))))
    clear HX hT h40
    go_enter Tryz.func66, Tryz.ntmps66
    go_wp2_with fail
    go_ret
    exact ⟨by rw [HV.out]; rfl, Below.refl _ _⟩
  obtain ⟨t1, _⟩ := u8_miss (n := 40) rfl h40
  by_cases he : s.data.toList = wElse
  · have HV : Hid (x = false) := HX.out.trans (name_no (.inr (.inr (.inr (.inl he)))))
    have t2 := str_yes (str_is he)
    obtain rfl := str_is he
    clear HX hT he
    go_enter Tryz.func66, Tryz.ntmps66
    go_wp2_with fail
    go_ret
    exact ⟨by rw [HV.out]; rfl, Below.refl _ _⟩
  have t2 : (s.toList == (⟨#[101, 108, 115, 101]⟩ : ByteArray).toList) = false := str_isnt he
  have t3 : (s.toList == [101, 108, 115, 101]) = false := by rw [ByteArray.toList_eq]; exact beq_eq_false_iff_ne.2 he
  have t4 : ¬ s.toList = [101, 108, 115, 101] := by rw [ByteArray.toList_eq]; exact he
  have CW := Lib.hid (fun w => numW_any s w)
  have CS := Lib.hid (fun w => numS_any s w)
  have w0 := hT.words.cell 0
  have w1 := hT.words.cell 1
  have w2 := hT.words.cell 2
  have w3 := hT.words.cell 3
  have w4 := hT.words.cell 4
  have w5 := hT.words.cell 5
  have w6 := hT.words.cell 6
  have w7 := hT.words.cell 7
  have HN := Lib.hid (fun (h5 : numW s.data.toList = 0) (h6 : numS s.data.toList = 0) => HX.out.trans (name_cons (by rw [size_len]; omega) (by rw [size_len]; omega) (by rw [head_at hp]; intro e; injection e with e; exact h40 e) he h5 h6))
  have HF := Lib.hid (fun (h : numW s.data.toList ≠ 0 ∨ numS s.data.toList ≠ 0) => HX.out.trans (name_no (.inr (.inr (.inr (.inr h))))))
  have HT := Lib.hid hT.signs
  have H2 := Lib.hid hT.two
  clear HX h40 he hT b3
  generalize numW s.data.toList = m at *
  generalize numS s.data.toList = g at *
  by_cases hm : m ≠ 0
  · have HV : Hid (x = false) := HF.out (.inl hm)
    have tm : (m != 0) = true := by simpa using hm
    have tm' : (m == 0) = false := beq_eq_false_iff_ne.2 hm
    clear HF HN hm CS HT
    go_enter Tryz.func66, Tryz.ntmps66
    go_wp2_with fail
    refine (CW.out _).mono ?_
    rintro e w1' ⟨rfl, hb1⟩
    have HB := Lib.hid hb1
    clear hb1
    go_wp2_with fail
    go_ret
    exact ⟨by rw [HV.out]; rfl, HB.out⟩
  obtain rfl : m = 0 := by omega
  clear hm
  go_enter Tryz.func66, Tryz.ntmps66
  go_wp2_with fail
  refine (CW.out _).mono ?_
  rintro e w1' ⟨rfl, hb1⟩
  have HB := Lib.hid hb1
  have hz := hb1.size
  have K := HT.out.below hb1 (by have := H2.out; omega)
  have g0 := K.cell 0
  have g1 := K.cell 1
  have g2 := K.cell 2
  have g3 := K.cell 3
  have g4 := K.cell 4
  have g5 := K.cell 5
  have g6 := K.cell 6
  have g7 := K.cell 7
  clear hb1 K CW HT w0 w1 w2 w3 w4 w5 w6 w7
  by_cases hg : g ≠ 0
  · have HV : Hid (x = false) := HF.out (.inr hg)
    have tm : (g != 0) = true := by simpa using hg
    have tm' : (g == 0) = false := beq_eq_false_iff_ne.2 hg
    clear HF HN hg
    go_wp2_with fail
    refine (CS.out _).mono ?_
    rintro e w2' ⟨rfl, hb2⟩
    have HB2 := Lib.hid (HB.out.trans (hb2.mono hz))
    clear hb2
    go_wp2_with fail
    go_ret
    exact ⟨by rw [HV.out]; rfl, HB2.out⟩
  obtain rfl : g = 0 := by omega
  clear hg
  have HV : Hid (x = scan 0 (s.data.toList.drop 0)) := HN.out (by first | trivial | rfl) (by first | trivial | rfl)
  clear HF HN
  go_wp2_with fail
  refine (CS.out _).mono ?_
  rintro e w2' ⟨rfl, hb2⟩
  have HB2 := Lib.hid (HB.out.trans (hb2.mono hz))
  clear hb2 CS HB g0 g1 g2 g3 g4 g5 g6 g7 hz
  go_wp2_with fail
  go_loop [3, 36] (fun o i => ∃ k n : Nat, k ≤ s.size ∧ n ≤ k ∧ i = .int .i64 (k : Int) ∧ o = .int .i64 (n : Int) ∧ Hid (x = scan n (s.data.toList.drop k))) (fun _ i => s.size - (intOf i).toNat)
  case atStart => exact ⟨0, 0, Nat.zero_le _, Nat.le_refl _, rfl, rfl, HV⟩
  case round =>
    obtain ⟨k, n, hk, hnk, rfl, rfl, hn⟩ := hrel
    clear HV
    by_cases hlt : k < s.size
    · have HS : Hid (x = if s[k] < 33 ∨ 126 < s[k] then false else if s[k] = 40 then scan (n + 1) (s.data.toList.drop (k + 1)) else if s[k] = 41 then (if n = 0 then false else scan (n - 1) (s.data.toList.drop (k + 1))) else scan n (s.data.toList.drop (k + 1))) := hn.out.trans (scan_at hlt)
      have l33 : decide ((s[k].toNat : Int) < 33) = decide (s[k] < 33) := u8_lt (n := 33) (by omega)
      have l126 : decide ((126 : Int) < (s[k].toNat : Int)) = decide (126 < s[k]) := by
        rw [Bool.eq_iff_iff]
        simp only [decide_eq_true_eq, UInt8.lt_iff_toNat_lt]
        show (126 : Int) < _ ↔ 126 < _
        omega
      clear hn
      by_cases hc : s[k] < 33 ∨ 126 < s[k]
      · have HV : Hid (x = false) := HS.out.trans (if_pos hc)
        have tc : (s[k].toNat : Int) < 33 ∨ ¬ (s[k].toNat : Int) < 33 ∧ (126 : Int) < (s[k].toNat : Int) := by
          rcases hc with h | h
          · left; simpa [h] using l33
          · by_cases h' : (s[k].toNat : Int) < 33
            · exact .inl h'
            · right; exact ⟨h', by simpa [h] using l126⟩
        clear HS l33 l126 hc
        rcases tc with t | ⟨t, t'⟩
        all_goals
          go_wp2_with fail
          go_ret
          exact ⟨by rw [HV.out]; rfl, HB2.out⟩
      · have t33 : ¬ (s[k].toNat : Int) < 33 := by
          intro h
          rw [decide_eq_true h] at l33
          exact hc (.inl (of_decide_eq_true l33.symm))
        have t126 : ¬ (126 : Int) < (s[k].toNat : Int) := by
          intro h
          rw [decide_eq_true h] at l126
          exact hc (.inr (of_decide_eq_true l126.symm))
        have HS1 := Lib.hid (HS.out.trans (if_neg hc))
        clear HS l33 l126 hc
        by_cases h4 : s[k] = 40
        · obtain ⟨t4, _⟩ := u8_hit (n := 40) rfl h4
          have HV := Lib.hid (HS1.out.trans (if_pos h4))
          clear HS1 h4
          go_wp2_with fail
          go_round
          case rel => exact ⟨k + 1, n + 1, by omega, by omega, by go_num, by go_num, HV.out⟩
          case measure => simp [intOf]; omega
        · obtain ⟨t4, _⟩ := u8_miss (n := 40) rfl h4
          have HS2 := Lib.hid (HS1.out.trans (if_neg h4))
          clear HS1 h4
          by_cases h5 : s[k] = 41
          · obtain ⟨t5, _⟩ := u8_hit (n := 41) rfl h5
            have HS3 := Lib.hid (HS2.out.trans (if_pos h5))
            clear HS2 h5
            by_cases hn0 : n = 0
            · subst hn0
              have HV : Hid (x = false) := HS3.out.trans (if_pos rfl)
              clear HS3
              go_wp2_with fail
              go_ret
              exact ⟨by rw [HV.out]; rfl, HB2.out⟩
            · have HV := Lib.hid (HS3.out.trans (if_neg hn0))
              have tn : ((n : Int) == 0) = false := beq_eq_false_iff_ne.2 (by omega)
              have hn1 : 1 ≤ n := by omega
              clear HS3 hn0
              go_wp2_with fail
              go_round
              case rel => exact ⟨k + 1, n - 1, by omega, by omega, by go_num, by congr 1; omega, HV.out⟩
              case measure => simp [intOf]; omega
          · obtain ⟨t5, _⟩ := u8_miss (n := 41) rfl h5
            have HV := Lib.hid (HS2.out.trans (if_neg h5))
            clear HS2 h5
            go_wp2_with fail
            go_round
            case rel => exact ⟨k + 1, n, by omega, by omega, by go_num, rfl, HV.out⟩
            case measure => simp [intOf]; omega
    · have HV : Hid (x = (n == 0)) := by
        show x = _
        rw [hn.out, List.drop_eq_nil_of_le (by rw [size_len]; omega)]
        rfl
      clear hn
      go_wp2_with fail
      go_ret
      refine ⟨ret_bool ?_, HB2.out⟩
      rw [HV.out, Bool.eq_iff_iff]
      simp <;> omega
end Go.Proofs.YtljldbdjkjllhaaGreatDoor.Ev

/- A text's first word, and what stands behind it. Which parts may be. -/
namespace Go.Proofs.YtljldbdjkjllhaaGreatDoor.Ev
set_option linter.unusedSimpArgs false
set_option linter.unusedVariables false
open Go.RowKit

theorem scanEnd_at {s : ByteArray} {k o : Nat} (h : k < s.size) : scanEnd o (s.data.toList.drop k) = if s[k] = 32 then 0 else if s[k] = 41 ∧ o = 0 then 0 else 1 + scanEnd (if s[k] = 40 then o + 1 else if s[k] = 41 then o - 1 else o) (s.data.toList.drop (k + 1)) := by
  have h1 := byte_at h
  have h2 : s.data.toList.drop k = s[k] :: s.data.toList.drop (k + 1) := by
    rw [List.drop_eq_getElem_cons (by rw [size_len]; exact h)]
    rw [List.getElem?_eq_getElem (by rw [size_len]; exact h)] at h1
    injection h1 with h1
    rw [h1]
  rw [h2]
  simp only [scanEnd]
theorem endN_at {s : ByteArray} (h : 0 < s.size) : endN s.data.toList = if s[0] = 40 ∨ s[0] = 41 then 1 else scanEnd 0 s.data.toList := by
  rw [list_cons h]
  simp only [endN]

set_option maxHeartbeats 4000000 in
set_option maxRecDepth 100000 in
theorem end_any (s : ByteArray) (hs : s.size ≤ maxLen) (w : World) : Calls Tryz.prog 274 #[.string s] w fun e w' => e = .returned (.int .i64 (endN s.data.toList : Nat)) ∧ w = w' := by
  unfold maxLen at hs
  obtain ⟨x, hx⟩ : ∃ x, x = endN s.data.toList := ⟨_, rfl⟩
  rw [← hx]
  have HX := Lib.hid hx
  clear hx
  by_cases h0 : s.size = 0
  · obtain rfl := empty_of h0
    have HV : Hid (x = 0) := HX.out
    clear HX h0 hs
    go_enter Tryz.func274, Tryz.ntmps274
    go_wp2_with fail
    go_loop [20] (fun i => i = .int .i64 0) (fun i => 0)
    case atStart => rfl
    case round =>
      subst hrel
      go_wp2_with fail
      go_ret
      exact ⟨by rw [HV.out]; rfl, rfl⟩
  have hp : 0 < s.size := by omega
  obtain ⟨b1, b2, b3⟩ := blank_of h0
  by_cases hpar : s[0] = 40 ∨ s[0] = 41
  · have HV : Hid (x = 1) := HX.out.trans ((endN_at hp).trans (if_pos hpar))
    clear HX b3
    by_cases h4 : s[0] = 40
    · obtain ⟨t4, _⟩ := u8_hit (n := 40) rfl h4
      clear hpar h4
      go_enter Tryz.func274, Tryz.ntmps274
      go_wp2_with fail
      go_ret
      exact ⟨by rw [HV.out]; rfl, rfl⟩
    · obtain ⟨t4, _⟩ := u8_miss (n := 40) rfl h4
      obtain ⟨t5, _⟩ := u8_hit (n := 41) rfl (hpar.resolve_left h4)
      clear hpar h4
      go_enter Tryz.func274, Tryz.ntmps274
      go_wp2_with fail
      go_ret
      exact ⟨by rw [HV.out]; rfl, rfl⟩
  have HV : Hid (x = 0 + scanEnd 0 (s.data.toList.drop 0)) := HX.out.trans ((endN_at hp).trans ((if_neg hpar).trans (by simp)))
  obtain ⟨t4, _⟩ := u8_miss (n := 40) rfl (fun e => hpar (.inl e))
  obtain ⟨t5, _⟩ := u8_miss (n := 41) rfl (fun e => hpar (.inr e))
  clear HX b3 hpar
  go_enter Tryz.func274, Tryz.ntmps274
  go_wp2_with fail
  go_loop [3, 20] (fun o i => ∃ k n : Nat, k ≤ s.size ∧ n ≤ k ∧ i = .int .i64 (k : Int) ∧ o = .int .i64 (n : Int) ∧ Hid (x = k + scanEnd n (s.data.toList.drop k))) (fun _ i => s.size - (intOf i).toNat)
  case atStart => exact ⟨0, 0, Nat.zero_le _, Nat.le_refl _, rfl, rfl, HV⟩
  case round =>
    obtain ⟨k, n, hk, hnk, rfl, rfl, hn⟩ := hrel
    clear HV t4 t5
    by_cases hlt : k < s.size
    · have HS : Hid (scanEnd n (s.data.toList.drop k) = if s[k] = 32 then 0 else if s[k] = 41 ∧ n = 0 then 0 else 1 + scanEnd (if s[k] = 40 then n + 1 else if s[k] = 41 then n - 1 else n) (s.data.toList.drop (k + 1))) := scanEnd_at hlt
      by_cases h2 : s[k] = 32
      · obtain ⟨t2, _⟩ := u8_hit (n := 32) rfl h2
        have HV : Hid (x = k) := by show x = _; rw [hn.out, HS.out, if_pos h2]; omega
        clear HS hn h2
        go_wp2_with fail
        go_ret
        exact ⟨by rw [HV.out]; rfl, rfl⟩
      · obtain ⟨t2, _⟩ := u8_miss (n := 32) rfl h2
        by_cases h4 : s[k] = 40
        · obtain ⟨t4, _⟩ := u8_hit (n := 40) rfl h4
          have h5 : ¬ s[k] = 41 := by rw [h4]; decide
          obtain ⟨t5, _⟩ := u8_miss (n := 41) rfl h5
          have HV : Hid (x = k + 1 + scanEnd (n + 1) (s.data.toList.drop (k + 1))) := by show x = _; rw [hn.out, HS.out, if_neg h2, if_neg (fun e => h5 e.1), if_pos h4]; omega
          clear HS hn h2 h4 h5
          go_wp2_with fail
          go_round
          case rel => exact ⟨k + 1, n + 1, by omega, by omega, by go_num, by go_num, HV⟩
          case measure => simp [intOf]; omega
        · obtain ⟨t4, _⟩ := u8_miss (n := 40) rfl h4
          by_cases h5 : s[k] = 41
          · obtain ⟨t5, _⟩ := u8_hit (n := 41) rfl h5
            by_cases hn0 : n = 0
            · subst hn0
              have HV : Hid (x = k) := by show x = _; rw [hn.out, HS.out, if_neg h2, if_pos ⟨h5, rfl⟩]; omega
              clear HS hn h2 h4 h5
              go_wp2_with fail
              go_ret
              exact ⟨by rw [HV.out]; rfl, rfl⟩
            · have HV : Hid (x = k + 1 + scanEnd (n - 1) (s.data.toList.drop (k + 1))) := by show x = _; rw [hn.out, HS.out, if_neg h2, if_neg (fun e => hn0 e.2), if_neg h4, if_pos h5]; omega
              have tn : ((n : Int) == 0) = false := beq_eq_false_iff_ne.2 (by omega)
              have hn1 : 1 ≤ n := by omega
              clear HS hn h2 h4 h5 hn0
              go_wp2_with fail
              go_round
              case rel => exact ⟨k + 1, n - 1, by omega, by omega, by go_num, by congr 1; omega, HV⟩
              case measure => simp [intOf]; omega
          · obtain ⟨t5, _⟩ := u8_miss (n := 41) rfl h5
            have HV : Hid (x = k + 1 + scanEnd n (s.data.toList.drop (k + 1))) := by show x = _; rw [hn.out, HS.out, if_neg h2, if_neg (fun e => h5 e.1), if_neg h4, if_neg h5]; omega
            clear HS hn h2 h4 h5
            go_wp2_with fail
            go_round
            case rel => exact ⟨k + 1, n, by omega, by omega, by go_num, rfl, HV⟩
            case measure => simp [intOf]; omega
    · have HV : Hid (x = s.size) := by
        show x = _
        rw [hn.out, List.drop_eq_nil_of_le (by rw [size_len]; omega)]
        simp only [scanEnd]
        omega
      clear hn
      go_wp2_with fail
      go_ret
      exact ⟨by rw [HV.out]; rfl, rfl⟩

end Go.Proofs.YtljldbdjkjllhaaGreatDoor.Ev
namespace Go.Proofs.YtljldbdjkjllhaaGreatDoor.Ev
set_option linter.unusedSimpArgs false
set_option linter.unusedVariables false
open Go.RowKit

theorem evrV_agg (o : Option Parts) : ∃ a b c : ByteArray, evrV o = .agg #[.string a, .string b, .string c] := by
  cases o with
  | none => exact ⟨_, _, _, rfl⟩
  | some p => exact ⟨_, _, _, rfl⟩
theorem errV_ok (l : Wd) : (errV (parse l) == 0) = evrB l := by
  unfold errV evrB
  cases parse l <;> rfl
theorem mayCmp_zero (l : Wd) : mayCmp 0 l = decide (l = []) := rfl
theorem mayCmp_other {o : Int} (h : o ≠ 0) (l : Wd) : mayCmp o l = (decide (0 ≤ o) && decide (o < 8) && evrB l) := by unfold mayCmp; rw [if_neg h]
set_option maxHeartbeats 1000000 in
set_option maxRecDepth 100000 in
theorem mayCompare_any (o : Int) (s : ByteArray) (w : World) : Calls Tryz.prog 260 #[.int .i64 o, .string s] w fun e w' => e = .returned (.bool (mayCmp o s.data.toList)) ∧ Below w.heap.size w w' := by
  by_cases ho : o = 0
  · subst ho
    rw [mayCmp_zero]
    by_cases h0 : s.size = 0
    · obtain rfl := empty_of h0
      clear h0
      go_enter Tryz.func260, Tryz.ntmps260
      go_wp2_with fail
      go_ret
      exact ⟨rfl, Below.refl _ _⟩
    · obtain ⟨b1, b2, b3⟩ := blank_of h0
      have HV := Lib.hid (decide_eq_false b3)
      clear b3 h0
      go_enter Tryz.func260, Tryz.ntmps260
      go_wp2_with fail
      go_ret
      exact ⟨ret_bool (by rw [HV.out]), Below.refl _ _⟩
  · rw [mayCmp_other ho, ← errV_ok]
    have C := Lib.hid (fun w => parse_any s w)
    obtain ⟨a, b, c, hA⟩ := evrV_agg (parse s.data.toList)
    generalize errV (parse s.data.toList) = x at *
    rw [hA] at C
    have tto : (o == 0) = false := beq_eq_false_iff_ne.2 ho
    clear hA ho
    go_enter Tryz.func260, Tryz.ntmps260
    go_wp2_with fail
    refine (C.out _).mono ?_
    rintro e w1 ⟨rfl, hb⟩
    have HB := Lib.hid hb
    have hz := hb.size
    clear hb C
    by_cases h1 : 0 ≤ o <;> by_cases h2 : o < 8
    all_goals first
    | (exfalso; omega)
    | (go_wp2_with fail
       go_ret
       refine ⟨ret_bool ?_, HB.out.alloc hz _⟩
       simp [h1, h2] <;> omega)

theorem single_at (d : Dep) : single d = (decide (d.kind = 1) || decide (d.kind = 5) || decide (d.kind = 6)) := rfl
set_option maxHeartbeats 1000000 in
set_option maxRecDepth 100000 in
theorem isOfMany_any (d : Dep) (s : Value) (w : World) : Calls Tryz.prog 261 #[.agg (rowD d s)] w fun e w' => e = .returned (.bool (!single d)) ∧ Below w.heap.size w w' := by
  unfold rowD
  have HV := Lib.hid (single_at d)
  generalize single d = x at *
  generalize d.kind = k at *
  have c0 : (w.alloc (.cells #[.int .i64 k, .string d.name, .int .i64 d.op, .string d.evr, s] 44)).cell? ⟨w.heap.size, 0, none⟩ = some (.int .i64 k) := (Blk.new _ _ _).cell 0
  have HB : Hid (Below w.heap.size w (w.alloc (.cells #[.int .i64 k, .string d.name, .int .i64 d.op, .string d.evr, s] 44))) := (Below.refl _ _).alloc (Nat.le_refl _) _
  by_cases h1 : k = 1
  · subst h1
    go_enter Tryz.func261, Tryz.ntmps261
    go_wp2_with fail
    go_ret
    exact ⟨ret_bool (by rw [HV.out]; rfl), HB.out⟩
  by_cases h5 : k = 5
  · subst h5
    go_enter Tryz.func261, Tryz.ntmps261
    go_wp2_with fail
    go_ret
    exact ⟨ret_bool (by rw [HV.out]; rfl), HB.out⟩
  by_cases h6 : k = 6
  · subst h6
    go_enter Tryz.func261, Tryz.ntmps261
    go_wp2_with fail
    go_ret
    exact ⟨ret_bool (by rw [HV.out]; rfl), HB.out⟩
  have HX : Hid (x = false) := by show x = _; rw [HV.out]; simp [h1, h5, h6]
  have t1 : (k != 1) = true := by simpa using h1
  have t5 : (k != 5) = true := by simpa using h5
  have t6 : (k != 6) = true := by simpa using h6
  clear HV h1 h5 h6
  go_enter Tryz.func261, Tryz.ntmps261
  go_wp2_with fail
  go_ret
  exact ⟨ret_bool (by rw [HX.out]; rfl), HB.out⟩

/-- None of the first k is other than single. -/
theorem single_snoc {ds : List Dep} {k : Nat} {d : Dep} (h : (ds.take k).all single = true) (hk : ds[k]? = some d) (hd : single d = true) : (ds.take (k + 1)).all single = true := by
  rw [List.take_add_one, hk, List.all_append, h]; simp [hd]
set_option maxHeartbeats 2000000 in
set_option maxRecDepth 100000 in
theorem indexFunc_any (ds : List Dep) (A : Option Addr) (c : Nat) (S : Nat → Prop) (w0 : World) (hA : ArgsAt w0 S ds A) (hl : ds.length ≤ c) (hc : c ≤ maxLen) :
    Calls Tryz.prog 136 #[.slice A ds.length c, .func (.func 261) #[] #[]] w0 fun e w' => (∃ n : Int, (decide (0 ≤ n) = !ds.all single) ∧ e = .returned (.int .i64 n)) ∧ Below w0.heap.size w0 w' := by
  have ef : ∀ args w, (callFunc 261 args).run Tryz.prog w = .ok (.enter 261 args) w := enters_of Tryz.func261 (by kernel_rfl) rfl
  unfold maxLen at hc
  rcases Nat.eq_zero_or_pos ds.length with h0 | h0
  · obtain rfl := List.eq_nil_of_length_eq_zero h0
    clear hA h0
    go_enter Tryz.func136, Tryz.ntmps136
    go_wp2_with fail
    go_loop [8] (fun i => i = .int .i64 0) (fun i => 0)
    case atStart => rfl
    case round =>
      subst hrel
      go_wp2_with fail
      go_ret
      exact ⟨⟨-1, by decide, rfl⟩, Below.refl _ _⟩
  obtain ⟨b, o, -, rfl, -, -, -⟩ := hA 0 ds[0] (List.getElem?_eq_getElem h0)
  have HA : Hid (∀ (k : Nat) (hk : k < ds.length), ∃ t, S b ∧ CellsD w0 b (o + k * 5) ds[k] t ∧ Lay w0 S ds[k] t) := fun k hk => by
    obtain ⟨b', o', t, e, h1, h2, h3⟩ := hA k ds[k] (List.getElem?_eq_getElem hk)
    injection e with e
    injection e with e1 e2
    subst e1; subst e2
    exact ⟨t, h1, h2, h3⟩
  clear hA
  go_enter Tryz.func136, Tryz.ntmps136
  go_wp2_with fail
  go_loopw [8] (fun i wx => ∃ k : Nat, k ≤ ds.length ∧ i = .int .i64 (k : Int) ∧ Hid ((ds.take k).all single = true) ∧ Hid (Below w0.heap.size w0 wx)) (fun i _ => ds.length - (intOf i).toNat)
  case atStart => exact ⟨0, Nat.zero_le _, rfl, show (ds.take 0).all single = true from rfl, Below.refl _ _⟩
  case round =>
    obtain ⟨k, hk, rfl, hall, hb⟩ := hrel
    by_cases hlt : k < ds.length
    · obtain ⟨t, hS, hC, hL⟩ := HA.out k hlt
      have hC2 := hC.stay (hb.out.block b hC.lt)
      obtain ⟨c0, c1, c2, c3, c4⟩ := hC2
      have C := Lib.hid (fun w => isOfMany_any ds[k] t w)
      unfold rowD at C
      have hz := hb.out.size
      cases hs : single ds[k] with
      | true =>
        have HN := Lib.hid (single_snoc hall.out (List.getElem?_eq_getElem hlt) hs)
        rw [hs] at C
        clear hs hS hC hL hall
        go_wp2_with fail
        refine (C.out _).mono ?_
        rintro e w1 ⟨rfl, hb1⟩
        have HB : Hid (Below w0.heap.size w0 w1) := hb.out.trans (hb1.mono hz)
        clear hb1 hb C
        go_wp2_with fail
        go_roundw
        case rel => exact ⟨k + 1, by omega, by go_num, HN.out, HB.out⟩
        case measure => simp [intOf]; omega
      | false =>
        have HN : Hid (ds.all single = false) := by
          show _ = _
          cases hx : ds.all single with
          | false => rfl
          | true => rw [List.all_eq_true.1 hx ds[k] (List.getElem_mem hlt)] at hs; cases hs
        rw [hs] at C
        clear hs hS hC hL hall
        go_wp2_with fail
        refine (C.out _).mono ?_
        rintro e w1 ⟨rfl, hb1⟩
        have HB : Hid (Below w0.heap.size w0 w1) := hb.out.trans (hb1.mono hz)
        clear hb1 hb C
        go_wp2_with fail
        go_ret
        exact ⟨⟨k, by rw [HN.out]; simp, rfl⟩, HB.out⟩
    · have HN : Hid (ds.all single = true) := by
        have := hall.out
        rwa [List.take_of_length_le (by omega)] at this
      clear hall
      go_wp2_with fail
      go_ret
      exact ⟨⟨-1, by rw [HN.out]; rfl, rfl⟩, hb.out⟩

set_option maxHeartbeats 1000000 in
set_option maxRecDepth 100000 in
theorem containsFunc_any (ds : List Dep) (A : Option Addr) (c : Nat) (S : Nat → Prop) (w0 : World) (hA : ArgsAt w0 S ds A) (hl : ds.length ≤ c) (hc : c ≤ maxLen) :
    Calls Tryz.prog 73 #[.slice A ds.length c, .func (.func 261) #[] #[]] w0 fun e w' => e = .returned (.bool (!ds.all single)) ∧ Below w0.heap.size w0 w' := by
  have C := Lib.hid (indexFunc_any ds A c S w0 hA hl hc)
  clear hA
  go_enter Tryz.func73, Tryz.ntmps73
  go_wp2_with fail
  refine C.out.mono ?_
  rintro e w1 ⟨⟨n, hn, rfl⟩, hb1⟩
  have HB := Lib.hid hb1
  have HN := Lib.hid hn
  clear hb1 hn C
  go_wp2_with fail
  go_ret
  refine ⟨ret_bool ?_, HB.out⟩
  rw [← HN.out]
end Go.Proofs.YtljldbdjkjllhaaGreatDoor.Ev

/- Whether one of a list's things is so: slices.IndexFunc and slices.ContainsFunc at texts and dependencies. -/
namespace Go.Proofs.YtljldbdjkjllhaaGreatDoor.Ev
set_option linter.unusedSimpArgs false
set_option linter.unusedVariables false
open Go.RowKit

/-- What may be told of a list by asking one after the other. -/
def Anys {α : Type} (l : List α) (G : α → Bool → Prop) (b : Bool) : Prop := (b = true ∧ ∃ a ∈ l, G a true) ∨ (b = false ∧ ∀ a ∈ l, G a false)
theorem Anys.det {α : Type} {l : List α} {G : α → Bool → Prop} {p : α → Bool} {b : Bool} (h : Anys l G b) (hg : ∀ a b, G a b → b = p a) : b = l.any p := by
  rcases h with ⟨rfl, a, ha, h1⟩ | ⟨rfl, h1⟩
  · exact (List.any_eq_true.2 ⟨a, ha, (hg a true h1).symm⟩).symm
  · symm
    rw [List.any_eq_false]
    intro a ha
    rw [← hg a false (h1 a ha)]
    decide
theorem alls_snoc {α : Type} {l : List α} {k : Nat} {a : α} {P : α → Prop} (h : ∀ x ∈ l.take k, P x) (hk : l[k]? = some a) (ha : P a) : ∀ x ∈ l.take (k + 1), P x := by
  rw [List.take_add_one, hk]
  intro x hx
  rcases List.mem_append.1 hx with hx | hx
  · exact h x hx
  · simp at hx; subst hx; exact ha

def IdxPost {α : Type} (l : List α) (G : α → Bool → Prop) (e : Ending) : Prop := ∃ (n : Int) (b : Bool), decide (0 ≤ n) = b ∧ Anys l G b ∧ e = .returned (.int .i64 n)
def BoolPost (R : Bool → Prop) (e : Ending) : Prop := ∃ b, R b ∧ e = .returned (.bool b)
def NumPost (R : Int → Prop) (e : Ending) : Prop := ∃ n, R n ∧ e = .returned (.int .i64 n)
set_option maxHeartbeats 2000000 in
set_option maxRecDepth 100000 in
theorem depIndex_any (f : FuncId) (ef : ∀ args w, (callFunc f args).run Tryz.prog w = .ok (.enter f args) w) (G : Dep → Bool → Prop) (ds : List Dep) (A : Option Addr) (c : Nat) (S : Nat → Prop) (w0 : World) (hA : ArgsAt w0 S ds A) (hl : ds.length ≤ c) (hc : c ≤ maxLen)
    (hp : ∀ d ∈ ds, ∀ (t : Value) (w : World), Below w0.heap.size w0 w → Lay w S d t → Calls Tryz.prog f #[.agg (rowD d t)] w fun e w' => BoolPost (G d) e ∧ Below w.heap.size w w') :
    Calls Tryz.prog 136 #[.slice A ds.length c, .func (.func f) #[] #[]] w0 fun e w' => IdxPost ds G e ∧ Below w0.heap.size w0 w' := by
  unfold maxLen at hc
  rcases Nat.eq_zero_or_pos ds.length with h0 | h0
  · obtain rfl := List.eq_nil_of_length_eq_zero h0
    clear hA h0 hp
    go_enter Tryz.func136, Tryz.ntmps136
    go_wp2_with fail
    go_loop [8] (fun i => i = .int .i64 0) (fun i => 0)
    case atStart => rfl
    case round =>
      subst hrel
      go_wp2_with fail
      go_ret
      exact ⟨⟨-1, false, by decide, .inr ⟨rfl, by simp⟩, rfl⟩, Below.refl _ _⟩
  obtain ⟨b, o, -, rfl, -, -, -⟩ := hA 0 ds[0] (List.getElem?_eq_getElem h0)
  have HA : Hid (∀ (k : Nat) (hk : k < ds.length), ∃ t, S b ∧ CellsD w0 b (o + k * 5) ds[k] t ∧ Lay w0 S ds[k] t) := fun k hk => by
    obtain ⟨b', o', t, e, h1, h2, h3⟩ := hA k ds[k] (List.getElem?_eq_getElem hk)
    injection e with e
    injection e with e1 e2
    subst e1; subst e2
    exact ⟨t, h1, h2, h3⟩
  have HPr := Lib.hid hp
  clear hA hp
  go_enter Tryz.func136, Tryz.ntmps136
  go_wp2_with fail
  go_loopw [8] (fun i wx => ∃ k : Nat, k ≤ ds.length ∧ i = .int .i64 (k : Int) ∧ Hid (∀ a ∈ ds.take k, G a false) ∧ Hid (Below w0.heap.size w0 wx)) (fun i _ => ds.length - (intOf i).toNat)
  case atStart => exact ⟨0, Nat.zero_le _, rfl, show ∀ a ∈ ds.take 0, G a false from by simp, Below.refl _ _⟩
  case round =>
    obtain ⟨k, hk, rfl, hall, hb⟩ := hrel
    by_cases hlt : k < ds.length
    · obtain ⟨t, hS, hC, hL⟩ := HA.out k hlt
      have hC2 := hC.stay (hb.out.block b hC.lt)
      have hL2 := hL.stay (fun _ h => h) (StayS.below' hb.out)
      obtain ⟨c0, c1, c2, c3, c4⟩ := hC2
      have C := Lib.hid (HPr.out ds[k] (List.getElem_mem hlt) t wr hb.out hL2)
      unfold rowD at C
      have hz := hb.out.size
      clear hS hC hL hL2
      go_wp2_with fail
      refine C.out.mono ?_
      rintro e w1 ⟨⟨bb, hg, rfl⟩, hb1⟩
      have HB : Hid (Below w0.heap.size w0 w1) := hb.out.trans (hb1.mono hz)
      clear hb1 hb C c0 c1 c2 c3 c4
      have HG := Lib.hid hg
      clear hg
      cases bb with
      | false =>
        have HN : Hid (∀ a ∈ ds.take (k + 1), G a false) := alls_snoc hall.out (List.getElem?_eq_getElem hlt) HG.out
        clear hall HG
        go_wp2_with fail
        go_roundw
        case rel => exact ⟨k + 1, by omega, by go_num, HN, HB⟩
        case measure => simp [intOf]; omega
      | true =>
        have HN : Hid (Anys ds G true) := .inl ⟨rfl, ds[k], List.getElem_mem hlt, HG.out⟩
        clear hall HG
        go_wp2_with fail
        go_ret
        exact ⟨⟨k, true, by simp, HN.out, rfl⟩, HB.out⟩
    · have HN : Hid (Anys ds G false) := .inr ⟨rfl, by
        have := hall.out
        rwa [List.take_of_length_le (by omega)] at this⟩
      clear hall
      go_wp2_with fail
      go_ret
      exact ⟨⟨-1, false, by decide, HN.out, rfl⟩, hb.out⟩
set_option maxHeartbeats 1000000 in
set_option maxRecDepth 100000 in
theorem depContains_any (f : FuncId) (ef : ∀ args w, (callFunc f args).run Tryz.prog w = .ok (.enter f args) w) (G : Dep → Bool → Prop) (ds : List Dep) (A : Option Addr) (c : Nat) (S : Nat → Prop) (w0 : World) (hA : ArgsAt w0 S ds A) (hl : ds.length ≤ c) (hc : c ≤ maxLen)
    (hp : ∀ d ∈ ds, ∀ (t : Value) (w : World), Below w0.heap.size w0 w → Lay w S d t → Calls Tryz.prog f #[.agg (rowD d t)] w fun e w' => BoolPost (G d) e ∧ Below w.heap.size w w') :
    Calls Tryz.prog 73 #[.slice A ds.length c, .func (.func f) #[] #[]] w0 fun e w' => BoolPost (Anys ds G) e ∧ Below w0.heap.size w0 w' := by
  have C := Lib.hid (depIndex_any f ef G ds A c S w0 hA hl hc hp)
  clear hA hp
  go_enter Tryz.func73, Tryz.ntmps73
  go_wp2_with fail
  refine C.out.mono ?_
  rintro e w1 ⟨⟨n, b, hn, ha, rfl⟩, hb1⟩
  have HB := Lib.hid hb1
  have HN := Lib.hid hn
  have HA := Lib.hid ha
  clear hb1 hn C ha
  go_wp2_with fail
  go_ret
  exact ⟨⟨b, HA.out, ret_bool HN.out⟩, HB.out⟩

/-- Texts in a row: each in a block of T. -/
def TextsAt (w : World) (T : Nat → Prop) (fl : List ByteArray) (A : Option Addr) : Prop := ∀ k s, fl[k]? = some s → ∃ b o, A = some ⟨b, o, none⟩ ∧ T b ∧ w.cell? ⟨b, o + k, none⟩ = some (.string s)
theorem TextsAt.stay {w w' : World} {T T' : Nat → Prop} {fl : List ByteArray} {A : Option Addr} (h : TextsAt w T fl A) (hT : ∀ b, T b → T' b) (hw : ∀ b, T b → b < w.heap.size → w'.heap[b]? = w.heap[b]?) : TextsAt w' T' fl A := fun k s hk => by
  obtain ⟨b, o, e, h1, h2⟩ := h k s hk
  exact ⟨b, o, e, hT b h1, (World.cell?_of_block (hw b h1 (cell_lt h2))).trans h2⟩
theorem TextsAt.below {w w' : World} {T : Nat → Prop} {fl : List ByteArray} {A : Option Addr} (h : TextsAt w T fl A) (hb : Below w.heap.size w w') : TextsAt w' T fl A := h.stay (fun _ h => h) (fun b _ hl => hb.block b hl)

set_option maxHeartbeats 2000000 in
set_option maxRecDepth 100000 in
theorem strIndex_any (f : FuncId) (ef : ∀ args w, (callFunc f args).run Tryz.prog w = .ok (.enter f args) w) (G : ByteArray → Bool → Prop) (ds : List ByteArray) (A : Option Addr) (c : Nat) (T : Nat → Prop) (w0 : World) (hA : TextsAt w0 T ds A) (hl : ds.length ≤ c) (hc : c ≤ maxLen)
    (hp : ∀ d ∈ ds, ∀ (w : World), Below w0.heap.size w0 w → Calls Tryz.prog f #[.string d] w fun e w' => BoolPost (G d) e ∧ Below w.heap.size w w') :
    Calls Tryz.prog 134 #[.slice A ds.length c, .func (.func f) #[] #[]] w0 fun e w' => IdxPost ds G e ∧ Below w0.heap.size w0 w' := by
  unfold maxLen at hc
  rcases Nat.eq_zero_or_pos ds.length with h0 | h0
  · obtain rfl := List.eq_nil_of_length_eq_zero h0
    clear hA h0 hp
    go_enter Tryz.func134, Tryz.ntmps134
    go_wp2_with fail
    go_loop [8] (fun i => i = .int .i64 0) (fun i => 0)
    case atStart => rfl
    case round =>
      subst hrel
      go_wp2_with fail
      go_ret
      exact ⟨⟨-1, false, by decide, .inr ⟨rfl, by simp⟩, rfl⟩, Below.refl _ _⟩
  obtain ⟨b, o, rfl, -, -⟩ := hA 0 ds[0] (List.getElem?_eq_getElem h0)
  have HA : Hid (∀ (k : Nat) (hk : k < ds.length), w0.cell? ⟨b, o + k, none⟩ = some (.string ds[k])) := fun k hk => by
    obtain ⟨b', o', e, h1, h2⟩ := hA k ds[k] (List.getElem?_eq_getElem hk)
    injection e with e
    injection e with e1 e2
    subst e1; subst e2
    exact h2
  have HPr := Lib.hid hp
  clear hA hp
  go_enter Tryz.func134, Tryz.ntmps134
  go_wp2_with fail
  go_loopw [8] (fun i wx => ∃ k : Nat, k ≤ ds.length ∧ i = .int .i64 (k : Int) ∧ Hid (∀ a ∈ ds.take k, G a false) ∧ Hid (Below w0.heap.size w0 wx)) (fun i _ => ds.length - (intOf i).toNat)
  case atStart => exact ⟨0, Nat.zero_le _, rfl, show ∀ a ∈ ds.take 0, G a false from by simp, Below.refl _ _⟩
  case round =>
    obtain ⟨k, hk, rfl, hall, hb⟩ := hrel
    by_cases hlt : k < ds.length
    · have hC := HA.out k hlt
      have c0 := (World.cell?_of_block (hb.out.block b (cell_lt hC))).trans hC
      have C := Lib.hid (HPr.out ds[k] (List.getElem_mem hlt) wr hb.out)
      have hz := hb.out.size
      clear hC
      go_wp2_with fail
      refine C.out.mono ?_
      rintro e w1 ⟨⟨bb, hg, rfl⟩, hb1⟩
      have HB : Hid (Below w0.heap.size w0 w1) := hb.out.trans (hb1.mono hz)
      clear hb1 hb C c0
      have HG := Lib.hid hg
      clear hg
      cases bb with
      | false =>
        have HN : Hid (∀ a ∈ ds.take (k + 1), G a false) := alls_snoc hall.out (List.getElem?_eq_getElem hlt) HG.out
        clear hall HG
        go_wp2_with fail
        go_roundw
        case rel => exact ⟨k + 1, by omega, by go_num, HN, HB⟩
        case measure => simp [intOf]; omega
      | true =>
        have HN : Hid (Anys ds G true) := .inl ⟨rfl, ds[k], List.getElem_mem hlt, HG.out⟩
        clear hall HG
        go_wp2_with fail
        go_ret
        exact ⟨⟨k, true, by simp, HN.out, rfl⟩, HB.out⟩
    · have HN : Hid (Anys ds G false) := .inr ⟨rfl, by
        have := hall.out
        rwa [List.take_of_length_le (by omega)] at this⟩
      clear hall
      go_wp2_with fail
      go_ret
      exact ⟨⟨-1, false, by decide, HN.out, rfl⟩, hb.out⟩
set_option maxHeartbeats 1000000 in
set_option maxRecDepth 100000 in
theorem strContains_any (f : FuncId) (ef : ∀ args w, (callFunc f args).run Tryz.prog w = .ok (.enter f args) w) (G : ByteArray → Bool → Prop) (ds : List ByteArray) (A : Option Addr) (c : Nat) (T : Nat → Prop) (w0 : World) (hA : TextsAt w0 T ds A) (hl : ds.length ≤ c) (hc : c ≤ maxLen)
    (hp : ∀ d ∈ ds, ∀ (w : World), Below w0.heap.size w0 w → Calls Tryz.prog f #[.string d] w fun e w' => BoolPost (G d) e ∧ Below w.heap.size w w') :
    Calls Tryz.prog 70 #[.slice A ds.length c, .func (.func f) #[] #[]] w0 fun e w' => BoolPost (Anys ds G) e ∧ Below w0.heap.size w0 w' := by
  have C := Lib.hid (strIndex_any f ef G ds A c T w0 hA hl hc hp)
  clear hA hp
  go_enter Tryz.func70, Tryz.ntmps70
  go_wp2_with fail
  refine C.out.mono ?_
  rintro e w1 ⟨⟨n, b, hn, ha, rfl⟩, hb1⟩
  have HB := Lib.hid hb1
  have HN := Lib.hid hn
  have HA := Lib.hid ha
  clear hb1 hn C ha
  go_wp2_with fail
  go_ret
  exact ⟨⟨b, HA.out, ret_bool HN.out⟩, HB.out⟩
end Go.Proofs.YtljldbdjkjllhaaGreatDoor.Ev
