/- Parts of the proof. -/
import Derived.Test.YtdhgiammfpjniaaGreatDoorZraf
import Derived.Test.YtdhgiammfpjniaaGreatDoorZrag
namespace Go.Proofs.YtdhgiammfpjniaaGreatDoor.Ev
set_option linter.unusedSimpArgs false
set_option linter.unusedVariables false
open Go.RowKit
def acQn : List ByteArray → ByteArray → Nat → Int
 | [], _, _ => 0
 | a :: r, s, i => if a = s then (i : Int) else acQn r s (i + 1)
theorem acQe {a b : ByteArray} (h : a = b) : (a.toList == b.toList) = true := by subst h; simp
set_option maxHeartbeats 2000000 in
set_option maxRecDepth 100000 in
theorem aiQe (a0 a1 a2 a3 a4 a5 a6 a7 s : ByteArray) (w : World) : Calls Tryz.prog 120 #[.agg #[.string a0, .string a1, .string a2, .string a3, .string a4, .string a5, .string a6, .string a7], .string s] w fun e w' =>
 e = .returned (.int .i64 (acQn [a0, a1, a2, a3, a4, a5, a6, a7] s 0)) ∧ Below w.heap.size w w' := by
 obtain ⟨x, hx⟩ : ∃ x, x = acQn [a0, a1, a2, a3, a4, a5, a6, a7] s 0 := ⟨_, rfl⟩
 rw [← hx]
 have HB : Hid (Below w.heap.size w (w.alloc (.cells #[.string a0, .string a1, .string a2, .string a3, .string a4, .string a5, .string a6, .string a7] 146))) := (Below.refl _ _).alloc (Nat.le_refl _) _
 have HX := hQQ hx
 have ix0 : ∀ w, (Instr.index 146 (.agg #[.string a0, .string a1, .string a2, .string a3, .string a4, .string a5, .string a6, .string a7]) (.int .i64 0)).run Tryz.prog w = .ok (.string a0) w := fun _ => by kernel_rfl
 have ix1 : ∀ w, (Instr.index 146 (.agg #[.string a0, .string a1, .string a2, .string a3, .string a4, .string a5, .string a6, .string a7]) (.int .i64 1)).run Tryz.prog w = .ok (.string a1) w := fun _ => by kernel_rfl
 have ix2 : ∀ w, (Instr.index 146 (.agg #[.string a0, .string a1, .string a2, .string a3, .string a4, .string a5, .string a6, .string a7]) (.int .i64 2)).run Tryz.prog w = .ok (.string a2) w := fun _ => by kernel_rfl
 have ix3 : ∀ w, (Instr.index 146 (.agg #[.string a0, .string a1, .string a2, .string a3, .string a4, .string a5, .string a6, .string a7]) (.int .i64 3)).run Tryz.prog w = .ok (.string a3) w := fun _ => by kernel_rfl
 have ix4 : ∀ w, (Instr.index 146 (.agg #[.string a0, .string a1, .string a2, .string a3, .string a4, .string a5, .string a6, .string a7]) (.int .i64 4)).run Tryz.prog w = .ok (.string a4) w := fun _ => by kernel_rfl
 have ix5 : ∀ w, (Instr.index 146 (.agg #[.string a0, .string a1, .string a2, .string a3, .string a4, .string a5, .string a6, .string a7]) (.int .i64 5)).run Tryz.prog w = .ok (.string a5) w := fun _ => by kernel_rfl
 have ix6 : ∀ w, (Instr.index 146 (.agg #[.string a0, .string a1, .string a2, .string a3, .string a4, .string a5, .string a6, .string a7]) (.int .i64 6)).run Tryz.prog w = .ok (.string a6) w := fun _ => by kernel_rfl
 have ix7 : ∀ w, (Instr.index 146 (.agg #[.string a0, .string a1, .string a2, .string a3, .string a4, .string a5, .string a6, .string a7]) (.int .i64 7)).run Tryz.prog w = .ok (.string a7) w := fun _ => by kernel_rfl
 clear hx
 go_enter Tryz.func120, Tryz.ntmps120
 go_wp2_with fail
 generalize w.alloc (.cells #[.string a0, .string a1, .string a2, .string a3, .string a4, .string a5, .string a6, .string a7] 146) = w1 at *
 go_loop [8] (fun i => ∃ k : Nat, k ≤ 8 ∧ i = .int .i64 (k : Int) ∧ Hid (x = acQn ([a0, a1, a2, a3, a4, a5, a6, a7].drop k) s k)) (fun i => 8 - (intOf i).toNat)
 case atStart => exact ⟨0, Nat.zero_le _, rfl, HX⟩
 case round =>
  obtain ⟨k, hk, rfl, hn⟩ := hrel
  have hk' : k = 0 ∨ k = 1 ∨ k = 2 ∨ k = 3 ∨ k = 4 ∨ k = 5 ∨ k = 6 ∨ k = 7 ∨ k = 8 := by omega
  rcases hk' with rfl | rfl | rfl | rfl | rfl | rfl | rfl | rfl | rfl
  case inr.inr.inr.inr.inr.inr.inr.inr =>
   go_wp2_with fail
   go_ret
   exact ⟨by rw [hn.out]; rfl, HB.out⟩
  all_goals clear HX
  ·clear ix1 ix2 ix3 ix4 ix5 ix6 ix7
   by_cases h : a0 = s
   ·have t1 := acQe h
    have HV : Hid (x = 0) := hn.out.trans (if_pos h)
    clear h hn
    go_wp2_with fail
    go_ret
    exact ⟨by rw [HV.out]; rfl, HB.out⟩
   ·have t1 := adQc h
    have HV : Hid (x = acQn [a1, a2, a3, a4, a5, a6, a7] s 1) := hn.out.trans (if_neg h)
    clear h hn
    go_wp2_with fail
    go_round
    case rel => exact ⟨1, by omega, rfl, HV⟩
    case measure => simp [intOf]
  ·clear ix0 ix2 ix3 ix4 ix5 ix6 ix7
   by_cases h : a1 = s
   ·have t1 := acQe h
    have HV : Hid (x = 1) := hn.out.trans (if_pos h)
    clear h hn
    go_wp2_with fail
    go_ret
    exact ⟨by rw [HV.out]; rfl, HB.out⟩
   ·have t1 := adQc h
    have HV : Hid (x = acQn [a2, a3, a4, a5, a6, a7] s 2) := hn.out.trans (if_neg h)
    clear h hn
    go_wp2_with fail
    go_round
    case rel => exact ⟨2, by omega, rfl, HV⟩
    case measure => simp [intOf]
  ·clear ix0 ix1 ix3 ix4 ix5 ix6 ix7
   by_cases h : a2 = s
   ·have t1 := acQe h
    have HV : Hid (x = 2) := hn.out.trans (if_pos h)
    clear h hn
    go_wp2_with fail
    go_ret
    exact ⟨by rw [HV.out]; rfl, HB.out⟩
   ·have t1 := adQc h
    have HV : Hid (x = acQn [a3, a4, a5, a6, a7] s 3) := hn.out.trans (if_neg h)
    clear h hn
    go_wp2_with fail
    go_round
    case rel => exact ⟨3, by omega, rfl, HV⟩
    case measure => simp [intOf]
  ·clear ix0 ix1 ix2 ix4 ix5 ix6 ix7
   by_cases h : a3 = s
   ·have t1 := acQe h
    have HV : Hid (x = 3) := hn.out.trans (if_pos h)
    clear h hn
    go_wp2_with fail
    go_ret
    exact ⟨by rw [HV.out]; rfl, HB.out⟩
   ·have t1 := adQc h
    have HV : Hid (x = acQn [a4, a5, a6, a7] s 4) := hn.out.trans (if_neg h)
    clear h hn
    go_wp2_with fail
    go_round
    case rel => exact ⟨4, by omega, rfl, HV⟩
    case measure => simp [intOf]
  ·clear ix0 ix1 ix2 ix3 ix5 ix6 ix7
   by_cases h : a4 = s
   ·have t1 := acQe h
    have HV : Hid (x = 4) := hn.out.trans (if_pos h)
    clear h hn
    go_wp2_with fail
    go_ret
    exact ⟨by rw [HV.out]; rfl, HB.out⟩
   ·have t1 := adQc h
    have HV : Hid (x = acQn [a5, a6, a7] s 5) := hn.out.trans (if_neg h)
    clear h hn
    go_wp2_with fail
    go_round
    case rel => exact ⟨5, by omega, rfl, HV⟩
    case measure => simp [intOf]
  ·clear ix0 ix1 ix2 ix3 ix4 ix6 ix7
   by_cases h : a5 = s
   ·have t1 := acQe h
    have HV : Hid (x = 5) := hn.out.trans (if_pos h)
    clear h hn
    go_wp2_with fail
    go_ret
    exact ⟨by rw [HV.out]; rfl, HB.out⟩
   ·have t1 := adQc h
    have HV : Hid (x = acQn [a6, a7] s 6) := hn.out.trans (if_neg h)
    clear h hn
    go_wp2_with fail
    go_round
    case rel => exact ⟨6, by omega, rfl, HV⟩
    case measure => simp [intOf]
  ·clear ix0 ix1 ix2 ix3 ix4 ix5 ix7
   by_cases h : a6 = s
   ·have t1 := acQe h
    have HV : Hid (x = 6) := hn.out.trans (if_pos h)
    clear h hn
    go_wp2_with fail
    go_ret
    exact ⟨by rw [HV.out]; rfl, HB.out⟩
   ·have t1 := adQc h
    have HV : Hid (x = acQn [a7] s 7) := hn.out.trans (if_neg h)
    clear h hn
    go_wp2_with fail
    go_round
    case rel => exact ⟨7, by omega, rfl, HV⟩
    case measure => simp [intOf]
  ·clear ix0 ix1 ix2 ix3 ix4 ix5 ix6
   by_cases h : a7 = s
   ·have t1 := acQe h
    have HV : Hid (x = 7) := hn.out.trans (if_pos h)
    clear h hn
    go_wp2_with fail
    go_ret
    exact ⟨by rw [HV.out]; rfl, HB.out⟩
   ·have t1 := adQc h
    have HV : Hid (x = acQn [] s 8) := hn.out.trans (if_neg h)
    clear h hn
    go_wp2_with fail
    go_round
    case rel => exact ⟨8, by omega, rfl, HV⟩
    case measure => simp [intOf]
def wordsRow : Array Value := #[.string ⟨#[]⟩, .string ⟨#[]⟩, .string (mkS wAnd), .string (mkS wOr), .string (mkS wIf), .string (mkS wWith), .string (mkS aaQ1), .string ⟨#[]⟩]
def signsRow : Array Value := #[.string ⟨#[]⟩, .string (mkS [60]), .string (mkS [61]), .string (mkS [60, 61]), .string (mkS [62]), .string (mkS [60, 62]), .string (mkS [62, 61]), .string (mkS [60, 61, 62])]
def WordsAt (w : World) : Prop := ∃ t, Blk w 2 t wordsRow
def SignsAt (w : World) : Prop := ∃ t, Blk w 3 t signsRow
theorem WordsAt.cell {w : World} (h : WordsAt w) (i : Nat) : w.cell? ⟨2, i, none⟩ = (#[.string ⟨#[]⟩, .string ⟨#[]⟩, .string (mkS wAnd), .string (mkS wOr), .string (mkS wIf), .string (mkS wWith), .string (mkS aaQ1), .string ⟨#[]⟩] : Array Value)[i]? := by
 obtain ⟨t, h⟩ := h
 exact Blk.cell h i
theorem SignsAt.cell {w : World} (h : SignsAt w) (i : Nat) : w.cell? ⟨3, i, none⟩ = (#[.string ⟨#[]⟩, .string (mkS [60]), .string (mkS [61]), .string (mkS [60, 61]), .string (mkS [62]), .string (mkS [60, 62]), .string (mkS [62, 61]), .string (mkS [60, 61, 62])] : Array Value)[i]? := by
 obtain ⟨t, h⟩ := h
 exact Blk.cell h i
theorem SignsAt.below {B : Nat} {w w' : World} (h : SignsAt w) (hb : Below B w w') (hB : 3 < B) : SignsAt w' := by
 obtain ⟨t, h⟩ := h
 exact ⟨t, Blk.below h hb hB⟩
structure Tabs (w : World) : Prop where
 words : WordsAt w
 signs : SignsAt w
theorem Tabs.two {w : World} (h : Tabs w) : 4 ≤ w.heap.size := by
 obtain ⟨_, h1⟩ := h.signs
 obtain ⟨_, h2⟩ := h.words
 have := Blk.lt h1
 have := Blk.lt h2
 omega
theorem Tabs.turned {F : List Nat} {w w' : World} (h : Tabs w) (ht : Turned F w w') (hF : ∀ k ∈ F, 4 ≤ k) : Tabs w' := by
 obtain ⟨⟨t1, h1⟩, t2, h2⟩ := h
 exact ⟨⟨t1, h1.turned ht (fun hm => by have := hF _ hm; omega)⟩, t2, h2.turned ht (fun hm => by have := hF _ hm; omega)⟩
theorem Tabs.below {B : Nat} {w w' : World} (h : Tabs w) (hb : Below B w w') (hB : 4 ≤ B) : Tabs w' := by
 obtain ⟨⟨t1, h1⟩, t2, h2⟩ := h
 exact ⟨⟨t1, Blk.below h1 hb (by omega)⟩, t2, Blk.below h2 hb (by omega)⟩
theorem mkS_eq {l : List UInt8} {s : ByteArray} : (mkS l = s) ↔ s.data.toList = l := by
 constructor
 ·rintro rfl; rfl
 ·intro h; rw [← h]; rfl
theorem nil_eq {s : ByteArray} : ((⟨#[]⟩ : ByteArray) = s) ↔ s.data.toList = [] := by
 constructor
 ·rintro rfl; rfl
 ·intro h; exact (abQi h).symm
theorem firstW (s : ByteArray) : acQn [⟨#[]⟩, ⟨#[]⟩, mkS wAnd, mkS wOr, mkS wIf, mkS wWith, mkS aaQ1, ⟨#[]⟩] s 0 = numW s.data.toList := by
 simp only [acQn, mkS_eq, nil_eq]
 unfold numW
 by_cases h0 : s.data.toList = []
 ·rw [h0]; decide
 ·simp only [h0, if_false]
  repeat' split
  all_goals rfl
theorem firstG (s : ByteArray) : acQn [⟨#[]⟩, mkS [60], mkS [61], mkS [60, 61], mkS [62], mkS [60, 62], mkS [62, 61], mkS [60, 61, 62]] s 0 = numS s.data.toList := by
 simp only [acQn, mkS_eq, nil_eq]
 unfold numS
 by_cases h0 : s.data.toList = []
 ·rw [h0]; decide
 ·simp only [h0, if_false]
  repeat' split
  all_goals rfl
theorem anQn (s : ByteArray) (w : World) : Calls Tryz.prog 120 #[.agg #[.string ⟨#[]⟩, .string ⟨#[]⟩, .string (mkS wAnd), .string (mkS wOr), .string (mkS wIf), .string (mkS wWith), .string (mkS aaQ1), .string ⟨#[]⟩], .string s] w fun e w' =>
 e = .returned (.int .i64 (numW s.data.toList)) ∧ Below w.heap.size w w' := by rw [← firstW]; exact aiQe _ _ _ _ _ _ _ _ s w
theorem anQo (s : ByteArray) (w : World) : Calls Tryz.prog 120 #[.agg #[.string ⟨#[]⟩, .string (mkS [60]), .string (mkS [61]), .string (mkS [60, 61]), .string (mkS [62]), .string (mkS [60, 62]), .string (mkS [62, 61]), .string (mkS [60, 61, 62])], .string s] w fun e w' =>
 e = .returned (.int .i64 (numS s.data.toList)) ∧ Below w.heap.size w w' := by rw [← firstG]; exact aiQe _ _ _ _ _ _ _ _ s w
def abQf (n : Int) : Ending := .panicked [{ v := .iface 24 (.int .i64 n), recovered := false }]
set_option maxRecDepth 100000 in
theorem agQm (w : World) : Calls Tryz.prog 217 #[.bool true] w fun e w' => e = .returned (.tuple #[]) ∧ w = w' := by
 go_enter Tryz.func217, Tryz.ntmps217
 go_wp2_with fail
 go_end0
 exact ⟨rfl, rfl⟩
set_option maxRecDepth 100000 in
theorem ahQf (w : World) : Calls Tryz.prog 217 #[.bool false] w fun e w' => e = abQf 50 ∧ w = w' := by
 go_enter Tryz.func217, Tryz.ntmps217
 go_wp2_with fail
 exact ⟨rfl, ⟨rfl, rfl⟩⟩
def kindB (k : Int) : Prop := 0 ≤ k ∧ k ≤ 7
set_option maxHeartbeats 1000000 in
set_option maxRecDepth 100000 in
theorem amQ7 (k : Int) (n : Nat) (hk : kindB k) (w : World) (hT : WordsAt w) : Calls Tryz.prog 218 #[.int .i64 k, .int .i64 (n : Int)] w fun e w' => e = .returned (.string (mkS (btw k n))) ∧ w = w' := by
 have c0 := hT.cell 0
 have c1 := hT.cell 1
 have c2 := hT.cell 2
 have c3 := hT.cell 3
 have c4 := hT.cell 4
 have c5 := hT.cell 5
 have c6 := hT.cell 6
 have c7 := hT.cell 7
 have hk' : k = 0 ∨ k = 1 ∨ k = 2 ∨ k = 3 ∨ k = 4 ∨ k = 5 ∨ k = 6 ∨ k = 7 := by have := hk.1; have := hk.2; omega
 clear hT hk
 rcases hk' with rfl | rfl | rfl | rfl | rfl | rfl | rfl | rfl
 case inr.inr.inr.inr.inl =>
  by_cases hn : n = 2
  ·subst hn
   go_enter Tryz.func218, Tryz.ntmps218
   go_wp2_with fail
   go_ret
   exact ⟨rfl, rfl⟩
  ·have h1 : btw 4 n = wIf := by unfold btw; rw [if_neg (fun e => hn e.2)]; rfl
   have t1 : ((n : Int) == 2) = false := beq_eq_false_iff_ne.2 (by omega)
   rw [h1]
   clear h1 hn
   go_enter Tryz.func218, Tryz.ntmps218
   go_wp2_with fail
   go_ret
   exact ⟨rfl, rfl⟩
 all_goals
  go_enter Tryz.func218, Tryz.ntmps218
  go_wp2_with fail
  go_ret
  exact ⟨rfl, rfl⟩
end Go.Proofs.YtdhgiammfpjniaaGreatDoor.Ev
namespace Go.Proofs.YtdhgiammfpjniaaGreatDoor.Ev
set_option linter.unusedSimpArgs false
set_option linter.unusedVariables false
open Go.RowKit
theorem aqQc {s : ByteArray} {k o : Nat} (h : k < s.size) : scan o (s.data.toList.drop k) = if s[k] < 33 ∨ 126 < s[k] then false else if s[k] = 40 then scan (o + 1) (s.data.toList.drop (k + 1)) else if s[k] = 41 then (if o = 0 then false else scan (o - 1) (s.data.toList.drop (k + 1))) else scan o (s.data.toList.drop (k + 1)) := by
 have h1 := aaQw h
 have h2 : s.data.toList.drop k = s[k] :: s.data.toList.drop (k + 1) := by
  rw [List.drop_eq_getElem_cons (by rw [aaQd]; exact h)]
  rw [List.getElem?_eq_getElem (by rw [aaQd]; exact h)] at h1
  injection h1 with h1
  rw [h1]
 rw [h2]
 simp only [scan]
theorem u8_lt {c : UInt8} {n : Nat} (hn : n < 256) : (decide ((c.toNat : Int) < (n : Int))) = decide (c < UInt8.ofNat n) := by
 rw [Bool.eq_iff_iff]
 simp only [decide_eq_true_eq, UInt8.lt_iff_toNat_lt]
 rw [UInt8.toNat_ofNat_of_lt' hn]
 omega
theorem akQz {l : Wd} (h1 : 1 ≤ l.length) (h2 : l.length ≤ 60) (h3 : l.head? ≠ some 40) (h4 : l ≠ wElse) (h5 : numW l = 0) (h6 : numS l = 0) : nameB l = scan 0 l := by
 unfold nameB
 simp [h1, h2, h3, h4, h5, h6]
theorem acQy {l : Wd} (h : l.length = 0 ∨ 60 < l.length ∨ l.head? = some 40 ∨ l = wElse ∨ numW l ≠ 0 ∨ numS l ≠ 0) : nameB l = false := by
 cases hn : nameB l with
 | false => rfl
 | true =>
   unfold nameB at hn
   simp only [Bool.and_eq_true, decide_eq_true_eq] at hn
   obtain ⟨⟨⟨⟨⟨⟨a1, a2⟩, a3⟩, a4⟩, a5⟩, a6⟩, a7⟩ := hn
   rcases h with h | h | h | h | h | h
   ·omega
   ·omega
   ·exact absurd h a3
   ·exact absurd h a4
   ·exact absurd a5 h
   ·exact absurd a6 h
theorem ahQm {s : ByteArray} (h : 0 < s.size) : s.data.toList.head? = some s[0] := by rw [adQg h]; rfl
theorem aaQx {s : ByteArray} {l : List UInt8} (h : s.data.toList = l) : s = ⟨l.toArray⟩ := by rw [← h]
theorem aaQr {s : ByteArray} {l : List UInt8} (h : s.data.toList ≠ l) : (s.toList == (⟨l.toArray⟩ : ByteArray).toList) = false := adQc fun e => h (by rw [e])
set_option maxHeartbeats 4000000 in
set_option maxRecDepth 100000 in
theorem agQl (s : ByteArray) (w : World) (hT : Tabs w) : Calls Tryz.prog 58 #[.string s] w fun e w' => e = .returned (.bool (nameB s.data.toList)) ∧ Below w.heap.size w w' := by
 obtain ⟨x, hx⟩ : ∃ x, x = nameB s.data.toList := ⟨_, rfl⟩
 rw [← hx]
 have HX := hQQ hx
 clear hx
 by_cases h0 : s.size = 0
 ·obtain rfl := afQa h0
  have HV : Hid (x = false) := HX.out.trans (acQy (.inl rfl))
  clear HX h0 hT
  go_enter Tryz.func58, Tryz.ntmps58
  go_wp2_with fail
  go_ret
  exact ⟨by rw [HV.out]; rfl, Below.refl _ _⟩
 have hp : 0 < s.size := by omega
 have e0 : s.toList.isEmpty = false ∧ ¬ s.toList = [] ∧ s.data.toList ≠ [] := abQg h0
 obtain ⟨b1, b2, b3⟩ := e0
 by_cases h60 : 60 < s.size
 ·have HV : Hid (x = false) := HX.out.trans (acQy (.inr (.inl (by rw [aaQd]; exact h60))))
  have t60 : (60 : Int) < (s.size : Int) := by omega
  clear HX hT
  go_enter Tryz.func58, Tryz.ntmps58
  go_wp2_with fail
  go_ret
  exact ⟨by rw [HV.out]; rfl, Below.refl _ _⟩
 have t60 : ¬ (60 : Int) < (s.size : Int) := by omega
 by_cases h40 : s[0] = 40
 ·obtain ⟨t1, _⟩ := abQu (n := 40) rfl h40
  have HV : Hid (x = false) := HX.out.trans (acQy (.inr (.inr (.inl (by rw [ahQm hp, h40])))))
  clear HX hT h40
  go_enter Tryz.func58, Tryz.ntmps58
  go_wp2_with fail
  go_ret
  exact ⟨by rw [HV.out]; rfl, Below.refl _ _⟩
 obtain ⟨t1, _⟩ := aaQ6 (n := 40) rfl h40
 by_cases he : s.data.toList = wElse
 ·have HV : Hid (x = false) := HX.out.trans (acQy (.inr (.inr (.inr (.inl he)))))
  have t2 := acQe (aaQx he)
  obtain rfl := aaQx he
  clear HX hT he
  go_enter Tryz.func58, Tryz.ntmps58
  go_wp2_with fail
  go_ret
  exact ⟨by rw [HV.out]; rfl, Below.refl _ _⟩
 have t2 : (s.toList == (⟨#[101, 108, 115, 101]⟩ : ByteArray).toList) = false := aaQr he
 have t3 : (s.toList == [101, 108, 115, 101]) = false := by rw [ByteArray.toList_eq]; exact beq_eq_false_iff_ne.2 he
 have t4 : ¬ s.toList = [101, 108, 115, 101] := by rw [ByteArray.toList_eq]; exact he
 have CW := hQQ (fun w => anQn s w)
 have CS := hQQ (fun w => anQo s w)
 have w0 := hT.words.cell 0
 have w1 := hT.words.cell 1
 have w2 := hT.words.cell 2
 have w3 := hT.words.cell 3
 have w4 := hT.words.cell 4
 have w5 := hT.words.cell 5
 have w6 := hT.words.cell 6
 have w7 := hT.words.cell 7
 have HN := hQQ (fun (h5 : numW s.data.toList = 0) (h6 : numS s.data.toList = 0) => HX.out.trans (akQz (by rw [aaQd]; omega) (by rw [aaQd]; omega) (by rw [ahQm hp]; intro e; injection e with e; exact h40 e) he h5 h6))
 have HF := hQQ (fun (h : numW s.data.toList ≠ 0 ∨ numS s.data.toList ≠ 0) => HX.out.trans (acQy (.inr (.inr (.inr (.inr h))))))
 have HT := hQQ hT.signs
 have H2 := hQQ hT.two
 clear HX h40 he hT b3
 generalize numW s.data.toList = m at *
 generalize numS s.data.toList = g at *
 by_cases hm : m ≠ 0
 ·have HV : Hid (x = false) := HF.out (.inl hm)
  have tm : (m != 0) = true := by simpa using hm
  have tm' : (m == 0) = false := beq_eq_false_iff_ne.2 hm
  clear HF HN hm CS HT
  go_enter Tryz.func58, Tryz.ntmps58
  go_wp2_with fail
  refine (CW.out _).mono ?_
  rintro e w1' ⟨rfl, hb1⟩
  have HB := hQQ hb1
  clear hb1
  go_wp2_with fail
  go_ret
  exact ⟨by rw [HV.out]; rfl, HB.out⟩
 obtain rfl : m = 0 := by omega
 clear hm
 go_enter Tryz.func58, Tryz.ntmps58
 go_wp2_with fail
 refine (CW.out _).mono ?_
 rintro e w1' ⟨rfl, hb1⟩
 have HB := hQQ hb1
 have hz := hb1.size
 have K := HT.out.below hb1 (by have := H2.out; omega)
 have g0 := K.cell 0
 have g1 := K.cell 1
 have g2 := K.cell 2
 have g3 := K.cell 3
 have g4 := K.cell 4
 have g5 := K.cell 5
 have g6 := K.cell 6
 have g7 := K.cell 7
 clear hb1 K CW HT w0 w1 w2 w3 w4 w5 w6 w7
 by_cases hg : g ≠ 0
 ·have HV : Hid (x = false) := HF.out (.inr hg)
  have tm : (g != 0) = true := by simpa using hg
  have tm' : (g == 0) = false := beq_eq_false_iff_ne.2 hg
  clear HF HN hg
  go_wp2_with fail
  refine (CS.out _).mono ?_
  rintro e w2' ⟨rfl, hb2⟩
  have HB2 := hQQ (HB.out.trans (hb2.mono hz))
  clear hb2
  go_wp2_with fail
  go_ret
  exact ⟨by rw [HV.out]; rfl, HB2.out⟩
 obtain rfl : g = 0 := by omega
 clear hg
 have HV : Hid (x = scan 0 (s.data.toList.drop 0)) := HN.out (by first | trivial | rfl) (by first | trivial | rfl)
 clear HF HN
 go_wp2_with fail
 refine (CS.out _).mono ?_
 rintro e w2' ⟨rfl, hb2⟩
 have HB2 := hQQ (HB.out.trans (hb2.mono hz))
 clear hb2 CS HB g0 g1 g2 g3 g4 g5 g6 g7 hz
 go_wp2_with fail
 go_loop [3, 36] (fun o i => ∃ k n : Nat, k ≤ s.size ∧ n ≤ k ∧ i = .int .i64 (k : Int) ∧ o = .int .i64 (n : Int) ∧ Hid (x = scan n (s.data.toList.drop k))) (fun _ i => s.size - (intOf i).toNat)
 case atStart => exact ⟨0, 0, Nat.zero_le _, Nat.le_refl _, rfl, rfl, HV⟩
 case round =>
  obtain ⟨k, n, hk, hnk, rfl, rfl, hn⟩ := hrel
  clear HV
  by_cases hlt : k < s.size
  ·have HS : Hid (x = if s[k] < 33 ∨ 126 < s[k] then false else if s[k] = 40 then scan (n + 1) (s.data.toList.drop (k + 1)) else if s[k] = 41 then (if n = 0 then false else scan (n - 1) (s.data.toList.drop (k + 1))) else scan n (s.data.toList.drop (k + 1))) := hn.out.trans (aqQc hlt)
   have l33 : decide ((s[k].toNat : Int) < 33) = decide (s[k] < 33) := u8_lt (n := 33) (by omega)
   have l126 : decide ((126 : Int) < (s[k].toNat : Int)) = decide (126 < s[k]) := by
    rw [Bool.eq_iff_iff]
    simp only [decide_eq_true_eq, UInt8.lt_iff_toNat_lt]
    show (126 : Int) < _ ↔ 126 < _
    omega
   clear hn
   by_cases hc : s[k] < 33 ∨ 126 < s[k]
   ·have HV : Hid (x = false) := HS.out.trans (if_pos hc)
    have tc : (s[k].toNat : Int) < 33 ∨ ¬ (s[k].toNat : Int) < 33 ∧ (126 : Int) < (s[k].toNat : Int) := by
     rcases hc with h | h
     ·left; simpa [h] using l33
     ·by_cases h' : (s[k].toNat : Int) < 33
      ·exact .inl h'
      ·right; exact ⟨h', by simpa [h] using l126⟩
    clear HS l33 l126 hc
    rcases tc with t | ⟨t, t'⟩
    all_goals
     go_wp2_with fail
     go_ret
     exact ⟨by rw [HV.out]; rfl, HB2.out⟩
   ·have t33 : ¬ (s[k].toNat : Int) < 33 := by
     intro h
     rw [decide_eq_true h] at l33
     exact hc (.inl (of_decide_eq_true l33.symm))
    have t126 : ¬ (126 : Int) < (s[k].toNat : Int) := by
     intro h
     rw [decide_eq_true h] at l126
     exact hc (.inr (of_decide_eq_true l126.symm))
    have HS1 := hQQ (HS.out.trans (if_neg hc))
    clear HS l33 l126 hc
    by_cases h4 : s[k] = 40
    ·obtain ⟨t4, _⟩ := abQu (n := 40) rfl h4
     have HV := hQQ (HS1.out.trans (if_pos h4))
     clear HS1 h4
     go_wp2_with fail
     go_round
     case rel => exact ⟨k + 1, n + 1, by omega, by omega, by go_num, by go_num, HV.out⟩
     case measure => simp [intOf]; omega
    ·obtain ⟨t4, _⟩ := aaQ6 (n := 40) rfl h4
     have HS2 := hQQ (HS1.out.trans (if_neg h4))
     clear HS1 h4
     by_cases h5 : s[k] = 41
     ·obtain ⟨t5, _⟩ := abQu (n := 41) rfl h5
      have HS3 := hQQ (HS2.out.trans (if_pos h5))
      clear HS2 h5
      by_cases hn0 : n = 0
      ·subst hn0
       have HV : Hid (x = false) := HS3.out.trans (if_pos rfl)
       clear HS3
       go_wp2_with fail
       go_ret
       exact ⟨by rw [HV.out]; rfl, HB2.out⟩
      ·have HV := hQQ (HS3.out.trans (if_neg hn0))
       have tn : ((n : Int) == 0) = false := beq_eq_false_iff_ne.2 (by omega)
       have hn1 : 1 ≤ n := by omega
       clear HS3 hn0
       go_wp2_with fail
       go_round
       case rel => exact ⟨k + 1, n - 1, by omega, by omega, by go_num, by congr 1; omega, HV.out⟩
       case measure => simp [intOf]; omega
     ·obtain ⟨t5, _⟩ := aaQ6 (n := 41) rfl h5
      have HV := hQQ (HS2.out.trans (if_neg h5))
      clear HS2 h5
      go_wp2_with fail
      go_round
      case rel => exact ⟨k + 1, n, by omega, by omega, by go_num, rfl, HV.out⟩
      case measure => simp [intOf]; omega
  ·have HV : Hid (x = (n == 0)) := by
    show x = _
    rw [hn.out, List.drop_eq_nil_of_le (by rw [aaQd]; omega)]
    rfl
   clear hn
   go_wp2_with fail
   go_ret
   refine ⟨aaQj ?_, HB2.out⟩
   rw [HV.out, Bool.eq_iff_iff]
   simp <;> omega
end Go.Proofs.YtdhgiammfpjniaaGreatDoor.Ev
