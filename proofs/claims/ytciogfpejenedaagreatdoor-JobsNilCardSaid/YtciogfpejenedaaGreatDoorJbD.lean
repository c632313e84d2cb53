/- The tables of words in memory; what a how may have; whether a job may be. -/
import Derived.Test.YtciogfpejenedaaGreatDoorJbC
namespace Go.Proofs.YtciogfpejenedaaGreatDoor
set_option linter.unusedSimpArgs false
set_option linter.unusedVariables false
open Go.RowKit

def kw1 : List UInt8 := [105, 110, 115, 116, 97, 108, 108]
def kw2 : List UInt8 := [101, 114, 97, 115, 101]
def kw3 : List UInt8 := [117, 112, 100, 97, 116, 101]
def kw4 : List UInt8 := [100, 117, 112]
def kw5 : List UInt8 := [108, 111, 99, 107]
def kw6 : List UInt8 := [109, 117, 108, 116, 105]
def kw7 : List UInt8 := [102, 97, 118, 111, 114]
def hw1 : List UInt8 := [110, 97, 109, 101]
def hw2 : List UInt8 := [103, 108, 111, 98]
def hw3 : List UInt8 := [100, 101, 112]
def hw4 : List UInt8 := [101, 120, 97, 99, 116]
def hw5 : List UInt8 := [97, 108, 108]
def kindsA : List ByteArray := [⟨#[]⟩, mkS kw1, mkS kw2, mkS kw3, mkS kw4, mkS kw5, mkS kw6, mkS kw7]
def howsA : List ByteArray := [⟨#[]⟩, mkS hw1, mkS hw2, mkS hw3, mkS hw4, mkS hw5]
def kindsRow : Array Value := #[.string ⟨#[]⟩, .string (mkS kw1), .string (mkS kw2), .string (mkS kw3), .string (mkS kw4), .string (mkS kw5), .string (mkS kw6), .string (mkS kw7)]
def howsRow : Array Value := #[.string ⟨#[]⟩, .string (mkS hw1), .string (mkS hw2), .string (mkS hw3), .string (mkS hw4), .string (mkS hw5)]
def MaxAt (w : World) : Prop := ∃ m, w.cell? ⟨4, 0, none⟩ = some (.int .i64 m)
/-- What jobs finds in memory. -/
structure JbW (w : World) : Prop where
  tabs : Tabs w
  kinds : ∃ t, Blk w 0 t kindsRow
  hows : ∃ t, Blk w 1 t howsRow
  max : MaxAt w
theorem MaxAt.below {w w' : World} (h : MaxAt w) (hb : Below w.heap.size w w') : MaxAt w' := by
  obtain ⟨m, hm⟩ := h
  refine ⟨m, ?_⟩
  have hlt : 4 < w.heap.size := by
    apply Nat.lt_of_not_le
    intro hn
    unfold World.cell? at hm
    rw [Array.getElem?_eq_none hn] at hm
    cases hm
  unfold World.cell? at hm ⊢
  rw [hb.block _ hlt]
  exact hm
theorem JbW.below {w w' : World} (h : JbW w) (hb : Below w.heap.size w w') : JbW w' := by
  obtain ⟨h1, ⟨t2, h2⟩, ⟨t3, h3⟩, h4⟩ := h
  exact ⟨h1.below hb h1.two, ⟨t2, Blk.below h2 hb h2.lt⟩, ⟨t3, Blk.below h3 hb h3.lt⟩, h4.below hb⟩
def mayMeanX (h : Int) (s : ByteArray) : Bool :=
  if h = 1 then nameB s.data.toList else if h = 2 then denseX s 60 else if h = 3 then decide (s.size ≠ 0) && decide (s = oneX s) else if h = 4 then denseX s 200 else if h = 5 then decide (s.size = 0) else false
set_option maxHeartbeats 4000000 in
set_option maxRecDepth 100000 in
theorem mayMean_any (h : Int) (s : ByteArray) (hs : s.size ≤ 4194304) (w : World) (hT : Tabs w) : Calls Tryz.prog 17 #[.int .i64 h, .string s] w fun e w' => e = .returned (.bool (mayMeanX h s)) ∧ Below w.heap.size w w' := by
  obtain ⟨x, hx⟩ : ∃ x, x = mayMeanX h s := ⟨_, rfl⟩
  rw [← hx]
  have C1 := Lib.hid (name_any s w hT)
  have C2 := Lib.hid (dense_any s 60 (by decide) w)
  have C4 := Lib.hid (dense_any s 200 (by decide) w)
  have C3 := Lib.hid (ofOne_any s hs w hT)
  have e60 : ((60 : Nat) : Int) = 60 := rfl
  have e200 : ((200 : Nat) : Int) = 200 := rfl
  rw [e60] at C2
  rw [e200] at C4
  clear hT e60 e200
  have HX := Lib.hid hx
  clear hx
  by_cases h1 : h = 1
  · have HV : Hid (x = nameB s.data.toList) := HX.out.trans (if_pos h1)
    subst h1
    clear HX C2 C3 C4
    go_enter Tryz.func17, Tryz.ntmps17
    go_wp2_with fail
    refine C1.out.mono ?_
    rintro e w1 ⟨rfl, hb⟩
    have HB := Lib.hid hb
    clear hb C1
    go_wp2_with fail
    go_ret
    exact ⟨by (first | (rw [HV.out]; done) | (rw [HV.out]; rfl)), HB.out⟩
  have q1 : (h == 1) = false := by simp [h1]
  by_cases h2 : h = 2
  · have HV : Hid (x = denseX s 60) := HX.out.trans ((if_neg h1).trans (if_pos h2))
    subst h2
    clear HX C1 C3 C4 h1 q1
    go_enter Tryz.func17, Tryz.ntmps17
    go_wp2_with fail
    refine C2.out.mono ?_
    rintro e w1 ⟨rfl, hb⟩
    have HB := Lib.hid hb
    clear hb C2
    go_wp2_with fail
    go_ret
    exact ⟨by (first | (rw [HV.out]; done) | (rw [HV.out]; rfl)), HB.out⟩
  have q2 : (h == 2) = false := by simp [h2]
  by_cases h3 : h = 3
  · have HV : Hid (x = (decide (s.size ≠ 0) && decide (s = oneX s))) := HX.out.trans ((if_neg h1).trans ((if_neg h2).trans (if_pos h3)))
    subst h3
    clear HX C1 C2 C4 h1 h2 q1 q2
    unfold OnePost at C3
    generalize oneX s = P at *
    go_enter Tryz.func17, Tryz.ntmps17
    go_wp2_with fail
    refine C3.out.mono ?_
    rintro e w1 ⟨hb, k, n, o, ev, A, l, c, rfl⟩
    have HB : Hid (Below w.heap.size w (w1.alloc (.cells #[.int .i64 k, .string n, .int .i64 o, .string ev, .slice A l c] 47))) := hb.alloc hb.size _
    clear hb C3
    by_cases h0 : s.size = 0
    · have HE : Hid (x = false) := by show x = _; rw [HV.out]; simp [h0]
      obtain rfl := empty_of h0
      clear HV h0
      go_wp2_with fail
      go_ret
      exact ⟨by rw [HE.out]; rfl, HB.out⟩
    obtain ⟨b1, b2, b3⟩ := blank_of h0
    by_cases hp : s = P
    · have t1 := str_yes hp
      have HE : Hid (x = true) := by show x = _; rw [HV.out]; simp [h0, ← hp]
      clear HV h0 hp
      go_wp2_with fail
      go_ret
      exact ⟨by rw [HE.out]; rfl, HB.out⟩
    · have t1 := str_ne hp
      have HE : Hid (x = false) := by show x = _; rw [HV.out]; simp [hp]
      clear HV h0 hp
      go_wp2_with fail
      go_ret
      exact ⟨by rw [HE.out]; rfl, HB.out⟩
  have q3 : (h == 3) = false := by simp [h3]
  by_cases h4 : h = 4
  · have HV : Hid (x = denseX s 200) := HX.out.trans ((if_neg h1).trans ((if_neg h2).trans ((if_neg h3).trans (if_pos h4))))
    subst h4
    clear HX C1 C2 C3 h1 h2 h3 q1 q2 q3
    go_enter Tryz.func17, Tryz.ntmps17
    go_wp2_with fail
    refine C4.out.mono ?_
    rintro e w1 ⟨rfl, hb⟩
    have HB := Lib.hid hb
    clear hb C4
    go_wp2_with fail
    go_ret
    exact ⟨by (first | (rw [HV.out]; done) | (rw [HV.out]; rfl)), HB.out⟩
  have q4 : (h == 4) = false := by simp [h4]
  clear C1 C2 C3 C4
  by_cases h5 : h = 5
  · have HV : Hid (x = decide (s.size = 0)) := HX.out.trans ((if_neg h1).trans ((if_neg h2).trans ((if_neg h3).trans ((if_neg h4).trans (if_pos h5)))))
    subst h5
    clear HX h1 h2 h3 h4 q1 q2 q3 q4
    by_cases h0 : s.size = 0
    · have HE : Hid (x = true) := by show x = _; rw [HV.out]; simp [h0]
      obtain rfl := empty_of h0
      clear HV h0
      go_enter Tryz.func17, Tryz.ntmps17
      go_wp2_with fail
      go_ret
      exact ⟨by rw [HE.out]; rfl, Below.refl _ _⟩
    · have HE : Hid (x = false) := by show x = _; rw [HV.out]; simp [h0]
      obtain ⟨b1, b2, b3⟩ := blank_of h0
      clear HV h0
      go_enter Tryz.func17, Tryz.ntmps17
      go_wp2_with fail
      go_ret
      exact ⟨by rw [HE.out]; rfl, Below.refl _ _⟩
  have q5 : (h == 5) = false := by simp [h5]
  have HV : Hid (x = false) := HX.out.trans ((if_neg h1).trans ((if_neg h2).trans ((if_neg h3).trans ((if_neg h4).trans (if_neg h5)))))
  clear HX h1 h2 h3 h4 h5
  go_enter Tryz.func17, Tryz.ntmps17
  go_wp2_with fail
  go_ret
  exact ⟨by (first | (rw [HV.out]; done) | (rw [HV.out]; rfl)), Below.refl _ _⟩
end Go.Proofs.YtciogfpejenedaaGreatDoor
