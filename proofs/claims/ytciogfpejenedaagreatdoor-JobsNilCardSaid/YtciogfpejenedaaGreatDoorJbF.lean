/- What a line's job is: pure; and what Parse stands on. -/
import Derived.Test.YtciogfpejenedaaGreatDoorJbE
namespace Go.Proofs.YtciogfpejenedaaGreatDoor
set_option linter.unusedSimpArgs false
set_option linter.unusedVariables false
open Go.RowKit

def finJ (L : ByteArray) (k h : Int) (s : ByteArray) : Option (Int × Int × ByteArray) := if mayX k h s = true ∧ (h = 3 ∨ printX k h s = L) then some (k, h, s) else none
def textJ (h : Int) (s : ByteArray) : ByteArray := if h = 3 then oneX s else s
def kindJ (t : List UInt8) : Int := firstS kindsA (mkS (Lib.cut t [32]).1) 0
def restJ (t : List UInt8) : List UInt8 := (Lib.cut t [32]).2.1
def howJ (t : List UInt8) : Int := firstS howsA (mkS (Lib.cut (restJ t) [32]).1) 0
def tailJ (t : List UInt8) : ByteArray := mkS (Lib.cut (restJ t) [32]).2.1
def parseJ (t : List UInt8) : Option (Int × Int × ByteArray) := finJ (mkS t) (kindJ t) (howJ t) (textJ (howJ t) (tailJ t))
def jobV : Option (Int × Int × ByteArray) → Value
  | some (k, h, s) => .agg #[.int .i64 k, .int .i64 h, .string s]
  | none => .agg #[.int .i64 0, .int .i64 0, .string ⟨#[]⟩]
def errJ : Option (Int × Int × ByteArray) → Int
  | some _ => 0
  | none => 140
theorem mk_len (l : List UInt8) : (mkS l).size = l.length := (size_len (mkS l)).symm
theorem oneX_size (s : ByteArray) : (oneX s).size ≤ 5000 := by
  unfold oneX
  split
  · split
    · next d n _ _ =>
      unfold printS
      split
      · next hc =>
        unfold checkN at hc
        split at hc
        · next hf =>
          split at hc
          · cases hc
          · have h1 := text_len d hf
            have h2 := nodes_leaves d hf
            have h3 : (mkS (text d)).size = (text d).length := (size_len (mkS (text d))).symm
            omega
        · cases hc
      · exact Nat.zero_le _
    · exact Nat.zero_le _
  · exact Nat.zero_le _
theorem jbCut_any (t : List UInt8) (ht : t.length ≤ 4194304) (w : World) (hM : MaxAt w) : Calls Tryz.prog 10 #[.string (mkS t), .string ⟨#[32]⟩] w fun e w' => e = .returned (.tuple #[.string (mkS (Lib.cut t [32]).1), .string (mkS (Lib.cut t [32]).2.1), .bool (Lib.cut t [32]).2.2]) ∧ ∃ n, w' = w.drewN n := by
  obtain ⟨m, hm⟩ := hM
  have hz : (mkS t).size = t.length := (size_len (mkS t)).symm
  exact Tryz.strings_Cut (mkS t) ⟨#[32]⟩ m w (by omega) hm
theorem cut_len_ (t : List UInt8) : (Lib.cut t [32]).1.length ≤ t.length ∧ (Lib.cut t [32]).2.1.length ≤ t.length := by
  unfold Lib.cut
  split
  · exact ⟨by show (t.take _).length ≤ _; simp; omega, by show (t.drop _).length ≤ _; simp⟩
  · exact ⟨Nat.le_refl _, Nat.zero_le _⟩
set_option maxRecDepth 100000 in
theorem jbClone_any (s : ByteArray) (w : World) (hs : s.size ≤ 4194304) : Calls Tryz.prog 14 #[.string s] w fun e w' => e = .returned (.string s) ∧ Below w.heap.size w w' := by
  have C := Lib.hid (Tryz.stringslite_Clone s w (by omega))
  go_enter Tryz.func14, Tryz.ntmps14
  go_wp2_with fail
  refine C.out.mono ?_
  rintro e w1 ⟨rfl, hb⟩
  have HB := Lib.hid hb
  clear hb
  go_wp2_with fail
  go_ret
  exact ⟨rfl, HB.out⟩
theorem numK_any (s : ByteArray) (w : World) : Calls Tryz.prog 11 #[.agg #[.string ⟨#[]⟩, .string (mkS kw1), .string (mkS kw2), .string (mkS kw3), .string (mkS kw4), .string (mkS kw5), .string (mkS kw6), .string (mkS kw7)], .string s] w fun e w' => e = .returned (.int .i64 (firstS kindsA s 0)) ∧ Below w.heap.size w w' := number8_any ⟨#[]⟩ (mkS kw1) (mkS kw2) (mkS kw3) (mkS kw4) (mkS kw5) (mkS kw6) (mkS kw7) s w
theorem numH_any (s : ByteArray) (w : World) : Calls Tryz.prog 12 #[.agg #[.string ⟨#[]⟩, .string (mkS hw1), .string (mkS hw2), .string (mkS hw3), .string (mkS hw4), .string (mkS hw5)], .string s] w fun e w' => e = .returned (.int .i64 (firstS howsA s 0)) ∧ Below w.heap.size w w' := number6_any ⟨#[]⟩ (mkS hw1) (mkS hw2) (mkS hw3) (mkS hw4) (mkS hw5) s w
theorem load_job {w : World} {g : Nat} {x0 x1 x2 : Value} (h : Blk w g 23 #[x0, x1, x2]) : (loadVar 23 ⟨g, 0, none⟩).run Tryz.prog w = .ok (.agg #[x0, x1, x2]) w := by
  have b0 := h.cell 0
  have b1 := h.cell 1
  have b2 := h.cell 2
  simp at b0 b1 b2
  clear h
  go_simp
def three (w : World) (g : Nat) (k h : Int) (s : ByteArray) : World := ((w.setCell ⟨g, 0, none⟩ (.int .i64 k)).setCell ⟨g, 1, none⟩ (.int .i64 h)).setCell ⟨g, 2, none⟩ (.string s)
theorem three_turned (w : World) (g : Nat) (k h : Int) (s : ByteArray) : Turned [g] w (three w g k h s) := (((Turned.refl _ _).setCell (.inl (by simp)) _).setCell (.inl (by simp)) _).setCell (.inl (by simp)) _
theorem three_blk {w : World} {g : Nat} {t : TypeId} {x0 x1 x2 : Value} (hb : Blk w g t #[x0, x1, x2]) (k h : Int) (s : ByteArray) : Blk (three w g k h s) g t #[.int .i64 k, .int .i64 h, .string s] := ((hb.set_ 0 (.int .i64 k)).set_ 1 (.int .i64 h)).set_ 2 (.string s)
theorem JbW.five {w : World} (h : JbW w) : 5 ≤ w.heap.size := by
  obtain ⟨m, hm⟩ := h.max
  apply Nat.lt_of_not_le
  intro hn
  unfold World.cell? at hm
  rw [Array.getElem?_eq_none hn] at hm
  cases hm
theorem JbW.turned1 {w w' : World} {b : Nat} (h : JbW w) (ht : Turned [b] w w') (hb : 5 ≤ b) : JbW w' := by
  have h5 := h.five
  obtain ⟨h1, ⟨t2, h2⟩, ⟨t3, h3⟩, m, hm⟩ := h
  refine ⟨h1.turned ht (fun k hk => by rw [List.mem_singleton.1 hk]; omega), ⟨t2, h2.turned ht (by simp; omega)⟩, ⟨t3, h3.turned ht (by simp; omega)⟩, m, ?_⟩
  unfold World.cell? at hm ⊢
  rw [ht.block _ (by show 4 < _; omega) (by simp; omega)]
  exact hm
def ParseJ (w : World) (X : Option (Int × Int × ByteArray)) (e : Ending) (w' : World) : Prop := e = .returned (.tuple #[jobV X, .int .i64 (errJ X)]) ∧ Below w.heap.size w w'
end Go.Proofs.YtciogfpejenedaaGreatDoor
