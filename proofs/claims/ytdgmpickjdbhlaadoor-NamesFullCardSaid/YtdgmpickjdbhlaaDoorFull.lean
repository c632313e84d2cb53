/- The walk of NamesFull. -/
import Derived.Test.YtdgmpickjdbhlaaDoorItoa
import Derived.Stop.LaidErr
import Derived.MakeChecks
namespace Go.Proofs.YtdgmpickjdbhlaaDoor
open Go.RowKit

/-- The name of a number: n and its digits. -/
def nm (k : Nat) : ByteArray := ⟨(110 :: Lib.decDigits k).toArray⟩
theorem nm_inj {a b : Nat} (h : nm a = nm b) : a = b := by
  unfold nm at h
  injection h with h
  have h' := congrArg Array.toList h
  simp at h'
  exact dec_inj h'
theorem nm_size {k : Nat} (h : k < 10000) : (nm k).size ≤ 60 := by
  have := dec_len h
  show (110 :: Lib.decDigits k).toArray.size ≤ 60
  simp
  omega
/-- The names up to a number. -/
def upto (k : Nat) : List ByteArray := (List.range k).map fun j => if j = 0 then ⟨#[]⟩ else nm j
theorem upto_len (k : Nat) : (upto k).length = k := by simp [upto]
theorem upto_succ {k : Nat} (h : 0 < k) : upto (k + 1) = upto k ++ [nm k] := by
  have : k ≠ 0 := by omega
  simp [upto, List.range_succ, this]
theorem upto_mem {k : Nat} {s : ByteArray} (h : s ∈ upto k) : s = ⟨#[]⟩ ∨ ∃ j, 0 < j ∧ j < k ∧ s = nm j := by
  unfold upto at h
  obtain ⟨j, hj, rfl⟩ := List.mem_map.1 h
  by_cases h0 : j = 0
  · simp [h0]
  · simp only [h0, if_false]
    exact .inr ⟨j, by omega, List.mem_range.1 hj, rfl⟩
theorem nm_ne (k : Nat) : nm k ≠ ⟨#[]⟩ := by
  intro h
  unfold nm at h
  injection h with h
  have h' := congrArg Array.toList h
  simp at h'
theorem upto_new (k : Nat) : ix (upto k) (nm k) = none := ix_none.2 fun h => by
  rcases upto_mem h with h1 | ⟨j, _, hj, h1⟩
  · exact nm_ne k h1
  · have := nm_inj h1; omega
theorem full_step {k : Nat} (h0 : 0 < k) (h : k < 5000) : addL (upto k) (nm k) = upto (k + 1) ∧ addId (upto k) (nm k) = k ∧ addErr (upto k) (nm k) = 0 := by
  have h60 : ¬ 60 < (nm k).size := by have := nm_size (k := k) (by omega); omega
  have hf : ¬ 5000 ≤ (upto k).length := by rw [upto_len]; omega
  have hix := upto_new k
  rw [upto_succ h0]
  refine ⟨by simp [addL, h60, hix, hf], ?_, by simp [addErr, h60, hix, hf]⟩
  simp only [addId, if_neg h60, hix, if_neg hf]
  rw [upto_len]
theorem full_more : addErr (upto 5000) ⟨#[109, 111, 114, 101]⟩ = 20 ∧ addL (upto 5000) ⟨#[109, 111, 114, 101]⟩ = upto 5000 ∧ addId (upto 5000) ⟨#[109, 111, 114, 101]⟩ = 0 := by
  have hix : ix (upto 5000) ⟨#[109, 111, 114, 101]⟩ = none := ix_none.2 fun h => by
    rcases upto_mem h with h1 | ⟨j, _, hj, h1⟩
    · exact absurd h1 (by decide)
    · unfold nm at h1
      injection h1 with h1
      have h' := congrArg Array.toList h1
      simp at h'
  have h60 : ¬ 60 < (⟨#[109, 111, 114, 101]⟩ : ByteArray).size := by decide
  simp only [addErr, addL, addId, if_neg h60, hix, upto_len, Nat.le_refl, if_true, and_self]
theorem full_n7 : addErr (upto 5000) ⟨#[110, 55]⟩ = 0 ∧ addL (upto 5000) ⟨#[110, 55]⟩ = upto 5000 ∧ addId (upto 5000) ⟨#[110, 55]⟩ = 7 := by
  have e : (⟨#[110, 55]⟩ : ByteArray) = nm 7 := by unfold nm; rw [Lib.decDigits_one (by omega)]; rfl
  have hat : (upto 5000)[7]? = some (nm 7) := by simp [upto]
  have hno : ∀ j x, j < 7 → (upto 5000)[j]? = some x → x ≠ nm 7 := fun j x hj hx he => by
    have hlt : j < 5000 := by omega
    simp [upto, hlt] at hx
    by_cases h0 : j = 0
    · simp [h0] at hx; exact nm_ne 7 (by rw [← he, ← hx])
    · simp [h0] at hx
      have := nm_inj (hx.trans he)
      omega
  have hix := ix_first hat hno
  have h60 : ¬ 60 < (nm 7).size := by have := nm_size (k := 7) (by omega); omega
  rw [e]
  simp only [addErr, addL, addId, if_neg h60, hix]
  exact ⟨trivial, trivial, rfl⟩

set_option maxHeartbeats 2000000 in
set_option maxRecDepth 100000 in
theorem full_any (W : World) (htab : Lib.TabIs Tryd.prog W "internal/strconv.uint64pow10" .u64 Lib.pow10Tab) : Calls Tryd.prog 3 #[] W (TrueBelow W) := by
  have TB := Lib.hid (Lib.tabBelow_of_tabIs htab)
  clear htab
  go_enter Tryd.func3, Tryd.ntmps3
  go_wp2_with fail
  refine (awake_any _).mono ?_
  rintro e w1 ⟨rfl, hb1⟩
  have HB1 := Lib.hid hb1
  have hs1 := hb1.size
  go_wp2_with fail
  refine (new_any _).mono ?_
  rintro e w2 ⟨bt, F, rfl, hT, hb2, hF⟩
  have HT := Lib.hid hT
  have HF := Lib.hid hF
  have HB2 := Lib.hid hb2
  clear hT hF hb1 hb2
  go_wp2_with fail
  go_loopw [3] (fun i wr => ∃ (k : Nat) (F' : List Nat), i = .int .i64 (k : Int) ∧ 1 ≤ k ∧ k ≤ 5000 ∧ Hid (Tab wr F' bt (upto k) []) ∧ Hid (∀ x, x ∈ F' → w1.heap.size ≤ x) ∧ Hid (Below w1.heap.size w1 wr)) (fun i _ => 5000 - (intOf i).toNat)
  case atStart => exact ⟨1, _, rfl, by omega, by omega, HT.out, HF.out, HB2.out⟩
  case round =>
    obtain ⟨k, F', rfl, hk1, hk, hT, hF, hB⟩ := hrel
    have hsr := hB.out.size
    have HTB := Lib.hid (TB.out.on (HB1.out.trans (hB.out.mono hs1)))
    by_cases hlt : k < 5000
    · have hlt' : (k : Int) < 5000 := by omega
      have hdl := dec_len (u := k) (by omega)
      have C1 := Lib.hid (itoa_any k (by omega) wr HTB.out.here)
      go_wp2_with fail
      refine C1.out.mono ?_
      rintro e w3 ⟨rfl, hb3⟩
      have T3 := Lib.hid (hT.out.turned (Turned.of_below hb3 []) (fun _ _ hx => by cases hx))
      have B3 := Lib.hid (hB.out.trans (hb3.mono hsr))
      have hs3 := B3.out.size
      have st := full_step (k := k) (by omega) (by omega)
      have C2 := add_any w3 F' bt (upto k) [] (nm k) (by have := nm_size (k := k) (by omega); unfold maxLen; omega) T3.out
      rw [st.1, st.2.1, st.2.2] at C2
      have C2 := Lib.hid C2
      clear hb3 st C1 hT hB
      go_wp2_with fail
      refine C2.out.mono ?_
      rintro e w4 ⟨rfl, F4, hT4, ht4, hf4⟩
      have T4 := Lib.hid hT4
      have HF4 : Hid (∀ x, x ∈ F4 → w1.heap.size ≤ x) := fun x hx => by
        rcases hf4 x hx with h1 | h1
        · exact hF.out x h1
        · omega
      have B4 := Lib.hid (B3.out.trans (ht4.below hF.out hs3))
      clear hT4 ht4 hf4 C2
      unfold two
      go_wp2_with fail
      go_roundw
      case rel => go_light; exact ⟨k + 1, F4, by go_num, by omega, by omega, T4.out, HF4.out, B4.out⟩
      case measure => go_light; simp only [intOf]; omega
    · have hlt' : ¬ (k : Int) < 5000 := by omega
      obtain rfl : k = 5000 := by omega
      have C := add_any wr F' bt (upto 5000) [] ⟨#[109, 111, 114, 101]⟩ (by decide) hT.out
      rw [full_more.1, full_more.2.1, full_more.2.2] at C
      have C := Lib.hid C
      go_wp2_with fail
      refine C.out.mono ?_
      rintro e w4 ⟨rfl, F4, hT4, ht4, hf4⟩
      have HF4 : Hid (∀ x, x ∈ F4 → w1.heap.size ≤ x) := fun x hx => by
        rcases hf4 x hx with h1 | h1
        · exact hF.out x h1
        · omega
      have B4 := Lib.hid (hB.out.trans (ht4.below hF.out hsr))
      have hs4 := B4.out.size
      have C := add_any w4 F4 bt (upto 5000) [] ⟨#[110, 55]⟩ (by decide) hT4
      rw [full_n7.1, full_n7.2.1, full_n7.2.2] at C
      have C := Lib.hid C
      clear hT4 ht4 hf4 hT hF hB
      unfold two
      go_wp2_with fail
      refine C.out.mono ?_
      rintro e w5 ⟨rfl, F5, hT5, ht5, hf5⟩
      have B5 := Lib.hid (B4.out.trans (ht5.below HF4.out hs4))
      have CL := Lib.hid (len_any w5 F5 bt (upto 5000) [] hT5)
      have HL := Lib.hid (upto_len 5000)
      clear hT5 ht5 hf5
      unfold two
      go_wp2_with fail
      refine CL.out.mono ?_
      rintro e w6 ⟨rfl, rfl⟩
      rw [HL.out]
      go_wp2_with fail
      go_ret
      exact ⟨rfl, HB1.out.trans (B5.out.mono hs1)⟩

/-- What the row's list gives: the library's table. -/
theorem pow_of_laid {W : World} (hL : laidMetH Tryd.prog Rows.namesFullRow.laid W) : Lib.TabIs Tryd.prog W "internal/strconv.uint64pow10" .u64 Lib.pow10Tab := by
  rw [MakeChecks.laidMetH_plain _ _ _ (by kernel_rfl)] at hL
  have h2 := hL.tail.tail
  have e : (Rows.laid_internal_strconv_uint64pow10 : DataW Unit) = Lib.tabData .u64 Lib.pow10Tab := by kernel_rfl
  rw [e] at h2
  exact Lib.tabIs_of_head (g := 0) (t := 53) (e := 46) (n := 20) (by kernel_rfl) (by kernel_rfl) Tryd.underlying53 Tryd.underlying46 (by kernel_rfl) (by kernel_rfl) h2
theorem namesFull_walk (W : World) (hL : laidMetH Tryd.prog Rows.namesFullRow.laid W) : Calls Tryd.prog 3 #[] W (TrueBelow W) := full_any W (pow_of_laid hL)
end Go.Proofs.YtdgmpickjdbhlaaDoor
