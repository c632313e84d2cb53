/- All up to one of some bytes; a copy; a name. -/
import Derived.Test.YtoifibnmincodaaGreatDoorXs
import Derived.Test.YtoifibnmincodaaGreatDoorXb
namespace Go.Proofs.YtoifibnmincodaaGreatDoor
set_option linter.unusedSimpArgs false
set_option linter.unusedVariables false
open Go.RowKit

section
variable {w : World} {B g : Nat} {r : Bs} {v1 v2 v3 v4 : Value}
theorem RdB.later {w' : World} (h : RdB w g r v1 v2 v3 v4) (hb : Below w.heap.size w w') : RdB w' g r v1 v2 v3 v4 ∧ Turned [g] w w' := ⟨h.below hb, Turned.of_below hb _⟩
set_option maxHeartbeats 1000000 in
set_option maxRecDepth 100000 in
theorem plain_any (h : RdB w g r v1 v2 v3 v4) (hr : r.length ≤ 40000) {cs : Bs} (hs : Seps cs) :
    Calls Tryz.prog 54 #[.pointer (some ⟨g, 0, none⟩), .string (mkS cs)] w (Ate w g v1 v2 v3 v4 (plainR cs r) sV) := by
  have C := Lib.hid (indexAny_any hs (mkS r) (by rw [mkS_size]; unfold maxLen; omega) w)
  rw [show (mkS r).data.toList = r from rfl] at C
  have hle : plainN cs r ≤ r.length := while_le r
  have CT := Lib.hid (fun w' (h' : RdB w' g r v1 v2 v3 v4) => take_any h' (plainN cs r) hle hr)
  have HR := Lib.hid h
  have HE : Hid (plainR cs r = takeR (plainN cs r) r) := rfl
  have hsz : (mkS r).size = r.length := rfl
  have c0 := Blk.cell h 0
  simp at c0
  clear h hs
  have hat : (anyAt cs r = (plainN cs r : Int)) ∨ (anyAt cs r = -1 ∧ (plainN cs r : Int) = ((mkS r).size : Int)) := by
    unfold anyAt
    split
    · exact .inl rfl
    · exact .inr ⟨rfl, by rw [hsz]; omega⟩
  clear hr hle hsz
  generalize plainR cs r = res at *
  generalize plainN cs r = n at *
  generalize anyAt cs r = m at *
  rcases hat with rfl | ⟨rfl, hn⟩
  · clear c0
    have c0 := Blk.cell HR.out 0
    simp at c0
    go_enter Tryz.func54, Tryz.ntmps54
    go_wp2_with fail
    refine C.out.mono ?_
    rintro e w1 ⟨rfl, hb⟩
    obtain ⟨h1, h2⟩ := RdB.later HR.out hb
    have H2 := Lib.hid h2
    have CT1 := Lib.hid (CT.out _ h1)
    have c1 := Blk.cell h1 0
    simp at c1
    clear h1 h2 hb C CT c0
    go_wp2_with fail
    refine CT1.out.mono ?_
    intro e w3 ha
    obtain ⟨ht, r', hr', ⟨a, hax, rfl⟩ | ⟨k, hk, rfl⟩⟩ := ha
    · have HV : Hid (Ate w g v1 v2 v3 v4 res sV (.returned (sV a)) w3) := Ate.mkOk (H2.out.trans ht (frG _ _)) hr' (HE.out.trans hax)
      clear ht hr' hax
      unfold sV at *
      go_wp2_with fail
      go_ret
      exact HV.out
    · have HV : Hid (Ate w g v1 v2 v3 v4 res sV (gaveUp k) w3) := Ate.mkNo (H2.out.trans ht (frG _ _)) hr' (HE.out.trans hk)
      clear ht hr' hk
      unfold gaveUp
      go_wp2_with fail
      exact ⟨rfl, HV.out⟩
  · have HN := Lib.hid hn
    clear hn
    rw [HN.out] at CT
    go_enter Tryz.func54, Tryz.ntmps54
    go_wp2_with fail
    refine C.out.mono ?_
    rintro e w1 ⟨rfl, hb⟩
    obtain ⟨h1, h2⟩ := RdB.later HR.out hb
    have H2 := Lib.hid h2
    have CT1 := Lib.hid (CT.out _ h1)
    have c1 := Blk.cell h1 0
    simp at c1
    clear h1 h2 hb C CT c0
    go_wp2_with fail
    refine CT1.out.mono ?_
    intro e w3 ha
    obtain ⟨ht, r', hr', ⟨a, hax, rfl⟩ | ⟨k, hk, rfl⟩⟩ := ha
    · have HV : Hid (Ate w g v1 v2 v3 v4 res sV (.returned (sV a)) w3) := Ate.mkOk (H2.out.trans ht (frG _ _)) hr' (HE.out.trans hax)
      clear ht hr' hax
      unfold sV at *
      go_wp2_with fail
      go_ret
      exact HV.out
    · have HV : Hid (Ate w g v1 v2 v3 v4 res sV (gaveUp k) w3) := Ate.mkNo (H2.out.trans ht (frG _ _)) hr' (HE.out.trans hk)
      clear ht hr' hk
      unfold gaveUp
      go_wp2_with fail
      exact ⟨rfl, HV.out⟩
set_option maxRecDepth 100000 in
theorem clone_any (s : ByteArray) (w : World) (hs : s.size ≤ 40000) : Calls Tryz.prog 24 #[.string s] w fun e w' => e = .returned (.string s) ∧ Below w.heap.size w w' := by
  have C := Lib.hid (Tryz.stringslite_Clone s w (by omega))
  go_enter Tryz.func24, Tryz.ntmps24
  go_wp2_with fail
  refine C.out.mono ?_
  rintro e w1 ⟨rfl, hb⟩
  have HB := Lib.hid hb
  clear hb
  go_wp2_with fail
  go_ret
  exact ⟨rfl, HB.out⟩
theorem name_may (c : UInt8) (h : xOf c = true) : xMay c = true := by
  have h2 : ∀ n : Fin 256, xOf (UInt8.ofNat n.1) = true → xMay (UInt8.ofNat n.1) = true := by decide +kernel
  have := h2 ⟨c.toNat, c.toNat_lt⟩
  simp at this
  exact this h
theorem while_may (l : Bs) : (l.takeWhile xOf).all xMay = true := List.all_eq_true.2 fun c hc => name_may c (List.all_eq_true.1 (while_all (p := xOf) l) c hc)
theorem nameN_le (l : Bs) : nameN l ≤ l.length := by
  unfold nameN
  split
  · exact Nat.le_refl _
  · split
    · exact while_le _
    · exact Nat.zero_le _
/-- The second half: how many bytes are known. -/
theorem nameN_first {r : Bs} (c : UInt8) (hc : r[0]? = some c) : nameN r = if xFirst c = true then (r.takeWhile xOf).length else 0 := by
  cases r with
  | nil => cases hc
  | cons b t => injection hc with hc; subst hc; rfl
end
end Go.Proofs.YtoifibnmincodaaGreatDoor
