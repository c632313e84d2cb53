/- .. in a text of eight bytes at most, which the library goes through rune by rune. -/
import Derived.Test.YtahodhodkgdgnaaAny
namespace Go.Proofs.Ytahodhodkgdgnaa
set_option linter.unusedSimpArgs false
set_option linter.unusedVariables false
open Go.RowKit

theorem nosep_high {b : UInt8} (h : 128 ≤ b.toNat) : nosep b = true := by
  unfold nosep isSep
  have h1 : b ≠ 62 := by rintro rfl; simp at h
  have h2 : b ≠ 58 := by rintro rfl; simp at h
  simp [h1, h2]
theorem get_list {s : ByteArray} {j : Nat} {b : UInt8} (h : s.data.toList[j]? = some b) : s.get! j = b := by
  have hj : j < s.size := by rw [← size_len]; exact (List.getElem?_eq_some_iff.1 h).1
  have e := get_at s j hj
  rw [Nat.add_zero] at e
  rw [e]
  have := byte_at hj
  rw [h] at this
  injection this with this
  exact this.symm
theorem decode_wide (s : ByteArray) (pos : Nat) (h : pos < s.size) (ha : 128 ≤ (s[pos]'h).toNat) :
    pos + (Utf8.decode s pos).2 ≤ s.size ∧ ∀ j b, pos ≤ j → j < pos + (Utf8.decode s pos).2 → s.data.toList[j]? = some b → nosep b = true := by
  have hn : ¬ (s[pos]'h).toNat < 128 := by omega
  have h0 : ∀ b, s.data.toList[pos]? = some b → nosep b = true := fun b hb => by
    rw [byte_at h] at hb; injection hb with hb; exact nosep_high (by rw [← hb]; exact ha)
  have hc : ∀ k, (decide (pos + k < s.size) && (s.get! (pos + k)).toNat / 64 == 2) = true → pos + k < s.size ∧ ∀ b, s.data.toList[pos + k]? = some b → nosep b = true := fun k hk => by
    simp only [Bool.and_eq_true, decide_eq_true_eq, beq_iff_eq] at hk
    refine ⟨hk.1, fun b hb => ?_⟩
    rw [get_list hb] at hk
    exact nosep_high (by omega)
  have one : pos + 1 ≤ s.size ∧ ∀ j b, pos ≤ j → j < pos + 1 → s.data.toList[j]? = some b → nosep b = true :=
    ⟨h, fun j b h1 h2 hb => h0 b (by rwa [show j = pos by omega] at hb)⟩
  simp only [Utf8.decode, get_at s pos h, hn, if_false]
  split
  · rename_i h1
    rw [Bool.and_eq_true] at h1
    have c1 := hc 1 h1.2
    split
    · refine ⟨by show pos + 2 ≤ _; omega, fun j b g1 g2 hb => ?_⟩
      have g2 : j < pos + 2 := g2
      rcases (by omega : j = pos ∨ j = pos + 1) with rfl | rfl
      · exact h0 b hb
      · exact c1.2 b hb
    · exact one
  · split
    · rename_i h1
      obtain ⟨h1, k2⟩ := Bool.and_eq_true_iff.1 h1
      obtain ⟨h1, k1⟩ := Bool.and_eq_true_iff.1 h1
      have c1 := hc 1 k1
      have c2 := hc 2 k2
      split
      · refine ⟨by show pos + 3 ≤ _; omega, fun j b g1 g2 hb => ?_⟩
        have g2 : j < pos + 3 := g2
        rcases (by omega : j = pos ∨ j = pos + 1 ∨ j = pos + 2) with rfl | rfl | rfl
        · exact h0 b hb
        · exact c1.2 b hb
        · exact c2.2 b hb
      · exact one
    · split
      · rename_i h1
        obtain ⟨h1, k3⟩ := Bool.and_eq_true_iff.1 h1
        obtain ⟨h1, k2⟩ := Bool.and_eq_true_iff.1 h1
        obtain ⟨h1, k1⟩ := Bool.and_eq_true_iff.1 h1
        have c1 := hc 1 k1
        have c2 := hc 2 k2
        have c3 := hc 3 k3
        split
        · refine ⟨by show pos + 4 ≤ _; omega, fun j b g1 g2 hb => ?_⟩
          have g2 : j < pos + 4 := g2
          rcases (by omega : j = pos ∨ j = pos + 1 ∨ j = pos + 2 ∨ j = pos + 3) with rfl | rfl | rfl | rfl
          · exact h0 b hb
          · exact c1.2 b hb
          · exact c2.2 b hb
          · exact c3.2 b hb
        · exact one
      · exact one
theorem all_more {l : List UInt8} {k n : Nat} (h : (l.take k).all nosep = true) (hm : ∀ j b, k ≤ j → j < k + n → l[j]? = some b → nosep b = true) : (l.take (k + n)).all nosep = true := by
  induction n with
  | zero => exact h
  | succ n ih =>
    have := ih fun j b h1 h2 => hm j b h1 (by omega)
    rw [← Nat.add_assoc, List.take_add_one, List.all_append, this]
    cases hx : l[k + n]? with
    | none => rfl
    | some b => simp [hm (k + n) b (by omega) (by omega) hx]

/-- A world with an iterator of a text, at a place of it. -/
def Iter (w : World) (b : Nat) (s : ByteArray) (pos : Nat) : Prop := w.heap[b]? = some (.stringIter s pos)
def setIter (w : World) (b : Nat) (s : ByteArray) (pos : Nat) : World := { w with heap := w.heap.setIfInBounds b (.stringIter s pos) }
theorem next_at {P : Program} {w : World} {b : Nat} {s : ByteArray} {pos : Nat} (hi : Iter w b s pos) (ty : TypeId) (h : pos < s.size) :
    (Instr.next (.pointer (some ⟨b, 0, none⟩)) true ty).run P w = .ok (.tuple #[.bool true, .int .i64 pos, .int .i32 (Utf8.decode s pos).1]) (setIter w b s (pos + (Utf8.decode s pos).2)) := by
  have hi' : w.heap[b]? = some (.stringIter s pos) := hi
  simp only [Instr.next, getObj, setObj, Sem.run_bind, Sem.run, hi', Result.andThen, h, if_true]
  simp [goInt, setIter]
theorem next_end {P : Program} {w : World} {b : Nat} {s : ByteArray} {pos : Nat} (hi : Iter w b s pos) (ty : TypeId) (h : ¬ pos < s.size) :
    (Instr.next (.pointer (some ⟨b, 0, none⟩)) true ty).run P w = .ok (.tuple #[.bool false]) w := by
  have hi' : w.heap[b]? = some (.stringIter s pos) := hi
  simp [Instr.next, getObj, Sem.run, hi', h]
theorem iter_set {w : World} {b : Nat} {s : ByteArray} {pos : Nat} (hi : Iter w b s pos) (p' : Nat) : Iter (setIter w b s p') b s p' := by
  have hb := (Array.getElem?_eq_some_iff.1 hi).1
  unfold Iter setIter
  simp [hb]
theorem below_set {B : Nat} {w0 w : World} {b : Nat} {s : ByteArray} {pos : Nat} (h : Below B w0 w) (hb : B ≤ b) : Below B w0 (setIter w b s pos) :=
  ⟨h.os, h.tape, h.output, by simpa [setIter] using h.size, fun k hk => by
    have : (setIter w b s pos).heap[k]? = w.heap[k]? := by
      unfold setIter
      simp only
      rw [Array.getElem?_setIfInBounds_ne (by omega)]
    rw [this]; exact h.block k hk⟩
theorem iter_below {w w' : World} {b : Nat} {s : ByteArray} {pos : Nat} (hi : Iter w b s pos) (h : Below w.heap.size w w') : Iter w' b s pos :=
  (h.block b (Array.getElem?_eq_some_iff.1 hi).1).trans hi

/-- A rune of the text is looked for among the two. -/
def runeAt (c : Int) : Int := if c = 62 then 0 else if c = 58 then 1 else -1
theorem rune_any (c : Int) (h0 : 0 ≤ c) (h2 : c ≤ 2147483647) (w : World) :
    Calls Try.prog 24 #[.string seps, .int .i32 c] w fun e w' => e = .returned (.int .i64 (runeAt c)) ∧ Below w.heap.size w w' := by
  by_cases h : c < 128
  · refine (Try.strings_IndexRune_ascii seps c w h0 h).mono ?_
    rintro e w' ⟨rfl, rfl⟩
    refine ⟨?_, Below.refl _ _⟩
    obtain ⟨n, rfl⟩ : ∃ n : Nat, c = (n : Int) := ⟨c.toNat, by omega⟩
    have hn : n < 128 := by omega
    have : ∀ m : Fin 128, Lib.indexByte [62, 58] ((m.1 : Int).toNat.toUInt8) = runeAt (m.1 : Int) := by decide +kernel
    rw [← this ⟨n, hn⟩]
    rfl
  · have e : runeAt c = -1 := by
      unfold runeAt; rw [if_neg (by omega), if_neg (by omega)]
    rw [e]
    by_cases he : c = 65533
    · subst he; exact rune_error w
    · cases hv : Lib.validRune c with
      | true => exact rune_high c (by omega) h2 he hv w
      | false => exact rune_bad c (by omega) h2 he hv w
theorem decode_one (s : ByteArray) (i : Nat) (h : i < s.size) (hall : (s.data.toList.take i).all nosep = true) :
    ∃ c n, Utf8.decode s i = (c, n) ∧ 1 ≤ n ∧ c ≤ 2147483647 ∧ ((0 ≤ runeAt (c : Int) ∧ sepAt s.data.toList = i) ∨ (runeAt (c : Int) = -1 ∧ (s.data.toList.take (i + n)).all nosep = true ∧ i + n ≤ s.size)) := by
  by_cases ha : (s[i]'h).toNat < 128
  · refine ⟨_, _, decode_ascii s i h ha, Nat.le_refl _, by omega, ?_⟩
    have hx := byte_at h
    by_cases hs : isSep (s[i]'h) = true
    · left
      refine ⟨?_, sepAt_hit hall hx hs⟩
      unfold isSep at hs
      simp only [Bool.or_eq_true, beq_iff_eq] at hs
      rcases hs with hs | hs <;> rw [hs] <;> decide
    · right
      have hs : isSep (s[i]'h) = false := by simpa using hs
      refine ⟨?_, all_snoc hall hx (by unfold nosep; rw [hs]; rfl), h⟩
      unfold isSep at hs
      simp only [Bool.or_eq_false_iff, beq_eq_false_iff_ne] at hs
      unfold runeAt
      rw [if_neg (fun e => hs.1 (UInt8.toNat_inj.1 (by show _ = 62; omega))), if_neg (fun e => hs.2 (UInt8.toNat_inj.1 (by show _ = 58; omega)))]
  · have ha : 128 ≤ (s[i]'h).toNat := by omega
    obtain ⟨h1, h2⟩ := decode_high s i h ha
    obtain ⟨h3, h4⟩ := decode_wide s i h ha
    refine ⟨(Utf8.decode s i).1, (Utf8.decode s i).2, rfl, h2, decode_le s i, .inr ⟨?_, all_more hall h4, h3⟩⟩
    have e1 : ¬ (((Utf8.decode s i).1 : Nat) : Int) = 62 := by omega
    have e2 : ¬ (((Utf8.decode s i).1 : Nat) : Int) = 58 := by omega
    unfold runeAt
    rw [if_neg e1, if_neg e2]
set_option maxHeartbeats 8000000 in
set_option maxRecDepth 1000000 in
theorem indexAny_short (s : ByteArray) (h8 : s.size ≤ 8) (w : World) :
    Calls Try.prog 20 #[.string s, .string seps] w fun e w' => e = .returned (.int .i64 (sepAt s.data.toList)) ∧ Below w.heap.size w w' := by
  have CU := Lib.hid (fun n w => Try.strings_shouldUseASCIISet n w)
  have CR := Lib.hid (fun c h0 h1 w => rune_any c h0 h1 w)
  have h8z : decide ((8 : Int) < (s.size : Int)) = false := decide_eq_false (by omega)
  unfold seps at *
  go_enter Try.func20, Try.ntmps20
  go_wp2_with (go_at_call 25; refine (CU.out _ _).mono ?_; rintro e w' ⟨rfl, hw⟩; rw [hw, h8z])
  have HB0 : Hid (Below w.heap.size w (w.iter s 0)) := (Below.refl _ _).alloc (Nat.le_refl _) _
  have HI0 : Hid (Iter (w.iter s 0) w.heap.size s 0) := World.iter_heap w s 0
  obtain ⟨bi, hbi⟩ : ∃ bi, bi = w.heap.size := ⟨_, rfl⟩
  have HBI := Lib.hid hbi
  rw [← hbi] at HI0
  simp only [← hbi]
  clear hbi
  generalize w.iter s 0 = w1 at *
  go_loopg [9, 10] s.size (fun g _ _ wx => ∃ i : Nat, i + g = s.size ∧ Iter wx bi s i ∧ Below w.heap.size w wx ∧ Hid ((s.data.toList.take i).all nosep = true))
  case atStart => exact ⟨0, by omega, HI0.out, HB0.out, show (s.data.toList.take 0).all nosep = true from rfl⟩
  case round =>
    obtain ⟨i, hig, hit, hbe, hall⟩ := hrel
    have HIT := Lib.hid hit
    have HBE := Lib.hid hbe
    clear hit hbe
    by_cases hlt : i < s.size
    · have hnx := fun ty => next_at (P := Try.prog) HIT.out ty hlt
      have HX := Lib.hid (byte_at hlt)
      obtain ⟨c, n, hcn, hn1, hc2, hor⟩ := decode_one s i hlt hall.out
      rw [hcn] at hnx
      have HST := Lib.hid (iter_set HIT.out (i + n))
      have HSB := Lib.hid (below_set (b := bi) (s := s) (pos := i + n) HBE.out (by rw [HBI.out]; exact Nat.le_refl _))
      have HC1 := Lib.hid (CR.out (c : Int) (by omega) (by omega))
      clear hcn hall
      generalize setIter _ _ _ _ = w2 at *
      rcases hor with ⟨hr, hsep⟩ | ⟨hr, hmore, hle⟩
      · have HN := Lib.hid hsep
        clear hsep
        generalize runeAt (c : Int) = x at *
        go_wp2_with fail
        refine (HC1.out _).mono ?_
        rintro e w3 ⟨rfl, hb3⟩
        go_wp2_with fail
        go_ret
        exact ⟨by rw [HN.out]; rfl, HSB.out.trans (hb3.mono HSB.out.size)⟩
      · have HM := Lib.hid hmore
        rw [hr] at HC1
        clear hmore hr
        go_wp2_with fail
        refine (HC1.out _).mono ?_
        rintro e w3 ⟨rfl, hb3⟩
        have HB3 := Lib.hid hb3
        clear hb3
        go_wp2_with fail
        go_roundg (gk - n)
        case measure => omega
        case rel => exact ⟨i + n, by omega, iter_below HST.out HB3.out, HSB.out.trans (HB3.out.mono HSB.out.size), HM.out⟩
    · have hnx := fun ty => next_end (P := Try.prog) HIT.out ty hlt
      have HM := Lib.hid (sepAt_none (l := s.data.toList) (by
        have := hall.out
        rwa [List.take_of_length_le (by rw [size_len]; omega)] at this))
      go_wp2_with fail
      go_ret
      exact ⟨by rw [HM.out]; rfl, HBE.out⟩
theorem indexAny_any (s : ByteArray) (hs : s.size ≤ maxLen) (w : World) :
    Calls Try.prog 20 #[.string s, .string seps] w fun e w' => e = .returned (.int .i64 (sepAt s.data.toList)) ∧ Below w.heap.size w w' := by
  by_cases h : s.size ≤ 8
  · exact indexAny_short s h w
  · exact indexAny_long s (by omega) hs w
end Go.Proofs.Ytahodhodkgdgnaa
