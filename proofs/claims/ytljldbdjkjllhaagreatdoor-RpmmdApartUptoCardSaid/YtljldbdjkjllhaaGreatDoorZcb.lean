/- Where the first of some bytes below 128 stands in a text of any bytes. All up to one of some bytes; a copy; a name. A name is taken. A character by its number, and by its name; an entity. A character by its name; an entity. An entity is taken. -/
import Derived.Test.YtljldbdjkjllhaaGreatDoorZca
/- Where the first of some bytes below 128 stands in a text of any bytes. -/
namespace Go.Proofs.YtljldbdjkjllhaaGreatDoor
set_option linter.unusedSimpArgs false
set_option linter.unusedVariables false
open Go.RowKit

def nos (cs : Bs) (c : UInt8) : Bool := !cs.contains c
/-- Where the first of them stands; -1: nowhere. -/
def anyAt (cs l : Bs) : Int := if plainN cs l < l.length then (plainN cs l : Int) else -1
theorem plainN_nos (cs l : Bs) : plainN cs l = (l.takeWhile (nos cs)).length := rfl
theorem anyAt_hit {cs l : Bs} {k : Nat} {c : UInt8} (h : (l.take k).all (nos cs) = true) (hc : l[k]? = some c) (hs : cs.contains c = true) : anyAt cs l = k := by
  have hk := (List.getElem?_eq_some_iff.1 hc).1
  have := while_is h (Nat.le_of_lt hk) (fun d hd => by rw [hc] at hd; injection hd with hd; subst hd; show (!cs.contains _) = false; rw [hs]; rfl)
  unfold anyAt
  rw [plainN_nos, ← this, if_pos hk]
theorem anyAt_none {cs l : Bs} (h : l.all (nos cs) = true) : anyAt cs l = -1 := by
  have := while_is (l := l) (k := l.length) (by rw [List.take_length]; exact h) (Nat.le_refl _) (fun d hd => by simp at hd)
  unfold anyAt
  rw [plainN_nos, ← this, if_neg (Nat.lt_irrefl _)]
theorem zeroSet (w : World) : (zeroValue 147).run Tryz.prog w = .ok (.agg (Array.replicate 256 (.bool false))) w := by
  have h : (Tryz.prog.info? 147).map (fun i => (i.zero, i.size)) = some (some (.agg (Array.replicate 256 (.bool false))), 256) := by kernel_rfl
  exact (zero_of_info h).1 w
set_option maxHeartbeats 8000000 in
set_option maxRecDepth 1000000 in
theorem indexAny_long {cs : Bs} (hse : Seps cs) (s : ByteArray) (h8 : 8 < s.size) (hs : s.size ≤ maxLen) (w : World) :
    Calls Tryz.prog 102 #[.string s, .string (mkS cs)] w fun e w' => e = .returned (.int .i64 (anyAt cs s.data.toList)) ∧ Below w.heap.size w w' := by
  unfold maxLen at hs
  have hcz : (mkS cs).size ≤ 8 := hse.few
  have hemp : (mkS cs).toList.isEmpty = false := by rw [toList_cons (by have := hse.two; show 0 < cs.length; omega)]
  have hone : (((mkS cs).size : Int) == 1) = false := by have := hse.two; have e : (mkS cs).size = cs.length := rfl; simp; omega
  have CM := Lib.hid (fun w => Tryz.strings_makeASCIISet zeroSet (mkS cs) w (by omega) (fun j b hb => hse.low b (List.mem_of_getElem? hb)))
  have CU := Lib.hid (fun n w => Tryz.strings_shouldUseASCIISet n w)
  obtain ⟨CS, hCS⟩ : ∃ CS, CS = Lib.setCells cs := ⟨_, rfl⟩
  have S1 := Lib.hid (show CS.size = 256 from hCS ▸ Lib.setCells_size _)
  have S2 := Lib.hid (show CS.all (·.oneCell') = true from hCS ▸ Lib.setCells_one _)
  have S3 : Hid (∀ x : UInt8, CS[x.toNat]? = some (.bool (cs.contains x))) := fun x => by
    rw [hCS, Lib.setCells_at]
  rw [mkS_list, ← hCS] at CM
  clear hCS
  have h8z : decide ((8 : Int) < (s.size : Int)) = true := decide_eq_true (by omega)
  have hsc : (storeCells ⟨w.heap.size + 1, 0, none⟩ CS.toList 0).run Tryz.prog ((w.alloc (.cells CS 147)).alloc (.cells (Array.replicate 256 (.bool false)) 147)) = .ok () ((w.alloc (.cells CS 147)).alloc (.cells CS 147)) := by
    have := run_storeCells_new (P := Tryz.prog) (w.alloc (.cells CS 147)) 147 (Array.replicate 256 (.bool false)) CS (by rw [S1.out]; kernel_rfl) (by rw [S1.out, Array.size_replicate]) S2.out
    simpa using this
  generalize mkS cs = SC at *
  have hzs := zeroSet
  go_enter Tryz.func102, Tryz.ntmps102
  go_wp2_with (first
    | (go_at_call 169; refine (CU.out _ _).mono ?_; rintro e w' ⟨rfl, hw⟩; rw [hw, h8z])
    | (go_at_call 96; refine (CM.out _).mono ?_; rintro e w' ⟨rfl, hw⟩; rw [hw]))
  have CC := Lib.hid (fun b x v w hc => Tryz.asciiSet_contains b x v w hc)
  clear hsc CM CU hzs
  have HB : Hid (Below w.heap.size w ((w.alloc (.cells CS 147)).alloc (.cells CS 147))) := ((Below.refl _ _).alloc (Nat.le_refl _) _).alloc (by simp) _
  have HC : Hid (∀ x : UInt8, ((w.alloc (.cells CS 147)).alloc (.cells CS 147)).cell? ⟨w.heap.size + 1, x.toNat, none⟩ = some (.bool (cs.contains x))) := fun x => by
    rw [(Blk.new' (w := w.alloc (.cells CS 147)) (g := w.heap.size + 1) (t := 147) (cs := CS) (by simp)).cell]
    exact S3.out x
  obtain ⟨bg, hbg⟩ : ∃ bg, bg = w.heap.size + 1 := ⟨_, rfl⟩
  rw [← hbg] at HC
  simp only [← hbg]
  clear hbg
  generalize ((w.alloc (.cells CS 147)).alloc (.cells CS 147)) = w1 at *
  go_loop [8] (fun i => ∃ k : Nat, k ≤ s.size ∧ i = .int .i64 (k : Int) ∧ Hid ((s.data.toList.take k).all (nos cs) = true)) (fun i => s.size - (intOf i).toNat)
  case atStart => exact ⟨0, Nat.zero_le _, rfl, show (s.data.toList.take 0).all (nos cs) = true from rfl⟩
  case round =>
    obtain ⟨k, hk, rfl, hall⟩ := hrel
    by_cases hlt : k < s.size
    · have HX := Lib.hid (byte_at hlt)
      have HC1 := Lib.hid (HC.out s[k])
      have HY := Lib.hid (fun (h : cs.contains s[k] = false) => all_snoc hall.out HX.out (show nos cs s[k] = true by unfold nos; rw [h]; rfl))
      have HN := Lib.hid (fun (h : cs.contains s[k] = true) => anyAt_hit hall.out HX.out h)
      have hlt' : (k : Int) < (s.size : Int) := by omega
      clear hall
      generalize cs.contains s[k] = m at *
      cases m
      all_goals
        go_wp2_with fail
        refine (CC.out _ _ _ _ HC1.out).mono ?_
        rintro e w2 ⟨rfl, rfl⟩
        go_wp2_with fail
      · go_round
        case rel => exact ⟨k + 1, by omega, by go_num, HY.out (by simp)⟩
        case measure => simp [intOf]; omega
      · go_ret
        exact ⟨by rw [HN.out (by simp)]; rfl, HB.out⟩
    · have HM := Lib.hid (anyAt_none (l := s.data.toList) (by
        have := hall.out
        rwa [List.take_of_length_le (by rw [size_len]; omega)] at this))
      have hlt' : ¬ (k : Int) < (s.size : Int) := by omega
      go_wp2_with fail
      go_ret
      exact ⟨by rw [HM.out]; rfl, HB.out⟩

/-- A byte that is none of them; what is told of a rune. -/
theorem ixb_some {l : Bs} {c : UInt8} (h : l.contains c = true) : 0 ≤ Lib.indexByte l c := by
  induction l with
  | nil => cases h
  | cons b r ih =>
    unfold Lib.indexByte
    by_cases hb : b = c
    · simp [hb]
    · have h2 : r.contains c = true := by
        rw [List.contains_cons] at h
        have : (c == b) = false := beq_eq_false_iff_ne.2 (Ne.symm hb)
        rw [this, Bool.false_or] at h
        exact h
      have := ih h2
      simp [hb]
      split <;> omega
def runeAt (cs : Bs) (c : Int) : Int := if c < 128 then Lib.indexByte cs c.toNat.toUInt8 else -1
theorem rune_any {cs : Bs} (hs : Seps cs) (c : Int) (h0 : 0 ≤ c) (h2 : c ≤ 2147483647) (w : World) :
    Calls Tryz.prog 168 #[.string (mkS cs), .int .i32 c] w fun e w' => e = .returned (.int .i64 (runeAt cs c)) ∧ Below w.heap.size w w' := by
  by_cases h : c < 128
  · refine (Tryz.strings_IndexRune_ascii (mkS cs) c w h0 h).mono ?_
    rintro e w' ⟨rfl, rfl⟩
    refine ⟨?_, Below.refl _ _⟩
    unfold runeAt
    rw [if_pos h]
    rfl
  · have e : runeAt cs c = -1 := by
      unfold runeAt; rw [if_neg (by omega)]
    rw [e]
    by_cases he : c = 65533
    · subst he; exact rune_error hs w
    · cases hv : Lib.validRune c with
      | true => exact rune_high hs c (by omega) h2 he hv w
      | false => exact rune_bad cs c (by omega) h2 he hv w
theorem nos_high {cs : Bs} (hs : Seps cs) {b : UInt8} (h : 128 ≤ b.toNat) : nos cs b = true := by
  unfold nos
  cases hc : cs.contains b with
  | false => rfl
  | true =>
    have := hs.low b (by simpa using hc)
    omega
theorem get_list {s : ByteArray} {j : Nat} {b : UInt8} (h : s.data.toList[j]? = some b) : s.get! j = b := by
  have hj : j < s.size := by rw [← size_len]; exact (List.getElem?_eq_some_iff.1 h).1
  have e := get_at s j hj
  rw [Nat.add_zero] at e
  rw [e]
  have := byte_at hj
  rw [h] at this
  injection this with this
  exact this.symm
theorem decode_wide {cs : Bs} (hse : Seps cs) (s : ByteArray) (pos : Nat) (h : pos < s.size) (ha : 128 ≤ (s[pos]'h).toNat) :
    pos + (Utf8.decode s pos).2 ≤ s.size ∧ ∀ j b, pos ≤ j → j < pos + (Utf8.decode s pos).2 → s.data.toList[j]? = some b → nos cs b = true := by
  have hn : ¬ (s[pos]'h).toNat < 128 := by omega
  have h0 : ∀ b, s.data.toList[pos]? = some b → nos cs b = true := fun b hb => by
    rw [byte_at h] at hb; injection hb with hb; exact nos_high hse (by rw [← hb]; exact ha)
  have hc : ∀ k, (decide (pos + k < s.size) && (s.get! (pos + k)).toNat / 64 == 2) = true → pos + k < s.size ∧ ∀ b, s.data.toList[pos + k]? = some b → nos cs b = true := fun k hk => by
    simp only [Bool.and_eq_true, decide_eq_true_eq, beq_iff_eq] at hk
    refine ⟨hk.1, fun b hb => ?_⟩
    rw [get_list hb] at hk
    exact nos_high hse (by omega)
  have one : pos + 1 ≤ s.size ∧ ∀ j b, pos ≤ j → j < pos + 1 → s.data.toList[j]? = some b → nos cs b = true :=
    ⟨h, fun j b h1 h2 hb => h0 b (by rwa [show j = pos by omega] at hb)⟩
  simp only [Utf8.decode, get_at s pos h, hn, if_false]
  split
  · rename_i h1
    rw [Bool.and_eq_true] at h1
    have c1 := hc 1 h1.2
    split
    · refine ⟨by show pos + 2 ≤ _; omega, fun j b g1 g2 hb => ?_⟩
      have g2 : j < pos + 2 := g2
      rcases (by omega : j = pos ∨ j = pos + 1) with rfl | rfl
      · exact h0 b hb
      · exact c1.2 b hb
    · exact one
  · split
    · rename_i h1
      obtain ⟨h1, k2⟩ := Bool.and_eq_true_iff.1 h1
      obtain ⟨h1, k1⟩ := Bool.and_eq_true_iff.1 h1
      have c1 := hc 1 k1
      have c2 := hc 2 k2
      split
      · refine ⟨by show pos + 3 ≤ _; omega, fun j b g1 g2 hb => ?_⟩
        have g2 : j < pos + 3 := g2
        rcases (by omega : j = pos ∨ j = pos + 1 ∨ j = pos + 2) with rfl | rfl | rfl
        · exact h0 b hb
        · exact c1.2 b hb
        · exact c2.2 b hb
      · exact one
    · split
      · rename_i h1
        obtain ⟨h1, k3⟩ := Bool.and_eq_true_iff.1 h1
        obtain ⟨h1, k2⟩ := Bool.and_eq_true_iff.1 h1
        obtain ⟨h1, k1⟩ := Bool.and_eq_true_iff.1 h1
        have c1 := hc 1 k1
        have c2 := hc 2 k2
        have c3 := hc 3 k3
        split
        · refine ⟨by show pos + 4 ≤ _; omega, fun j b g1 g2 hb => ?_⟩
          have g2 : j < pos + 4 := g2
          rcases (by omega : j = pos ∨ j = pos + 1 ∨ j = pos + 2 ∨ j = pos + 3) with rfl | rfl | rfl | rfl
          · exact h0 b hb
          · exact c1.2 b hb
          · exact c2.2 b hb
          · exact c3.2 b hb
        · exact one
      · exact one
theorem all_more {cs : Bs} {l : List UInt8} {k n : Nat} (h : (l.take k).all (nos cs) = true) (hm : ∀ j b, k ≤ j → j < k + n → l[j]? = some b → nos cs b = true) : (l.take (k + n)).all (nos cs) = true := by
  induction n with
  | zero => exact h
  | succ n ih =>
    have := ih fun j b h1 h2 => hm j b h1 (by omega)
    rw [← Nat.add_assoc, List.take_add_one, List.all_append, this]
    cases hx : l[k + n]? with
    | none => rfl
    | some b => simp [hm (k + n) b (by omega) (by omega) hx]

/-- A world with an iterator of a text, at a place of it. -/
def Iter (w : World) (b : Nat) (s : ByteArray) (pos : Nat) : Prop := w.heap[b]? = some (.stringIter s pos)
def setIter (w : World) (b : Nat) (s : ByteArray) (pos : Nat) : World := { w with heap := w.heap.setIfInBounds b (.stringIter s pos) }
theorem next_at {P : Program} {w : World} {b : Nat} {s : ByteArray} {pos : Nat} (hi : Iter w b s pos) (ty : TypeId) (h : pos < s.size) :
    (Instr.next (.pointer (some ⟨b, 0, none⟩)) true ty).run P w = .ok (.tuple #[.bool true, .int .i64 pos, .int .i32 (Utf8.decode s pos).1]) (setIter w b s (pos + (Utf8.decode s pos).2)) := by
  have hi' : w.heap[b]? = some (.stringIter s pos) := hi
  simp only [Instr.next, getObj, setObj, Sem.run_bind, Sem.run, hi', Result.andThen, h, if_true]
  simp [goInt, setIter]
theorem next_end {P : Program} {w : World} {b : Nat} {s : ByteArray} {pos : Nat} (hi : Iter w b s pos) (ty : TypeId) (h : ¬ pos < s.size) :
    (Instr.next (.pointer (some ⟨b, 0, none⟩)) true ty).run P w = .ok (.tuple #[.bool false]) w := by
  have hi' : w.heap[b]? = some (.stringIter s pos) := hi
  simp [Instr.next, getObj, Sem.run, hi', h]
theorem iter_set {w : World} {b : Nat} {s : ByteArray} {pos : Nat} (hi : Iter w b s pos) (p' : Nat) : Iter (setIter w b s p') b s p' := by
  have hb := (Array.getElem?_eq_some_iff.1 hi).1
  unfold Iter setIter
  simp [hb]
theorem below_set {B : Nat} {w0 w : World} {b : Nat} {s : ByteArray} {pos : Nat} (h : Below B w0 w) (hb : B ≤ b) : Below B w0 (setIter w b s pos) :=
  ⟨h.os, h.tape, h.output, by simpa [setIter] using h.size, fun k hk => by
    have : (setIter w b s pos).heap[k]? = w.heap[k]? := by
      unfold setIter
      simp only
      rw [Array.getElem?_setIfInBounds_ne (by omega)]
    rw [this]; exact h.block k hk⟩
theorem iter_below {w w' : World} {b : Nat} {s : ByteArray} {pos : Nat} (hi : Iter w b s pos) (h : Below w.heap.size w w') : Iter w' b s pos :=
  (h.block b (Array.getElem?_eq_some_iff.1 hi).1).trans hi

theorem decode_one {cs : Bs} (hse : Seps cs) (s : ByteArray) (i : Nat) (h : i < s.size) (hall : (s.data.toList.take i).all (nos cs) = true) :
    ∃ c n, Utf8.decode s i = (c, n) ∧ 1 ≤ n ∧ c ≤ 2147483647 ∧ ((0 ≤ runeAt cs (c : Int) ∧ anyAt cs s.data.toList = i) ∨ (runeAt cs (c : Int) = -1 ∧ (s.data.toList.take (i + n)).all (nos cs) = true ∧ i + n ≤ s.size)) := by
  by_cases ha : (s[i]'h).toNat < 128
  · refine ⟨_, _, decode_ascii s i h ha, Nat.le_refl _, by omega, ?_⟩
    have hx := byte_at h
    have hr : runeAt cs (((s[i]'h).toNat : Nat) : Int) = Lib.indexByte cs (s[i]'h) := by
      unfold runeAt
      rw [if_pos (by omega)]
      congr 1
      simp
    rw [hr]
    by_cases hs : cs.contains (s[i]'h) = true
    · left
      exact ⟨ixb_some hs, anyAt_hit hall hx hs⟩
    · right
      have hs : cs.contains (s[i]'h) = false := by simpa using hs
      refine ⟨ixb_none fun x hxm e => ?_, all_snoc hall hx (by unfold nos; rw [hs]; rfl), h⟩
      subst e
      have : cs.contains (s[i]'h) = true := by simpa using hxm
      rw [this] at hs; cases hs
  · have ha : 128 ≤ (s[i]'h).toNat := by omega
    obtain ⟨h1, h2⟩ := decode_high s i h ha
    obtain ⟨h3, h4⟩ := decode_wide hse s i h ha
    refine ⟨(Utf8.decode s i).1, (Utf8.decode s i).2, rfl, h2, decode_le s i, .inr ⟨?_, all_more hall h4, h3⟩⟩
    unfold runeAt
    rw [if_neg (by omega)]
set_option maxHeartbeats 8000000 in
set_option maxRecDepth 1000000 in
theorem indexAny_short {cs : Bs} (hse : Seps cs) (s : ByteArray) (h8 : s.size ≤ 8) (w : World) :
    Calls Tryz.prog 102 #[.string s, .string (mkS cs)] w fun e w' => e = .returned (.int .i64 (anyAt cs s.data.toList)) ∧ Below w.heap.size w w' := by
  have CU := Lib.hid (fun n w => Tryz.strings_shouldUseASCIISet n w)
  have CR := Lib.hid (fun c h0 h1 w => rune_any hse c h0 h1 w)
  have h8z : decide ((8 : Int) < (s.size : Int)) = false := decide_eq_false (by omega)
  have hemp : (mkS cs).toList.isEmpty = false := by rw [toList_cons (by have := hse.two; show 0 < cs.length; omega)]
  have hone : (((mkS cs).size : Int) == 1) = false := by have := hse.two; have e : (mkS cs).size = cs.length := rfl; simp; omega
  have HSE := Lib.hid hse
  clear hse
  generalize mkS cs = SC at *
  go_enter Tryz.func102, Tryz.ntmps102
  go_wp2_with (go_at_call 169; refine (CU.out _ _).mono ?_; rintro e w' ⟨rfl, hw⟩; rw [hw, h8z])
  have HB0 : Hid (Below w.heap.size w (w.iter s 0)) := (Below.refl _ _).alloc (Nat.le_refl _) _
  have HI0 : Hid (Iter (w.iter s 0) w.heap.size s 0) := World.iter_heap w s 0
  obtain ⟨bi, hbi⟩ : ∃ bi, bi = w.heap.size := ⟨_, rfl⟩
  have HBI := Lib.hid hbi
  rw [← hbi] at HI0
  simp only [← hbi]
  clear hbi
  generalize w.iter s 0 = w1 at *
  go_loopg [9, 10] s.size (fun g _ _ wx => ∃ i : Nat, i + g = s.size ∧ Iter wx bi s i ∧ Below w.heap.size w wx ∧ Hid ((s.data.toList.take i).all (nos cs) = true))
  case atStart => exact ⟨0, by omega, HI0.out, HB0.out, show (s.data.toList.take 0).all (nos cs) = true from rfl⟩
  case round =>
    obtain ⟨i, hig, hit, hbe, hall⟩ := hrel
    have HIT := Lib.hid hit
    have HBE := Lib.hid hbe
    clear hit hbe
    by_cases hlt : i < s.size
    · have hnx := fun ty => next_at (P := Tryz.prog) HIT.out ty hlt
      have HX := Lib.hid (byte_at hlt)
      obtain ⟨c, n, hcn, hn1, hc2, hor⟩ := decode_one HSE.out s i hlt hall.out
      rw [hcn] at hnx
      have HST := Lib.hid (iter_set HIT.out (i + n))
      have HSB := Lib.hid (below_set (b := bi) (s := s) (pos := i + n) HBE.out (by rw [HBI.out]; exact Nat.le_refl _))
      have HC1 := Lib.hid (CR.out (c : Int) (by omega) (by omega))
      clear hcn hall
      generalize setIter _ _ _ _ = w2 at *
      rcases hor with ⟨hr, hsep⟩ | ⟨hr, hmore, hle⟩
      · have HN := Lib.hid hsep
        clear hsep
        generalize runeAt cs (c : Int) = x at *
        go_wp2_with fail
        refine (HC1.out _).mono ?_
        rintro e w3 ⟨rfl, hb3⟩
        go_wp2_with fail
        go_ret
        exact ⟨by rw [HN.out]; rfl, HSB.out.trans (hb3.mono HSB.out.size)⟩
      · have HM := Lib.hid hmore
        rw [hr] at HC1
        clear hmore hr
        go_wp2_with fail
        refine (HC1.out _).mono ?_
        rintro e w3 ⟨rfl, hb3⟩
        have HB3 := Lib.hid hb3
        clear hb3
        go_wp2_with fail
        go_roundg (gk - n)
        case measure => omega
        case rel => exact ⟨i + n, by omega, iter_below HST.out HB3.out, HSB.out.trans (HB3.out.mono HSB.out.size), HM.out⟩
    · have hnx := fun ty => next_end (P := Tryz.prog) HIT.out ty hlt
      have HM := Lib.hid (anyAt_none (l := s.data.toList) (by
        have := hall.out
        rwa [List.take_of_length_le (by rw [size_len]; omega)] at this))
      go_wp2_with fail
      go_ret
      exact ⟨by rw [HM.out]; rfl, HBE.out⟩
theorem indexAny_any {cs : Bs} (hse : Seps cs) (s : ByteArray) (hs : s.size ≤ maxLen) (w : World) :
    Calls Tryz.prog 102 #[.string s, .string (mkS cs)] w fun e w' => e = .returned (.int .i64 (anyAt cs s.data.toList)) ∧ Below w.heap.size w w' := by
  by_cases h : s.size ≤ 8
  · exact indexAny_short hse s h w
  · exact indexAny_long hse s (by omega) hs w
end Go.Proofs.YtljldbdjkjllhaaGreatDoor

/- All up to one of some bytes; a copy; a name. -/
namespace Go.Proofs.YtljldbdjkjllhaaGreatDoor
set_option linter.unusedSimpArgs false
set_option linter.unusedVariables false
open Go.RowKit

section
variable {w : World} {B g : Nat} {r : Bs} {v1 v2 v3 v4 : Value}
theorem RdB.later {w' : World} (h : RdB w g r v1 v2 v3 v4) (hb : Below w.heap.size w w') : RdB w' g r v1 v2 v3 v4 ∧ Turned [g] w w' := ⟨h.below hb, Turned.of_below hb _⟩
set_option maxHeartbeats 1000000 in
set_option maxRecDepth 100000 in
theorem plain_any (h : RdB w g r v1 v2 v3 v4) (hr : r.length ≤ 40000) {cs : Bs} (hs : Seps cs) :
    Calls Tryz.prog 154 #[.pointer (some ⟨g, 0, none⟩), .string (mkS cs)] w (Ate w g v1 v2 v3 v4 (plainR cs r) sV) := by
  have C := Lib.hid (indexAny_any hs (mkS r) (by rw [mkS_size]; unfold maxLen; omega) w)
  rw [show (mkS r).data.toList = r from rfl] at C
  have hle : plainN cs r ≤ r.length := while_le r
  have CT := Lib.hid (fun w' (h' : RdB w' g r v1 v2 v3 v4) => take_any h' (plainN cs r) hle hr)
  have HR := Lib.hid h
  have HE : Hid (plainR cs r = takeR (plainN cs r) r) := rfl
  have hsz : (mkS r).size = r.length := rfl
  have c0 := Blk.cell h 0
  simp at c0
  clear h hs
  have hat : (anyAt cs r = (plainN cs r : Int)) ∨ (anyAt cs r = -1 ∧ (plainN cs r : Int) = ((mkS r).size : Int)) := by
    unfold anyAt
    split
    · exact .inl rfl
    · exact .inr ⟨rfl, by rw [hsz]; omega⟩
  clear hr hle hsz
  generalize plainR cs r = res at *
  generalize plainN cs r = n at *
  generalize anyAt cs r = m at *
  rcases hat with rfl | ⟨rfl, hn⟩
  · clear c0
    have c0 := Blk.cell HR.out 0
    simp at c0
    go_enter Tryz.func154, Tryz.ntmps154
    go_wp2_with fail
    refine C.out.mono ?_
    rintro e w1 ⟨rfl, hb⟩
    obtain ⟨h1, h2⟩ := RdB.later HR.out hb
    have H2 := Lib.hid h2
    have CT1 := Lib.hid (CT.out _ h1)
    have c1 := Blk.cell h1 0
    simp at c1
    clear h1 h2 hb C CT c0
    go_wp2_with fail
    refine CT1.out.mono ?_
    intro e w3 ha
    obtain ⟨ht, r', hr', ⟨a, hax, rfl⟩ | ⟨k, hk, rfl⟩⟩ := ha
    · have HV : Hid (Ate w g v1 v2 v3 v4 res sV (.returned (sV a)) w3) := Ate.mkOk (H2.out.trans ht (frG _ _)) hr' (HE.out.trans hax)
      clear ht hr' hax
      unfold sV at *
      go_wp2_with fail
      go_ret
      exact HV.out
    · have HV : Hid (Ate w g v1 v2 v3 v4 res sV (gaveUp k) w3) := Ate.mkNo (H2.out.trans ht (frG _ _)) hr' (HE.out.trans hk)
      clear ht hr' hk
      unfold gaveUp
      go_wp2_with fail
      exact ⟨rfl, HV.out⟩
  · have HN := Lib.hid hn
    clear hn
    rw [HN.out] at CT
    go_enter Tryz.func154, Tryz.ntmps154
    go_wp2_with fail
    refine C.out.mono ?_
    rintro e w1 ⟨rfl, hb⟩
    obtain ⟨h1, h2⟩ := RdB.later HR.out hb
    have H2 := Lib.hid h2
    have CT1 := Lib.hid (CT.out _ h1)
    have c1 := Blk.cell h1 0
    simp at c1
    clear h1 h2 hb C CT c0
    go_wp2_with fail
    refine CT1.out.mono ?_
    intro e w3 ha
    obtain ⟨ht, r', hr', ⟨a, hax, rfl⟩ | ⟨k, hk, rfl⟩⟩ := ha
    · have HV : Hid (Ate w g v1 v2 v3 v4 res sV (.returned (sV a)) w3) := Ate.mkOk (H2.out.trans ht (frG _ _)) hr' (HE.out.trans hax)
      clear ht hr' hax
      unfold sV at *
      go_wp2_with fail
      go_ret
      exact HV.out
    · have HV : Hid (Ate w g v1 v2 v3 v4 res sV (gaveUp k) w3) := Ate.mkNo (H2.out.trans ht (frG _ _)) hr' (HE.out.trans hk)
      clear ht hr' hk
      unfold gaveUp
      go_wp2_with fail
      exact ⟨rfl, HV.out⟩
set_option maxRecDepth 100000 in
theorem clone_any (s : ByteArray) (w : World) (hs : s.size ≤ 40000) : Calls Tryz.prog 46 #[.string s] w fun e w' => e = .returned (.string s) ∧ Below w.heap.size w w' := by
  have C := Lib.hid (Tryz.stringslite_Clone s w (by omega))
  go_enter Tryz.func46, Tryz.ntmps46
  go_wp2_with fail
  refine C.out.mono ?_
  rintro e w1 ⟨rfl, hb⟩
  have HB := Lib.hid hb
  clear hb
  go_wp2_with fail
  go_ret
  exact ⟨rfl, HB.out⟩
theorem name_may (c : UInt8) (h : xOf c = true) : xMay c = true := by
  have h2 : ∀ n : Fin 256, xOf (UInt8.ofNat n.1) = true → xMay (UInt8.ofNat n.1) = true := by decide +kernel
  have := h2 ⟨c.toNat, c.toNat_lt⟩
  simp at this
  exact this h
theorem while_may (l : Bs) : (l.takeWhile xOf).all xMay = true := List.all_eq_true.2 fun c hc => name_may c (List.all_eq_true.1 (while_all (p := xOf) l) c hc)
/-- The second half: how many bytes are known. -/
theorem nameN_first {r : Bs} (c : UInt8) (hc : r[0]? = some c) : nameN r = if xFirst c = true then (r.takeWhile xOf).length else 0 := by
  cases r with
  | nil => cases hc
  | cons b t => injection hc with hc; subst hc; rfl
end
end Go.Proofs.YtljldbdjkjllhaaGreatDoor

/- A name is taken. -/
namespace Go.Proofs.YtljldbdjkjllhaaGreatDoor
set_option linter.unusedSimpArgs false
set_option linter.unusedVariables false
open Go.RowKit

section
variable {w : World} {B g : Nat} {r : Bs} {v1 v2 v3 v4 : Value}
theorem nameR_big {r : Bs} (h : ¬ (0 < nameN r ∧ nameN r ≤ 60)) : nameR r = .error 100 := by unfold nameR; rw [if_neg h]
theorem nameR_take {c : UInt8} {r : Bs} (hc : r[0]? = some c) (hf : xFirst c = true) (h6 : (r.takeWhile xOf).length ≤ 60) :
    0 < (r.takeWhile xOf).length ∧ nameN r = (r.takeWhile xOf).length ∧ nameR r = .ok (r.takeWhile xOf, r.dropWhile xOf) ∧ takeR (r.takeWhile xOf).length r = .ok (r.takeWhile xOf, r.dropWhile xOf) := by
  have hn : nameN r = (r.takeWhile xOf).length := by rw [nameN_first c hc, if_pos hf]
  have hp : 0 < (r.takeWhile xOf).length := by
    cases r with
    | nil => cases hc
    | cons b t =>
      injection hc with hc; subst hc
      rw [List.takeWhile_cons, if_pos (by unfold xOf; rw [hf]; simp)]
      simp
  have ht : takeR (r.takeWhile xOf).length r = .ok (r.takeWhile xOf, r.dropWhile xOf) := by
    unfold takeR
    rw [← take_of_while, ← drop_of_while, if_pos (while_may r)]
  refine ⟨hp, hn, ?_, ht⟩
  unfold nameR
  rw [hn, if_pos ⟨hp, h6⟩, ht]
set_option maxHeartbeats 2000000 in
set_option maxRecDepth 100000 in
theorem name_any (h : RdB w g r v1 v2 v3 v4) (hr : r.length ≤ 40000) :
    Calls Tryz.prog 158 #[.pointer (some ⟨g, 0, none⟩)] w (Ate w g v1 v2 v3 v4 (nameR r) sV) := by
  have HR := Lib.hid h
  have CX := Lib.hid (must_no 100)
  have CY := Lib.hid (must_yes 100)
  have c0 := Blk.cell h 0
  simp at c0
  cases hrc : r with
  | nil =>
    have HE : Hid (nameR r = .error 100) := nameR_big (by rw [hrc]; simp [nameN])
    rw [← hrc]
    have hemp : (mkS r).toList.isEmpty = true := by rw [isEmpty_mkS, hrc]; rfl
    clear hrc h hr
    generalize nameR r = res at *
    generalize mkS r = S at *
    go_enter Tryz.func158, Tryz.ntmps158
    go_wp2_with fail
    refine (CX.out _).mono ?_
    rintro e w2 ⟨rfl, rfl⟩
    unfold gaveUp
    go_wp2_with fail
    exact ⟨rfl, Ate.mkNo (Turned.refl _ _) HR.out HE.out⟩
  | cons c t =>
    have hc : r[0]? = some c := by rw [hrc]; rfl
    rw [← hrc]
    have hemp : (mkS r).toList.isEmpty = false := by rw [isEmpty_mkS, hrc]; rfl
    have h0 : 0 < (mkS r).size := by rw [mkS_size, hrc]; simp
    have h00 : (mkS r)[0]'h0 = c := by
      have := byte_at h0
      rw [mkS_list, hc] at this
      injection this with this; exact this.symm
    have CF := Lib.hid (isFirst_any c)
    have CS := Lib.hid (fun w => span_of (mkS r) (by rw [mkS_size]; unfold maxLen; omega) w)
    rw [mkS_list] at CS
    have CT := Lib.hid (take_any h (r.takeWhile xOf).length (while_le r) hr)
    clear hrc
    cases hf : xFirst c with
    | false =>
      have HE : Hid (nameR r = .error 100) := nameR_big (by rw [nameN_first c hc, hf]; simp)
      rw [hf] at CF
      clear hc h hr hf CT CS
      generalize nameR r = res at *
      generalize mkS r = S at *
      go_enter Tryz.func158, Tryz.ntmps158
      go_wp2_with fail
      refine (CF.out _).mono ?_
      rintro e w2 ⟨rfl, rfl⟩
      go_wp2_with fail
      refine (CX.out _).mono ?_
      rintro e w2 ⟨rfl, rfl⟩
      unfold gaveUp
      go_wp2_with fail
      exact ⟨rfl, Ate.mkNo (Turned.refl _ _) HR.out HE.out⟩
    | true =>
      rw [hf] at CF
      by_cases h6 : (r.takeWhile xOf).length ≤ 60
      · obtain ⟨hp, hn, he, ht⟩ := nameR_take hc hf h6
        have HE := Lib.hid he
        have HT := Lib.hid ht
        have CC := Lib.hid (fun w => clone_any (mkS (r.takeWhile xOf)) w (by rw [mkS_size]; omega))
        clear he ht hn hc h hr hf
        generalize nameR r = res at *
        generalize r.dropWhile xOf = D at *
        generalize hL : (r.takeWhile xOf).length = n at *
        clear hL
        generalize r.takeWhile xOf = T at *
        generalize takeR n r = res2 at *
        generalize mkS r = S at *
        have hq1 : (0 : Int) < (n : Int) := by omega
        have hq2 : (n : Int) ≤ 60 := by omega
        clear hp h6
        go_enter Tryz.func158, Tryz.ntmps158
        go_wp2_with fail
        refine (CF.out _).mono ?_
        rintro e w2 ⟨rfl, rfl⟩
        go_wp2_with fail
        refine (CS.out _).mono ?_
        rintro e w2 ⟨rfl, rfl⟩
        go_wp2_with fail
        refine (CY.out _).mono ?_
        rintro e w2 ⟨rfl, rfl⟩
        go_wp2_with fail
        refine CT.out.mono ?_
        intro e w3 ha
        obtain ⟨h1, h2, rfl⟩ := ha.ok HT.out
        have H1 := Lib.hid h1
        have H2 := Lib.hid h2
        clear ha h1 h2
        unfold sV
        go_wp2_with fail
        refine (CC.out _).mono ?_
        rintro e w4 ⟨rfl, hb⟩
        obtain ⟨h1, h2⟩ := RdB.later H2.out hb
        have H3 := Lib.hid h1
        have H4 := Lib.hid (H1.out.trans h2 (frG _ _))
        clear hb h1 h2
        go_wp2_with fail
        go_ret
        exact Ate.mkOk H4.out H3.out HE.out
      · have HE : Hid (nameR r = .error 100) := nameR_big (by rw [nameN_first c hc, hf]; simp; omega)
        clear hc h hr hf CT
        generalize nameR r = res at *
        generalize (r.takeWhile xOf).length = n at *
        generalize mkS r = S at *
        have hq1 : (0 : Int) < (n : Int) := by omega
        have hq2 : ¬ (n : Int) ≤ 60 := by omega
        have hq3 : decide ((n : Int) ≤ 60) = false := decide_eq_false hq2
        clear h6
        go_enter Tryz.func158, Tryz.ntmps158
        go_wp2_with fail
        refine (CF.out _).mono ?_
        rintro e w2 ⟨rfl, rfl⟩
        go_wp2_with fail
        refine (CS.out _).mono ?_
        rintro e w2 ⟨rfl, rfl⟩
        go_wp2_with fail
        refine (CX.out _).mono ?_
        rintro e w2 ⟨rfl, rfl⟩
        unfold gaveUp
        go_wp2_with fail
        exact ⟨rfl, Ate.mkNo (Turned.refl _ _) HR.out HE.out⟩
end
end Go.Proofs.YtljldbdjkjllhaaGreatDoor

/- A character by its number, and by its name; an entity. -/
namespace Go.Proofs.YtljldbdjkjllhaaGreatDoor
set_option linter.unusedSimpArgs false
set_option linter.unusedVariables false
open Go.RowKit

theorem numX_lt (b : Nat) : ∀ (l : Bs) (acc n : Nat), numX b acc l = some n → n < (acc + 1) * b ^ l.length
  | [], acc, n, h => by injection h with h; subst h; simp
  | c :: r, acc, n, h => by
    rw [numX] at h
    split at h
    · rename_i hd
      have := numX_lt b r _ n h
      have h2 : (acc * b + digX c + 1) * b ^ r.length ≤ ((acc + 1) * b) * b ^ r.length := Nat.mul_le_mul_right _ (by rw [Nat.add_mul, Nat.one_mul]; omega)
      rw [List.length_cons, Nat.pow_succ, Nat.mul_comm (b ^ r.length) b, ← Nat.mul_assoc]
      omega
    · cases h
theorem uintX_lt {b : Nat} {t : ByteArray} (hb : BaseX b t) {n : Nat} (h : uintX b t.data.toList = some n) : n < 16777216 := by
  unfold uintX at h
  split at h
  · cases h
  · have h1 := numX_lt b _ 0 n h
    rw [Nat.zero_add, Nat.one_mul, size_len] at h1
    rcases hb with ⟨rfl, hz⟩ | ⟨rfl, hz⟩
    · have : 10 ^ t.size ≤ 10 ^ 7 := Nat.pow_le_pow_right (by decide) hz
      omega
    · have : 16 ^ t.size ≤ 16 ^ 6 := Nat.pow_le_pow_right (by decide) hz
      omega
def numE (n : Nat) : Option Nat := if standsX n = true then some n else none
theorem numR_eq (b m : Nat) (d : Bs) : numR b m d = if m < d.length then none else (uintX b d).bind numE := by
  unfold numR
  split
  · rfl
  · cases uintX b d with
    | none => rfl
    | some n => rw [Option.bind_some, numE]
def chV : Option Nat → Value
  | some n => .tuple #[.int .i32 (n : Int), .bool true]
  | none => .tuple #[.int .i32 0, .bool false]
set_option maxHeartbeats 2000000 in
set_option maxRecDepth 100000 in
theorem numbered_any (b m : Nat) (t : ByteArray) (hbm : (b = 10 ∧ m = 7) ∨ (b = 16 ∧ m = 6)) {B : Nat} {w : World} (hE : XEnv B w) (hz : t.size ≤ 40000) :
    Calls Tryz.prog 244 #[.string t, .int .i64 (b : Int), .int .i64 (m : Int)] w fun e w' => e = .returned (chV (numR b m t.data.toList)) ∧ Below w.heap.size w w' := by
  have hl : t.data.toList.length = t.size := size_len t
  by_cases hlen : m < t.size
  · have HE : Hid (numR b m t.data.toList = none) := by show numR b m _ = none; rw [numR_eq, if_pos (by omega)]
    have hz1 : (m : Int) < (t.size : Int) := by omega
    clear hlen hl hE hbm
    go_enter Tryz.func244, Tryz.ntmps244
    go_wp2_with fail
    go_ret2
    exact ⟨by rw [HE.out]; rfl, Below.refl _ _⟩
  · have hb : BaseX b t := by
      rcases hbm with ⟨rfl, rfl⟩ | ⟨rfl, rfl⟩
      · exact .inl ⟨rfl, by omega⟩
      · exact .inr ⟨rfl, by omega⟩
    have C := Lib.hid (pu_any b t hb hE)
    have HE : Hid (numR b m t.data.toList = (uintX b t.data.toList).bind numE) := by show numR b m _ = _; rw [numR_eq, if_neg (by omega)]
    have hz1 : ¬ (m : Int) < (t.size : Int) := by omega
    have hlt := fun n (h : uintX b t.data.toList = some n) => uintX_lt hb h
    clear hlen hl hE hbm hb
    generalize numR b m t.data.toList = res at *
    unfold PuEnds at C
    cases hu : uintX b t.data.toList with
    | none =>
      rw [hu] at C HE
      clear hlt hu
      go_enter Tryz.func244, Tryz.ntmps244
      go_wp2_with fail
      refine C.out.mono ?_
      rintro e w1 ⟨⟨N, rfl⟩, hb⟩
      have HB := Lib.hid hb
      clear hb C
      go_wp2_with fail
      go_ret2
      exact ⟨by rw [HE.out]; rfl, HB.out⟩
    | some n =>
      rw [hu] at C HE
      have hn := hlt n hu
      have HE : Hid (res = if standsX n = true then some n else none) := by show res = _; rw [HE.out, Option.bind_some, numE]
      clear hlt hu
      have CV := Lib.hid (fun w => Tryz.utf8_ValidRune (n : Int) w)
      have HS : Hid (standsX n = (Lib.validRune (n : Int) && (decide (32 ≤ n) || xLay n.toUInt8))) := rfl
      generalize standsX n = sx at *
      generalize Lib.validRune (n : Int) = vx at *
      have hcv : IntKind.i32.wrap (n : Int) = (n : Int) := by rw [IntKind.wrap_i32]; omega
      cases vx with
      | false =>
        have HE2 : Hid (res = none) := by show res = none; rw [HE.out, HS.out]; rfl
        clear HE HS
        go_enter Tryz.func244, Tryz.ntmps244
        go_wp2_with fail
        refine C.out.mono ?_
        rintro e w1 ⟨rfl, hb⟩
        have HB := Lib.hid hb
        clear hb C
        go_wp2_with fail
        refine (CV.out _).mono ?_
        rintro e w2 ⟨rfl, rfl⟩
        go_wp2_with fail
        go_ret2
        exact ⟨by rw [HE2.out]; rfl, HB.out⟩
      | true =>
        by_cases h32 : 32 ≤ n
        · have HE2 : Hid (res = some n) := by show res = some n; rw [HE.out, HS.out]; simp [h32]
          have hq : ¬ (n : Int) < 32 := by omega
          have hq2 : decide ((n : Int) < 32) = false := decide_eq_false hq
          clear HE HS h32
          go_enter Tryz.func244, Tryz.ntmps244
          go_wp2_with fail
          refine C.out.mono ?_
          rintro e w1 ⟨rfl, hb⟩
          have HB := Lib.hid hb
          clear hb C
          go_wp2_with fail
          refine (CV.out _).mono ?_
          rintro e w2 ⟨rfl, rfl⟩
          go_wp2_with fail
          go_ret2
          exact ⟨by rw [HE2.out]; rfl, HB.out⟩
        · have hn8 : n.toUInt8.toNat = n := by simp; omega
          have CL := Lib.hid (isLayout_any n.toUInt8)
          rw [hn8] at CL
          have HE2 : Hid (res = if xLay n.toUInt8 = true then some n else none) := by show res = _; rw [HE.out, HS.out]; simp [h32]
          have hq : (n : Int) < 32 := by omega
          have hq2 : decide ((n : Int) < 32) = true := decide_eq_true hq
          clear HE HS h32 hn8
          generalize xLay n.toUInt8 = lx at *
          cases lx
          all_goals
            go_enter Tryz.func244, Tryz.ntmps244
            go_wp2_with fail
            refine C.out.mono ?_
            rintro e w1 ⟨rfl, hb⟩
            have HB := Lib.hid hb
            clear hb C
            go_wp2_with fail
            refine (CV.out _).mono ?_
            rintro e w2 ⟨rfl, rfl⟩
            go_wp2_with fail
            refine (CL.out _).mono ?_
            rintro e w2 ⟨rfl, rfl⟩
            go_wp2_with fail
            go_ret2
            exact ⟨by rw [HE2.out]; rfl, HB.out⟩
end Go.Proofs.YtljldbdjkjllhaaGreatDoor

/- A character by its name; an entity. -/
namespace Go.Proofs.YtljldbdjkjllhaaGreatDoor
set_option linter.unusedSimpArgs false
set_option linter.unusedVariables false
open Go.RowKit

def findE (nm : Bs) : List (Bs × UInt8) → Option Nat
  | [] => charH nm
  | e :: r => if e.1 = nm then some e.2.toNat else findE nm r
theorem findE_eq (nm : Bs) : ∀ l : List (Bs × UInt8), (match l.find? (fun e => decide (e.1 = nm)) with
    | some e => some e.2.toNat
    | none => charH nm) = findE nm l
  | [] => rfl
  | e :: r => by
    rw [List.find?_cons, findE]
    by_cases h : e.1 = nm
    · rw [if_pos h, decide_eq_true h]
    · rw [if_neg h, decide_eq_false h]
      exact findE_eq nm r
theorem charR_find (nm : Bs) : charR nm = findE nm ents := by
  unfold charR
  exact findE_eq nm ents
theorem str_yes' {a b : ByteArray} (h : a = b) : (a.toList == b.toList) = true := by subst h; simp
theorem mkS_inj {a b : Bs} (h : mkS a = mkS b) : a = b := by
  have := congrArg (fun s : ByteArray => s.data.toList) h
  exact this
set_option maxHeartbeats 4000000 in
set_option maxRecDepth 100000 in
theorem character_any (nm : Bs) (hz : nm.length ≤ 40000) {B : Nat} {w : World} (hE : XEnv B w) :
    Calls Tryz.prog 206 #[.string (mkS nm)] w fun e w' => e = .returned (chV (charR nm)) ∧ Below w.heap.size w w' := by
  obtain ⟨t0, hB⟩ := hE.ents
  have c0 := hB.cell 0
  have c1 := hB.cell 1
  have c2 := hB.cell 2
  have c3 := hB.cell 3
  have c4 := hB.cell 4
  have c5 := hB.cell 5
  have c6 := hB.cell 6
  have c7 := hB.cell 7
  have c8 := hB.cell 8
  have c9 := hB.cell 9
  simp at c0 c1 c2 c3 c4 c5 c6 c7 c8 c9
  obtain ⟨a0, ha0⟩ : ∃ a, a = mkS [108, 116] := ⟨_, rfl⟩
  obtain ⟨a1, ha1⟩ : ∃ a, a = mkS [103, 116] := ⟨_, rfl⟩
  obtain ⟨a2, ha2⟩ : ∃ a, a = mkS [97, 109, 112] := ⟨_, rfl⟩
  obtain ⟨a3, ha3⟩ : ∃ a, a = mkS [113, 117, 111, 116] := ⟨_, rfl⟩
  obtain ⟨a4, ha4⟩ : ∃ a, a = mkS [97, 112, 111, 115] := ⟨_, rfl⟩
  rw [← ha0] at c0
  rw [← ha1] at c2
  rw [← ha2] at c4
  rw [← ha3] at c6
  rw [← ha4] at c8
  have ix0 : ∀ w, (Instr.index 92 (.agg #[.string a0, .int .u8 60, .string a1, .int .u8 62, .string a2, .int .u8 38, .string a3, .int .u8 34, .string a4, .int .u8 39]) (.int .i64 0)).run Tryz.prog w = .ok (.agg #[.string a0, .int .u8 60]) w := fun _ => by kernel_rfl
  have ix1 : ∀ w, (Instr.index 92 (.agg #[.string a0, .int .u8 60, .string a1, .int .u8 62, .string a2, .int .u8 38, .string a3, .int .u8 34, .string a4, .int .u8 39]) (.int .i64 1)).run Tryz.prog w = .ok (.agg #[.string a1, .int .u8 62]) w := fun _ => by kernel_rfl
  have ix2 : ∀ w, (Instr.index 92 (.agg #[.string a0, .int .u8 60, .string a1, .int .u8 62, .string a2, .int .u8 38, .string a3, .int .u8 34, .string a4, .int .u8 39]) (.int .i64 2)).run Tryz.prog w = .ok (.agg #[.string a2, .int .u8 38]) w := fun _ => by kernel_rfl
  have ix3 : ∀ w, (Instr.index 92 (.agg #[.string a0, .int .u8 60, .string a1, .int .u8 62, .string a2, .int .u8 38, .string a3, .int .u8 34, .string a4, .int .u8 39]) (.int .i64 3)).run Tryz.prog w = .ok (.agg #[.string a3, .int .u8 34]) w := fun _ => by kernel_rfl
  have ix4 : ∀ w, (Instr.index 92 (.agg #[.string a0, .int .u8 60, .string a1, .int .u8 62, .string a2, .int .u8 38, .string a3, .int .u8 34, .string a4, .int .u8 39]) (.int .i64 4)).run Tryz.prog w = .ok (.agg #[.string a4, .int .u8 39]) w := fun _ => by kernel_rfl
  have HF : Hid (charR nm = findE nm (ents.drop 0)) := charR_find nm
  have CN := Lib.hid (fun b m (t : ByteArray) h w' (hb : Below w.heap.size w w') ht => numbered_any b m t h (hE.below hb) ht)
  have CP := Lib.hid (fun p w => Tryz.strings_CutPrefix (mkS nm) (mkS p) w)
  obtain ⟨res, hres⟩ : ∃ res, res = charR nm := ⟨_, rfl⟩
  have HEQ : Hid (∀ e : Bs, e = nm → mkS e = mkS nm) := fun e h => by rw [h]
  have HNE : Hid (∀ e : Bs, ¬ e = nm → mkS e ≠ mkS nm) := fun e h h2 => h (mkS_inj h2)
  rw [← hres] at HF ⊢
  clear hres hE hB
  obtain ⟨S, hS⟩ : ∃ S, S = mkS nm := ⟨_, rfl⟩
  have HS := Lib.hid hS
  rw [← hS] at CP HEQ HNE ⊢
  clear hS
  have HA0 := Lib.hid ha0
  have HA1 := Lib.hid ha1
  have HA2 := Lib.hid ha2
  have HA3 := Lib.hid ha3
  have HA4 := Lib.hid ha4
  clear ha0 ha1 ha2 ha3 ha4
  go_enter Tryz.func206, Tryz.ntmps206
  go_wp2_with fail
  go_loopg [5, 11] 5 (fun g s5 s11 wx => ∃ k : Nat, k + g = 5 ∧ s11 = .int .i64 (k : Int) ∧ Below w.heap.size w wx ∧ Hid (res = findE nm (ents.drop k)))
  case atStart => exact ⟨0, by omega, rfl, Below.refl _ _, HF⟩
  case round =>
    obtain ⟨k, hkg, rfl, hbe, hn⟩ := hrel
    have HBE := Lib.hid hbe
    have hk' : k = 0 ∨ k = 1 ∨ k = 2 ∨ k = 3 ∨ k = 4 ∨ k = 5 := by omega
    have HKG := Lib.hid hkg
    clear hkg hbe HF
    rcases hk' with rfl | rfl | rfl | rfl | rfl | rfl
    · clear ix1 ix2 ix3 ix4 c0 c1 c2 c3 c4 c5 c6 c7 c8 c9
      have HB2 : Hid (∀ wx, Below w.heap.size w wx → Below w.heap.size w (wx.alloc (.cells #[.string a0, .int .u8 60] 91))) := fun wx h => h.alloc h.size _
      by_cases h : [108, 116] = nm
      · have t1 : (a0.toList == S.toList) = true := str_yes' (by rw [HA0.out]; exact HEQ.out _ h)
        have HV : Hid (res = some 60) := hn.out.trans (if_pos h)
        clear h hn
        go_wp2_with fail
        go_ret2
        exact ⟨by rw [HV.out]; rfl, HB2.out _ HBE.out⟩
      · have t1 : (a0.toList == S.toList) = false := str_ne (by rw [HA0.out]; exact HNE.out _ h)
        have HV : Hid (res = findE nm (ents.drop 1)) := hn.out.trans (if_neg h)
        clear h hn
        go_wp2_with fail
        go_roundg (gk - 1)
        case measure => have := HKG.out; omega
        case rel => exact ⟨1, by have := HKG.out; omega, rfl, HB2.out _ HBE.out, HV⟩
    · clear ix0 ix2 ix3 ix4 c0 c1 c2 c3 c4 c5 c6 c7 c8 c9
      have HB2 : Hid (∀ wx, Below w.heap.size w wx → Below w.heap.size w (wx.alloc (.cells #[.string a1, .int .u8 62] 91))) := fun wx h => h.alloc h.size _
      by_cases h : [103, 116] = nm
      · have t1 : (a1.toList == S.toList) = true := str_yes' (by rw [HA1.out]; exact HEQ.out _ h)
        have HV : Hid (res = some 62) := hn.out.trans (if_pos h)
        clear h hn
        go_wp2_with fail
        go_ret2
        exact ⟨by rw [HV.out]; rfl, HB2.out _ HBE.out⟩
      · have t1 : (a1.toList == S.toList) = false := str_ne (by rw [HA1.out]; exact HNE.out _ h)
        have HV : Hid (res = findE nm (ents.drop 2)) := hn.out.trans (if_neg h)
        clear h hn
        go_wp2_with fail
        go_roundg (gk - 1)
        case measure => have := HKG.out; omega
        case rel => exact ⟨2, by have := HKG.out; omega, rfl, HB2.out _ HBE.out, HV⟩
    · clear ix0 ix1 ix3 ix4 c0 c1 c2 c3 c4 c5 c6 c7 c8 c9
      have HB2 : Hid (∀ wx, Below w.heap.size w wx → Below w.heap.size w (wx.alloc (.cells #[.string a2, .int .u8 38] 91))) := fun wx h => h.alloc h.size _
      by_cases h : [97, 109, 112] = nm
      · have t1 : (a2.toList == S.toList) = true := str_yes' (by rw [HA2.out]; exact HEQ.out _ h)
        have HV : Hid (res = some 38) := hn.out.trans (if_pos h)
        clear h hn
        go_wp2_with fail
        go_ret2
        exact ⟨by rw [HV.out]; rfl, HB2.out _ HBE.out⟩
      · have t1 : (a2.toList == S.toList) = false := str_ne (by rw [HA2.out]; exact HNE.out _ h)
        have HV : Hid (res = findE nm (ents.drop 3)) := hn.out.trans (if_neg h)
        clear h hn
        go_wp2_with fail
        go_roundg (gk - 1)
        case measure => have := HKG.out; omega
        case rel => exact ⟨3, by have := HKG.out; omega, rfl, HB2.out _ HBE.out, HV⟩
    · clear ix0 ix1 ix2 ix4 c0 c1 c2 c3 c4 c5 c6 c7 c8 c9
      have HB2 : Hid (∀ wx, Below w.heap.size w wx → Below w.heap.size w (wx.alloc (.cells #[.string a3, .int .u8 34] 91))) := fun wx h => h.alloc h.size _
      by_cases h : [113, 117, 111, 116] = nm
      · have t1 : (a3.toList == S.toList) = true := str_yes' (by rw [HA3.out]; exact HEQ.out _ h)
        have HV : Hid (res = some 34) := hn.out.trans (if_pos h)
        clear h hn
        go_wp2_with fail
        go_ret2
        exact ⟨by rw [HV.out]; rfl, HB2.out _ HBE.out⟩
      · have t1 : (a3.toList == S.toList) = false := str_ne (by rw [HA3.out]; exact HNE.out _ h)
        have HV : Hid (res = findE nm (ents.drop 4)) := hn.out.trans (if_neg h)
        clear h hn
        go_wp2_with fail
        go_roundg (gk - 1)
        case measure => have := HKG.out; omega
        case rel => exact ⟨4, by have := HKG.out; omega, rfl, HB2.out _ HBE.out, HV⟩
    · clear ix0 ix1 ix2 ix3 c0 c1 c2 c3 c4 c5 c6 c7 c8 c9
      have HB2 : Hid (∀ wx, Below w.heap.size w wx → Below w.heap.size w (wx.alloc (.cells #[.string a4, .int .u8 39] 91))) := fun wx h => h.alloc h.size _
      by_cases h : [97, 112, 111, 115] = nm
      · have t1 : (a4.toList == S.toList) = true := str_yes' (by rw [HA4.out]; exact HEQ.out _ h)
        have HV : Hid (res = some 39) := hn.out.trans (if_pos h)
        clear h hn
        go_wp2_with fail
        go_ret2
        exact ⟨by rw [HV.out]; rfl, HB2.out _ HBE.out⟩
      · have t1 : (a4.toList == S.toList) = false := str_ne (by rw [HA4.out]; exact HNE.out _ h)
        have HV : Hid (res = findE nm (ents.drop 5)) := hn.out.trans (if_neg h)
        clear h hn
        go_wp2_with fail
        go_roundg (gk - 1)
        case measure => have := HKG.out; omega
        case rel => exact ⟨5, by have := HKG.out; omega, rfl, HB2.out _ HBE.out, HV⟩
    · have HV : Hid (res = charH nm) := hn.out
      clear hn ix0 ix1 ix2 ix3 ix4 c0 c1 c2 c3 c4 c5 c6 c7 c8 c9
      have HC : Hid (charH nm = if Lib.hasPrefix nm [35, 120] = true then numR 16 6 (Lib.trimPrefix nm [35, 120]) else if Lib.hasPrefix nm [35] = true then numR 10 7 (Lib.trimPrefix nm [35]) else none) := rfl
      have CP1 := Lib.hid (CP.out [35, 120])
      have CP2 := Lib.hid (CP.out [35])
      rw [HS.out, mkS_list, mkS_list, ← HS.out] at CP1 CP2
      have hz1 := trim_len nm [35, 120]
      have hz2 := trim_len nm [35]
      have CN1 := Lib.hid (fun w' hb => CN.out 16 6 (mkS (Lib.trimPrefix nm [35, 120])) (.inr ⟨rfl, rfl⟩) w' hb (by rw [mkS_size]; omega))
      have CN2 := Lib.hid (fun w' hb => CN.out 10 7 (mkS (Lib.trimPrefix nm [35])) (.inl ⟨rfl, rfl⟩) w' hb (by rw [mkS_size]; omega))
      rw [mkS_list] at CN1 CN2
      clear hz1 hz2 CN CP hz HEQ HNE
      generalize charH nm = ch at *
      generalize numR 16 6 _ = r1 at *
      generalize numR 10 7 _ = r2 at *
      generalize Lib.trimPrefix nm [35, 120] = d1 at *
      generalize Lib.trimPrefix nm [35] = d2 at *
      generalize Lib.hasPrefix nm [35, 120] = b1 at *
      generalize Lib.hasPrefix nm [35] = b2 at *
      cases b1 with
      | true =>
        have HV2 : Hid (res = r1) := HV.out.trans HC.out
        clear HV HC CN2 CP2
        go_wp2_with fail
        refine (CP1.out _).mono ?_
        rintro e w1 ⟨rfl, rfl⟩
        have CN3 := Lib.hid (CN1.out _ HBE.out)
        go_wp2_with fail
        refine CN3.out.mono ?_
        rintro e w2 ⟨rfl, hb⟩
        have HB3 := Lib.hid (HBE.out.trans (hb.mono HBE.out.size))
        clear hb CN3 CN1
        cases r1 with
        | none =>
          unfold chV
          go_wp2_with fail
          go_ret2
          exact ⟨by rw [HV2.out]; rfl, HB3.out⟩
        | some n =>
          unfold chV
          go_wp2_with fail
          go_ret2
          exact ⟨by rw [HV2.out]; rfl, HB3.out⟩
      | false =>
        cases b2 with
        | true =>
          have HV2 : Hid (res = r2) := HV.out.trans HC.out
          clear HV HC CN1
          go_wp2_with fail
          refine (CP1.out _).mono ?_
          rintro e w1 ⟨rfl, rfl⟩
          go_wp2_with fail
          refine (CP2.out _).mono ?_
          rintro e w1 ⟨rfl, rfl⟩
          have CN3 := Lib.hid (CN2.out _ HBE.out)
          go_wp2_with fail
          refine CN3.out.mono ?_
          rintro e w2 ⟨rfl, hb⟩
          have HB3 := Lib.hid (HBE.out.trans (hb.mono HBE.out.size))
          clear hb CN3 CN2
          cases r2 with
          | none =>
            unfold chV
            go_wp2_with fail
            go_ret2
            exact ⟨by rw [HV2.out]; rfl, HB3.out⟩
          | some n =>
            unfold chV
            go_wp2_with fail
            go_ret2
            exact ⟨by rw [HV2.out]; rfl, HB3.out⟩
        | false =>
          have HV2 : Hid (res = none) := HV.out.trans HC.out
          clear HV HC CN1 CN2
          go_wp2_with fail
          refine (CP1.out _).mono ?_
          rintro e w1 ⟨rfl, rfl⟩
          go_wp2_with fail
          refine (CP2.out _).mono ?_
          rintro e w1 ⟨rfl, rfl⟩
          go_wp2_with fail
          go_ret2
          exact ⟨by rw [HV2.out]; rfl, HBE.out⟩
end Go.Proofs.YtljldbdjkjllhaaGreatDoor

/- An entity is taken. -/
namespace Go.Proofs.YtljldbdjkjllhaaGreatDoor
set_option linter.unusedSimpArgs false
set_option linter.unusedVariables false
open Go.RowKit

section
variable {w : World} {B g : Nat} {r : Bs} {v1 v2 v3 v4 : Value}
def rV (n : Nat) : Value := .int .i32 (n : Int)
theorem cut1_len (l : Bs) : (Lib.cut l [59]).1.length ≤ l.length := by
  unfold Lib.cut
  split
  · show (l.take _).length ≤ _; simp; omega
  · exact Nat.le_refl _
theorem entityR_eq (l : Bs) : entityR l = if (Lib.cut l [59]).2.2 = true then (match charR (Lib.cut l [59]).1 with
    | some c => .ok (c, (Lib.cut l [59]).2.1)
    | none => .error 103) else .error 103 := rfl
theorem entityR_no {l : Bs} (h : (Lib.cut l [59]).2.2 = false) : entityR l = .error 103 := by rw [entityR_eq, h]; rfl
theorem entityR_none {l : Bs} (h : charR (Lib.cut l [59]).1 = none) : entityR l = .error 103 := by
  rw [entityR_eq, h]
  split <;> rfl
theorem entityR_some {l : Bs} (h : (Lib.cut l [59]).2.2 = true) {c : Nat} (hc : charR (Lib.cut l [59]).1 = some c) : entityR l = .ok (c, (Lib.cut l [59]).2.1) := by rw [entityR_eq, h, hc]; rfl
set_option maxHeartbeats 2000000 in
set_option maxRecDepth 100000 in
theorem entity_any (h : RdB w g r v1 v2 v3 v4) (hE : XEnv B w) (hr : r.length ≤ 40000) :
    Calls Tryz.prog 156 #[.pointer (some ⟨g, 0, none⟩)] w (Ate w g v1 v2 v3 v4 (entityR r) rV) := by
  obtain ⟨m, hm⟩ := hE.max
  have C := Lib.hid (Tryz.strings_Cut (mkS r) (mkS [59]) m w (by rw [mkS_size]; omega) hm)
  rw [show (mkS r).data.toList = r from rfl, show (mkS [59]).data.toList = [59] from rfl] at C
  have hl := cut1_len r
  have CC := Lib.hid (fun n => character_any (Lib.cut r [59]).1 (by omega) (hE.below ((below_drewN' (Below.refl w.heap.size w) n))))
  have HR := Lib.hid h
  have CY := Lib.hid (must_yes 103)
  have CX := Lib.hid (must_no 103)
  have c0 := Blk.cell h 0
  simp at c0
  have hno := Lib.hid (@entityR_no r)
  have hnone := Lib.hid (@entityR_none r)
  have hsome := Lib.hid (@entityR_some r)
  clear hm hE h hl hr
  have e59 : mkS [59] = ⟨#[59]⟩ := rfl
  rw [e59] at C
  clear e59
  generalize entityR r = res at *
  generalize (Lib.cut r [59]).1 = nm at *
  generalize (Lib.cut r [59]).2.1 = rest at *
  generalize (Lib.cut r [59]).2.2 = cl at *
  generalize charR nm = ch at *
  have HV : Hid (∀ w3, Turned [g] w w3 → RdB w3 g r v1 v2 v3 v4 → Turned [g] w (w3.setCell ⟨g, 0, none⟩ (.string (mkS rest))) ∧ RdB (w3.setCell ⟨g, 0, none⟩ (.string (mkS rest))) g rest v1 v2 v3 v4) := fun w3 ht hr => ⟨ht.setCell (.inl (by simp)) _, hr.set_ _⟩
  unfold mkS at C CC
  go_enter Tryz.func156, Tryz.ntmps156
  go_wp2_with fail
  refine C.out.mono ?_
  rintro e w1 ⟨rfl, n, rfl⟩
  have CC1 := Lib.hid (CC.out n)
  clear C CC
  go_wp2_with fail
  refine CC1.out.mono ?_
  rintro e w2 ⟨rfl, hb⟩
  have hb2 : Below w.heap.size w w2 := (below_drewN' (Below.refl w.heap.size w) n).trans hb
  obtain ⟨h1, h2⟩ := RdB.later HR.out hb2
  have H1 := Lib.hid h1
  have H2 := Lib.hid h2
  have c1 := Blk.cell h1 0
  have f1 := Blk.free h1 0
  simp at c1
  clear hb hb2 h1 h2 CC1
  cases ch with
  | none =>
    have HE : Hid (res = .error 103) := hnone.out rfl
    cases cl
    all_goals
      unfold chV
      go_wp2_with fail
      refine (CX.out _).mono ?_
      rintro e w3 ⟨rfl, rfl⟩
      unfold gaveUp
      go_wp2_with fail
      exact ⟨rfl, Ate.mkNo H2.out H1.out HE.out⟩
  | some c =>
    cases cl with
    | false =>
      have HE : Hid (res = .error 103) := hno.out rfl
      unfold chV
      go_wp2_with fail
      refine (CX.out _).mono ?_
      rintro e w3 ⟨rfl, rfl⟩
      unfold gaveUp
      go_wp2_with fail
      exact ⟨rfl, Ate.mkNo H2.out H1.out HE.out⟩
    | true =>
      have HE : Hid (res = .ok (c, rest)) := hsome.out rfl rfl
      have HV2 := Lib.hid (HV.out w2 H2.out H1.out)
      unfold mkS at HV2
      unfold chV
      go_wp2_with fail
      refine (CY.out _).mono ?_
      rintro e w3 ⟨rfl, rfl⟩
      go_wp2_with fail
      go_ret
      exact Ate.mkOk HV2.out.1 HV2.out.2 HE.out
end
end Go.Proofs.YtljldbdjkjllhaaGreatDoor
