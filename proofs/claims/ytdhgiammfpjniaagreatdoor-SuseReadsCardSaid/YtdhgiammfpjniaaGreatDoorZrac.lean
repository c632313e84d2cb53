/- Parts of the proof. -/
import Derived.Test.YtdhgiammfpjniaaGreatDoorZrab
import Derived.Test.YtdhgiammfpjniaaGreatDoorZraa
import Derived.StillTailTactics
import Derived.Deep.LoopGhost
namespace Go.Proofs.YtdhgiammfpjniaaGreatDoor
set_option linter.unusedSimpArgs false
set_option linter.unusedVariables false
open Go.RowKit
def nos (cs : Bs) (c : UInt8) : Bool := !cs.contains c
def anyAt (cs l : Bs) : Int := if adQ3 cs l < l.length then (adQ3 cs l : Int) else -1
theorem afQu (cs l : Bs) : adQ3 cs l = (l.takeWhile (nos cs)).length := rfl
theorem alQt {cs l : Bs} {k : Nat} {c : UInt8} (h : (l.take k).all (nos cs) = true) (hc : l[k]? = some c) (hs : cs.contains c = true) : anyAt cs l = k := by
 have hk := (List.getElem?_eq_some_iff.1 hc).1
 have := aeQx h (Nat.le_of_lt hk) (fun d hd => by rw [hc] at hd; injection hd with hd; subst hd; show (!cs.contains _) = false; rw [hs]; rfl)
 unfold anyAt
 rw [afQu, ← this, if_pos hk]
theorem aiQm {cs l : Bs} (h : l.all (nos cs) = true) : anyAt cs l = -1 := by
 have := aeQx (l := l) (k := l.length) (by rw [List.take_length]; exact h) (Nat.le_refl _) (fun d hd => by simp at hd)
 unfold anyAt
 rw [afQu, ← this, if_neg (Nat.lt_irrefl _)]
theorem aiQr (w : World) : (zeroValue 130).run Tryz.prog w = .ok (.agg (Array.replicate 256 (.bool false))) w := by
 have h : (Tryz.prog.info? 130).map (fun i => (i.zero, i.size)) = some (some (.agg (Array.replicate 256 (.bool false))), 256) := by kernel_rfl
 exact (zero_of_info h).1 w
set_option maxHeartbeats 8000000 in
set_option maxRecDepth 1000000 in
theorem ajQg {cs : Bs} (hse : Seps cs) (s : ByteArray) (h8 : 8 < s.size) (hs : s.size ≤ maxLen) (w : World) :
 Calls Tryz.prog 94 #[.string s, .string (mkS cs)] w fun e w' => e = .returned (.int .i64 (anyAt cs s.data.toList)) ∧ Below w.heap.size w w' := by
 unfold maxLen at hs
 have hcz : (mkS cs).size ≤ 8 := hse.few
 have hemp : (mkS cs).toList.isEmpty = false := by rw [abQa (by have := hse.two; show 0 < cs.length; omega)]
 have hone : (((mkS cs).size : Int) == 1) = false := by have := hse.two; have e : (mkS cs).size = cs.length := rfl; simp; omega
 have CM := hQQ (fun w => Tryz.strings_makeASCIISet aiQr (mkS cs) w (by omega) (fun j b hb => hse.low b (List.mem_of_getElem? hb)))
 have CU := hQQ (fun n w => Tryz.strings_shouldUseASCIISet n w)
 obtain ⟨CS, hCS⟩ : ∃ CS, CS = Lib.setCells cs := ⟨_, rfl⟩
 have S1 := hQQ (show CS.size = 256 from hCS ▸ Lib.setCells_size _)
 have S2 := hQQ (show CS.all (·.oneCell') = true from hCS ▸ Lib.setCells_one _)
 have S3 : Hid (∀ x : UInt8, CS[x.toNat]? = some (.bool (cs.contains x))) := fun x => by
  rw [hCS, Lib.setCells_at]
 rw [aaQn, ← hCS] at CM
 clear hCS
 have h8z : decide ((8 : Int) < (s.size : Int)) = true := decide_eq_true (by omega)
 have hsc : (storeCells ⟨w.heap.size + 1, 0, none⟩ CS.toList 0).run Tryz.prog ((w.alloc (.cells CS 130)).alloc (.cells (Array.replicate 256 (.bool false)) 130)) = .ok () ((w.alloc (.cells CS 130)).alloc (.cells CS 130)) := by
  have := run_storeCells_new (P := Tryz.prog) (w.alloc (.cells CS 130)) 130 (Array.replicate 256 (.bool false)) CS (by rw [S1.out]; kernel_rfl) (by rw [S1.out, Array.size_replicate]) S2.out
  simpa using this
 generalize mkS cs = SC at *
 have hzs := aiQr
 go_enter Tryz.func94, Tryz.ntmps94
 go_wp2_with (first
  | (go_at_call 164; refine (CU.out _ _).mono ?_; rintro e w' ⟨rfl, hw⟩; rw [hw, h8z])
  | (go_at_call 88; refine (CM.out _).mono ?_; rintro e w' ⟨rfl, hw⟩; rw [hw]))
 have CC := hQQ (fun b x v w hc => Tryz.asciiSet_contains b x v w hc)
 clear hsc CM CU hzs
 have HB : Hid (Below w.heap.size w ((w.alloc (.cells CS 130)).alloc (.cells CS 130))) := ((Below.refl _ _).alloc (Nat.le_refl _) _).alloc (by simp) _
 have HC : Hid (∀ x : UInt8, ((w.alloc (.cells CS 130)).alloc (.cells CS 130)).cell? ⟨w.heap.size + 1, x.toNat, none⟩ = some (.bool (cs.contains x))) := fun x => by
  rw [(Blk.new' (w := w.alloc (.cells CS 130)) (g := w.heap.size + 1) (t := 130) (cs := CS) (by simp)).cell]
  exact S3.out x
 obtain ⟨bg, hbg⟩ : ∃ bg, bg = w.heap.size + 1 := ⟨_, rfl⟩
 rw [← hbg] at HC
 simp only [← hbg]
 clear hbg
 generalize ((w.alloc (.cells CS 130)).alloc (.cells CS 130)) = w1 at *
 go_loop [8] (fun i => ∃ k : Nat, k ≤ s.size ∧ i = .int .i64 (k : Int) ∧ Hid ((s.data.toList.take k).all (nos cs) = true)) (fun i => s.size - (intOf i).toNat)
 case atStart => exact ⟨0, Nat.zero_le _, rfl, show (s.data.toList.take 0).all (nos cs) = true from rfl⟩
 case round =>
  obtain ⟨k, hk, rfl, hall⟩ := hrel
  by_cases hlt : k < s.size
  ·have HX := hQQ (aaQw hlt)
   have HC1 := hQQ (HC.out s[k])
   have HY := hQQ (fun (h : cs.contains s[k] = false) => acQ6 hall.out HX.out (show nos cs s[k] = true by unfold nos; rw [h]; rfl))
   have HN := hQQ (fun (h : cs.contains s[k] = true) => alQt hall.out HX.out h)
   have hlt' : (k : Int) < (s.size : Int) := by omega
   clear hall
   generalize cs.contains s[k] = m at *
   cases m
   all_goals
    go_wp2_with fail
    refine (CC.out _ _ _ _ HC1.out).mono ?_
    rintro e w2 ⟨rfl, rfl⟩
    go_wp2_with fail
   ·go_round
    case rel => exact ⟨k + 1, by omega, by go_num, HY.out (by simp)⟩
    case measure => simp [intOf]; omega
   ·go_ret
    exact ⟨by rw [HN.out (by simp)]; rfl, HB.out⟩
  ·have HM := hQQ (aiQm (l := s.data.toList) (by
    have := hall.out
    rwa [List.take_of_length_le (by rw [aaQd]; omega)] at this))
   have hlt' : ¬ (k : Int) < (s.size : Int) := by omega
   go_wp2_with fail
   go_ret
   exact ⟨by rw [HM.out]; rfl, HB.out⟩
theorem ixb_some {l : Bs} {c : UInt8} (h : l.contains c = true) : 0 ≤ Lib.indexByte l c := by
 induction l with
 | nil => cases h
 | cons b r ih =>
   unfold Lib.indexByte
   by_cases hb : b = c
   ·simp [hb]
   ·have h2 : r.contains c = true := by
     rw [List.contains_cons] at h
     have : (c == b) = false := beq_eq_false_iff_ne.2 (Ne.symm hb)
     rw [this, Bool.false_or] at h
     exact h
    have := ih h2
    simp [hb]
    split <;> omega
def aeQo (cs : Bs) (c : Int) : Int := if c < 128 then Lib.indexByte cs c.toNat.toUInt8 else -1
theorem rune_any {cs : Bs} (hs : Seps cs) (c : Int) (h0 : 0 ≤ c) (h2 : c ≤ 2147483647) (w : World) :
 Calls Tryz.prog 163 #[.string (mkS cs), .int .i32 c] w fun e w' => e = .returned (.int .i64 (aeQo cs c)) ∧ Below w.heap.size w w' := by
 by_cases h : c < 128
 ·refine (Tryz.strings_IndexRune_ascii (mkS cs) c w h0 h).mono ?_
  rintro e w' ⟨rfl, rfl⟩
  refine ⟨?_, Below.refl _ _⟩
  unfold aeQo
  rw [if_pos h]
  rfl
 ·have e : aeQo cs c = -1 := by
   unfold aeQo; rw [if_neg (by omega)]
  rw [e]
  by_cases he : c = 65533
  ·subst he; exact aoQn hs w
  ·cases hv : Lib.validRune c with
   | true => exact aqQd hs c (by omega) h2 he hv w
   | false => exact rune_bad cs c (by omega) h2 he hv w
theorem anQp {cs : Bs} (hs : Seps cs) {b : UInt8} (h : 128 ≤ b.toNat) : nos cs b = true := by
 unfold nos
 cases hc : cs.contains b with
 | false => rfl
 | true =>
   have := hs.low b (by simpa using hc)
   omega
theorem get_list {s : ByteArray} {j : Nat} {b : UInt8} (h : s.data.toList[j]? = some b) : s.get! j = b := by
 have hj : j < s.size := by rw [← aaQd]; exact (List.getElem?_eq_some_iff.1 h).1
 have e := get_at s j hj
 rw [Nat.add_zero] at e
 rw [e]
 have := aaQw hj
 rw [h] at this
 injection this with this
 exact this.symm
theorem ahQp {cs : Bs} (hse : Seps cs) (s : ByteArray) (pos : Nat) (h : pos < s.size) (ha : 128 ≤ (s[pos]'h).toNat) :
 pos + (Utf8.decode s pos).2 ≤ s.size ∧ ∀ j b, pos ≤ j → j < pos + (Utf8.decode s pos).2 → s.data.toList[j]? = some b → nos cs b = true := by
 have hn : ¬ (s[pos]'h).toNat < 128 := by omega
 have h0 : ∀ b, s.data.toList[pos]? = some b → nos cs b = true := fun b hb => by
  rw [aaQw h] at hb; injection hb with hb; exact anQp hse (by rw [← hb]; exact ha)
 have hc : ∀ k, (decide (pos + k < s.size) && (s.get! (pos + k)).toNat / 64 == 2) = true → pos + k < s.size ∧ ∀ b, s.data.toList[pos + k]? = some b → nos cs b = true := fun k hk => by
  simp only [Bool.and_eq_true, decide_eq_true_eq, beq_iff_eq] at hk
  refine ⟨hk.1, fun b hb => ?_⟩
  rw [get_list hb] at hk
  exact anQp hse (by omega)
 have one : pos + 1 ≤ s.size ∧ ∀ j b, pos ≤ j → j < pos + 1 → s.data.toList[j]? = some b → nos cs b = true :=
  ⟨h, fun j b h1 h2 hb => h0 b (by rwa [show j = pos by omega] at hb)⟩
 simp only [Utf8.decode, get_at s pos h, hn, if_false]
 split
 ·rename_i h1
  rw [Bool.and_eq_true] at h1
  have c1 := hc 1 h1.2
  split
  ·refine ⟨by show pos + 2 ≤ _; omega, fun j b g1 g2 hb => ?_⟩
   have g2 : j < pos + 2 := g2
   rcases (by omega : j = pos ∨ j = pos + 1) with rfl | rfl
   ·exact h0 b hb
   ·exact c1.2 b hb
  ·exact one
 ·split
  ·rename_i h1
   obtain ⟨h1, k2⟩ := Bool.and_eq_true_iff.1 h1
   obtain ⟨h1, k1⟩ := Bool.and_eq_true_iff.1 h1
   have c1 := hc 1 k1
   have c2 := hc 2 k2
   split
   ·refine ⟨by show pos + 3 ≤ _; omega, fun j b g1 g2 hb => ?_⟩
    have g2 : j < pos + 3 := g2
    rcases (by omega : j = pos ∨ j = pos + 1 ∨ j = pos + 2) with rfl | rfl | rfl
    ·exact h0 b hb
    ·exact c1.2 b hb
    ·exact c2.2 b hb
   ·exact one
  ·split
   ·rename_i h1
    obtain ⟨h1, k3⟩ := Bool.and_eq_true_iff.1 h1
    obtain ⟨h1, k2⟩ := Bool.and_eq_true_iff.1 h1
    obtain ⟨h1, k1⟩ := Bool.and_eq_true_iff.1 h1
    have c1 := hc 1 k1
    have c2 := hc 2 k2
    have c3 := hc 3 k3
    split
    ·refine ⟨by show pos + 4 ≤ _; omega, fun j b g1 g2 hb => ?_⟩
     have g2 : j < pos + 4 := g2
     rcases (by omega : j = pos ∨ j = pos + 1 ∨ j = pos + 2 ∨ j = pos + 3) with rfl | rfl | rfl | rfl
     ·exact h0 b hb
     ·exact c1.2 b hb
     ·exact c2.2 b hb
     ·exact c3.2 b hb
    ·exact one
   ·exact one
theorem all_more {cs : Bs} {l : List UInt8} {k n : Nat} (h : (l.take k).all (nos cs) = true) (hm : ∀ j b, k ≤ j → j < k + n → l[j]? = some b → nos cs b = true) : (l.take (k + n)).all (nos cs) = true := by
 induction n with
 | zero => exact h
 | succ n ih =>
   have := ih fun j b h1 h2 => hm j b h1 (by omega)
   rw [← Nat.add_assoc, List.take_add_one, List.all_append, this]
   cases hx : l[k + n]? with
   | none => rfl
   | some b => simp [hm (k + n) b (by omega) (by omega) hx]
def Iter (w : World) (b : Nat) (s : ByteArray) (pos : Nat) : Prop := w.heap[b]? = some (.stringIter s pos)
def adQn (w : World) (b : Nat) (s : ByteArray) (pos : Nat) : World := { w with heap := w.heap.setIfInBounds b (.stringIter s pos) }
theorem next_at {P : Program} {w : World} {b : Nat} {s : ByteArray} {pos : Nat} (hi : Iter w b s pos) (ty : TypeId) (h : pos < s.size) :
 (Instr.next (.pointer (some ⟨b, 0, none⟩)) true ty).run P w = .ok (.tuple #[.bool true, .int .i64 pos, .int .i32 (Utf8.decode s pos).1]) (adQn w b s (pos + (Utf8.decode s pos).2)) := by
 have hi' : w.heap[b]? = some (.stringIter s pos) := hi
 simp only [Instr.next, getObj, setObj, Sem.run_bind, Sem.run, hi', Result.andThen, h, if_true]
 simp [goInt, adQn]
theorem next_end {P : Program} {w : World} {b : Nat} {s : ByteArray} {pos : Nat} (hi : Iter w b s pos) (ty : TypeId) (h : ¬ pos < s.size) :
 (Instr.next (.pointer (some ⟨b, 0, none⟩)) true ty).run P w = .ok (.tuple #[.bool false]) w := by
 have hi' : w.heap[b]? = some (.stringIter s pos) := hi
 simp [Instr.next, getObj, Sem.run, hi', h]
theorem iter_set {w : World} {b : Nat} {s : ByteArray} {pos : Nat} (hi : Iter w b s pos) (p' : Nat) : Iter (adQn w b s p') b s p' := by
 have hb := (Array.getElem?_eq_some_iff.1 hi).1
 unfold Iter adQn
 simp [hb]
theorem arQy {B : Nat} {w0 w : World} {b : Nat} {s : ByteArray} {pos : Nat} (h : Below B w0 w) (hb : B ≤ b) : Below B w0 (adQn w b s pos) :=
 ⟨h.os, h.tape, h.output, by simpa [adQn] using h.size, fun k hk => by
  have : (adQn w b s pos).heap[k]? = w.heap[k]? := by
   unfold adQn
   simp only
   rw [Array.getElem?_setIfInBounds_ne (by omega)]
  rw [this]; exact h.block k hk⟩
theorem apQk {w w' : World} {b : Nat} {s : ByteArray} {pos : Nat} (hi : Iter w b s pos) (h : Below w.heap.size w w') : Iter w' b s pos :=
 (h.block b (Array.getElem?_eq_some_iff.1 hi).1).trans hi
theorem apQu {cs : Bs} (hse : Seps cs) (s : ByteArray) (i : Nat) (h : i < s.size) (hall : (s.data.toList.take i).all (nos cs) = true) :
 ∃ c n, Utf8.decode s i = (c, n) ∧ 1 ≤ n ∧ c ≤ 2147483647 ∧ ((0 ≤ aeQo cs (c : Int) ∧ anyAt cs s.data.toList = i) ∨ (aeQo cs (c : Int) = -1 ∧ (s.data.toList.take (i + n)).all (nos cs) = true ∧ i + n ≤ s.size)) := by
 by_cases ha : (s[i]'h).toNat < 128
 ·refine ⟨_, _, decode_ascii s i h ha, Nat.le_refl _, by omega, ?_⟩
  have hx := aaQw h
  have hr : aeQo cs (((s[i]'h).toNat : Nat) : Int) = Lib.indexByte cs (s[i]'h) := by
   unfold aeQo
   rw [if_pos (by omega)]
   congr 1
   simp
  rw [hr]
  by_cases hs : cs.contains (s[i]'h) = true
  ·left
   exact ⟨ixb_some hs, alQt hall hx hs⟩
  ·right
   have hs : cs.contains (s[i]'h) = false := by simpa using hs
   refine ⟨anQy fun x hxm e => ?_, acQ6 hall hx (by unfold nos; rw [hs]; rfl), h⟩
   subst e
   have : cs.contains (s[i]'h) = true := by simpa using hxm
   rw [this] at hs; cases hs
 ·have ha : 128 ≤ (s[i]'h).toNat := by omega
  obtain ⟨h1, h2⟩ := decode_high s i h ha
  obtain ⟨h3, h4⟩ := ahQp hse s i h ha
  refine ⟨(Utf8.decode s i).1, (Utf8.decode s i).2, rfl, h2, decode_le s i, .inr ⟨?_, all_more hall h4, h3⟩⟩
  unfold aeQo
  rw [if_neg (by omega)]
set_option maxHeartbeats 8000000 in
set_option maxRecDepth 1000000 in
theorem ahQ3 {cs : Bs} (hse : Seps cs) (s : ByteArray) (h8 : s.size ≤ 8) (w : World) :
 Calls Tryz.prog 94 #[.string s, .string (mkS cs)] w fun e w' => e = .returned (.int .i64 (anyAt cs s.data.toList)) ∧ Below w.heap.size w w' := by
 have CU := hQQ (fun n w => Tryz.strings_shouldUseASCIISet n w)
 have CR := hQQ (fun c h0 h1 w => rune_any hse c h0 h1 w)
 have h8z : decide ((8 : Int) < (s.size : Int)) = false := decide_eq_false (by omega)
 have hemp : (mkS cs).toList.isEmpty = false := by rw [abQa (by have := hse.two; show 0 < cs.length; omega)]
 have hone : (((mkS cs).size : Int) == 1) = false := by have := hse.two; have e : (mkS cs).size = cs.length := rfl; simp; omega
 have HSE := hQQ hse
 clear hse
 generalize mkS cs = SC at *
 go_enter Tryz.func94, Tryz.ntmps94
 go_wp2_with (go_at_call 164; refine (CU.out _ _).mono ?_; rintro e w' ⟨rfl, hw⟩; rw [hw, h8z])
 have HB0 : Hid (Below w.heap.size w (w.iter s 0)) := (Below.refl _ _).alloc (Nat.le_refl _) _
 have HI0 : Hid (Iter (w.iter s 0) w.heap.size s 0) := World.iter_heap w s 0
 obtain ⟨bi, hbi⟩ : ∃ bi, bi = w.heap.size := ⟨_, rfl⟩
 have HBI := hQQ hbi
 rw [← hbi] at HI0
 simp only [← hbi]
 clear hbi
 generalize w.iter s 0 = w1 at *
 go_loopg [9, 10] s.size (fun g _ _ wx => ∃ i : Nat, i + g = s.size ∧ Iter wx bi s i ∧ Below w.heap.size w wx ∧ Hid ((s.data.toList.take i).all (nos cs) = true))
 case atStart => exact ⟨0, by omega, HI0.out, HB0.out, show (s.data.toList.take 0).all (nos cs) = true from rfl⟩
 case round =>
  obtain ⟨i, hig, hit, hbe, hall⟩ := hrel
  have HIT := hQQ hit
  have HBE := hQQ hbe
  clear hit hbe
  by_cases hlt : i < s.size
  ·have hnx := fun ty => next_at (P := Tryz.prog) HIT.out ty hlt
   have HX := hQQ (aaQw hlt)
   obtain ⟨c, n, hcn, hn1, hc2, hor⟩ := apQu HSE.out s i hlt hall.out
   rw [hcn] at hnx
   have HST := hQQ (iter_set HIT.out (i + n))
   have HSB := hQQ (arQy (b := bi) (s := s) (pos := i + n) HBE.out (by rw [HBI.out]; exact Nat.le_refl _))
   have HC1 := hQQ (CR.out (c : Int) (by omega) (by omega))
   clear hcn hall
   generalize adQn _ _ _ _ = w2 at *
   rcases hor with ⟨hr, hsep⟩ | ⟨hr, hmore, hle⟩
   ·have HN := hQQ hsep
    clear hsep
    generalize aeQo cs (c : Int) = x at *
    go_wp2_with fail
    refine (HC1.out _).mono ?_
    rintro e w3 ⟨rfl, hb3⟩
    go_wp2_with fail
    go_ret
    exact ⟨by rw [HN.out]; rfl, HSB.out.trans (hb3.mono HSB.out.size)⟩
   ·have HM := hQQ hmore
    rw [hr] at HC1
    clear hmore hr
    go_wp2_with fail
    refine (HC1.out _).mono ?_
    rintro e w3 ⟨rfl, hb3⟩
    have HB3 := hQQ hb3
    clear hb3
    go_wp2_with fail
    go_roundg (gk - n)
    case measure => omega
    case rel => exact ⟨i + n, by omega, apQk HST.out HB3.out, HSB.out.trans (HB3.out.mono HSB.out.size), HM.out⟩
  ·have hnx := fun ty => next_end (P := Tryz.prog) HIT.out ty hlt
   have HM := hQQ (aiQm (l := s.data.toList) (by
    have := hall.out
    rwa [List.take_of_length_le (by rw [aaQd]; omega)] at this))
   go_wp2_with fail
   go_ret
   exact ⟨by rw [HM.out]; rfl, HBE.out⟩
theorem alQa {cs : Bs} (hse : Seps cs) (s : ByteArray) (hs : s.size ≤ maxLen) (w : World) :
 Calls Tryz.prog 94 #[.string s, .string (mkS cs)] w fun e w' => e = .returned (.int .i64 (anyAt cs s.data.toList)) ∧ Below w.heap.size w w' := by
 by_cases h : s.size ≤ 8
 ·exact ahQ3 hse s h w
 ·exact ajQg hse s (by omega) hs w
theorem aaQg (l : Bs) : (mkS l).size = l.length := rfl
theorem agQn (l : Bs) (n : Nat) : (mkS l).extract 0 n = mkS (l.take n) := s_ext (by rw [acQa, aaQn, aaQn])
theorem ajQa (l : Bs) (n : Nat) : (mkS l).extract n (mkS l).size = mkS (l.drop n) := s_ext (by rw [acQ9, aaQn, aaQn])
theorem abQb (l : Bs) : (mkS l).toList.isEmpty = l.isEmpty := by rw [ByteArray.toList_eq]; rfl
def dLay (c : UInt8) : Bool := c == 32 || c == 9
def dLayS : Bs := [32, 9]
theorem anQ3 (c : UInt8) : dLayS.contains c = dLay c := by
 unfold dLayS dLay
 simp only [List.contains_cons, List.contains_nil, Bool.or_false, Bool.or_assoc]
def dR (l : Bs) : Bs := (l.reverse.dropWhile dLay).reverse
def dL (l : Bs) : Bs := l.dropWhile dLay
def dTrim (l : Bs) : Bs := dL (dR l)
theorem ahQo : ∀ {l : Bs}, l.all dLay = true → ∀ m : Bs, (l ++ m).dropWhile dLay = m.dropWhile dLay
 | [], _, m => rfl
 | c :: r, h, m => by
   rw [List.all_cons, Bool.and_eq_true] at h
   rw [List.cons_append, List.dropWhile_cons, if_pos h.1]
   exact ahQo h.2 m
theorem ajQy (l : Bs) : l.reverse.all dLay = l.all dLay := by simp
theorem arQm {l : Bs} {j : Nat} {c : UInt8} (h : (l.drop (j + 1)).all dLay = true) (hc : l[j]? = some c) (hn : dLay c = false) : dR l = l.take (j + 1) := by
 have e : l = l.take (j + 1) ++ l.drop (j + 1) := (List.take_append_drop _ _).symm
 have e2 : l.take (j + 1) = l.take j ++ [c] := by rw [List.take_add_one, hc]; rfl
 unfold dR
 have e3 : l.reverse = (l.drop (j + 1)).reverse ++ (c :: (l.take j).reverse) := by
  conv => lhs; rw [e, List.reverse_append, e2, List.reverse_append]
  rfl
 rw [e3, ahQo (by rw [ajQy]; exact h), List.dropWhile_cons, if_neg (by rw [hn]; simp), e2]
 simp
theorem ajQk {l : Bs} (h : l.all dLay = true) : dR l = [] := by
 unfold dR
 have := ahQo (l := l.reverse) (by rw [ajQy]; exact h) []
 rw [List.append_nil] at this
 rw [this]
 rfl
theorem dR_len (l : Bs) : (dR l).length ≤ l.length := by
 unfold dR
 rw [List.length_reverse]
 have := (List.dropWhile_suffix (l := l.reverse) dLay).length_le
 simpa using this
theorem dL_len (l : Bs) : (dL l).length ≤ l.length := (List.dropWhile_suffix (l := l) dLay).length_le
theorem alQj (l : Bs) : (dTrim l).length ≤ l.length := Nat.le_trans (dL_len _) (dR_len _)
def SetD (w : World) (b : Nat) : Prop := ∀ x : UInt8, w.cell? ⟨b, x.toNat, none⟩ = some (.bool (dLay x))
set_option maxHeartbeats 4000000 in
set_option maxRecDepth 1000000 in
theorem apQv (b : Nat) (w : World) (hs : SetD w b) (l : Bs) (hl : l.length ≤ 200000) :
 Calls Tryz.prog 90 #[.string (mkS l), .pointer (some ⟨b, 0, none⟩)] w fun e w' => e = .returned (.string (mkS (dR l))) ∧ w = w' := by
 have HS := hQQ hs
 clear hs
 have HC := hQQ (fun x w hc => Tryz.asciiSet_contains b x (dLay x) w hc)
 go_enter Tryz.func90, Tryz.ntmps90
 go_wp2_with fail
 go_loop [0] (fun v => ∃ k : Nat, k ≤ l.length ∧ v = .string (mkS (l.take k)) ∧ Hid ((l.drop k).all dLay = true)) (fun v => match v with | .string s => s.size | _ => 0)
 case atStart => exact ⟨l.length, Nat.le_refl _, by rw [List.take_length], by show (l.drop l.length).all dLay = true; rw [List.drop_length]; rfl⟩
 case round =>
  obtain ⟨k, hk, rfl, hall⟩ := hrel
  have hz : (mkS (l.take k)).size = k := by rw [aaQg, List.length_take]; omega
  cases k with
  | zero =>
    have HV : Hid (l.all dLay = true) := hall.out
    have h0 : ((mkS (l.take 0)).size : Int) = 0 := by rw [hz]; rfl
    go_wp2_with fail
    go_ret
    exact ⟨by rw [ajQk HV.out]; rfl, rfl⟩
  | succ j =>
    have hj : j < l.length := by omega
    have hjz : j < (mkS (l.take (j + 1))).size := by omega
    obtain ⟨c, hc⟩ : ∃ c, c = l[j] := ⟨_, rfl⟩
    have hget : (mkS (l.take (j + 1)))[j]'hjz = c := by
     have h1 := aaQw hjz
     rw [aaQn, List.getElem?_take, if_pos (by omega), List.getElem?_eq_getElem hj] at h1
     injection h1 with h1
     rw [hc]; exact h1.symm
    have hext : (mkS (l.take (j + 1))).extract 0 j = mkS (l.take j) := by rw [agQn, List.take_take, Nat.min_eq_left (by omega)]
    have htk : l.take (j + 1) = l.take j ++ [c] := by rw [List.take_add_one, List.getElem?_eq_getElem hj, hc]; rfl
    have hdr : l.drop j = c :: l.drop (j + 1) := by rw [hc]; exact List.drop_eq_getElem_cons hj
    have HN1 : Hid (dLay c = true → (l.drop j).all dLay = true) := fun h => by have := hall.out; rw [hdr, List.all_cons, h, this]; rfl
    have HN2 : Hid (dLay c = false → dR l = l.take (j + 1)) := fun h => arQm hall.out (by rw [List.getElem?_eq_getElem hj, hc]) h
    have HTK := hQQ htk
    have HZJ : Hid ((mkS (l.take j)).size < (mkS (l.take (j + 1))).size) := by show (mkS _).size < _; rw [hz, aaQg, List.length_take]; omega
    have CC := hQQ (HC.out c w (HS.out c))
    have hs1 : ((mkS (l.take (j + 1))).size : Int) - 1 = (j : Int) := by rw [hz]; omega
    have hs0 : (0 : Int) < ((mkS (l.take (j + 1))).size : Int) := by rw [hz]; omega
    have hz40 : (mkS (l.take (j + 1))).size ≤ 200000 := by rw [hz]; omega
    clear hdr htk hc hz hall hj
    generalize hSS : mkS (l.take (j + 1)) = S at *
    have HSS := hQQ hSS
    clear hSS
    generalize hR : mkS (l.take j) = R at *
    have HR := hQQ hR
    clear hR
    generalize hxc : dLay c = bb at *
    cases bb with
    | true =>
      clear hxc
      have HN := hQQ (HN1.out rfl)
      clear HN1 HN2
      go_wp2_with fail
      refine CC.out.mono ?_
      rintro e w1 ⟨rfl, rfl⟩
      go_wp2_with fail
      go_round
      case rel => exact ⟨j, by omega, by rw [HR.out], HN⟩
      case measure => exact HZJ.out
    | false =>
      have HN := hQQ (HN2.out rfl)
      have HXC := hQQ hxc
      clear HN1 HN2 hxc
      go_wp2_with fail
      refine CC.out.mono ?_
      rintro e w1 ⟨rfl, rfl⟩
      go_wp2_with fail
      go_ret
      exact ⟨(by first | (rw [HN.out, HSS.out]; done) | (rw [HN.out, HSS.out]; rfl)), rfl⟩
set_option maxHeartbeats 4000000 in
set_option maxRecDepth 1000000 in
theorem apQw (b : Nat) (w : World) (hs : SetD w b) (l : Bs) (hl : l.length ≤ 200000) :
 Calls Tryz.prog 89 #[.string (mkS l), .pointer (some ⟨b, 0, none⟩)] w fun e w' => e = .returned (.string (mkS (dL l))) ∧ w = w' := by
 have HS := hQQ hs
 clear hs
 have HC := hQQ (fun x w hc => Tryz.asciiSet_contains b x (dLay x) w hc)
 go_enter Tryz.func89, Tryz.ntmps89
 go_wp2_with fail
 go_loop [0] (fun v => ∃ m : Bs, m.length ≤ l.length ∧ v = .string (mkS m) ∧ Hid (dL m = dL l)) (fun v => match v with | .string s => s.size | _ => 0)
 case atStart => exact ⟨l, Nat.le_refl _, rfl, rfl⟩
 case round =>
  obtain ⟨m, hm, rfl, hall⟩ := hrel
  cases m with
  | nil =>
    have HV : Hid (dL l = []) := hall.out.symm
    have h0 : ((mkS []).size : Int) = 0 := rfl
    generalize hSS : mkS [] = S at *
    have HSS := hQQ hSS
    clear hSS hall
    go_wp2_with fail
    go_ret
    exact ⟨(by first | (rw [HV.out, HSS.out]; done) | (rw [HV.out, HSS.out]; rfl)), rfl⟩
  | cons c r =>
    have hjz : 0 < (mkS (c :: r)).size := by rw [aaQg]; simp
    have hget : (mkS (c :: r))[0]'hjz = c := rfl
    have hext : (mkS (c :: r)).extract 1 (mkS (c :: r)).size = mkS r := by rw [ajQa]; rfl
    have CC := hQQ (HC.out c w (HS.out c))
    have hs0 : (0 : Int) < ((mkS (c :: r)).size : Int) := by omega
    have hz40 : (mkS (c :: r)).size ≤ 200000 := by rw [aaQg]; omega
    have HZJ : Hid ((mkS r).size < (mkS (c :: r)).size) := by show (mkS r).size < _; rw [aaQg, aaQg]; simp
    have HRN : Hid (dLay c = true → dL r = dL l) := fun hc => by
     rw [← hall.out]
     show _ = (c :: r).dropWhile dLay
     rw [List.dropWhile_cons, if_pos hc]
     rfl
    have HRF : Hid (dLay c = false → dL l = c :: r) := fun hc => by
     rw [← hall.out]
     show (c :: r).dropWhile dLay = _
     rw [List.dropWhile_cons, if_neg (by rw [hc]; simp)]
    have hrl : r.length ≤ l.length := by simp at hm; omega
    clear hall hm
    generalize hSS : mkS (c :: r) = S at *
    generalize hRR : mkS r = R at *
    have HSS := hQQ hSS
    have HR := hQQ hRR
    clear hSS hRR
    generalize dLay c = bb at *
    cases bb with
    | true =>
      have HN := hQQ (HRN.out rfl)
      clear HRN HRF
      go_wp2_with fail
      refine CC.out.mono ?_
      rintro e w1 ⟨rfl, rfl⟩
      go_wp2_with fail
      go_round
      case rel => exact ⟨r, hrl, by rw [HR.out], HN⟩
      case measure => exact HZJ.out
    | false =>
      have HF := hQQ (HRF.out rfl)
      clear HRN HRF
      go_wp2_with fail
      refine CC.out.mono ?_
      rintro e w1 ⟨rfl, rfl⟩
      go_wp2_with fail
      go_ret
      exact ⟨(by first | (rw [HF.out, HSS.out]; done) | (rw [HF.out, HSS.out]; rfl)), rfl⟩
set_option maxHeartbeats 8000000 in
set_option maxRecDepth 1000000 in
theorem alQk (l : Bs) (hl : l.length ≤ 200000) (w : World) :
 Calls Tryz.prog 42 #[.string (mkS l), .string (mkS dLayS)] w fun e w' => e = .returned (.string (mkS (dTrim l))) ∧ Below w.heap.size w w' := by
 have CM := hQQ (fun w => Tryz.strings_makeASCIISet aiQr (mkS dLayS) w (by decide) (fun j b hb => by
  have h : ∀ c ∈ dLayS, c.toNat < 128 := by decide
  exact h b (List.mem_of_getElem? hb)))
 obtain ⟨CS, hCS⟩ : ∃ CS, CS = Lib.setCells dLayS := ⟨_, rfl⟩
 have S1 := hQQ (show CS.size = 256 from hCS ▸ Lib.setCells_size _)
 have S2 := hQQ (show CS.all (·.oneCell') = true from hCS ▸ Lib.setCells_one _)
 have S3 : Hid (∀ x : UInt8, CS[x.toNat]? = some (.bool (dLay x))) := fun x => by
  rw [hCS, Lib.setCells_at, anQ3]
 rw [aaQn, ← hCS] at CM
 clear hCS
 have hsc : (storeCells ⟨w.heap.size + 1, 0, none⟩ CS.toList 0).run Tryz.prog ((w.alloc (.cells CS 130)).alloc (.cells (Array.replicate 256 (.bool false)) 130)) = .ok () ((w.alloc (.cells CS 130)).alloc (.cells CS 130)) := by
  have := run_storeCells_new (P := Tryz.prog) (w.alloc (.cells CS 130)) 130 (Array.replicate 256 (.bool false)) CS (by rw [S1.out]; kernel_rfl) (by rw [S1.out, Array.size_replicate]) S2.out
  simpa using this
 have hlay : (mkS dLayS).toList.isEmpty = false := by rw [abQa (by decide)]
 have hone : (((mkS dLayS).size : Int) == 1) = false := by decide
 have hzs := aiQr
 cases hl0 : l with
 | nil =>
   have hemp : (mkS ([] : Bs)).toList.isEmpty = true := by rw [abQb]; rfl
   generalize hSS : mkS ([] : Bs) = S at *
   have HSS := hQQ hSS
   clear hSS hl0 hl
   generalize mkS dLayS = LS at *
   go_enter Tryz.func42, Tryz.ntmps42
   go_wp2_with fail
   go_ret
   exact ⟨(by first | (rw [show dTrim [] = [] from rfl, HSS.out]; done) | (rw [show dTrim [] = [] from rfl, HSS.out]; rfl)), Below.refl _ _⟩
 | cons c r =>
   rw [← hl0]
   have hemp : (mkS l).toList.isEmpty = false := by rw [abQb, hl0]; rfl
   clear hl0 c r
   have CR := hQQ (fun b w hs => apQv b w hs l hl)
   generalize mkS l = S at *
   generalize mkS dLayS = LS at *
   go_enter Tryz.func42, Tryz.ntmps42
   go_wp2_with (go_at_call 88; refine (CM.out _).mono ?_; rintro e w' ⟨rfl, hw⟩; rw [hw])
   have HB : Hid (Below w.heap.size w ((w.alloc (.cells CS 130)).alloc (.cells CS 130))) := ((Below.refl _ _).alloc (Nat.le_refl _) _).alloc (by simp) _
   have HC : SetD ((w.alloc (.cells CS 130)).alloc (.cells CS 130)) (w.heap.size + 1) := fun x => by
    rw [(Blk.new' (w := w.alloc (.cells CS 130)) (g := w.heap.size + 1) (t := 130) (cs := CS) (by simp)).cell]
    exact S3.out x
   have CR1 := hQQ (CR.out _ _ HC)
   have HCC := hQQ HC
   clear hsc CM hzs HC CR
   generalize ((w.alloc (.cells CS 130)).alloc (.cells CS 130)) = w1 at *
   go_wp2_with fail
   refine CR1.out.mono ?_
   rintro e w2 ⟨rfl, rfl⟩
   have CL1 := hQQ (apQw (w.heap.size + 1) w1 HCC.out (dR l) (Nat.le_trans (dR_len l) hl))
   clear CR1
   go_wp2_with fail
   refine CL1.out.mono ?_
   rintro e w2 ⟨rfl, rfl⟩
   clear CL1
   go_wp2_with fail
   go_ret
   exact ⟨rfl, HB.out⟩
set_option maxRecDepth 100000 in
theorem adQh (s : ByteArray) (w : World) (hs : s.size ≤ 40000) : Calls Tryz.prog 48 #[.string s] w fun e w' => e = .returned (.string s) ∧ Below w.heap.size w w' := by
 have C := hQQ (Tryz.stringslite_Clone s w (by omega))
 go_enter Tryz.func48, Tryz.ntmps48
 go_wp2_with fail
 refine C.out.mono ?_
 rintro e w1 ⟨rfl, hb⟩
 have HB := hQQ hb
 clear hb
 go_wp2_with fail
 go_ret
 exact ⟨rfl, HB.out⟩
end Go.Proofs.YtdhgiammfpjniaaGreatDoor
