/- The contract of texts: what a value is found by; and that of the search's own closure. -/
import Derived.Test.YthgagobdkcikiaaDoorIdxF
import Derived.Test.YthgagobdkcikiaaDoorGlob
import Derived.Test.YthgagobdkcikiaaDoorStM
import Derived.Lib.AppendIntMem
import Derived.Lib.ItoaLen
namespace Go.Proofs.YthgagobdkcikiaaDoor
set_option linter.unusedSimpArgs false
set_option linter.unusedVariables false
open Go.RowKit

theorem okI_range {n : Int} (h : okI n) : -9223372036854775808 ≤ n ∧ n ≤ 9223372036854775807 := by
  simp [okI, Lit.wf, IntKind.min, IntKind.max, IntKind.bits, IntKind.signed] at h
  omega
def textsL (k n : Int) (s : ByteArray) (l : List ByteArray) : List ByteArray :=
  if k = 1 then [⟨(Lib.itoa n).toArray⟩] else if k = 2 then [s] else l
def PowAt (w : World) : Prop := Lib.TabIs Tryd.prog w "internal/strconv.uint64pow10" .u64 Lib.pow10Tab
theorem PowAt.below {w w' : World} (h : PowAt w) (hb : Below w.heap.size w w') : PowAt w' := Lib.tabBelow_of_tabIs h w' hb
theorem textsL_small {k n : Int} {s : ByteArray} {l : List ByteArray} (hn : okI n) (hs : s.size ≤ 200) (hl : ∀ t, t ∈ l → t.size ≤ 200) : ∀ t ∈ textsL k n s l, t.size ≤ 1048576 := by
  intro t ht
  unfold textsL at ht
  split at ht
  · simp at ht
    subst ht
    have := Lib.itoa_length_le n (okI_range hn).1 (okI_range hn).2
    show (Lib.itoa n).toArray.size ≤ _
    simp
    omega
  · split at ht
    · simp at ht; subst ht; omega
    · have := hl t ht; omega
theorem rd_more {w : World} {B B' : Nat} {A : Option Addr} {xs : List Value} (h : Rd w B A xs) (hB : B ≤ B') : Rd w B' A xs := fun k u hk => by obtain ⟨b, o, e, hb, hc⟩ := h k u hk; exact ⟨b, o, e, by omega, hc⟩
def TextsPost (w : World) (ds : List ByteArray) (e : Ending) (w' : World) : Prop :=
  (∃ A c, e = .returned (.slice A ds.length c) ∧ ds.length ≤ c ∧ c ≤ maxLen ∧ Rd w' w'.heap.size A (ds.map Value.string)) ∧ Below w.heap.size w w'
theorem rd_one (w : World) (s : ByteArray) : Rd (w.alloc (.cells #[.string s] 9)) (w.heap.size + 1) (some ⟨w.heap.size, 0, none⟩) [.string s] := fun k u hk => by
  cases k with
  | zero => simp at hk; subst hk; exact ⟨_, _, rfl, by omega, (Blk.new w 9 #[.string s]).cell 0⟩
  | succ k => simp at hk
set_option maxRecDepth 100000 in
theorem texts_any (w : World) (htab : PowAt w) (k n : Int) (hn : okI n) (s : ByteArray) (A : Option Addr) (l : List ByteArray) (hl : l.length ≤ 200) (hA : Rd w w.heap.size A (l.map Value.string)) :
    Calls Tryd.prog 30 #[.agg #[.int .i64 k, .int .i64 n, .string s, .slice A l.length l.length]] w (TextsPost w (textsL k n s l)) := by
  obtain ⟨wa, hwa⟩ : ∃ wa, wa = w.alloc (.cells #[.int .i64 k, .int .i64 n, .string s, .slice A l.length l.length] 37) := ⟨_, rfl⟩
  have hb : Below w.heap.size w wa := by rw [hwa]; exact (Below.refl _ _).alloc (Nat.le_refl _) _
  have K : Blk wa w.heap.size 37 #[.int .i64 k, .int .i64 n, .string s, .slice A l.length l.length] := by rw [hwa]; exact Blk.new _ _ _
  have z0 := K.cell 0
  have z1 := K.cell 1
  have z2 := K.cell 2
  have z3 := K.cell 3
  have hza : wa.heap.size = w.heap.size + 1 := by rw [hwa]; simp
  simp at z0 z1 z2 z3
  have hA2 := hA.below hb (Nat.le_refl _)
  have HA := Lib.hid hA2
  have HB := Lib.hid hb
  have hm : l.length ≤ maxLen := by unfold maxLen; omega
  have CI := Lib.hid (Tryd.strconv_Itoa n (okI_range hn).1 (okI_range hn).2 wa (htab.below hb))
  clear htab hA hA2 hb K hl hn
  by_cases h1 : k = 1
  · subst h1
    rw [show textsL 1 n s l = [⟨(Lib.itoa n).toArray⟩] from rfl]
    go_enter Tryd.func30, Tryd.ntmps30
    go_upto_region 1 with fail
    rw [← hwa]
    clear hwa
    go_wp2_with fail
    refine CI.out.mono ?_
    rintro e w2 ⟨rfl, q, os, hw2⟩
    have hb2 : Below w.heap.size w w2 := by rw [hw2]; exact HB.out.trans ((Lib.below_grow _ wa (Nat.le_refl _) q os).mono HB.out.size)
    have HB2 := Lib.hid hb2
    clear hw2 CI hb2 z0 z1 z2 z3
    generalize (Lib.itoa n).toArray = x at *
    go_wp2_with fail
    go_ret
    exact ⟨⟨_, _, rfl, Nat.le_refl _, by unfold maxLen; simp, by have := rd_one w2 ⟨x⟩; simpa using this⟩, HB2.out.alloc HB2.out.size _⟩
  by_cases h2 : k = 2
  · subst h2
    rw [show textsL 2 n s l = [s] from rfl]
    clear CI
    go_enter Tryd.func30, Tryd.ntmps30
    go_upto_region 1 with fail
    rw [← hwa]
    clear hwa
    go_wp2_with fail
    go_ret
    exact ⟨⟨_, _, rfl, Nat.le_refl _, by unfold maxLen; simp, by have := rd_one wa s; rw [hza] at this; simpa [hza] using this⟩, HB.out.alloc HB.out.size _⟩
  rw [show textsL k n s l = l from by unfold textsL; rw [if_neg h1, if_neg h2]]
  have q1 : (k == 1) = false := by simpa using h1
  have q2 : (k == 2) = false := by simpa using h2
  clear CI
  go_enter Tryd.func30, Tryd.ntmps30
  go_upto_region 1 with fail
  rw [← hwa]
  clear hwa
  go_wp2_with fail
  go_ret
  exact ⟨⟨_, _, rfl, Nat.le_refl _, hm, rd_more HA.out (by omega)⟩, HB.out⟩
set_option maxRecDepth 100000 in
/-- The search's closure: whether a text fits. -/
theorem fitsC_any (f0 f1 : Nat) (how : Int) (p : ByteArray) (hp : p.size ≤ 1048576) (d : ByteArray) (hd : d.size ≤ 1048576) (w : World) (hm : MaxAt w) (h0 : w.cell? ⟨f0, 0, none⟩ = some (.int .i64 how)) (h1 : w.cell? ⟨f1, 0, none⟩ = some (.string p)) :
    Calls Tryd.prog 28 (#[.string d] ++ #[.pointer (some ⟨f0, 0, none⟩), .pointer (some ⟨f1, 0, none⟩)]) w fun e w' => e = .returned (.bool (fitsB how p d)) ∧ Below w.heap.size w w' := by
  have C := Lib.hid (fits_any how p d hp hd w hm)
  generalize fitsB how p d = ans at *
  rw [show (#[.string d] ++ #[.pointer (some ⟨f0, 0, none⟩), .pointer (some ⟨f1, 0, none⟩)] : Array Value) = #[.string d, .pointer (some ⟨f0, 0, none⟩), .pointer (some ⟨f1, 0, none⟩)] from rfl]
  clear hm
  go_enter Tryd.func28, Tryd.ntmps28
  go_wp2_with fail
  refine C.out.mono ?_
  rintro e w1 ⟨rfl, n, rfl⟩
  go_wp2_with fail
  go_ret
  exact ⟨rfl, below_drewN' (Below.refl _ _) n⟩
end Go.Proofs.YthgagobdkcikiaaDoor
