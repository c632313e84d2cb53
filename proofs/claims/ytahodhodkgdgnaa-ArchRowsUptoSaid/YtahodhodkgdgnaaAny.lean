/- Where a text's first > or : stands: the library's own search, for any bytes. -/
import Derived.Test.YtahodhodkgdgnaaRune
namespace Go.Proofs.Ytahodhodkgdgnaa
set_option linter.unusedSimpArgs false
set_option linter.unusedVariables false
open Go.RowKit

def nosep (c : UInt8) : Bool := !isSep c
/-- Where the first of them stands; -1: nowhere. -/
def sepAt (l : List UInt8) : Int := if (l.takeWhile nosep).length < l.length then ((l.takeWhile nosep).length : Int) else -1
theorem sepAt_hit {l : List UInt8} {k : Nat} {c : UInt8} (h : (l.take k).all nosep = true) (hc : l[k]? = some c) (hs : isSep c = true) : sepAt l = k := by
  have hk := (List.getElem?_eq_some_iff.1 hc).1
  have := while_is h (Nat.le_of_lt hk) (fun d hd => by rw [hc] at hd; injection hd with hd; subst hd; simp [nosep, hs])
  unfold sepAt
  rw [← this, if_pos hk]
theorem sepAt_none {l : List UInt8} (h : l.all nosep = true) : sepAt l = -1 := by
  have := while_is (l := l) (k := l.length) (by rw [List.take_length]; exact h) (Nat.le_refl _) (fun d hd => by simp at hd)
  unfold sepAt
  rw [← this, if_neg (Nat.lt_irrefl _)]

theorem contains_sep (x : UInt8) : ([62, 58] : List UInt8).contains x = isSep x := by
  unfold isSep
  simp only [List.contains_cons, List.contains_nil, Bool.or_false]
theorem zeroSet (w : World) : (zeroValue 56).run Try.prog w = .ok (.agg (Array.replicate 256 (.bool false))) w := by
  have h : (Try.prog.info? 56).map (fun i => (i.zero, i.size)) = some (some (.agg (Array.replicate 256 (.bool false))), 256) := by kernel_rfl
  exact (zero_of_info h).1 w

set_option maxHeartbeats 8000000 in
set_option maxRecDepth 1000000 in
theorem indexAny_long (s : ByteArray) (h8 : 8 < s.size) (hs : s.size ≤ maxLen) (w : World) :
    Calls Try.prog 20 #[.string s, .string seps] w fun e w' => e = .returned (.int .i64 (sepAt s.data.toList)) ∧ Below w.heap.size w w' := by
  unfold maxLen at hs
  have CM := Lib.hid (fun w => Try.strings_makeASCIISet zeroSet seps w (by decide) (fun j b hb => by
    have : seps.data.toList = [62, 58] := rfl
    rw [this] at hb
    match j, hb with
    | 0, hb => injection hb with hb; subst hb; decide
    | 1, hb => injection hb with hb; subst hb; decide
    | j + 2, hb => simp at hb))
  have CU := Lib.hid (fun n w => Try.strings_shouldUseASCIISet n w)
  obtain ⟨CS, hCS⟩ : ∃ CS, CS = Lib.setCells seps.data.toList := ⟨_, rfl⟩
  have S1 := Lib.hid (show CS.size = 256 from hCS ▸ Lib.setCells_size _)
  have S2 := Lib.hid (show CS.all (·.oneCell') = true from hCS ▸ Lib.setCells_one _)
  have S3 : Hid (∀ x : UInt8, CS[x.toNat]? = some (.bool (isSep x))) := fun x => by
    rw [hCS, Lib.setCells_at, ← contains_sep]; rfl
  rw [← hCS] at CM
  clear hCS
  have h8z : decide ((8 : Int) < (s.size : Int)) = true := decide_eq_true (by omega)
  have hsc : (storeCells ⟨w.heap.size + 1, 0, none⟩ CS.toList 0).run Try.prog ((w.alloc (.cells CS 56)).alloc (.cells (Array.replicate 256 (.bool false)) 56)) = .ok () ((w.alloc (.cells CS 56)).alloc (.cells CS 56)) := by
    have := run_storeCells_new (P := Try.prog) (w.alloc (.cells CS 56)) 56 (Array.replicate 256 (.bool false)) CS (by rw [S1.out]; kernel_rfl) (by rw [S1.out, Array.size_replicate]) S2.out
    simpa using this
  unfold seps at *
  have hzs := zeroSet
  go_enter Try.func20, Try.ntmps20
  go_wp2_with (first
    | (go_at_call 25; refine (CU.out _ _).mono ?_; rintro e w' ⟨rfl, hw⟩; rw [hw, h8z])
    | (go_at_call 26; refine (CM.out _).mono ?_; rintro e w' ⟨rfl, hw⟩; rw [hw]))
  have CC := Lib.hid (fun b x v w hc => Try.asciiSet_contains b x v w hc)
  clear hsc CM CU hzs
  have HB : Hid (Below w.heap.size w ((w.alloc (.cells CS 56)).alloc (.cells CS 56))) := ((Below.refl _ _).alloc (Nat.le_refl _) _).alloc (by simp) _
  have HC : Hid (∀ x : UInt8, ((w.alloc (.cells CS 56)).alloc (.cells CS 56)).cell? ⟨w.heap.size + 1, x.toNat, none⟩ = some (.bool (isSep x))) := fun x => by
    rw [(Blk.new' (w := w.alloc (.cells CS 56)) (g := w.heap.size + 1) (t := 56) (cs := CS) (by simp)).cell]
    exact S3.out x
  obtain ⟨bg, hbg⟩ : ∃ bg, bg = w.heap.size + 1 := ⟨_, rfl⟩
  rw [← hbg] at HC
  simp only [← hbg]
  clear hbg
  generalize ((w.alloc (.cells CS 56)).alloc (.cells CS 56)) = w1 at *
  go_loop [8] (fun i => ∃ k : Nat, k ≤ s.size ∧ i = .int .i64 (k : Int) ∧ Hid ((s.data.toList.take k).all nosep = true)) (fun i => s.size - (intOf i).toNat)
  case atStart => exact ⟨0, Nat.zero_le _, rfl, show (s.data.toList.take 0).all nosep = true from rfl⟩
  case round =>
    obtain ⟨k, hk, rfl, hall⟩ := hrel
    by_cases hlt : k < s.size
    · have HX := Lib.hid (byte_at hlt)
      have HC1 := Lib.hid (HC.out s[k])
      have HY := Lib.hid (fun (h : isSep s[k] = false) => all_snoc hall.out HX.out (show nosep s[k] = true by unfold nosep; rw [h]; rfl))
      have HN := Lib.hid (fun (h : isSep s[k] = true) => sepAt_hit hall.out HX.out h)
      have hlt' : (k : Int) < (s.size : Int) := by omega
      clear hall
      generalize isSep s[k] = m at *
      cases m
      all_goals
        go_wp2_with fail
        refine (CC.out _ _ _ _ HC1.out).mono ?_
        rintro e w2 ⟨rfl, rfl⟩
        go_wp2_with fail
      · go_round
        case rel => exact ⟨k + 1, by omega, by go_num, HY.out (by simp)⟩
        case measure => simp [intOf]; omega
      · go_ret
        exact ⟨by rw [HN.out (by simp)]; rfl, HB.out⟩
    · have HM := Lib.hid (sepAt_none (l := s.data.toList) (by
        have := hall.out
        rwa [List.take_of_length_le (by rw [size_len]; omega)] at this))
      have hlt' : ¬ (k : Int) < (s.size : Int) := by omega
      go_wp2_with fail
      go_ret
      exact ⟨by rw [HM.out]; rfl, HB.out⟩
end Go.Proofs.Ytahodhodkgdgnaa
