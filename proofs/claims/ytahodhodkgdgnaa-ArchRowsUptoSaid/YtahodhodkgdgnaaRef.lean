/- The document's answer: its table in memory, Score and Better. -/
import Derived.Test.YtahodhodkgdgnaaParse
namespace Go.Proofs.Ytahodhodkgdgnaa
set_option linter.unusedSimpArgs false
set_option linter.unusedVariables false
open Go.RowKit

def nameVs (T : Tb) : List Value := T.map fun p => .string (mkS p.1)
def scoreVs (T : Tb) : List Value := T.map fun p => .int .i64 (p.2 : Int)
/-- The parts of the document's table in memory. -/
structure RT (base : Nat) (w : World) (bt : Nat) (vn vs : Value) (T : Tb) : Prop where
  blk : Blk w bt 50 #[vn, vs]
  names : w.ownsRow base 9 1 vn T.length (nameVs T)
  scores : w.ownsRow base 3 1 vs T.length (scoreVs T)
def RTab (w : World) (bt : Nat) (T : Tb) : Prop := GoodT T ∧ ∃ base vn vs, RT base w bt vn vs T
theorem RT.below {base : Nat} {w w' : World} {bt : Nat} {vn vs : Value} {T : Tb} (h : RT base w bt vn vs T) (hb : Below w.heap.size w w') : RT base w' bt vn vs T :=
  ⟨h.blk.below hb h.blk.lt, own_turned (F := []) h.names (Turned.of_below hb []) (fun k _ => by simp), own_turned (F := []) h.scores (Turned.of_below hb []) (fun k _ => by simp)⟩
theorem RTab.below {w w' : World} {bt : Nat} {T : Tb} (h : RTab w bt T) (hb : Below w.heap.size w w') : RTab w' bt T := by
  obtain ⟨hg, base, vn, vs, h⟩ := h
  exact ⟨hg, base, vn, vs, h.below hb⟩

def NoHit (T : Tb) (s : List UInt8) (k : Nat) : Prop := ∀ j p, j < k → T[j]? = some p → p.1 ≠ s
theorem find_miss {T : Tb} {s : List UInt8} (i : Nat) (h : NoHit T s T.length) : findT i T s = none := by
  induction T generalizing i with
  | nil => rfl
  | cons p r ih =>
    unfold findT
    rw [if_neg (h 0 p (by simp) rfl)]
    exact ih (i + 1) fun j q hj hq => h (j + 1) q (by simp; exact hj) (by simpa using hq)
theorem find_hit {T : Tb} {s : List UInt8} {k : Nat} {p : List UInt8 × Nat} (i : Nat) (h : NoHit T s k) (hk : T[k]? = some p) (hp : p.1 = s) : findT i T s = some (p.2, i + k) := by
  induction T generalizing i k with
  | nil => cases hk
  | cons q r ih =>
    unfold findT
    cases k with
    | zero =>
      simp at hk
      subst hk
      rw [if_pos hp]; rfl
    | succ k =>
      rw [if_neg (h 0 q (by omega) rfl), ih (k := k) (i + 1) (fun j x hj hx => h (j + 1) x (by omega) (by simpa using hx)) (by simpa using hk)]
      rw [show i + 1 + k = i + (k + 1) by omega]

set_option maxHeartbeats 1000000 in
set_option maxRecDepth 100000 in
theorem rscore_any (w : World) (base bt : Nat) (vn vs : Value) (T : Tb) (hl : T.length ≤ 1000) (s : ByteArray) (h : RT base w bt vn vs T) :
    Calls Try.prog 12 #[.pointer (some ⟨bt, 0, none⟩), .string s] w fun e w' => e = .returned (.int .i64 (scoreT T s.data.toList)) ∧ w = w' := by
  obtain ⟨An, cn, rfl, hn1, hn2⟩ := own_form' h.names
  obtain ⟨As, cs, rfl, hs1, hs2⟩ := own_form' h.scores
  have c0 : w.cell? ⟨bt, 0, none⟩ = some (.slice An T.length cn) := h.blk.cell 0
  have c1 : w.cell? ⟨bt, 0 + 1, none⟩ = some (.slice As T.length cs) := h.blk.cell 1
  have HT := Lib.hid h
  unfold maxLen at hn2 hs2
  clear h
  go_enter Try.func12, Try.ntmps12
  go_wp2_with fail
  go_loop [5] (fun i => ∃ k : Nat, k ≤ T.length ∧ i = .int .i64 (k : Int) ∧ Hid (NoHit T s.data.toList k)) (fun i => T.length - (intOf i).toNat)
  case atStart => exact ⟨0, Nat.zero_le _, rfl, show NoHit _ _ 0 from fun j p hj => by omega⟩
  case round =>
    obtain ⟨k, hk, rfl, hno⟩ := hrel
    by_cases hlt : k < T.length
    · obtain ⟨p, hp⟩ : ∃ p, T[k]? = some p := ⟨_, List.getElem?_eq_getElem hlt⟩
      obtain ⟨b1, rfl, e1⟩ := own_at_ HT.out.names (k := k) (u := .string (mkS p.1)) (by simp [nameVs, hp])
      obtain ⟨b2, rfl, e2⟩ := own_at_ HT.out.scores (k := k) (u := .int .i64 (p.2 : Int)) (by simp [scoreVs, hp])
      have hlt' : decide (k < T.length) = true := by simpa using hlt
      by_cases he : p.1 = s.data.toList
      · have t1 : ((mkS p.1).toList == s.toList) = true := by rw [str_beq]; exact decide_eq_true he
        have HR := Lib.hid (find_hit 0 hno.out hp he)
        clear he
        go_wp2_with fail
        go_ret
        exact ⟨by unfold scoreT; rw [HR.out]; rfl, rfl⟩
      · have t1 : ((mkS p.1).toList == s.toList) = false := by rw [str_beq]; exact decide_eq_false he
        have HN : Hid (NoHit T s.data.toList (k + 1)) := fun j q hj hq => by
          by_cases hjk : j = k
          · subst hjk; rw [hp] at hq; injection hq with hq; subst hq; exact he
          · exact hno.out j q (by omega) hq
        clear he
        go_wp2_with fail
        go_round
        case rel => exact ⟨k + 1, by omega, by go_num, HN.out⟩
        case measure => simp [intOf]; omega
    · have hlt' : decide (k < T.length) = false := by simpa using hlt
      have HR := Lib.hid (find_miss (T := T) (s := s.data.toList) 0 (by rw [show T.length = k by omega]; exact hno.out))
      go_wp2_with fail
      go_ret
      exact ⟨by unfold scoreT; rw [HR.out]; rfl, rfl⟩

set_option maxRecDepth 100000 in
theorem rbetter_walk (w : World) (p : Option Addr) (a b : ByteArray) (x y : Nat)
    (ha : Calls Try.prog 12 #[.pointer p, .string a] w fun e w' => e = .returned (.int .i64 (x : Int)) ∧ w = w')
    (hb : Calls Try.prog 12 #[.pointer p, .string b] w fun e w' => e = .returned (.int .i64 (y : Int)) ∧ w = w') :
    Calls Try.prog 14 #[.pointer p, .string a, .string b] w fun e w' => e = .returned (.int .i64 (better2 x y)) ∧ w = w' := by
  have CA := Lib.hid ha
  have CB := Lib.hid hb
  clear ha hb
  have HE : Hid (∀ z, better2 x y = z → better2 x y = z) := fun _ h => h
  by_cases h : x = y
  · have HV := Lib.hid (show better2 x y = 0 by unfold better2; rw [if_pos h])
    subst h
    go_enter Try.func14, Try.ntmps14
    go_wp2_with fail
    refine CA.out.mono ?_
    rintro e w1 ⟨rfl, rfl⟩
    go_wp2_with fail
    refine CB.out.mono ?_
    rintro e w1 ⟨rfl, rfl⟩
    go_wp2_with fail
    go_ret
    exact ⟨by rw [HV.out]; rfl, rfl⟩
  · have t0 : ((x : Int) == (y : Int)) = false := beq_eq_false_iff_ne.2 fun e => h (by omega)
    have t0' : (x == y) = false := by simpa using h
    by_cases hx : 0 < x
    · have t1 : decide (0 < x) = true := by simpa using hx
      have t1' : decide ((0 : Int) < (x : Int)) = true := by simpa using hx
      by_cases hy : y = 0
      · have HV := Lib.hid (show better2 x y = -1 by unfold better2; rw [if_neg h, if_pos ⟨hx, .inl hy⟩])
        subst hy
        clear h hx
        go_enter Try.func14, Try.ntmps14
        go_wp2_with fail
        refine CA.out.mono ?_
        rintro e w1 ⟨rfl, rfl⟩
        go_wp2_with fail
        refine CB.out.mono ?_
        rintro e w1 ⟨rfl, rfl⟩
        go_wp2_with fail
        go_ret
        exact ⟨by rw [HV.out]; rfl, rfl⟩
      · have t2 : ((y : Int) == 0) = false := by simpa using hy
        have t2' : (y == 0) = false := by simpa using hy
        by_cases hl : x < y
        · have HV := Lib.hid (show better2 x y = -1 by unfold better2; rw [if_neg h, if_pos ⟨hx, .inr hl⟩])
          have t3 : decide (x < y) = true := by simpa using hl
          clear h hx hy hl
          go_enter Try.func14, Try.ntmps14
          go_wp2_with fail
          refine CA.out.mono ?_
          rintro e w1 ⟨rfl, rfl⟩
          go_wp2_with fail
          refine CB.out.mono ?_
          rintro e w1 ⟨rfl, rfl⟩
          go_wp2_with fail
          go_ret
          exact ⟨by rw [HV.out]; rfl, rfl⟩
        · have HV := Lib.hid (show better2 x y = 1 by unfold better2; rw [if_neg h, if_neg (by omega)])
          have t3 : decide (x < y) = false := by simpa using hl
          clear h hx hy hl
          go_enter Try.func14, Try.ntmps14
          go_wp2_with fail
          refine CA.out.mono ?_
          rintro e w1 ⟨rfl, rfl⟩
          go_wp2_with fail
          refine CB.out.mono ?_
          rintro e w1 ⟨rfl, rfl⟩
          go_wp2_with fail
          go_ret
          exact ⟨by rw [HV.out]; rfl, rfl⟩
    · have HV := Lib.hid (show better2 x y = 1 by unfold better2; rw [if_neg h, if_neg (by omega)])
      have t1 : decide (0 < x) = false := by simpa using hx
      obtain rfl : x = 0 := by omega
      clear h hx
      go_enter Try.func14, Try.ntmps14
      go_wp2_with fail
      refine CA.out.mono ?_
      rintro e w1 ⟨rfl, rfl⟩
      go_wp2_with fail
      refine CB.out.mono ?_
      rintro e w1 ⟨rfl, rfl⟩
      go_wp2_with fail
      go_ret
      exact ⟨by rw [HV.out]; rfl, rfl⟩
theorem rscore_tab (w : World) (bt : Nat) (T : Tb) (s : ByteArray) (h : RTab w bt T) :
    Calls Try.prog 12 #[.pointer (some ⟨bt, 0, none⟩), .string s] w fun e w' => e = .returned (.int .i64 (scoreT T s.data.toList)) ∧ w = w' := by
  obtain ⟨hg, base, vn, vs, h⟩ := h
  exact rscore_any w base bt vn vs T (by have := hg.few; omega) s h
theorem rbetter_tab (w : World) (bt : Nat) (T : Tb) (a b : ByteArray) (h : RTab w bt T) :
    Calls Try.prog 14 #[.pointer (some ⟨bt, 0, none⟩), .string a, .string b] w fun e w' => e = .returned (.int .i64 (betterT T a.data.toList b.data.toList)) ∧ w = w' :=
  rbetter_walk w _ a b _ _ (rscore_tab w bt T a h) (rscore_tab w bt T b h)
end Go.Proofs.Ytahodhodkgdgnaa
