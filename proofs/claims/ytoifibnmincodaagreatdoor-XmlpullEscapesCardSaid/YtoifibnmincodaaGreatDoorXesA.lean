/- What Escape writes, and what stands for it when it is read. -/
import Derived.Test.YtoifibnmincodaaGreatDoorXm
import Derived.Lib.ItoaNum
namespace Go.Proofs.YtoifibnmincodaaGreatDoor
set_option linter.unusedSimpArgs false
set_option linter.unusedVariables false
open Go.RowKit

def escN (c : UInt8) : Option Bs := match ents.find? (fun e => decide (e.2 = c)) with
  | some e => some e.1
  | none => if c.toNat < 32 then some (35 :: (if c.toNat < 10 then [48 + c] else [48 + c / 10, 48 + c % 10])) else none
def escB (c : UInt8) : Bs := match escN c with
  | some n => 38 :: (n ++ [59])
  | none => [c]
def escX : Bs → Bs
  | [] => []
  | c :: r => escB c ++ escX r
theorem escX_app (a b : Bs) : escX (a ++ b) = escX a ++ escX b := by
  induction a with
  | nil => rfl
  | cons c r ih => show escB c ++ escX (r ++ b) = escB c ++ escX r ++ escX b; rw [ih, List.append_assoc]
theorem all_u8 {p : UInt8 → Prop} (h : ∀ k : Fin 256, p (UInt8.ofNat k.val)) (c : UInt8) : p c := by
  have := h ⟨c.toNat, c.toNat_lt⟩
  simpa using this
def escOk (c : UInt8) : Bool := match escN c with
    | some n => !n.contains 59 && !n.contains 45 && !n.contains 62 && !n.contains 60 && !n.contains 39 && !n.contains 34 && n.all (fun b => decide (32 ≤ b.toNat)) && decide (n.length ≤ 4) && decide (charR n = (if xMay c = true then some c.toNat else none)) && decide (Lib.encodeRune (c.toNat : Int) = [c])
    | none => xMay c && decide (32 ≤ c.toNat) && c != 60 && c != 38 && c != 39 && c != 34 && c != 62
theorem escOk_all (c : UInt8) : escOk c = true := by
  revert c
  refine all_u8 ?_
  decide +kernel
structure EscS (c : UInt8) (n : Bs) : Prop where
  n59 : (59 : UInt8) ∉ n
  n45 : (45 : UInt8) ∉ n
  n62 : (62 : UInt8) ∉ n
  n60 : (60 : UInt8) ∉ n
  n39 : (39 : UInt8) ∉ n
  n34 : (34 : UInt8) ∉ n
  may : ∀ b ∈ n, 32 ≤ b.toNat
  len : n.length ≤ 4
  is : charR n = (if xMay c = true then some c.toNat else none)
  enc : Lib.encodeRune (c.toNat : Int) = [c]
theorem escN_some {c : UInt8} {n : Bs} (h : escN c = some n) : EscS c n := by
  have h1 := escOk_all c
  unfold escOk at h1
  rw [h] at h1
  simp at h1
  obtain ⟨⟨⟨⟨⟨⟨⟨⟨⟨a1, a2⟩, a3⟩, a4⟩, a5⟩, a6⟩, a7⟩, a8⟩, a9⟩, a10⟩ := h1
  exact ⟨a1, a2, a3, a4, a5, a6, a7, a8, by simpa using a9, a10⟩
theorem escN_none {c : UInt8} (h : escN c = none) : xMay c = true ∧ 32 ≤ c.toNat ∧ c ≠ 60 ∧ c ≠ 38 ∧ c ≠ 39 ∧ c ≠ 34 ∧ c ≠ 62 := by
  have h1 := escOk_all c
  unfold escOk at h1
  rw [h] at h1
  simp at h1
  obtain ⟨⟨⟨⟨⟨⟨a1, a2⟩, a3⟩, a4⟩, a5⟩, a6⟩, a7⟩ := h1
  exact ⟨a1, a2, a3, a4, a5, a6, a7⟩
theorem escB_some {c : UInt8} {n : Bs} (h : escN c = some n) : escB c = 38 :: (n ++ [59]) := by unfold escB; rw [h]
theorem escB_none {c : UInt8} (h : escN c = none) : escB c = [c] := by unfold escB; rw [h]
theorem escB_len (c : UInt8) : 0 < (escB c).length ∧ (escB c).length ≤ 6 := by
  cases h : escN c with
  | some n => rw [escB_some h]; have := (escN_some h).len; simp; omega
  | none => rw [escB_none h]; simp
theorem escX_len : ∀ l : Bs, l.length ≤ (escX l).length ∧ (escX l).length ≤ 6 * l.length
  | [] => by simp [escX]
  | c :: r => by
    have := escX_len r
    have := escB_len c
    show _ ≤ (escB c ++ escX r).length ∧ (escB c ++ escX r).length ≤ _
    simp; omega
/-- Nothing that is escaped has such a byte. -/
theorem escB_no (c : UInt8) : (62 : UInt8) ∉ escB c ∧ (60 : UInt8) ∉ escB c ∧ ∀ b ∈ escB c, 32 ≤ b.toNat := by
  cases h : escN c with
  | some n =>
    have hs := escN_some h
    rw [escB_some h]
    refine ⟨?_, ?_, fun b hb => ?_⟩
    · simp [hs.n62]
    · simp [hs.n60]
    · simp at hb
      rcases hb with rfl | hb | rfl
      · decide
      · exact hs.may b hb
      · decide
  | none =>
    have hs := escN_none h
    rw [escB_none h]
    exact ⟨by simpa using Ne.symm hs.2.2.2.2.2.2, by simpa using Ne.symm hs.2.2.1, fun b hb => by simp at hb; subst hb; exact hs.2.1⟩
theorem escX_no : ∀ l : Bs, (62 : UInt8) ∉ escX l ∧ (60 : UInt8) ∉ escX l ∧ ∀ b ∈ escX l, 32 ≤ b.toNat
  | [] => by simp [escX]
  | c :: r => by
    have h1 := escX_no r
    have h2 := escB_no c
    show (62 : UInt8) ∉ escB c ++ escX r ∧ (60 : UInt8) ∉ escB c ++ escX r ∧ ∀ b ∈ escB c ++ escX r, _
    refine ⟨by simp [h1.1, h2.1], by simp [h1.2.1, h2.2.1], fun b hb => ?_⟩
    rcases List.mem_append.1 hb with hb | hb
    · exact h2.2.2 b hb
    · exact h1.2.2 b hb
theorem may_32 {b : UInt8} (h : 32 ≤ b.toNat) : xMay b = true := by unfold xMay; simp [h]
theorem escX_may (l : Bs) : (escX l).all xMay = true := by
  rw [List.all_eq_true]
  exact fun b hb => may_32 ((escX_no l).2.2 b hb)

/-! Byte by byte. -/
theorem plain_cons {st l : Bs} {c : UInt8} (h : c ∉ st) (hm : xMay c = true) : plainR st (c :: l) = (plainR st l).map fun x => (c :: x.1, x.2) := by
  have hc : st.contains c = false := by simpa using h
  unfold plainR plainN takeR
  simp only [List.takeWhile_cons, hc, Bool.not_false, if_true, List.length_cons, List.take_succ_cons, List.drop_succ_cons, List.all_cons, hm, Bool.true_and]
  split
  · rfl
  · rfl
theorem plain_stop {st l : Bs} {c : UInt8} (h : c ∈ st) : plainR st (c :: l) = .ok ([], c :: l) := by
  have hc : st.contains c = true := by simpa using h
  unfold plainR plainN takeR
  simp only [List.takeWhile_cons, hc, Bool.not_true]
  rfl
def runF (k : Nat) (out : Bs) (x : Bs × Bs) : RR Bs :=
    if Lib.hasPrefix x.2 [38] = true then (entityR (Lib.trimPrefix x.2 [38])).bind fun y => runR k (out ++ x.1 ++ Lib.encodeRune (y.1 : Int)) y.2
    else if Lib.hasPrefix x.2 cdataB = true then (upToR [93, 93, 62] (Lib.trimPrefix x.2 cdataB)).bind fun y => runR k (out ++ x.1 ++ y.1) y.2
    else if Lib.hasPrefix x.2 [60, 33, 45, 45] = true then (upToR [45, 45] (Lib.trimPrefix x.2 [60, 33, 45, 45])).bind fun y => (wantR [62] y.2).bind fun z => runR k (out ++ x.1) z.2
    else if Lib.hasPrefix x.2 [60, 63] = true then (nameR (Lib.trimPrefix x.2 [60, 63])).bind fun y => (upToR [63, 62] y.2).bind fun z => runR k (out ++ x.1) z.2
    else if Lib.hasPrefix x.2 [60, 33] = true then .error 100 else .ok (out ++ x.1, x.2)
theorem runR_F (k : Nat) (out l : Bs) : runR (k + 1) out l = (plainR [60, 38] l).bind (runF k out) := by rw [runR]; rfl
def valF (q : Bs) (k : Nat) (out : Bs) (x : Bs × Bs) : RR Bs :=
    if Lib.hasPrefix x.2 [38] = true then (entityR (Lib.trimPrefix x.2 [38])).bind fun y => valueR q k (out ++ x.1 ++ Lib.encodeRune (y.1 : Int)) y.2
    else (wantR q x.2).map fun y => (out ++ x.1, y.2)
theorem valR_F (q : Bs) (k : Nat) (out l : Bs) : valueR q (k + 1) out l = (plainR ([60, 38] ++ q) l).bind (valF q k out) := by rw [valueR]; rfl
theorem runF_cons (k : Nat) (out a b : Bs) (c : UInt8) : runF k out (c :: a, b) = runF k (out ++ [c]) (a, b) := by
  unfold runF
  simp only [List.append_assoc, List.cons_append, List.nil_append]
theorem valF_cons (q : Bs) (k : Nat) (out a b : Bs) (c : UInt8) : valF q k out (c :: a, b) = valF q k (out ++ [c]) (a, b) := by
  unfold valF
  simp only [List.append_assoc, List.cons_append, List.nil_append]
theorem run_plain {k : Nat} {out l : Bs} {c : UInt8} (h0 : c ≠ 60) (h1 : c ≠ 38) (hm : xMay c = true) : runR (k + 1) out (c :: l) = runR (k + 1) (out ++ [c]) l := by
  rw [runR_F, runR_F, plain_cons (by simp [h0, h1]) hm]
  cases plainR [60, 38] l with
  | error e => rfl
  | ok x => exact runF_cons k out x.1 x.2 c
theorem val_plain {q : Bs} {k : Nat} {out l : Bs} {c : UInt8} (h : c ∉ [60, 38] ++ q) (hm : xMay c = true) : valueR q (k + 1) out (c :: l) = valueR q (k + 1) (out ++ [c]) l := by
  rw [valR_F, valR_F, plain_cons h hm]
  cases plainR ([60, 38] ++ q) l with
  | error e => rfl
  | ok x => exact valF_cons q k out x.1 x.2 c
theorem pre_one (a : UInt8) (r : Bs) : Lib.hasPrefix (a :: r) [a] = true := by simp [Lib.hasPrefix, List.isPrefixOf]
theorem trim_one (a : UInt8) (r : Bs) : Lib.trimPrefix (a :: r) [a] = r := by unfold Lib.trimPrefix; rw [if_pos (pre_one a r)]; rfl
theorem pre_no {a b : UInt8} {r t : Bs} (h : b ≠ a) : Lib.hasPrefix (a :: r) (b :: t) = false := by simp [Lib.hasPrefix, List.isPrefixOf, h]
theorem pre_no' {a b : UInt8} {r t : Bs} (h : b ≠ a) : ¬ Lib.hasPrefix (a :: r) (b :: t) = true := by rw [pre_no h]; decide
theorem want_one (a : UInt8) (r : Bs) : wantR [a] (a :: r) = .ok ((), r) := by unfold wantR; rw [if_pos (pre_one a r), trim_one]
theorem idx_here {sub l : Bs} {b : UInt8} (h : sub.isPrefixOf (b :: l) = true) : Lib.index (b :: l) sub = 0 := by unfold Lib.index; rw [if_pos h]
theorem idx_step {sub l : Bs} {b : UInt8} {i : Nat} (h : sub.isPrefixOf (b :: l) = false) (hi : Lib.index l sub = (i : Int)) : Lib.index (b :: l) sub = ((i + 1 : Nat) : Int) := by
  unfold Lib.index
  rw [h, hi]
  have : ((i : Int) == -1) = false := by rw [beq_eq_false_iff_ne]; omega
  simp [this]
theorem idx_59 {l : Bs} : ∀ {n : Bs}, (59 : UInt8) ∉ n → Lib.index (n ++ 59 :: l) [59] = (n.length : Int)
  | [], _ => idx_here (by rfl)
  | c :: r, h => by
    have h1 : (59 : UInt8) ∉ r := fun hm => h (by simp [hm])
    have h2 : c ≠ 59 := fun hm => h (by simp [hm])
    refine idx_step (by simp [List.isPrefixOf, Ne.symm h2]) (idx_59 h1)
theorem ent_is {n l : Bs} (h : (59 : UInt8) ∉ n) : entityR (n ++ 59 :: l) = match charR n with
    | some c => .ok (c, l)
    | none => .error 103 := by
  have hi := idx_59 (l := l) h
  have hc : Lib.cut (n ++ 59 :: l) [59] = (n, l, true) := by
    unfold Lib.cut
    rw [if_pos (by rw [hi]; omega), hi]
    simp
  unfold entityR
  rw [hc]
  rfl
theorem run_ent {k : Nat} {out n l : Bs} (h : (59 : UInt8) ∉ n) : runR (k + 1) out (38 :: (n ++ 59 :: l)) = match charR n with
    | some c => runR k (out ++ Lib.encodeRune (c : Int)) l
    | none => .error 103 := by
  rw [runR_F, plain_stop (by decide)]
  show runF k out ([], 38 :: (n ++ 59 :: l)) = _
  unfold runF
  dsimp only
  rw [if_pos (pre_one _ _), trim_one]
  rw [ent_is h]
  cases charR n with
  | none => rfl
  | some c => show runR k (out ++ [] ++ _) l = _; rw [List.append_nil]
theorem val_ent {q : Bs} {k : Nat} {out n l : Bs} (h : (59 : UInt8) ∉ n) : valueR q (k + 1) out (38 :: (n ++ 59 :: l)) = match charR n with
    | some c => valueR q k (out ++ Lib.encodeRune (c : Int)) l
    | none => .error 103 := by
  rw [valR_F, plain_stop (by simp)]
  show valF q k out ([], 38 :: (n ++ 59 :: l)) = _
  unfold valF
  dsimp only
  rw [if_pos (pre_one _ _), trim_one]
  rw [ent_is h]
  cases charR n with
  | none => rfl
  | some c => show valueR q k (out ++ [] ++ _) l = _; rw [List.append_nil]
theorem run_esc : ∀ (t : Bs) {k : Nat} {out r : Bs}, t.all xMay = true → t.length ≤ k → ∃ j, k ≤ j + t.length ∧ j ≤ k ∧ runR (k + 1) out (escX t ++ r) = runR (j + 1) (out ++ t) r
  | [], k, out, r, _, _ => ⟨k, by simp, Nat.le_refl _, by simp [escX]⟩
  | c :: t, k, out, r, h, hk => by
    simp only [List.all_cons, Bool.and_eq_true] at h
    simp only [List.length_cons] at hk
    cases hn : escN c with
    | none =>
      have hs := escN_none hn
      obtain ⟨j, h1, h2, h3⟩ := run_esc t (k := k) (out := out ++ [c]) (r := r) h.2 (by omega)
      refine ⟨j, by simp; omega, h2, ?_⟩
      show runR (k + 1) out (escB c ++ escX t ++ r) = _
      rw [escB_none hn]
      show runR (k + 1) out (c :: (escX t ++ r)) = _
      rw [run_plain hs.2.2.1 hs.2.2.2.1 h.1, h3]
      simp
    | some n =>
      have hs := escN_some hn
      obtain ⟨k', rfl⟩ : ∃ k', k = k' + 1 := ⟨k - 1, by omega⟩
      obtain ⟨j, h1, h2, h3⟩ := run_esc t (k := k') (out := out ++ [c]) (r := r) h.2 (by omega)
      refine ⟨j, by simp; omega, by omega, ?_⟩
      show runR (k' + 1 + 1) out (escB c ++ escX t ++ r) = _
      rw [escB_some hn]
      have e : 38 :: (n ++ [59]) ++ escX t ++ r = 38 :: (n ++ 59 :: (escX t ++ r)) := by simp
      rw [e, run_ent hs.n59, hs.is, if_pos h.1]
      show runR (k' + 1) (out ++ Lib.encodeRune (c.toNat : Int)) _ = _
      rw [hs.enc, h3]
      simp
theorem run_bad : ∀ (t : Bs) {k : Nat} {out r : Bs}, t.all xMay = false → t.length ≤ k → runR (k + 1) out (escX t ++ r) = .error 103
  | [], k, out, r, h, _ => by simp at h
  | c :: t, k, out, r, h, hk => by
    simp only [List.all_cons] at h
    simp only [List.length_cons] at hk
    cases hn : escN c with
    | none =>
      have hs := escN_none hn
      rw [hs.1] at h
      show runR (k + 1) out (escB c ++ escX t ++ r) = _
      rw [escB_none hn]
      show runR (k + 1) out (c :: (escX t ++ r)) = _
      rw [run_plain hs.2.2.1 hs.2.2.2.1 hs.1]
      exact run_bad t (by simpa using h) (by omega)
    | some n =>
      have hs := escN_some hn
      show runR (k + 1) out (escB c ++ escX t ++ r) = _
      rw [escB_some hn]
      have e : 38 :: (n ++ [59]) ++ escX t ++ r = 38 :: (n ++ 59 :: (escX t ++ r)) := by simp
      rw [e, run_ent hs.n59, hs.is]
      cases hm : xMay c with
      | false => rfl
      | true =>
        rw [hm] at h
        obtain ⟨k', rfl⟩ : ∃ k', k = k' + 1 := ⟨k - 1, by omega⟩
        rw [if_pos rfl]
        exact run_bad t (by simpa using h) (by omega)
theorem val_esc (q : Bs) (hq : ∀ b ∈ q, b = 39 ∨ b = 34) : ∀ (t : Bs) {k : Nat} {out r : Bs}, t.all xMay = true → t.length ≤ k → ∃ j, k ≤ j + t.length ∧ j ≤ k ∧ valueR q (k + 1) out (escX t ++ r) = valueR q (j + 1) (out ++ t) r
  | [], k, out, r, _, _ => ⟨k, by simp, Nat.le_refl _, by simp [escX]⟩
  | c :: t, k, out, r, h, hk => by
    simp only [List.all_cons, Bool.and_eq_true] at h
    simp only [List.length_cons] at hk
    cases hn : escN c with
    | none =>
      have hs := escN_none hn
      obtain ⟨j, h1, h2, h3⟩ := val_esc q hq t (k := k) (out := out ++ [c]) (r := r) h.2 (by omega)
      refine ⟨j, by simp; omega, h2, ?_⟩
      show valueR q (k + 1) out (escB c ++ escX t ++ r) = _
      rw [escB_none hn]
      show valueR q (k + 1) out (c :: (escX t ++ r)) = _
      rw [val_plain (by simp [hs.2.2.1, hs.2.2.2.1]; exact fun hm => (hq c hm).elim hs.2.2.2.2.1 hs.2.2.2.2.2.1) h.1, h3]
      simp
    | some n =>
      have hs := escN_some hn
      obtain ⟨k', rfl⟩ : ∃ k', k = k' + 1 := ⟨k - 1, by omega⟩
      obtain ⟨j, h1, h2, h3⟩ := val_esc q hq t (k := k') (out := out ++ [c]) (r := r) h.2 (by omega)
      refine ⟨j, by simp; omega, by omega, ?_⟩
      show valueR q (k' + 1 + 1) out (escB c ++ escX t ++ r) = _
      rw [escB_some hn]
      have e : 38 :: (n ++ [59]) ++ escX t ++ r = 38 :: (n ++ 59 :: (escX t ++ r)) := by simp
      rw [e, val_ent hs.n59, hs.is, if_pos h.1]
      show valueR q (k' + 1) (out ++ Lib.encodeRune (c.toNat : Int)) _ = _
      rw [hs.enc, h3]
      simp
theorem val_bad (q : Bs) (hq : ∀ b ∈ q, b = 39 ∨ b = 34) : ∀ (t : Bs) {k : Nat} {out r : Bs}, t.all xMay = false → t.length ≤ k → valueR q (k + 1) out (escX t ++ r) = .error 103
  | [], k, out, r, h, _ => by simp at h
  | c :: t, k, out, r, h, hk => by
    simp only [List.all_cons] at h
    simp only [List.length_cons] at hk
    cases hn : escN c with
    | none =>
      have hs := escN_none hn
      rw [hs.1] at h
      show valueR q (k + 1) out (escB c ++ escX t ++ r) = _
      rw [escB_none hn]
      show valueR q (k + 1) out (c :: (escX t ++ r)) = _
      rw [val_plain (by simp [hs.2.2.1, hs.2.2.2.1]; exact fun hm => (hq c hm).elim hs.2.2.2.2.1 hs.2.2.2.2.2.1) hs.1]
      exact val_bad q hq t (by simpa using h) (by omega)
    | some n =>
      have hs := escN_some hn
      show valueR q (k + 1) out (escB c ++ escX t ++ r) = _
      rw [escB_some hn]
      have e : 38 :: (n ++ [59]) ++ escX t ++ r = 38 :: (n ++ 59 :: (escX t ++ r)) := by simp
      rw [e, val_ent hs.n59, hs.is]
      cases hm : xMay c with
      | false => rfl
      | true =>
        rw [hm] at h
        obtain ⟨k', rfl⟩ : ∃ k', k = k' + 1 := ⟨k - 1, by omega⟩
        rw [if_pos rfl]
        exact val_bad q hq t (by simpa using h) (by omega)
/-- A value behind its first quote, up to the second. -/
theorem valQ_esc (b : UInt8) (hb : b = 39 ∨ b = 34) (t r : Bs) (h : t.all xMay = true) : valueQ [b] (escX t ++ b :: r) = .ok (t, r) := by
  have hl : t.length ≤ (escX t ++ b :: r).length := by have := (escX_len t).1; simp; omega
  obtain ⟨j, -, -, hj⟩ := val_esc [b] (by simpa using hb) t (out := []) (r := b :: r) h hl
  unfold valueQ
  rw [hj, valR_F, plain_stop (by simp)]
  show valF [b] j ([] ++ t) ([], b :: r) = _
  unfold valF
  dsimp only
  rw [if_neg (pre_no' (by rcases hb with rfl | rfl <;> decide)), want_one]
  simp [Except.map]
theorem valQ_bad (b : UInt8) (hb : b = 39 ∨ b = 34) (t r : Bs) (h : t.all xMay = false) : valueQ [b] (escX t ++ r) = .error 103 := by
  have hl : t.length ≤ (escX t ++ r).length := by have := (escX_len t).1; simp; omega
  exact val_bad [b] (by simpa using hb) t h hl
end Go.Proofs.YtoifibnmincodaaGreatDoor
