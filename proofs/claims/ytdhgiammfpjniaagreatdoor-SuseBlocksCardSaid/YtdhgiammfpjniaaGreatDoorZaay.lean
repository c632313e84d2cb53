/- Two texts of tags, one behind the other; a block, and its values one by one: pure. Values in a block, and one by one: pure. Lines and their parts: package suse's functions on texts, and the reader's next line. -/
import Derived.Test.YtdhgiammfpjniaaGreatDoorZaaw
/- Two texts of tags, one behind the other; a block, and its values one by one: pure. -/
namespace Go.Proofs.YtdhgiammfpjniaaGreatDoor
set_option linter.unusedSimpArgs false
set_option linter.unusedVariables false
open Go.RowKit Go.MapKept

theorem readS_cons (n : Nat) (l : Bs) (ls : List Bs) (acc : List Sk) : readS (n + 1) (l :: ls) acc = match lineS l acc.isEmpty with
    | .skip => readS n ls acc
    | .bad => .error 130
    | .pack v => match beginS acc v with
      | .error e => .error e
      | .ok a => readS n ls a
    | .one t v => thenS (lastT t [v] acc) (readS n ls)
    | .blk t => match blockS t ls [] with
      | none => .error 130
      | some (vs, ls') => thenS (lastT t vs acc) (readS n ls') := rfl
theorem readS_end (n : Nat) (acc : List Sk) : readS (n + 1) [] acc = if wholeS acc = 0 then .ok acc else .error (wholeS acc) := rfl
theorem lastT_len (t : Bs) (vs : List Bs) : ∀ (acc a : List Sk), lastT t vs acc = some a → a.length = acc.length
  | [], a, h => by cases h
  | [S], a, h => by
    have h : (match putT t vs S with | some S' => some [S'] | none => none) = some a := h
    cases hp : putT t vs S with
    | none => rw [hp] at h; cases h
    | some S' => rw [hp] at h; injection h with h; rw [← h]; rfl
  | S :: S2 :: r, a, h => by
    have h : (match lastT t vs (S2 :: r) with | some r' => some (S :: r') | none => none) = some a := h
    cases hp : lastT t vs (S2 :: r) with
    | none => rw [hp] at h; cases h
    | some r' =>
      rw [hp] at h
      injection h with h
      rw [← h]
      show r'.length + 1 = (S2 :: r).length + 1
      rw [lastT_len t vs _ _ hp]
theorem lastT_app (t : Bs) (vs : List Bs) : ∀ (p acc : List Sk), acc ≠ [] → lastT t vs (p ++ acc) = (lastT t vs acc).map (p ++ ·)
  | [], acc, _ => by
    show lastT t vs acc = _
    cases lastT t vs acc <;> rfl
  | S :: r, acc, h => by
    have hne : r ++ acc ≠ [] := by simp [h]
    obtain ⟨x, y, hxy⟩ : ∃ x y, r ++ acc = x :: y := by
      cases hr : r ++ acc with
      | nil => exact absurd hr hne
      | cons x y => exact ⟨x, y, rfl⟩
    have e : lastT t vs (S :: (r ++ acc)) = match lastT t vs (r ++ acc) with | some r' => some (S :: r') | none => none := by rw [hxy]; rfl
    rw [List.cons_append, e, lastT_app t vs r acc h]
    cases lastT t vs acc <;> rfl
theorem wholeS_app : ∀ (p acc : List Sk), acc ≠ [] → wholeS (p ++ acc) = wholeS acc
  | [], _, _ => rfl
  | S :: r, acc, h => by
    have hne : r ++ acc ≠ [] := by simp [h]
    have e : wholeS (S :: (r ++ acc)) = wholeS (r ++ acc) := by
      cases hr : r ++ acc with
      | nil => exact absurd hr hne
      | cons x y => rfl
    rw [List.cons_append, e]
    exact wholeS_app r acc h
theorem beginS_ok {acc a : List Sk} {v : Bs} (h : beginS acc v = .ok a) : wholeS acc = 0 ∧ acc.length < 200 ∧ ∃ S, headS (wordsS v) = some S ∧ a = acc ++ [S] := by
  unfold beginS at h
  by_cases h1 : wholeS acc ≠ 0
  · rw [if_pos h1] at h; cases h
  rw [if_neg h1] at h
  by_cases h2 : 200 ≤ acc.length
  · rw [if_pos h2] at h; cases h
  rw [if_neg h2] at h
  cases hs : headS (wordsS v) with
  | none => rw [hs] at h; cases h
  | some S =>
    rw [hs] at h
    injection h with h
    exact ⟨by simpa using h1, by omega, S, rfl, h.symm⟩
theorem thenS_ok {x : Option (List Sk)} {k : List Sk → Except Int (List Sk)} {b : List Sk} (h : thenS x k = .ok b) : ∃ a, x = some a ∧ k a = .ok b := by
  cases x with
  | none => cases h
  | some a => exact ⟨a, rfl, h⟩
theorem readS_mono : ∀ (n : Nat) (ls : List Bs) (acc b : List Sk), readS n ls acc = .ok b → acc.length ≤ b.length ∧ (acc.length ≤ 200 → b.length ≤ 200)
  | 0, _, acc, b, h => by injection h with h; rw [h]; exact ⟨Nat.le_refl _, fun h => h⟩
  | n + 1, [], acc, b, h => by
    rw [readS_end] at h
    split at h
    · injection h with h; rw [h]; exact ⟨Nat.le_refl _, fun h => h⟩
    · cases h
  | n + 1, l :: ls, acc, b, h => by
    rw [readS_cons] at h
    cases hl : lineS l acc.isEmpty with
    | skip => rw [hl] at h; exact readS_mono n ls acc b h
    | bad => rw [hl] at h; cases h
    | pack v =>
      rw [hl] at h
      dsimp only at h
      cases hb : beginS acc v with
      | error e => rw [hb] at h; cases h
      | ok a =>
        rw [hb] at h
        obtain ⟨_, h2, S, _, rfl⟩ := beginS_ok hb
        obtain ⟨h3, h4⟩ := readS_mono n ls _ b h
        rw [List.length_append] at h3 h4
        simp only [List.length_singleton] at h3 h4
        exact ⟨by omega, fun _ => h4 (by omega)⟩
    | one t v =>
      rw [hl] at h
      obtain ⟨a, h1, h2⟩ := thenS_ok h
      obtain ⟨h3, h4⟩ := readS_mono n ls a b h2
      rw [lastT_len _ _ _ _ h1] at h3 h4
      exact ⟨h3, h4⟩
    | blk t =>
      rw [hl] at h
      dsimp only at h
      cases hb : blockS t ls [] with
      | none => rw [hb] at h; cases h
      | some x =>
        obtain ⟨vs, ls'⟩ := x
        rw [hb] at h
        obtain ⟨a, h1, h2⟩ := thenS_ok h
        obtain ⟨h3, h4⟩ := readS_mono n ls' a b h2
        rw [lastT_len _ _ _ _ h1] at h3 h4
        exact ⟨h3, h4⟩
theorem parseS_len {t : Bs} {b : List Sk} (h : parseS t = .ok b) : b.length ≤ 200 := by
  unfold parseS at h
  split at h
  · exact (readS_mono _ _ _ _ h).2 (Nat.zero_le _)
  · cases h
theorem mg_ver : mgOf verN_ = .none := by
  unfold mgOf
  rw [if_neg (by decide), if_neg (by decide)]
  rfl
theorem lastT_none (t v : Bs) (h : mgOf t = .none) : ∀ acc : List Sk, acc ≠ [] → lastT t [v] acc = some acc
  | [], h => absurd rfl h
  | [S], _ => by
    show (match putM (mgOf t) [v] S with | some S' => some [S'] | none => none) = _
    rw [h]
    rfl
  | S :: S2 :: r, _ => by
    show (match lastT t [v] (S2 :: r) with | some r' => some (S :: r') | none => none) = _
    rw [lastT_none t v h (S2 :: r) (by simp)]
/-- What stands ahead, whole, stays ahead. -/
theorem readS_ahead (p : List Sk) (hp : p ≠ []) (hw : wholeS p = 0) : ∀ (n : Nat) (ls : List Bs) (acc b : List Sk), ls.length < n → p.length + acc.length ≤ 200 → readS n ls acc = .ok b →
    readS n ls (p ++ acc) = if p.length + b.length ≤ 200 then .ok (p ++ b) else .error 131
  | 0, _, _, _, hn, _, _ => absurd hn (Nat.not_lt_zero _)
  | n + 1, [], acc, b, _, hle, h => by
    rw [readS_end] at h ⊢
    have e : wholeS (p ++ acc) = 0 ∧ acc = b := by
      by_cases ha : wholeS acc = 0
      · rw [if_pos ha] at h
        injection h with h
        refine ⟨?_, h⟩
        by_cases he : acc = []
        · rw [he, List.append_nil]; exact hw
        · rw [wholeS_app p acc he]; exact ha
      · rw [if_neg ha] at h; cases h
    obtain ⟨e1, rfl⟩ := e
    rw [if_pos e1, if_pos hle]
  | n + 1, l :: ls, acc, b, hn, hle, h => by
    have hn : ls.length < n := Nat.lt_of_succ_lt_succ hn
    have hpe : (p ++ acc).isEmpty = false := by
      cases p with
      | nil => exact absurd rfl hp
      | cons x y => rfl
    rw [readS_cons] at h ⊢
    rw [hpe]
    by_cases hacc : acc = []
    · subst hacc
      rw [List.append_nil]
      rw [show ([] : List Sk).isEmpty = true from rfl] at h
      -- the line, where there is no package yet
      have hcase : lineS l false = lineS l true ∨ lineS l true = .bad ∨ (lineS l true = .skip ∧ ∃ v, lineS l false = .one verN_ v) := by
        unfold lineS
        by_cases h0 : isLay l = true ∨ l.headD 0 = 35
        · rw [if_pos h0]; exact .inl (by rw [if_pos h0])
        rw [if_neg h0, if_neg h0]
        unfold lineP
        generalize partsS l = x
        by_cases h1 : x.2.2.2 = false
        · rw [if_pos h1]; exact .inr (.inl (by rw [if_pos h1]))
        rw [if_neg h1, if_neg h1]
        by_cases h2 : x.1 = 61 ∧ x.2.1 = pkgN
        · rw [if_pos h2, if_pos h2]; exact .inl rfl
        rw [if_neg h2, if_neg h2]
        by_cases h3 : x.1 = 61 ∧ x.2.1 = verN_
        · right; right
          refine ⟨by rw [if_pos ⟨h3, rfl⟩], x.2.2.1, ?_⟩
          rw [if_neg (by simp), if_neg (by simp), if_neg (by rw [h3.1]; decide), h3.2]
        · right; left
          rw [if_neg (fun h => h3 h.1), if_pos rfl]
      rcases hcase with hc | hc | ⟨hc, v, hc2⟩
      · rw [hc]
        cases hl : lineS l true with
        | skip =>
          rw [hl] at h
          have := readS_ahead p hp hw n ls [] b hn hle h
          rwa [List.append_nil] at this
        | bad => rw [hl] at h; cases h
        | pack v =>
          rw [hl] at h
          dsimp only at h ⊢
          cases hb : beginS [] v with
          | error e => rw [hb] at h; cases h
          | ok a =>
            rw [hb] at h
            obtain ⟨_, _, S, hS, rfl⟩ := beginS_ok hb
            have hbp : beginS p v = if 200 ≤ p.length then .error 131 else .ok (p ++ [S]) := by
              unfold beginS
              rw [if_neg (by simp [hw]), hS]
            rw [hbp]
            have hm := (readS_mono n ls _ b h).1
            simp at hm
            by_cases h200 : 200 ≤ p.length
            · rw [if_pos h200, if_neg (by omega)]
            · rw [if_neg h200]
              exact readS_ahead p hp hw n ls [S] b hn (by simp; omega) h
        | one t v =>
          rw [hl] at h
          obtain ⟨a, h1, _⟩ := thenS_ok h
          cases h1
        | blk t =>
          rw [hl] at h
          dsimp only at h
          cases hb : blockS t ls [] with
          | none => rw [hb] at h; cases h
          | some x =>
            rw [hb] at h
            obtain ⟨a, h1, _⟩ := thenS_ok h
            cases h1
      · rw [hc] at h; cases h
      · rw [hc] at h
        rw [hc2]
        show thenS (lastT verN_ [v] p) _ = _
        rw [lastT_none verN_ v mg_ver p hp]
        have := readS_ahead p hp hw n ls [] b hn hle h
        rwa [List.append_nil] at this
    · have hae : acc.isEmpty = false := by simpa using hacc
      rw [hae] at h
      cases hl : lineS l false with
      | skip => rw [hl] at h; exact readS_ahead p hp hw n ls acc b hn hle h
      | bad => rw [hl] at h; cases h
      | pack v =>
        rw [hl] at h
        dsimp only at h ⊢
        cases hb : beginS acc v with
        | error e => rw [hb] at h; cases h
        | ok a =>
          rw [hb] at h
          obtain ⟨hw0, hl0, S, hS, rfl⟩ := beginS_ok hb
          have hbp : beginS (p ++ acc) v = if 200 ≤ (p ++ acc).length then .error 131 else .ok (p ++ acc ++ [S]) := by
            unfold beginS
            rw [wholeS_app p acc hacc, if_neg (by simp [hw0]), hS]
          rw [hbp]
          have hm := (readS_mono n ls _ b h).1
          simp at hm
          rw [List.length_append]
          by_cases h200 : 200 ≤ p.length + acc.length
          · rw [if_pos h200, if_neg (by omega)]
          · rw [if_neg h200]
            dsimp only
            rw [List.append_assoc]
            exact readS_ahead p hp hw n ls (acc ++ [S]) b hn (by simp; omega) h
      | one t v =>
        rw [hl] at h
        obtain ⟨a, h1, h2⟩ := thenS_ok h
        show thenS (lastT t [v] (p ++ acc)) _ = _
        rw [lastT_app t [v] p acc hacc, h1]
        exact readS_ahead p hp hw n ls a b hn (by rw [lastT_len _ _ _ _ h1]; exact hle) h2
      | blk t =>
        rw [hl] at h
        dsimp only at h ⊢
        cases hb : blockS t ls [] with
        | none => rw [hb] at h; cases h
        | some x =>
          obtain ⟨vs, ls'⟩ := x
          rw [hb] at h
          have hlt := block_len t ls [] vs ls' hb
          obtain ⟨a, h1, h2⟩ := thenS_ok h
          show thenS (lastT t vs (p ++ acc)) _ = _
          rw [lastT_app t vs p acc hacc, h1]
          exact readS_ahead p hp hw n ls' a b (by omega) (by rw [lastT_len _ _ _ _ h1]; exact hle) h2
theorem blockS_app (t : Bs) (r2 : List Bs) : ∀ (ls vs vs' ls' : List Bs), blockS t ls vs = some (vs', ls') → blockS t (ls ++ r2) vs = some (vs', ls' ++ r2)
  | [], _, _, _, h => by cases h
  | l :: r, vs, vs', ls', h => by
    have h : (if endB t l = true then some (vs, r) else if isLay l = true then blockS t r vs else blockS t r (vs ++ [l])) = some (vs', ls') := h
    show (if endB t l = true then some (vs, r ++ r2) else if isLay l = true then blockS t (r ++ r2) vs else blockS t (r ++ r2) (vs ++ [l])) = _
    by_cases h1 : endB t l = true
    · rw [if_pos h1] at h ⊢
      injection h with h
      injection h with h2 h3
      rw [h2, h3]
    · rw [if_neg h1] at h ⊢
      by_cases h2 : isLay l = true
      · rw [if_pos h2] at h ⊢
        exact blockS_app t r2 r vs vs' ls' h
      · rw [if_neg h2] at h ⊢
        exact blockS_app t r2 r _ vs' ls' h
/-- Lines that are read whole, and others behind them. -/
theorem readS_app (r2 : List Bs) : ∀ (n m : Nat) (ls : List Bs) (acc a : List Sk), ls.length < n → (ls ++ r2).length < m → readS n ls acc = .ok a → wholeS a = 0 ∧ readS m (ls ++ r2) acc = readS m r2 a
  | 0, _, _, _, _, hn, _, _ => absurd hn (Nat.not_lt_zero _)
  | _, 0, _, _, _, _, hm, _ => absurd hm (Nat.not_lt_zero _)
  | n + 1, m + 1, [], acc, a, _, hm, h => by
    rw [readS_end] at h
    by_cases ha : wholeS acc = 0
    · rw [if_pos ha] at h
      injection h with h
      subst h
      exact ⟨ha, rfl⟩
    · rw [if_neg ha] at h; cases h
  | n + 1, m + 1, l :: ls, acc, a, hn, hm, h => by
    have hn : ls.length < n := Nat.lt_of_succ_lt_succ hn
    have hm : (ls ++ r2).length < m := Nat.lt_of_succ_lt_succ hm
    have hr2 : r2.length < m := by rw [List.length_append] at hm; omega
    rw [readS_cons] at h
    rw [List.cons_append, readS_cons]
    have up : ∀ {x : List Sk}, readS m r2 x = readS (m + 1) r2 x := fun {x} => readS_fuel m (m + 1) r2 x hr2 (by omega)
    cases hl : lineS l acc.isEmpty with
    | skip =>
      rw [hl] at h
      obtain ⟨h1, h2⟩ := readS_app r2 n m ls acc a hn hm h
      exact ⟨h1, h2.trans up⟩
    | bad => rw [hl] at h; cases h
    | pack v =>
      rw [hl] at h
      dsimp only at h ⊢
      cases hb : beginS acc v with
      | error e => rw [hb] at h; cases h
      | ok x =>
        rw [hb] at h
        obtain ⟨h1, h2⟩ := readS_app r2 n m ls x a hn hm h
        exact ⟨h1, h2.trans up⟩
    | one t v =>
      rw [hl] at h
      obtain ⟨x, h1, h2⟩ := thenS_ok h
      dsimp only
      rw [h1]
      obtain ⟨h3, h4⟩ := readS_app r2 n m ls x a hn hm h2
      exact ⟨h3, h4.trans up⟩
    | blk t =>
      rw [hl] at h
      dsimp only at h ⊢
      cases hb : blockS t ls [] with
      | none => rw [hb] at h; cases h
      | some y =>
        obtain ⟨vs, ls'⟩ := y
        rw [hb] at h
        rw [blockS_app t r2 ls [] vs ls' hb]
        have hlt := block_len t ls [] vs ls' hb
        obtain ⟨x, h1, h2⟩ := thenS_ok h
        dsimp only
        rw [h1]
        have hm2 : (ls' ++ r2).length < m := by rw [List.length_append] at hm ⊢; omega
        obtain ⟨h3, h4⟩ := readS_app r2 n m ls' x a (by omega) hm2 h2
        exact ⟨h3, h4.trans up⟩
theorem lines_two (u : Bs) : ∀ (t cur : Bs), ∃ E, (E = [] ∨ E = [[]]) ∧ linesG (t ++ 10 :: u) cur = linesG t cur ++ (E ++ linesX u)
  | [], cur => by
    by_cases h : cur = []
    · exact ⟨[[]], .inr rfl, by
        show (if (10 : UInt8) = 10 then cur :: linesG u [] else _) = (if cur = [] then [] else [cur]) ++ _
        rw [if_pos rfl, if_pos h, h]
        rfl⟩
    · exact ⟨[], .inl rfl, by
        show (if (10 : UInt8) = 10 then cur :: linesG u [] else _) = (if cur = [] then [] else [cur]) ++ _
        rw [if_pos rfl, if_neg h]
        rfl⟩
  | c :: r, cur => by
    show ∃ E, _ ∧ (if c = 10 then cur :: linesG (r ++ 10 :: u) [] else linesG (r ++ 10 :: u) (cur ++ [c])) = (if c = 10 then cur :: linesG r [] else linesG r (cur ++ [c])) ++ _
    by_cases h : c = 10
    · rw [if_pos h, if_pos h]
      obtain ⟨E, h1, h2⟩ := lines_two u r []
      exact ⟨E, h1, by rw [h2]; rfl⟩
    · rw [if_neg h, if_neg h]
      exact lines_two u r (cur ++ [c])
/-- Two texts that are read, one behind the other. -/
theorem parseS_two {t u : Bs} {a b : List Sk} (hl : (t ++ 10 :: u).length ≤ 40000) (ha : parseS t = .ok a) (hb : parseS u = .ok b) :
    parseS (t ++ 10 :: u) = if a.length + b.length ≤ 200 then .ok (a ++ b) else .error 131 := by
  have hla := parseS_len ha
  have hlb := parseS_len hb
  have hl0 : (t ++ 10 :: u).length = t.length + (u.length + 1) := by rw [List.length_append]; rfl
  unfold parseS at ha hb ⊢
  rw [if_pos (by omega)] at ha hb
  rw [if_pos hl]
  obtain ⟨E, hE, hli⟩ := lines_two u t []
  have hli : linesX (t ++ 10 :: u) = linesX t ++ (E ++ linesX u) := hli
  rw [hli]
  obtain ⟨hw, h2⟩ := readS_app (E ++ linesX u) _ ((linesX t ++ (E ++ linesX u)).length + 1) (linesX t) [] a (Nat.lt_succ_self _) (Nat.lt_succ_self _) ha
  rw [h2]
  have hE2 : ∀ m, (E ++ linesX u).length < m → readS m (E ++ linesX u) a = readS m (linesX u) a := by
    intro m hm
    rcases hE with rfl | rfl
    · rfl
    · cases m with
      | zero => exact absurd hm (Nat.not_lt_zero _)
      | succ m =>
        rw [List.singleton_append, readS_cons]
        have : lineS [] a.isEmpty = .skip := rfl
        rw [this]
        simp at hm
        exact readS_fuel m (m + 1) _ _ hm (by omega)
  have hm : (E ++ linesX u).length < (linesX t ++ (E ++ linesX u)).length + 1 := by simp only [List.length_append]; omega
  rw [hE2 _ hm]
  have hm2 : (linesX u).length < (linesX t ++ (E ++ linesX u)).length + 1 := by simp only [List.length_append]; omega
  have hb2 : readS ((linesX t ++ (E ++ linesX u)).length + 1) (linesX u) [] = .ok b := (readS_fuel _ _ _ _ hm2 (Nat.lt_succ_self _)).trans hb
  by_cases hae : a = []
  · subst hae
    rw [hb2, if_pos (by simpa using hlb)]
    rfl
  · have := readS_ahead a hae hw _ (linesX u) [] b hm2 (by simpa using hla) hb2
    rwa [List.append_nil] at this
end Go.Proofs.YtdhgiammfpjniaaGreatDoor

/- Values in a block, and one by one: pure. -/
namespace Go.Proofs.YtdhgiammfpjniaaGreatDoor
set_option linter.unusedSimpArgs false
set_option linter.unusedVariables false
open Go.RowKit Go.MapKept

def lineV (t v : Bs) : Bs := 61 :: t ++ 58 :: 32 :: v
def lineB (t : Bs) : Bs := 43 :: t ++ [58]
def lineE (t : Bs) : Bs := 45 :: t ++ [58]
/-- All lines of texts, each with its end. -/
def linesOf : List Bs → Bs → Bs
  | [], u => u
  | l :: r, u => l ++ 10 :: linesOf r u
def headL : Bs := [61, 80, 107, 103, 58, 32, 97, 32, 49, 32, 49, 32, 110, 111, 97, 114, 99, 104]
def oneB (t : Bs) (vs : List Bs) : Bs := linesOf (headL :: vs.map (lineV t)) []
def twoB (t : Bs) (vs : List Bs) : Bs := linesOf (headL :: lineB t :: vs ++ [lineE t]) []
end Go.Proofs.YtdhgiammfpjniaaGreatDoor

/- Lines and their parts: package suse's functions on texts, and the reader's next line. -/
namespace Go.Proofs.YtdhgiammfpjniaaGreatDoor
set_option linter.unusedSimpArgs false
set_option linter.unusedVariables false
open Go.RowKit Go.MapKept

theorem results_tmp4 {fn : Func} {t u v x : Tmp} (h : fn.results = #[.tmp t, .tmp u, .tmp v, .tmp x]) (tmps : Array Value) (P : Program) (w : World) :
    (results fn tmps).run P w = .ok (.tuple #[tmps.getD t undef, tmps.getD u undef, tmps.getD v undef, tmps.getD x undef]) w := by
  simp [results, h]
def RdR (w : World) (g : Nat) (r : Bs) (v : Value) : Prop := Blk w g 67 #[.string (mkS r), v]
set_option maxHeartbeats 1000000 in
set_option maxRecDepth 100000 in
theorem isLay_any (l : Bs) (hl : l.length ≤ 40000) (w : World) : Calls Tryz.prog 73 #[.string (mkS l)] w fun e w' => e = .returned (.bool (isLay l)) ∧ Below w.heap.size w w' := by
  have C := Lib.hid (dTrim_any l (by omega) w)
  have hla : Hid (mkS dLayS = ⟨#[32, 9]⟩) := rfl
  rw [hla.out] at C
  have hq : Hid ((mkS (dTrim l)).toList.isEmpty = isLay l) := isEmpty_mkS _
  clear hla hl
  generalize isLay l = q at *
  generalize mkS (dTrim l) = SD at *
  generalize mkS l = SL at *
  go_enter Tryz.func73, Tryz.ntmps73
  go_wp2_with fail
  refine C.out.mono ?_
  rintro e w1 ⟨rfl, hb⟩
  have HB := Lib.hid hb
  clear hb C
  go_wp2_with fail
  go_ret
  exact ⟨by rw [← hq.out]; first | rfl | simp, HB.out⟩
set_option maxHeartbeats 1000000 in
set_option maxRecDepth 100000 in
theorem line_any (g : Nat) (r : Bs) (v : Value) (w : World) (h : RdR w g r v) (hr : r.length ≤ 40000) (hM : MaxAt w) : Calls Tryz.prog 72 #[.pointer (some ⟨g, 0, none⟩)] w fun e w' => e = .returned (.string (mkS (Lib.cut r [10]).1)) ∧ RdR w' g (Lib.cut r [10]).2.1 v ∧ Turned [g] w w' := by
  have C := Lib.hid (cutc_any 10 r hr w hM)
  have hnl : Hid (mkS [10] = ⟨#[10]⟩) := rfl
  rw [hnl.out] at C
  have H := Lib.hid h
  have r0 := Blk.cell h 0
  simp at r0
  clear h hr hM hnl
  generalize (Lib.cut r [10]).1 = ln at *
  generalize (Lib.cut r [10]).2.1 = rest at *
  generalize (Lib.cut r [10]).2.2 = fd at *
  go_enter Tryz.func72, Tryz.ntmps72
  go_wp2_with fail
  refine C.out.mono ?_
  rintro e w1 ⟨rfl, hb⟩
  have H1 := Lib.hid (Blk.mono H.out hb)
  have T1 := Lib.hid (Turned.of_below hb [g])
  have r1 := H1.out.cell 0
  have f1 := H1.out.free 0
  simp at r1
  clear hb C H r0
  go_wp2_with fail
  go_ret
  exact ⟨rfl, H1.out.set_ 0 _, T1.out.setCell (.inl (by simp)) _⟩
def partsV (x : UInt8 × Bs × Bs × Bool) : Value := .tuple #[.string (mkS [x.1]), .string (mkS x.2.1), .string (mkS x.2.2.1), .bool x.2.2.2]
theorem partsS_one (b : UInt8) (r : Bs) : partsS (b :: r) = if b = 61 then (61, (Lib.cut r [58]).1, cutBlank (Lib.cut r [58]).2.1, tagOk (Lib.cut r [58])) else if b = 43 then (43, (Lib.cut r [58]).1, (Lib.cut r [58]).2.1, tagOk (Lib.cut r [58]) && isLay (Lib.cut r [58]).2.1) else (b, (Lib.cut r [58]).1, (Lib.cut r [58]).2.1, false) := rfl
set_option maxHeartbeats 4000000 in
set_option maxRecDepth 100000 in
theorem parts_any (b : UInt8) (r : Bs) (hl : (b :: r).length ≤ 40000) (w : World) (hM : MaxAt w) : Calls Tryz.prog 74 #[.string (mkS (b :: r))] w fun e w' => e = .returned (partsV (partsS (b :: r))) ∧ Below w.heap.size w w' := by
  rw [partsS_one]
  have hrl : r.length ≤ 40000 := by simp at hl; omega
  have C := Lib.hid (cutc_any 58 r hrl w hM)
  have hco : Hid (mkS [58] = ⟨#[58]⟩) := rfl
  rw [hco.out] at C
  obtain ⟨l1, l2, _⟩ := cutc_len 58 r
  have CB := Lib.hid (fun wx => contains_any dLay_ok (Lib.cut r [58]).1 (by omega) wx)
  have hla : Hid (mkS dLayS = ⟨#[32, 9]⟩) := rfl
  rw [hla.out] at CB
  have CL := Lib.hid (fun wx => isLay_any (Lib.cut r [58]).2.1 (by omega) wx)
  have CP := Lib.hid (fun wx => Tryz.strings_TrimPrefix (mkS (Lib.cut r [58]).2.1) ⟨#[32]⟩ wx)
  have hcb : (⟨(Lib.trimPrefix (mkS (Lib.cut r [58]).2.1).data.toList (⟨#[32]⟩ : ByteArray).data.toList).toArray⟩ : ByteArray) = mkS (cutBlank (Lib.cut r [58]).2.1) := by
    rw [mkS_list]
    unfold cutBlank Lib.trimPrefix
    show _ = mkS _
    split <;> simp_all [mkS]
  rw [hcb] at CP
  have hx1 : (mkS (b :: r)).extract 0 1 = mkS [b] := by rw [mkS_take]; rfl
  have hx2 : (mkS (b :: r)).extract 1 (mkS (b :: r)).size = mkS r := by rw [mkS_drop]; rfl
  have hsz : 1 ≤ (mkS (b :: r)).size := by rw [mkS_size]; simp
  have hszI : (1 : Int) ≤ ((mkS (b :: r)).size : Int) := by omega
  have hq1 : ((mkS [b]).toList == ([61] : List UInt8)) = decide (b = 61) := by
    rw [ByteArray.toList_eq, mkS_list]
    by_cases h : b = 61 <;> simp [h]
  have hq2 : ((mkS [b]).toList == ([43] : List UInt8)) = decide (b = 43) := by
    rw [ByteArray.toList_eq, mkS_list]
    by_cases h : b = 43 <;> simp [h]
  have htk : tagOk (Lib.cut r [58]) = ((Lib.cut r [58]).2.2 && !(Lib.cut r [58]).1.isEmpty && !decide (plainN dLayS (Lib.cut r [58]).1 < (Lib.cut r [58]).1.length)) := rfl
  rw [htk]
  have hem := isEmpty_mkS (Lib.cut r [58]).1
  clear hco hla hcb hl hrl htk l1 l2
  generalize isLay (Lib.cut r [58]).2.1 = ql at *
  generalize decide (plainN dLayS (Lib.cut r [58]).1 < (Lib.cut r [58]).1.length) = qc at *
  generalize cutBlank (Lib.cut r [58]).2.1 = cb at *
  generalize (Lib.cut r [58]).1 = nm at *
  generalize (Lib.cut r [58]).2.1 = sd at *
  generalize (Lib.cut r [58]).2.2 = fd at *
  generalize mkS (b :: r) = SL at *
  generalize nm.isEmpty = qe at *
  obtain ⟨SB, hSB⟩ : ∃ SB, SB = mkS [b] := ⟨_, rfl⟩
  have HSB := Lib.hid hSB
  rw [← hSB] at hx1 hq1 hq2
  clear hSB
  by_cases hb1 : b = 61
  · rw [decide_eq_true hb1] at hq1
    rw [if_pos hb1, ← hb1]
    clear hb1 hq2
    go_enter Tryz.func74, Tryz.ntmps74
    go_wp2_with fail
    refine C.out.mono ?_
    rintro e w1 ⟨rfl, hb⟩
    have HB1 := Lib.hid hb
    clear hb C
    cases fd with
    | false =>
      clear CB
      go_wp2_with fail
      refine (CP.out _).mono ?_
      rintro e wq ⟨rfl, rfl⟩
      go_wp2_with fail
      (try simp only [Exit.inBlock, Exit.then]); refine bodyPost_ret (results_tmp4 rfl _ _ _) rfl ?_
      exact ⟨by rw [HSB.out]; rfl, HB1.out⟩
    | true =>
      cases qe with
      | true =>
        clear CB
        go_wp2_with fail
        refine (CP.out _).mono ?_
        rintro e wq ⟨rfl, rfl⟩
        go_wp2_with fail
        (try simp only [Exit.inBlock, Exit.then]); refine bodyPost_ret (results_tmp4 rfl _ _ _) rfl ?_
        exact ⟨by rw [HSB.out]; rfl, HB1.out⟩
      | false =>
        cases qc with
        | true =>
          go_wp2_with fail
          refine (CB.out _).mono ?_
          rintro e w2 ⟨rfl, hb⟩
          have HB2 := Lib.hid (HB1.out.trans (hb.mono HB1.out.size))
          clear hb CB
          go_wp2_with fail
          refine (CP.out _).mono ?_
          rintro e wq ⟨rfl, rfl⟩
          go_wp2_with fail
          (try simp only [Exit.inBlock, Exit.then]); refine bodyPost_ret (results_tmp4 rfl _ _ _) rfl ?_
          exact ⟨by rw [HSB.out]; rfl, HB2.out⟩
        | false =>
          go_wp2_with fail
          refine (CB.out _).mono ?_
          rintro e w2 ⟨rfl, hb⟩
          have HB2 := Lib.hid (HB1.out.trans (hb.mono HB1.out.size))
          clear hb CB
          go_wp2_with fail
          refine (CP.out _).mono ?_
          rintro e wq ⟨rfl, rfl⟩
          go_wp2_with fail
          (try simp only [Exit.inBlock, Exit.then]); refine bodyPost_ret (results_tmp4 rfl _ _ _) rfl ?_
          exact ⟨by rw [HSB.out]; rfl, HB2.out⟩
  · rw [decide_eq_false hb1] at hq1
    rw [if_neg hb1]
    by_cases hb2 : b = 43
    · rw [decide_eq_true hb2] at hq2
      rw [if_pos hb2, ← hb2]
      clear hb1 hb2
      go_enter Tryz.func74, Tryz.ntmps74
      go_wp2_with fail
      refine C.out.mono ?_
      rintro e w1 ⟨rfl, hb⟩
      have HB1 := Lib.hid hb
      clear hb C
      cases fd with
      | false =>
        clear CB
        go_wp2_with fail
        (try simp only [Exit.inBlock, Exit.then]); refine bodyPost_ret (results_tmp4 rfl _ _ _) rfl ?_
        exact ⟨by rw [HSB.out]; simp [partsV], HB1.out⟩
      | true =>
        cases qe with
        | true =>
          clear CB
          go_wp2_with fail
          (try simp only [Exit.inBlock, Exit.then]); refine bodyPost_ret (results_tmp4 rfl _ _ _) rfl ?_
          exact ⟨by rw [HSB.out]; simp [partsV], HB1.out⟩
        | false =>
          cases qc with
          | true =>
            go_wp2_with fail
            refine (CB.out _).mono ?_
            rintro e w2 ⟨rfl, hb⟩
            have HB2 := Lib.hid (HB1.out.trans (hb.mono HB1.out.size))
            clear hb CB
            go_wp2_with fail
            (try simp only [Exit.inBlock, Exit.then]); refine bodyPost_ret (results_tmp4 rfl _ _ _) rfl ?_
            exact ⟨by rw [HSB.out]; simp [partsV], HB2.out⟩
          | false =>
            go_wp2_with fail
            refine (CB.out _).mono ?_
            rintro e w2 ⟨rfl, hb⟩
            have HB2 := Lib.hid (HB1.out.trans (hb.mono HB1.out.size))
            clear hb CB
            go_wp2_with fail
            refine (CL.out _).mono ?_
            rintro e wq ⟨rfl, hb⟩
            have HBq := Lib.hid (HB2.out.trans (hb.mono HB2.out.size))
            clear hb CL
            go_wp2_with fail
            (try simp only [Exit.inBlock, Exit.then]); refine bodyPost_ret (results_tmp4 rfl _ _ _) rfl ?_
            exact ⟨by rw [HSB.out]; simp [partsV], HBq.out⟩
    · rw [decide_eq_false hb2] at hq2
      rw [if_neg hb2]
      clear hb1 hb2
      go_enter Tryz.func74, Tryz.ntmps74
      go_wp2_with fail
      refine C.out.mono ?_
      rintro e w1 ⟨rfl, hb⟩
      have HB1 := Lib.hid hb
      clear hb C
      cases fd with
      | false =>
        clear CB
        go_wp2_with fail
        (try simp only [Exit.inBlock, Exit.then]); refine bodyPost_ret (results_tmp4 rfl _ _ _) rfl ?_
        exact ⟨by rw [HSB.out]; simp [partsV], HB1.out⟩
      | true =>
        cases qe with
        | true =>
          clear CB
          go_wp2_with fail
          (try simp only [Exit.inBlock, Exit.then]); refine bodyPost_ret (results_tmp4 rfl _ _ _) rfl ?_
          exact ⟨by rw [HSB.out]; simp [partsV], HB1.out⟩
        | false =>
          cases qc with
          | true =>
            go_wp2_with fail
            refine (CB.out _).mono ?_
            rintro e w2 ⟨rfl, hb⟩
            have HB2 := Lib.hid (HB1.out.trans (hb.mono HB1.out.size))
            clear hb CB
            go_wp2_with fail
            (try simp only [Exit.inBlock, Exit.then]); refine bodyPost_ret (results_tmp4 rfl _ _ _) rfl ?_
            exact ⟨by rw [HSB.out]; simp [partsV], HB2.out⟩
          | false =>
            go_wp2_with fail
            refine (CB.out _).mono ?_
            rintro e w2 ⟨rfl, hb⟩
            have HB2 := Lib.hid (HB1.out.trans (hb.mono HB1.out.size))
            clear hb CB
            go_wp2_with fail
            (try simp only [Exit.inBlock, Exit.then]); refine bodyPost_ret (results_tmp4 rfl _ _ _) rfl ?_
            exact ⟨by rw [HSB.out]; simp [partsV], HB2.out⟩
end Go.Proofs.YtdhgiammfpjniaaGreatDoor
