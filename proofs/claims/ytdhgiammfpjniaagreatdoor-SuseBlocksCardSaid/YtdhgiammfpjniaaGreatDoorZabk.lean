/- Parse of any text of tags. Packages that were read are whole: pure; and they lie in memory as the reference's Same asks. -/
import Derived.Test.YtdhgiammfpjniaaGreatDoorZabj
import Derived.Test.YtdhgiammfpjniaaGreatDoorZaav
import Derived.Test.YtdhgiammfpjniaaGreatDoorZaay
/- Parse of any text of tags. -/
namespace Go.Proofs.YtdhgiammfpjniaaGreatDoor
set_option linter.unusedSimpArgs false
set_option linter.unusedVariables false
open Go.RowKit Go.MapKept

def ReadR (w0 : World) (g : Nat) (X : Except Int (List Sk)) (e : Ending) (w' : World) : Prop := match X with
  | .error n => e = .returned (.int .i64 n) ∧ n ≠ 0 ∧ Below w0.heap.size w0 w'
  | .ok l => e = .returned (.int .i64 0) ∧ ∃ r v xs, AllM w0 w' w0.heap.size g r v xs ∧ xs.map Sk5.S = l
/-- What read answers (SuR). -/
def ReadOk : Prop := ∀ (w0 w1 : World) (g : Nat) (t : Bs), t.length ≤ 40000 → Ev.Tabs w0 → MaxAt w0 → AllM w0 w1 w0.heap.size g t (.slice none 0 0) [] →
    Calls Tryz.prog 35 #[.pointer (some ⟨g, 0, none⟩)] w1 (ReadR w0 g (readS ((linesX t).length + 1) (linesX t) []))
/-- Packages that were read, in memory. -/
structure PsS (w0 w : World) (v : Value) (xs : List Sk5) : Prop where
  row : w.ownsRow w0.heap.size 37 12 v xs.length (rowsK xs)
  old : ∀ y ∈ xs, OldM w w.heap.size y
  bel : Below w0.heap.size w0 w
theorem PsS.below {w0 w w' : World} {v : Value} {xs : List Sk5} (h : PsS w0 w v xs) (hb : Below w.heap.size w w') : PsS w0 w' v xs :=
  ⟨own_turned h.row (Turned.of_below hb []) (fun k hk => by simp), fun y hy => ((h.old y hy).below hb).mono hb.size, h.bel.trans (hb.mono h.bel.size)⟩
def ParseS (w0 : World) (X : Except Int (List Sk)) (e : Ending) (w' : World) : Prop := match X with
  | .error n => e = .returned (.tuple #[.slice none 0 0, .int .i64 n]) ∧ n ≠ 0 ∧ Below w0.heap.size w0 w'
  | .ok l => ∃ v xs, e = .returned (.tuple #[v, .int .i64 0]) ∧ xs.map Sk5.S = l ∧ PsS w0 w' v xs
set_option maxHeartbeats 4000000 in
set_option maxRecDepth 100000 in
theorem suParse_any (hR : ReadOk) (t : Bs) (w : World) (hT : Ev.Tabs w) (hM : MaxAt w) : Calls Tryz.prog 17 #[.string (mkS t)] w (ParseS w (parseS t)) := by
  obtain ⟨X, hX⟩ : ∃ X, X = parseS t := ⟨_, rfl⟩
  rw [← hX]
  have HX := Lib.hid hX
  clear hX
  have hsz : (mkS t).size = t.length := mkS_size t
  by_cases hbig : t.length ≤ 40000
  rotate_left
  · have hI : (40000 : Int) < ((mkS t).size : Int) := by omega
    have HE : Hid (X = .error 132) := by show X = _; rw [HX.out]; exact if_neg hbig
    clear hbig hsz HX hT hM hR
    generalize mkS t = S at *
    go_enter Tryz.func17, Tryz.ntmps17
    go_wp2_with fail
    go_ret2
    show ParseS w X _ _
    rw [HE.out]
    exact ⟨rfl, by decide, Below.refl _ _⟩
  have hI : ¬ (40000 : Int) < ((mkS t).size : Int) := by omega
  have HE : Hid (X = readS ((linesX t).length + 1) (linesX t) []) := by show X = _; rw [HX.out]; exact if_pos hbig
  clear HX
  obtain ⟨w1, hw1⟩ : ∃ w1, w1 = w.alloc (.cells #[.string (mkS t), .slice none 0 0] 67) := ⟨_, rfl⟩
  have hb1 : Below w.heap.size w w1 := by rw [hw1]; exact (Below.refl _ _).alloc (Nat.le_refl _) _
  have hA : AllM w w1 w.heap.size w.heap.size t (.slice none 0 0) [] := ⟨by rw [hw1]; exact Blk.new _ _ _, World.ownsRow_nil _ _ _ _, (fun y hy => by cases hy), ⟨Nat.le_refl _, hb1.size⟩, hb1⟩
  have C := Lib.hid (hR w w1 w.heap.size t hbig hT hM hA)
  rw [← HE.out] at C
  clear hbig hA hb1 hT hM hR hsz HE
  go_enter Tryz.func17, Tryz.ntmps17
  go_upto_region 4 with fail
  rw [← hw1]
  clear hw1
  generalize mkS t = S at *
  go_wp2_with fail
  refine C.out.mono ?_
  intro e w2 hp
  clear C
  cases X with
  | error n =>
    obtain ⟨rfl, hn, hb⟩ := hp
    have hq : (n != 0) = true := by simp [hn]
    have HN := Lib.hid hn
    have HB := Lib.hid hb
    clear hn hb
    go_wp2_with fail
    go_ret2
    exact ⟨rfl, HN.out, HB.out⟩
  | ok l =>
    obtain ⟨rfl, r, v, xs, hAll, hl⟩ := hp
    have c1 := Blk.cell hAll.rd 1
    simp at c1
    obtain ⟨A, c, hv, _, _⟩ := own_form' hAll.row
    subst hv
    have HP : Hid (PsS w w2 (.slice A xs.length c) xs) := ⟨hAll.row, hAll.old, hAll.bel⟩
    have HL := Lib.hid hl
    clear hAll hl
    go_wp2_with fail
    go_ret2
    exact ⟨_, xs, rfl, HL.out, HP.out⟩
end Go.Proofs.YtdhgiammfpjniaaGreatDoor

/- Packages that were read are whole: pure; and they lie in memory as the reference's Same asks. -/
namespace Go.Proofs.YtdhgiammfpjniaaGreatDoor
set_option linter.unusedSimpArgs false
set_option linter.unusedVariables false
open Go.RowKit Go.MapKept

theorem last_drop (t : Bs) (vs : List Bs) : ∀ (acc a : List Sk), lastT t vs acc = some a → a.dropLast = acc.dropLast
  | [], a, h => by cases h
  | [S], a, h => by
    have h : (match putT t vs S with | some S' => some [S'] | none => none) = some a := h
    cases hp : putT t vs S with
    | none => rw [hp] at h; cases h
    | some S' => rw [hp] at h; injection h with h; rw [← h]; rfl
  | S :: S2 :: r, a, h => by
    have h : (match lastT t vs (S2 :: r) with | some r' => some (S :: r') | none => none) = some a := h
    cases hp : lastT t vs (S2 :: r) with
    | none => rw [hp] at h; cases h
    | some r' =>
      rw [hp] at h
      injection h with h
      rw [← h]
      have ih := last_drop t vs (S2 :: r) r' hp
      have hl := lastT_len _ _ _ _ hp
      cases r' with
      | nil => cases hl
      | cons x y =>
        show S :: (x :: y).dropLast = S :: (S2 :: r).dropLast
        rw [ih]
theorem whole_all {acc : List Sk} (h : ∀ S ∈ acc.dropLast, chkS S = 0) (hw : wholeS acc = 0) : ∀ S ∈ acc, chkS S = 0 := by
  by_cases he : acc = []
  · subst he
    intro S hS
    cases hS
  · have e : acc.dropLast ++ [acc.getLast he] = acc := List.dropLast_concat_getLast he
    intro S hS
    rw [← e] at hS hw
    rcases List.mem_append.1 hS with hS | hS
    · exact h S hS
    · rw [List.mem_singleton.1 hS]
      rw [wholeS_app _ _ (by simp)] at hw
      exact hw
theorem readS_whole : ∀ (n : Nat) (ls : List Bs) (acc b : List Sk), ls.length < n → (∀ S ∈ acc.dropLast, chkS S = 0) → readS n ls acc = .ok b → ∀ S ∈ b, chkS S = 0
  | 0, _, _, _, hn, _, _ => absurd hn (Nat.not_lt_zero _)
  | n + 1, [], acc, b, _, ha, h => by
    rw [readS_end] at h
    by_cases hw : wholeS acc = 0
    · rw [if_pos hw] at h
      injection h with h
      rw [← h]
      exact whole_all ha hw
    · rw [if_neg hw] at h; cases h
  | n + 1, l :: ls, acc, b, hn, ha, h => by
    have hn : ls.length < n := Nat.lt_of_succ_lt_succ hn
    rw [readS_cons] at h
    cases hl : lineS l acc.isEmpty with
    | skip => rw [hl] at h; exact readS_whole n ls acc b hn ha h
    | bad => rw [hl] at h; cases h
    | pack v =>
      rw [hl] at h
      dsimp only at h
      cases hb : beginS acc v with
      | error e => rw [hb] at h; cases h
      | ok a =>
        rw [hb] at h
        obtain ⟨hw, _, S, _, rfl⟩ := beginS_ok hb
        exact readS_whole n ls _ b hn (by rw [List.dropLast_concat]; exact whole_all ha hw) h
    | one t v =>
      rw [hl] at h
      obtain ⟨a, h1, h2⟩ := thenS_ok h
      exact readS_whole n ls a b hn (by rw [last_drop _ _ _ _ h1]; exact ha) h2
    | blk t =>
      rw [hl] at h
      dsimp only at h
      cases hb : blockS t ls [] with
      | none => rw [hb] at h; cases h
      | some x =>
        obtain ⟨vs, ls'⟩ := x
        rw [hb] at h
        have hlt := block_len t ls [] vs ls' hb
        obtain ⟨a, h1, h2⟩ := thenS_ok h
        exact readS_whole n ls' a b (by omega) (by rw [last_drop _ _ _ _ h1]; exact ha) h2
theorem parseS_whole {t : Bs} {b : List Sk} (h : parseS t = .ok b) : ∀ S ∈ b, chkS S = 0 := by
  unfold parseS at h
  split at h
  · exact readS_whole _ _ _ _ (Nat.lt_succ_self _) (by simp) h
  · cases h
theorem whole_files {S : Sk} (h : chkS S = 0) : S.fl.length ≤ 1048576 := by
  unfold chkS chkD Ev.chkN at h
  split at h
  · next h1 => exact absurd h h1
  · split at h
    · cases h
    · split at h
      · cases h
      · next hf =>
        have hf : Ev.filesBad (pkgS S).files = false := by simpa using hf
        have e : (pkgS S).files.length = S.fl.length := List.length_map _
        unfold Ev.filesBad at hf
        rw [Bool.or_eq_false_iff] at hf
        have := of_decide_eq_false hf.1
        omega
theorem rowsK_at {j : Nat} (hj : j < 12) : ∀ (xs : List Sk5) (k : Nat) (x : Sk5), xs[k]? = some x → (rowsK xs)[k * 12 + j]? = x.row[j]?
  | [], _, _, h => by simp at h
  | y :: r, 0, x, h => by
    simp at h
    subst h
    show (y.row ++ rowsK r)[0 * 12 + j]? = _
    rw [List.getElem?_append_left (by show _ < 12; omega), Nat.zero_mul, Nat.zero_add]
  | y :: r, k + 1, x, h => by
    show (y.row ++ rowsK r)[(k + 1) * 12 + j]? = _
    have : y.row.length = 12 := rfl
    rw [List.getElem?_append_right (by omega), this, show (k + 1) * 12 + j - 12 = k * 12 + j from by omega]
    exact rowsK_at hj r k x h
theorem PsS.pks {w0 w : World} {A : Option Addr} {n c : Nat} {xs : List Sk5} (h : PsS w0 w (.slice A n c) xs) (hw : ∀ x ∈ xs, chkS x.S = 0) : Ev.PksAt w (xs.map fun x => pkgS x.S) A := fun k p hk => by
  rw [List.getElem?_map] at hk
  obtain ⟨x, hx, rfl⟩ := Option.map_eq_some_iff.1 hk
  have hV := h.old x (List.mem_of_getElem? hx)
  obtain ⟨b, rfl, _⟩ := own_ats h.row (k := k * 12 + 0) (u := .string (mkS (x.S.T 0))) (by rw [rowsK_at (by omega) xs k x hx]; rfl)
  refine ⟨b, 0, x.ss, x.fs, DbB w, StB w, rfl, hV.pkg, ?_, fun j hj => ?_⟩
  · show (x.S.fl.map mkS).length ≤ _
    rw [List.length_map]
    exact whole_files (hw x (List.mem_of_getElem? hx))
  obtain ⟨u, hu⟩ : ∃ u, x.row[j]? = some u := ⟨_, List.getElem?_eq_getElem (by show j < 12; exact hj)⟩
  obtain ⟨b', e, hc⟩ := own_ats h.row (k := k * 12 + j) (u := u) (by rw [rowsK_at hj xs k x hx]; exact hu)
  injection e with e
  injection e with e
  subst e
  rw [Nat.zero_add, hc]
  have : (Ev.rowP (pkgS x.S) x.ss x.fs)[j]? = x.row[j]? := by
    show (x.row.toArray)[j]? = _
    rw [List.getElem?_toArray]
  rw [this, hu]
end Go.Proofs.YtdhgiammfpjniaaGreatDoor
