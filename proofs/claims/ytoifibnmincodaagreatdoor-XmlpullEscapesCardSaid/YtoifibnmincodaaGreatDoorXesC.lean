/- The texts of XmlpullEscapes and XmlpullQuiet, and what is told of them. -/
import Derived.Test.YtoifibnmincodaaGreatDoorXesB
namespace Go.Proofs.YtoifibnmincodaaGreatDoor
set_option linter.unusedSimpArgs false
set_option linter.unusedVariables false
open Go.RowKit

theorem whole_ {l : Bs} {ps : List Pc} (hl : l.length ≤ 40000) (h : Tells (SX l [] false) ps (SX [] [] true)) : allX l = (ps, 0) := by
  rw [allX_short hl]
  obtain ⟨-, h2⟩ := h (ok0 hl)
  show allS (SX l [] false) = _
  rw [h2, done_, List.append_nil]
theorem part_ {l : Bs} {ps : List Pc} {s : XS} {e : Int} (hl : l.length ≤ 40000) (h : Tells (SX l [] false) ps s) (he : allS s = ([], e)) : allX l = (ps, e) := by
  rw [allX_short hl]
  obtain ⟨-, h2⟩ := h (ok0 hl)
  show allS (SX l [] false) = _
  rw [h2, he, List.append_nil]
def docE (v t : Bs) : Bs := 60 :: ([97] ++ 32 :: ([98] ++ 61 :: 39 :: (escX v ++ 39 :: 62 :: (escX t ++ 60 :: 47 :: ([97] ++ 62 :: [])))))
theorem docE_len {v t : Bs} (hv : v.length ≤ 3000) (ht : t.length ≤ 3000) : (docE v t).length ≤ 40000 := by
  have := (escX_len v).2; have := (escX_len t).2
  unfold docE; simp; omega
theorem docE_good {v t : Bs} (hv : v.length ≤ 3000) (ht : t.length ≤ 3000) (gv : v.all xMay = true) (gt : t.all xMay = true) :
    allX (docE v t) = (startP [97] [([98], v)] :: (textP t ++ [endP_ [97]]), 0) :=
  whole_ (docE_len hv ht) (((open1 (by decide) (by decide) (.inl rfl) (by decide) (.inr rfl) gv).trans (text_close (o := []) (by decide) gt)))
theorem docE_bad {v t : Bs} (hv : v.length ≤ 3000) (ht : t.length ≤ 3000) (g : ¬ (v.all xMay = true ∧ t.all xMay = true)) : (allX (docE v t)).2 = 103 := by
  by_cases gv : v.all xMay = true
  · have gt : t.all xMay = false := by simpa [gv] using g
    rw [part_ (docE_len hv ht) (open1 (by decide) (by decide) (.inl rfl) (by decide) (.inr rfl) gv) (text_bad (o := [[97]]) gt)]
  · have gv : v.all xMay = false := by simpa using gv
    rw [part_ (docE_len hv ht) (Tells.refl _) (open1_bad (by decide) (by decide) (.inl rfl) (by decide) (.inr rfl) gv)]

/-! What is not seen. -/
/-- Where a byte 45 ends, or comes twice. -/
def lineR : Bs → Bool
  | [] => false
  | c :: r => (c == 45 && (r.isEmpty || r.head? == some 45)) || lineR r
theorem line_mid {l : Bs} : ∀ {m : Bs}, (45 : UInt8) ∉ m → lineR (m ++ l) = lineR l
  | [], _ => rfl
  | c :: r, h => by
    have h1 : (45 : UInt8) ∉ r := fun hm => h (by simp [hm])
    have h2 : c ≠ 45 := fun hm => h (by simp [hm])
    show ((c == 45 && _) || lineR (r ++ l)) = _
    rw [line_mid h1, beq_eq_false_iff_ne.2 h2]; rfl
theorem esc_empty (l : Bs) : (escX l).isEmpty = l.isEmpty := by
  cases l with
  | nil => rfl
  | cons c r =>
    have := (escB_len c).1
    show (escB c ++ escX r).isEmpty = false
    cases hb : escB c with
    | nil => rw [hb] at this; cases this
    | cons a t => rfl
theorem esc_head (l : Bs) : ((escX l).head? == some 45) = (l.head? == some 45) := by
  cases l with
  | nil => rfl
  | cons c r =>
    show ((escB c ++ escX r).head? == some 45) = (some c == some 45)
    cases hn : escN c with
    | none => rw [escB_none hn]; rfl
    | some n =>
      rw [escB_some hn]
      have h45 : c ≠ 45 := fun h => by subst h; cases (show escN 45 = none by decide).symm.trans hn
      have e1 : ((some (38 : UInt8)) == some 45) = false := by decide
      have e2 : (some c == some (45 : UInt8)) = false := by simpa using h45
      rw [e2]; exact e1
theorem line_esc : ∀ l : Bs, lineR (escX l) = lineR l
  | [] => rfl
  | c :: r => by
    show lineR (escB c ++ escX r) = _
    cases hn : escN c with
    | none =>
      rw [escB_none hn]
      show ((c == 45 && ((escX r).isEmpty || (escX r).head? == some 45)) || lineR (escX r)) = ((c == 45 && (r.isEmpty || r.head? == some 45)) || lineR r)
      rw [line_esc r, esc_empty, esc_head]
    | some n =>
      have hs := escN_some hn
      rw [escB_some hn, line_mid (by simp [hs.n45]), line_esc r]
      have h45 : c ≠ 45 := fun h => by subst h; cases (show escN 45 = none by decide).symm.trans hn
      show _ = ((c == 45 && (r.isEmpty || r.head? == some 45)) || lineR r)
      rw [beq_eq_false_iff_ne.2 h45]; rfl
theorem idx_line {r : Bs} : ∀ {l : Bs}, lineR l = false → Lib.index (l ++ ([45, 45] ++ r)) [45, 45] = (l.length : Int)
  | [], _ => idx_here (by simp [List.isPrefixOf])
  | c :: t, h => by
    have h : ((c == 45 && (t.isEmpty || t.head? == some 45)) || lineR t) = false := h
    rw [Bool.or_eq_false_iff] at h
    refine idx_step ?_ (idx_line h.2)
    cases t with
    | nil =>
      have h1 : (c == 45) = false := by simpa using h.1
      have h1 : c ≠ 45 := by simpa using h1
      simp [List.isPrefixOf, Ne.symm h1]
    | cons d t =>
      by_cases hc : c = 45
      · subst hc
        have h1 : d ≠ 45 := by simpa using h.1
        simp [List.isPrefixOf, Ne.symm h1]
      · simp [List.isPrefixOf, Ne.symm hc]
theorem idx_62 {r : Bs} : ∀ {l : Bs}, (62 : UInt8) ∉ l → Lib.index (l ++ ([63, 62] ++ r)) [63, 62] = (l.length : Int)
  | [], _ => idx_here (by simp [List.isPrefixOf])
  | c :: t, h => by
    have h1 : (62 : UInt8) ∉ t := fun hm => h (by simp [hm])
    refine idx_step ?_ (idx_62 h1)
    cases t with
    | nil => simp [List.isPrefixOf]
    | cons d t =>
      have h2 : d ≠ 62 := fun hm => h (by simp [hm])
      simp [List.isPrefixOf, Ne.symm h2]
theorem want_pre (p r : Bs) : wantR p (p ++ r) = .ok ((), r) := by
  have h : Lib.hasPrefix (p ++ r) p = true := by unfold Lib.hasPrefix; rw [List.isPrefixOf_iff_prefix]; exact ⟨r, rfl⟩
  unfold wantR Lib.trimPrefix
  rw [if_pos h, if_pos h, List.drop_left' rfl]
theorem upTo_is {mark t r : Bs} (hi : Lib.index (t ++ (mark ++ r)) mark = (t.length : Int)) (ht : t.all xMay = true) : upToR mark (t ++ (mark ++ r)) = .ok (t, r) := by
  unfold upToR
  rw [hi, if_pos (by omega), Int.toNat_natCast, take_all ht, bindOk]
  dsimp only
  rw [want_pre]
  rfl
theorem run_comment {k : Nat} {out q r : Bs} (h : lineR q = false) : runR (k + 1) out (60 :: 33 :: 45 :: 45 :: (escX q ++ ([45, 45] ++ 62 :: r))) = runR k out r := by
  rw [runR_F, plain_stop (by decide)]
  show runF k out ([], [60, 33, 45, 45] ++ (escX q ++ ([45, 45] ++ 62 :: r))) = _
  unfold runF
  dsimp only
  rw [if_neg (by simp [Lib.hasPrefix, List.isPrefixOf]), if_neg (by simp [cdataB, Lib.hasPrefix, List.isPrefixOf]), if_pos (by simp [Lib.hasPrefix, List.isPrefixOf])]
  have ht : Lib.trimPrefix ([60, 33, 45, 45] ++ (escX q ++ ([45, 45] ++ 62 :: r))) [60, 33, 45, 45] = escX q ++ ([45, 45] ++ 62 :: r) := by simp [Lib.trimPrefix, Lib.hasPrefix, List.isPrefixOf]
  rw [ht, upTo_is (idx_line (by rw [line_esc]; exact h)) (escX_may q), bindOk]
  dsimp only
  rw [want_one, bindOk]
  dsimp only
  rw [List.append_nil]
theorem run_order {k : Nat} {out q r : Bs} : runR (k + 1) out (60 :: 63 :: 120 :: 32 :: (escX q ++ ([63, 62] ++ r))) = runR k out r := by
  rw [runR_F, plain_stop (by decide)]
  show runF k out ([], [60, 63] ++ ([120] ++ 32 :: (escX q ++ ([63, 62] ++ r)))) = _
  unfold runF
  dsimp only
  rw [if_neg (by simp [Lib.hasPrefix, List.isPrefixOf]), if_neg (by simp [cdataB, Lib.hasPrefix, List.isPrefixOf]), if_neg (by simp [Lib.hasPrefix, List.isPrefixOf]), if_pos (by simp [Lib.hasPrefix, List.isPrefixOf])]
  have ht : Lib.trimPrefix ([60, 63] ++ ([120] ++ 32 :: (escX q ++ ([63, 62] ++ r)))) [60, 63] = [120] ++ 32 :: (escX q ++ ([63, 62] ++ r)) := by simp [Lib.trimPrefix, Lib.hasPrefix, List.isPrefixOf]
  have hq := escX_no q
  have hu : upToR [63, 62] (32 :: (escX q ++ ([63, 62] ++ r))) = .ok (32 :: escX q, r) := upTo_is (t := 32 :: escX q) (idx_62 (by simp [hq.1])) (by rw [List.all_cons, escX_may]; rfl)
  rw [ht, nameR_ok (by decide) (by decide), bindOk]
  dsimp only
  rw [hu, bindOk]
  dsimp only
  rw [List.append_nil]
def tailA : Bs := 60 :: 47 :: ([97] ++ 62 :: [])
def docA (one two : Bs) : Bs := 60 :: ([97] ++ 62 :: (escX one ++ (escX two ++ tailA)))
def docB (one q two : Bs) : Bs := 60 :: ([97] ++ 62 :: (escX one ++ (60 :: 33 :: 45 :: 45 :: (escX q ++ ([45, 45] ++ 62 :: (escX two ++ tailA))))))
def docC (one q two : Bs) : Bs := 60 :: ([97] ++ 62 :: (escX one ++ (60 :: 63 :: 120 :: 32 :: (escX q ++ ([63, 62] ++ (escX two ++ tailA))))))
/-- An element's text, told by its run. -/
theorem docR {T t : Bs} (hl : (60 :: ([97] ++ 62 :: T)).length ≤ 40000) (h : runR (T.length + 1) [] T = .ok (t, tailA)) : allX (60 :: ([97] ++ 62 :: T)) = (startP [97] [] :: (textP t ++ [endP_ [97]]), 0) := by
  exact whole_ hl ((open_ (by decide) (by decide) (.inr rfl)).trans ((text_ (o := [] ++ [[97]]) (by simp) h (by decide) (by decide)).trans (close_ (o := []) (r := []) (by decide))))
theorem docR_err {T : Bs} {e : Int} (hl : (60 :: ([97] ++ 62 :: T)).length ≤ 40000) (h : runR (T.length + 1) [] T = .error e) : allX (60 :: ([97] ++ 62 :: T)) = ([startP [97] []], e) :=
  part_ hl (open_ (by decide) (by decide) (.inr rfl)) (text_err h)
theorem run_tail {k : Nat} {out : Bs} : runR (k + 1) out tailA = .ok (out, tailA) := run_lt (by decide) (by decide)
theorem docA_len {one two : Bs} (h1 : one.length ≤ 2000) (h2 : two.length ≤ 2000) : (docA one two).length ≤ 40000 := by
  have := (escX_len one).2; have := (escX_len two).2
  unfold docA tailA; simp; omega
theorem docB_len {one q two : Bs} (h1 : one.length ≤ 2000) (hq : q.length ≤ 2000) (h2 : two.length ≤ 2000) : (docB one q two).length ≤ 40000 := by
  have := (escX_len one).2; have := (escX_len two).2; have := (escX_len q).2
  unfold docB tailA; simp; omega
theorem docC_len {one q two : Bs} (h1 : one.length ≤ 2000) (hq : q.length ≤ 2000) (h2 : two.length ≤ 2000) : (docC one q two).length ≤ 40000 := by
  have := (escX_len one).2; have := (escX_len two).2; have := (escX_len q).2
  unfold docC tailA; simp; omega
theorem mid_run {m one two : Bs} (hm : ∀ (k : Nat) (out r : Bs), runR (k + 2) out (m ++ r) = runR (k + 1) out r) (hl : 1 ≤ m.length) :
    runR ((escX one ++ (m ++ (escX two ++ tailA))).length + 1) [] (escX one ++ (m ++ (escX two ++ tailA))) = if (one ++ two).all xMay = true then .ok (one ++ two, tailA) else .error 103 := by
  have l1 := (escX_len one).1
  have l2 := (escX_len two).1
  obtain ⟨k, hk⟩ : ∃ k, k = (escX one ++ (m ++ (escX two ++ tailA))).length := ⟨_, rfl⟩
  have hk' : one.length + two.length + 1 ≤ k := by rw [hk]; simp; omega
  rw [← hk]
  clear hk
  by_cases g1 : one.all xMay = true
  · obtain ⟨j, a1, a2, a3⟩ := run_esc one (k := k) (out := []) (r := m ++ (escX two ++ tailA)) g1 (by omega)
    rw [a3]
    obtain ⟨j', rfl⟩ : ∃ j', j = j' + 1 := ⟨j - 1, by omega⟩
    rw [hm]
    by_cases g2 : two.all xMay = true
    · obtain ⟨i, b1, b2, b3⟩ := run_esc two (k := j') (out := [] ++ one) (r := tailA) g2 (by omega)
      rw [b3, run_tail, if_pos (by simp [List.all_append, g1, g2])]
      simp
    · rw [run_bad two (by simpa using g2) (by omega), if_neg (by simp only [List.all_append, g1, Bool.true_and]; exact g2)]
  · rw [run_bad one (by simpa using g1) (by omega), if_neg (by simp only [List.all_append, Bool.and_eq_true]; exact fun h => g1 h.1)]
theorem a_run {one two : Bs} :
    runR ((escX one ++ (escX two ++ tailA)).length + 1) [] (escX one ++ (escX two ++ tailA)) = if (one ++ two).all xMay = true then .ok (one ++ two, tailA) else .error 103 := by
  rw [← List.append_assoc, ← escX_app]
  by_cases g : (one ++ two).all xMay = true
  · obtain ⟨j, a1, a2, a3⟩ := run_esc (one ++ two) (k := (escX (one ++ two) ++ tailA).length) (out := []) (r := tailA) g (len_fuel _ _)
    rw [a3, run_tail, if_pos g]
    simp
  · rw [run_bad (one ++ two) (by simpa using g) (len_fuel _ _), if_neg g]
theorem quiet_mid {one two m : Bs} (hm : ∀ (k : Nat) (out r : Bs), runR (k + 2) out (m ++ r) = runR (k + 1) out r) (hl : 1 ≤ m.length) (h1 : (docA one two).length ≤ 40000) (h2 : (60 :: ([97] ++ 62 :: (escX one ++ (m ++ (escX two ++ tailA))))).length ≤ 40000) :
    allX (60 :: ([97] ++ 62 :: (escX one ++ (m ++ (escX two ++ tailA))))) = allX (docA one two) := by
  by_cases g : (one ++ two).all xMay = true
  · have e1 := docR h2 (by rw [mid_run hm hl, if_pos g])
    have e2 := docR (T := escX one ++ (escX two ++ tailA)) h1 (by rw [a_run, if_pos g])
    rw [e1]; exact e2.symm
  · have e1 := docR_err h2 (by rw [mid_run hm hl, if_neg g])
    have e2 := docR_err (T := escX one ++ (escX two ++ tailA)) h1 (by rw [a_run, if_neg g])
    rw [e1]; exact e2.symm
theorem quiet_B {one q two : Bs} (h1 : one.length ≤ 2000) (hq : q.length ≤ 2000) (h2 : two.length ≤ 2000) (h : lineR q = false) : allX (docB one q two) = allX (docA one two) := by
  have e : docB one q two = 60 :: ([97] ++ 62 :: (escX one ++ ((60 :: 33 :: 45 :: 45 :: (escX q ++ [45, 45, 62])) ++ (escX two ++ tailA)))) := by unfold docB; simp
  have hl := docB_len h1 hq h2
  rw [e] at hl ⊢
  refine quiet_mid (fun k out r => ?_) (by simp) (docA_len h1 h2) hl
  have := run_comment (k := k + 1) (out := out) (q := q) (r := r) h
  rw [← this]
  congr 1
  simp
theorem quiet_C {one q two : Bs} (h1 : one.length ≤ 2000) (hq : q.length ≤ 2000) (h2 : two.length ≤ 2000) : allX (docC one q two) = allX (docA one two) := by
  have e : docC one q two = 60 :: ([97] ++ 62 :: (escX one ++ ((60 :: 63 :: 120 :: 32 :: (escX q ++ [63, 62])) ++ (escX two ++ tailA)))) := by unfold docC; simp
  have hl := docC_len h1 hq h2
  rw [e] at hl ⊢
  refine quiet_mid (fun k out r => ?_) (by simp) (docA_len h1 h2) hl
  have := run_order (k := k + 1) (out := out) (q := q) (r := r)
  rw [← this]
  congr 1
  simp
end Go.Proofs.YtoifibnmincodaaGreatDoor
