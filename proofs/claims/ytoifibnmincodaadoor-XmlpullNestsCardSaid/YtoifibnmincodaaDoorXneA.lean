/- XmlpullNests: the pieces stand as brackets do. -/
import Derived.Test.YtoifibnmincodaaDoorXstA
namespace Go.Proofs.YtoifibnmincodaaDoor
set_option linter.unusedSimpArgs false
set_option linter.unusedVariables false
open Go.RowKit

theorem plain0 (st : Bs) : ∀ (l : Bs), plainN st (l.drop (plainN st l)) = 0
  | [] => by simp [plainN]
  | c :: r => by
    have ih := plain0 st r
    unfold plainN at ih ⊢
    by_cases hc : st.contains c = true
    · have hm : c ∈ st := by simpa using hc
      simp [List.takeWhile_cons, hm]
    · have hc : st.contains c = false := by simpa using hc
      simp only [List.takeWhile_cons, hc, Bool.not_false, if_true, List.length_cons, List.drop_succ_cons]
      exact ih
theorem plainR_idem {st l : Bs} {x : Bs × Bs} (h : plainR st l = .ok x) : plainR st x.2 = .ok ([], x.2) := by
  unfold plainR at h
  obtain ⟨-, -, h2⟩ := takeR_len h
  unfold plainR
  rw [h2, plain0]
  unfold takeR
  simp
theorem runR_idem : ∀ (k : Nat) {out l : Bs} {x : Bs × Bs}, runR k out l = .ok x → ∀ j, runR (j + 1) [] x.2 = .ok ([], x.2)
  | 0, _, _, _, h => by cases h
  | k + 1, out, l, x, h => fun j => by
    unfold runR at h
    obtain ⟨y, hy, h⟩ := bind_ok h
    split at h
    · obtain ⟨z, hz, h⟩ := bind_ok h; exact runR_idem k h j
    · rename_i h1
      split at h
      · obtain ⟨z, hz, h⟩ := bind_ok h; exact runR_idem k h j
      · rename_i h2
        split at h
        · obtain ⟨z, hz, h⟩ := bind_ok h; obtain ⟨z', hz', h⟩ := bind_ok h; exact runR_idem k h j
        · rename_i h3
          split at h
          · obtain ⟨z, hz, h⟩ := bind_ok h; obtain ⟨z', hz', h⟩ := bind_ok h; exact runR_idem k h j
          · rename_i h4
            split at h
            · cases h
            · rename_i h5
              injection h with h
              have hx : x.2 = y.2 := by rw [← h]
              rw [hx]
              unfold runR
              rw [plainR_idem hy]
              show (if Lib.hasPrefix y.2 [38] = true then _ else _) = _
              rw [if_neg h1, if_neg h2, if_neg h3, if_neg h4, if_neg h5]
              rfl
theorem nameR_ne {l : Bs} {x : Bs × Bs} (h : nameR l = .ok x) : x.1 ≠ [] := by
  have hl := nameR_len h
  unfold nameR at h
  split at h
  · rename_i hn
    obtain ⟨-, h1, -⟩ := takeR_len h
    rw [h1]
    intro h0
    have h2 := congrArg List.length h0
    simp at h2
    rcases h2 with h2 | h2
    · omega
    · rw [h2] at hl; simp at hl
  · cases h
theorem attrs_most : ∀ (k : Nat) {al : Al} {l : Bs} {x : (Al × Bool) × Bs}, al.length ≤ 16 → attrsR k al l = .ok x → x.1.1.length ≤ 16
  | 0, _, _, _, _, h => by cases h
  | k + 1, al, l, x, hl, h => by
    unfold attrsR at h
    obtain ⟨a, ha, h⟩ := bind_ok h
    split at h
    · injection h with h; subst h; exact hl
    · split at h
      · injection h with h; subst h; exact hl
      · split at h
        · obtain ⟨y, hy, h⟩ := bind_ok h
          refine attrs_most k ?_ h
          unfold attrR at hy
          obtain ⟨n, hn, hy⟩ := bind_ok hy
          split at hy
          · simp; omega
          · cases hy
        · cases h
structure Nst (s : XS) (i : Nat) (last : Int) : Prop where
  ok : XOk s
  begun : s.begun = true ↔ 0 < i
  zero : i = 0 → s.opn = []
  one : i = 1 → s.opn ≠ []
  idle : last = 3 → s.short = false ∧ ∀ k, runR (k + 1) [] s.rest = .ok ([], s.rest)
theorem last_some {l : List Bs} (h : 0 < l.length) : l.getLast? = some (l.getLastD []) := by
  have hne : l ≠ [] := fun e => by rw [e] at h; cases h
  rw [List.getLastD_eq_getLast?, List.getLast?_eq_some_getLast hne]; rfl
def Nested (s s' : XS) (p : Pc) (i : Nat) (last : Int) : Prop :=
  (p.kind = 1 ∧ (s.opn = [] → i = 0) ∧ s.opn.length < 16 ∧ p.attrs.length ≤ 16 ∧ p.name ≠ [] ∧ s'.opn = s.opn ++ [p.name] ∧ Nst s' (i + 1) 1) ∨
  (p.kind = 2 ∧ s.opn.getLast? = some p.name ∧ p.attrs = [] ∧ s'.opn = s.opn.dropLast ∧ Nst s' (i + 1) 2) ∨
  (p.kind = 3 ∧ s.opn ≠ [] ∧ p.text ≠ [] ∧ last ≠ 3 ∧ s'.opn = s.opn ∧ Nst s' (i + 1) 3) ∨
  (p.kind = 4 ∧ s.opn = [] ∧ 2 ≤ i)
theorem nest_leave {s s0 : XS} {i : Nat} {last : Int} (h : Nst s0 i last) (hs : s.opn = s0.opn) (hb : s.begun = s0.begun) (ho : 0 < s.opn.length) (hok : XOk (leaveR s).2) : Nested s0 (leaveR s).2 (leaveR s).1 i last := by
  have hi : 0 < i := by
    rcases Nat.eq_zero_or_pos i with h0 | h0
    · have := h.zero h0; rw [hs, this] at ho; cases ho
    · exact h0
  refine .inr (.inl ⟨rfl, ?_, rfl, ?_, hok, ⟨fun _ => by omega, fun _ => ?_⟩, fun h => by omega, fun h => by omega, fun h => by cases h⟩)
  · rw [← hs]; exact last_some ho
  · rw [← hs]; rfl
  · show s.begun = true
    rw [hb]; exact h.begun.2 hi
theorem nest_T {s s' : XS} {x : Bs × Bs} {p : Pc} {i : Nat} {last : Int} (h : Nst s i last) (hok : XOk s') (hn : nextT s x = .ok (p, s')) : Nested s s' p i last := by
  unfold nextT at hn
  split at hn
  · rw [endR_eq] at hn
    obtain ⟨n, h1, hn⟩ := bind_ok hn
    obtain ⟨a, h2, hn⟩ := bind_ok hn
    obtain ⟨b, h3, hn⟩ := bind_ok hn
    unfold endRest at hn
    split at hn
    · rename_i hg
      injection hn with hn
      have hpos : 0 < s.opn.length := by
        cases hq : s.opn with
        | nil =>
          have hg : s.opn.getLast? = some n.1 := hg
          rw [hq] at hg; cases hg
        | cons a r => simp
      have e1 : p = (leaveR { ({ s with rest := Lib.trimPrefix x.2 [60, 47] } : XS) with rest := b.2 }).1 := by rw [hn]
      have e2 : s' = (leaveR { ({ s with rest := Lib.trimPrefix x.2 [60, 47] } : XS) with rest := b.2 }).2 := by rw [hn]
      rw [e2] at hok
      rw [e1, e2]
      exact nest_leave h rfl rfl hpos hok
    · cases hn
  · obtain ⟨y, hy, hn⟩ := bind_ok hn
    unfold startR at hn
    obtain ⟨n, h1, hn⟩ := bind_ok hn
    split at hn
    · rename_i h16
      split at hn
      · rename_i hob
        obtain ⟨a, ha, hn⟩ := map_ok hn
        injection hn with e1 e2
        subst e1; subst e2
        have hob : 0 < s.opn.length ∨ s.begun = false := hob
        refine .inl ⟨rfl, fun he => ?_, h16, attrs_most _ (by simp) ha, nameR_ne h1, rfl, hok, ⟨fun _ => by omega, fun _ => rfl⟩, fun h => by omega, fun _ => by show s.opn ++ [n.1] ≠ []; simp, fun h => by cases h⟩
        rcases hob with hob | hob
        · rw [he] at hob; cases hob
        · rcases Nat.eq_zero_or_pos i with h0 | h0
          · exact h0
          · have := h.begun.2 h0; rw [hob] at this; cases this
      · cases hn
    · cases hn
theorem nest_step {s s' : XS} {p : Pc} {i : Nat} {last : Int} (h : Nst s i last) (hn : nextR s = .ok (p, s')) : Nested s s' p i last := by
  obtain ⟨hok, -⟩ := nextR_mu h.ok hn
  cases hs : s.short with
  | true =>
    rw [nextR_short hs] at hn
    injection hn with hn
    have e1 : p = (leaveR { s with short := false }).1 := by rw [hn]
    have e2 : s' = (leaveR { s with short := false }).2 := by rw [hn]
    rw [e2] at hok
    rw [e1, e2]
    exact nest_leave h rfl rfl (h.ok.short hs) hok
  | false =>
    rw [nextR_eq hs] at hn
    obtain ⟨x, hx, hn⟩ := bind_ok hn
    split at hn
    · rename_i hop
      have hne : s.opn ≠ [] := fun e => by rw [e] at hop; cases hop
      have hi : 0 < i := by
        rcases Nat.eq_zero_or_pos i with h0 | h0
        · exact absurd (h.zero h0) hne
        · exact h0
      split at hn
      · rename_i hx1
        injection hn with hn
        injection hn with e1 e2
        subst e1; subst e2
        refine .inr (.inr (.inl ⟨rfl, hne, hx1, fun h3 => ?_, rfl, hok, ⟨fun _ => by omega, fun _ => h.begun.2 hi⟩, fun h => by omega, fun _ => hne, fun _ => ⟨hs, runR_idem _ hx⟩⟩))
        have := (h.idle h3).2 s.rest.length
        rw [this] at hx
        injection hx with hx
        rw [← hx] at hx1
        exact hx1 rfl
      · split at hn
        · cases hn
        · exact nest_T h hok hn
    · rename_i hop
      have hne : s.opn = [] := by
        cases hq : s.opn with
        | nil => rfl
        | cons a r => rw [hq] at hop; simp at hop
      split at hn
      · split at hn
        · split at hn
          · rename_i hbg
            injection hn with hn
            injection hn with e1 e2
            subst e1
            refine .inr (.inr (.inr ⟨rfl, hne, ?_⟩))
            have h0 := h.begun.1 hbg
            have h1 : i ≠ 1 := fun e => h.one e hne
            omega
          · cases hn
        · exact nest_T h hok hn
      · cases hn
end Go.Proofs.YtoifibnmincodaaDoor
