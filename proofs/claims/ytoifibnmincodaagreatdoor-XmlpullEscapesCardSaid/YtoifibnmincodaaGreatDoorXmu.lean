/- All that is told, as a function; what is left falls. -/
import Derived.Test.YtoifibnmincodaaGreatDoorXnx
namespace Go.Proofs.YtoifibnmincodaaGreatDoor
set_option linter.unusedSimpArgs false
set_option linter.unusedVariables false
open Go.RowKit

def muX (s : XS) : Nat := 2 * s.rest.length + (if s.short = true then 1 else 0)
def allN : Nat → XS → List Pc × Int
  | 0, _ => ([], 0)
  | k + 1, s => match nextR s with
    | .error e => ([], e)
    | .ok x => if x.1.kind = 4 then ([], 0) else (x.1 :: (allN k x.2).1, (allN k x.2).2)
theorem allN_err {k : Nat} {s : XS} {e : Int} (h : nextR s = .error e) : allN (k + 1) s = ([], e) := by rw [allN, h]
theorem allN_done {k : Nat} {s : XS} {x : Pc × XS} (h : nextR s = .ok x) (h4 : x.1.kind = 4) : allN (k + 1) s = ([], 0) := by rw [allN, h]; show (if _ then _ else _) = _; rw [if_pos h4]
theorem allN_more {k : Nat} {s : XS} {x : Pc × XS} (h : nextR s = .ok x) (h4 : x.1.kind ≠ 4) : allN (k + 1) s = (x.1 :: (allN k x.2).1, (allN k x.2).2) := by rw [allN, h]; show (if _ then _ else _) = _; rw [if_neg h4]
theorem runR_more : ∀ (k : Nat) {out l : Bs} {x : Bs × Bs}, runR k out l = .ok x → x.1 = out ∨ x.2.length < l.length
  | 0, _, _, _, h => by cases h
  | k + 1, out, l, x, h => by
    unfold runR at h
    obtain ⟨y, hy, h⟩ := bind_ok h
    have h0 : y.1.length + y.2.length = l.length := takeR_both hy
    split at h
    · rename_i hp
      obtain ⟨z, hz, h⟩ := bind_ok h
      have h1 := entityR_len hz; have h2 := trim_lt hp (by decide); have h3 := runR_len k h
      exact .inr (by omega)
    · split at h
      · rename_i hp
        obtain ⟨z, hz, h⟩ := bind_ok h
        have h1 := upToR_len hz; have h2 := trim_lt hp (by decide); have h3 := runR_len k h
        exact .inr (by omega)
      · split at h
        · rename_i hp
          obtain ⟨z, hz, h⟩ := bind_ok h
          obtain ⟨u, hu, h⟩ := bind_ok h
          have h1 := upToR_len hz; have h2 := trim_lt hp (by decide); have h3 := (wantR_len hu).1; have h4 := runR_len k h
          exact .inr (by omega)
        · split at h
          · rename_i hp
            obtain ⟨z, hz, h⟩ := bind_ok h
            obtain ⟨u, hu, h⟩ := bind_ok h
            have h1 := upToR_len hu; have h2 := trim_lt hp (by decide); have h3 := nameR_len hz; have h4 := runR_len k h
            exact .inr (by omega)
          · split at h
            · cases h
            · injection h with h; subst h
              rcases Nat.eq_zero_or_pos y.1.length with h1 | h1
              · exact .inl (by rw [List.eq_nil_of_length_eq_zero h1]; simp)
              · exact .inr (by show y.2.length < _; omega)
theorem attrsR_len : ∀ (k : Nat) {al : Al} {l : Bs} {x : (Al × Bool) × Bs}, attrsR k al l = .ok x → x.2.length < l.length
  | 0, _, _, _, h => by cases h
  | k + 1, al, l, x, h => by
    unfold attrsR at h
    obtain ⟨y, hy, h⟩ := bind_ok h
    have h0 := layoutR_len hy
    split at h
    · rename_i hp; injection h with h; subst h; have := trim_lt hp (by decide); show (Lib.trimPrefix _ _).length < _; omega
    · split at h
      · rename_i hp; injection h with h; subst h; have := trim_lt hp (by decide); show (Lib.trimPrefix _ _).length < _; omega
      · split at h
        · obtain ⟨z, hz, h⟩ := bind_ok h
          have h1 := attrR_len hz; have h2 := attrsR_len k h; omega
        · cases h
theorem startR_mu {s s' : XS} {pc : Pc} (h : startR s = .ok (pc, s')) : s'.rest.length + 1 < s.rest.length ∧ s'.opn.length ≤ 16 ∧ 0 < s'.opn.length ∧ pc.kind = 1 := by
  unfold startR at h
  obtain ⟨n, hn, h⟩ := bind_ok h
  have h0 := nameR_len hn
  split at h
  · rename_i h16
    split at h
    · obtain ⟨a, ha, h⟩ := map_ok h
      have h1 := attrsR_len _ ha
      injection h with h2 h3
      subst h2; subst h3
      refine ⟨by show a.2.length + 1 < _; omega, by show (s.opn ++ [n.1]).length ≤ 16; simp; omega, by show 0 < (s.opn ++ [n.1]).length; simp, rfl⟩
    · cases h
  · cases h
theorem leaveR_mu (s : XS) : (leaveR s).2.rest = s.rest ∧ (leaveR s).2.short = s.short ∧ (leaveR s).2.opn.length ≤ s.opn.length ∧ (leaveR s).1.kind = 2 := by
  refine ⟨rfl, rfl, ?_, rfl⟩
  show s.opn.dropLast.length ≤ _
  simp
theorem endR_mu {s s' : XS} {pc : Pc} (h : endR s = .ok (pc, s')) : s'.rest.length ≤ s.rest.length ∧ s'.opn.length ≤ s.opn.length ∧ s'.short = s.short ∧ pc.kind = 2 := by
  rw [endR_eq] at h
  obtain ⟨n, hn, h⟩ := bind_ok h
  obtain ⟨a, ha, h⟩ := bind_ok h
  obtain ⟨b, hb, h⟩ := bind_ok h
  have h0 := nameR_len hn; have h1 := layoutR_len ha; have h2 := (wantR_len hb).1
  unfold endRest at h
  split at h
  · injection h with h
    have hm := leaveR_mu { s with rest := b.2 }
    rw [h] at hm
    exact ⟨by rw [hm.1]; show b.2.length ≤ _; omega, hm.2.2.1, hm.2.1, hm.2.2.2⟩
  · cases h
theorem mu_eq (s : XS) : muX s = 2 * s.rest.length + (if s.short = true then 1 else 0) := rfl
theorem nextT_mu {s s' : XS} {x : Bs × Bs} {pc : Pc} (hx : x.2.length ≤ s.rest.length) (hs : s.short = false) (ho : s.opn.length ≤ 16) (h : nextT s x = .ok (pc, s')) : 2 * s'.rest.length + 1 < 2 * s.rest.length ∧ s'.opn.length ≤ 16 ∧ (s'.short = true → 0 < s'.opn.length) ∧ pc.kind ≠ 4 := by
  unfold nextT at h
  split at h
  · rename_i hp
    have h1 := endR_mu h
    have h2 := trim_lt hp (by decide)
    have h3 : s'.rest.length ≤ (Lib.trimPrefix x.2 [60, 47]).length := h1.1
    have h4 : s'.opn.length ≤ s.opn.length := h1.2.1
    have h5 : s'.short = s.short := h1.2.2.1
    refine ⟨by omega, by omega, fun h => ?_, by rw [h1.2.2.2]; decide⟩
    rw [h5, hs] at h; cases h
  · obtain ⟨y, hy, h⟩ := bind_ok h
    have h1 := startR_mu h
    have h2 := (wantR_len hy).1
    have h3 : s'.rest.length + 1 < y.2.length := h1.1
    exact ⟨by omega, h1.2.1, fun _ => h1.2.2.1, by rw [h1.2.2.2]; decide⟩
theorem nextR_mu {s s' : XS} {pc : Pc} (ho : XOk s) (h : nextR s = .ok (pc, s')) : XOk s' ∧ (pc.kind ≠ 4 → muX s' < muX s) := by
  have hr := ho.rest
  cases hs : s.short with
  | true =>
    rw [nextR_short hs] at h
    injection h with h
    have hm := leaveR_mu { s with short := false }
    rw [h] at hm
    have h1 : s'.rest = s.rest := hm.1
    have h2 : s'.short = false := hm.2.1
    have h3 : s'.opn.length ≤ s.opn.length := hm.2.2.1
    have := ho.opn
    refine ⟨⟨by rw [h1]; exact hr, by omega, fun h => by rw [h2] at h; cases h⟩, fun _ => ?_⟩
    rw [mu_eq, mu_eq, h1, h2, hs]; simp
  | false =>
    rw [nextR_eq hs] at h
    obtain ⟨x, hx, h⟩ := bind_ok h
    have h0 := runR_len _ hx
    have hm := runR_more _ hx
    have hT : ∀ (h : nextT s x = .ok (pc, s')), XOk s' ∧ (pc.kind ≠ 4 → muX s' < muX s) := fun h => by
      have h1 := nextT_mu h0 hs ho.opn h
      refine ⟨⟨by omega, h1.2.1, h1.2.2.1⟩, fun _ => ?_⟩
      rw [mu_eq, mu_eq, hs]
      have := h1.1
      split <;> simp <;> omega
    split at h
    · split at h
      · rename_i hne
        injection h with h
        injection h with h1 h2
        subst h1; subst h2
        refine ⟨⟨by show x.2.length ≤ _; omega, ho.opn, fun h => by rw [show ({ s with rest := x.2 } : XS).short = s.short from rfl, hs] at h; cases h⟩, fun _ => ?_⟩
        have := hm.resolve_left hne
        rw [mu_eq, mu_eq]
        show 2 * x.2.length + (if s.short = true then 1 else 0) < _
        rw [hs]; simp; exact this
      · split at h
        · cases h
        · exact hT h
    · split at h
      · split at h
        · split at h
          · injection h with h
            injection h with h1 h2
            subst h1; subst h2
            refine ⟨⟨Nat.zero_le _, ho.opn, fun h => by rw [show ({ s with rest := ([] : Bs) } : XS).short = s.short from rfl, hs] at h; cases h⟩, fun h => absurd rfl h⟩
          · cases h
        · exact hT h
      · cases h
/-! No error is 0. -/
def NZ {α : Type} (x : Except Int α) : Prop := ∀ e, x = .error e → e ≠ 0
theorem NZ.bind {α β : Type} {x : Except Int α} {f : α → Except Int β} (h : NZ x) (hf : ∀ a, NZ (f a)) : NZ (x.bind f) := fun e he => by
  cases x with
  | error k =>
    have he : (Except.error k : Except Int β) = .error e := he
    injection he with he; subst he; exact h _ rfl
  | ok a => exact hf a e he
theorem NZ.map {α β : Type} {x : Except Int α} {f : α → β} (h : NZ x) : NZ (x.map f) := fun e he => by
  cases x with
  | error k =>
    have he : (Except.error k : Except Int β) = .error e := he
    injection he with he; subst he; exact h _ rfl
  | ok a =>
    have he : (Except.ok (f a) : Except Int β) = .error e := he
    cases he
theorem NZ.ok {α : Type} {a : α} : NZ (.ok a : Except Int α) := fun e he => by cases he
theorem NZ.err {α : Type} {k : Int} (h : k ≠ 0) : NZ (.error k : Except Int α) := fun e he => by injection he with he; subst he; exact h
theorem NZ.ite {α : Type} {p : Prop} [Decidable p] {x y : Except Int α} (hx : NZ x) (hy : NZ y) : NZ (if p then x else y) := by split <;> assumption
theorem nz_take (n : Nat) (l : Bs) : NZ (takeR n l) := by unfold takeR; exact NZ.ite NZ.ok (NZ.err (by decide))
theorem nz_want (p l : Bs) : NZ (wantR p l) := by unfold wantR; exact NZ.ite NZ.ok (NZ.err (by decide))
theorem nz_upTo (p l : Bs) : NZ (upToR p l) := by unfold upToR; exact NZ.ite ((nz_take _ _).bind fun _ => (nz_want _ _).map) (NZ.err (by decide))
theorem nz_layout (l : Bs) : NZ (layoutR l) := by unfold layoutR; exact (nz_take _ _).map
theorem nz_name (l : Bs) : NZ (nameR l) := by unfold nameR; exact NZ.ite (nz_take _ _) (NZ.err (by decide))
theorem nz_entity (l : Bs) : NZ (entityR l) := by
  rw [entityR_eq]
  refine NZ.ite ?_ (NZ.err (by decide))
  split
  · exact NZ.ok
  · exact NZ.err (by decide)
theorem nz_run : ∀ (k : Nat) (o l : Bs), NZ (runR k o l)
  | 0, _, _ => NZ.err (by decide)
  | k + 1, o, l => by
    unfold runR
    refine NZ.bind (nz_take _ _) fun x => NZ.ite (NZ.bind (nz_entity _) fun y => nz_run k _ _) (NZ.ite (NZ.bind (nz_upTo _ _) fun y => nz_run k _ _) (NZ.ite (NZ.bind (nz_upTo _ _) fun y => NZ.bind (nz_want _ _) fun z => nz_run k _ _) (NZ.ite (NZ.bind (nz_name _) fun y => NZ.bind (nz_upTo _ _) fun z => nz_run k _ _) (NZ.ite (NZ.err (by decide)) NZ.ok))))
theorem nz_value (q : Bs) : ∀ (k : Nat) (o l : Bs), NZ (valueR q k o l)
  | 0, _, _ => NZ.err (by decide)
  | k + 1, o, l => by
    unfold valueR
    exact NZ.bind (nz_take _ _) fun x => NZ.ite (NZ.bind (nz_entity _) fun y => nz_value q k _ _) (nz_want _ _).map
theorem nz_attr (o : Al) (l : Bs) : NZ (attrR o l) := by
  unfold attrR
  exact NZ.bind (nz_name _) fun n => NZ.ite (NZ.ite (NZ.err (by decide)) (NZ.bind (nz_layout _) fun a => NZ.bind (nz_want _ _) fun b => NZ.bind (nz_layout _) fun c => NZ.ite (NZ.map (nz_value _ _ _ _)) (NZ.bind (nz_want _ _) fun d => NZ.map (nz_value _ _ _ _)))) (NZ.err (by decide))
theorem nz_attrs : ∀ (k : Nat) (o : Al) (l : Bs), NZ (attrsR k o l)
  | 0, _, _ => NZ.err (by decide)
  | k + 1, o, l => by
    unfold attrsR
    exact NZ.bind (nz_layout _) fun a => NZ.ite NZ.ok (NZ.ite NZ.ok (NZ.ite (NZ.bind (nz_attr _ _) fun x => nz_attrs k _ _) (NZ.err (by decide))))
theorem nz_start (s : XS) : NZ (startR s) := by
  unfold startR
  exact NZ.bind (nz_name _) fun n => NZ.ite (NZ.ite (NZ.map (nz_attrs _ _ _)) (NZ.err (by decide))) (NZ.err (by decide))
theorem nz_end (s : XS) : NZ (endR s) := by
  unfold endR
  exact NZ.bind (nz_name _) fun n => NZ.bind (nz_layout _) fun a => NZ.bind (nz_want _ _) fun b => NZ.ite NZ.ok (NZ.err (by decide))
theorem nz_next (s : XS) : NZ (nextR s) := by
  unfold nextR
  exact NZ.ite NZ.ok (NZ.bind (nz_run _ _ _) fun x => NZ.ite (NZ.ite NZ.ok (NZ.ite (NZ.err (by decide)) (NZ.ite (nz_end _) (NZ.bind (nz_want _ _) fun y => nz_start _)))) (NZ.ite (NZ.ite (NZ.ite NZ.ok (NZ.err (by decide))) (NZ.ite (nz_end _) (NZ.bind (nz_want _ _) fun y => nz_start _))) (NZ.err (by decide))))
theorem nextR_err {s : XS} {e : Int} (h : nextR s = .error e) : e ≠ 0 := nz_next s e h
end Go.Proofs.YtoifibnmincodaaGreatDoor
