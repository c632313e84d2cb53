/- What was read is small; which pool is read: as data, and while it is read. A pool is laid into bytes: Write. How long what Write lays may be. A reader's pool. What gives up is caught: cache's caught and its closure. Read: what is done within caught. Read. -/
import Derived.Test.YtpmfmkpfjomgnaaGreatDoorZce
import Derived.Test.YtpmfmkpfjomgnaaGreatDoorZao
import Derived.Test.YtpmfmkpfjomgnaaGreatDoorZah
import Derived.Lib.IfaceEq
import Derived.Defers
import Derived.Recover
import Derived.Laws.Pointers
import Derived.Test.YtpmfmkpfjomgnaaGreatDoorZad
import Derived.Laws.BytesArg
import Derived.Shelf.Bytes.SlSmallAll
/- What was read is small; which pool is read: as data, and while it is read. -/
namespace Go.Proofs.YtpmfmkpfjomgnaaGreatDoor
set_option linter.unusedSimpArgs false
set_option linter.unusedVariables false
open Go.RowKit

theorem decN_all {α : Type} {bs : ByteArray} {f : RS → Option (α × RS)} {P : α → Prop} (hf : ∀ s x s', f s = some (x, s') → s.Ok bs → s'.Ok bs ∧ P x) : ∀ (n : Nat) (s : RS) (l : List α) (s' : RS), decN f n s = some (l, s') → s.Ok bs → s'.Ok bs ∧ l.length = n ∧ ∀ x ∈ l, P x := by
  intro n
  induction n with
  | zero =>
    intro s l s' h ho
    simp only [decN] at h
    injection h with h
    injection h with h1 h2
    subst h1 h2
    exact ⟨ho, rfl, fun x hx => by cases hx⟩
  | succ n ihn =>
    intro s l s' h ho
    rw [decN_succ] at h
    cases hd : f s with
    | none => rw [hd] at h; cases h
    | some x =>
      rw [hd] at h
      simp only [Option.bind_some] at h
      cases hn : decN f n x.2 with
      | none => rw [hn] at h; cases h
      | some y =>
        rw [hn] at h
        simp only [Option.bind_some] at h
        injection h with h
        injection h with h1 h2
        subst h1 h2
        have a1 := hf s x.1 x.2 hd ho
        have a2 := ihn x.2 y.1 y.2 hn a1.1
        refine ⟨a2.1, by rw [List.length_cons, a2.2.1], fun z hz => ?_⟩
        rcases List.mem_cons.1 hz with rfl | hz
        · exact a1.2
        · exact a2.2.2 z hz
theorem decList_all {α : Type} {bs : ByteArray} {f : RS → Option (α × RS)} {P : α → Prop} (hf : ∀ s x s', f s = some (x, s') → s.Ok bs → s'.Ok bs ∧ P x) {most : Nat} {s : RS} {l : List α} {s' : RS} (h : decList bs f most s = some (l, s')) (ho : s.Ok bs) : s'.Ok bs ∧ l.length ≤ most ∧ ∀ x ∈ l, P x := by
  unfold decList at h
  cases h5 : decCount bs most s with
  | none => rw [h5] at h; cases h
  | some x5 =>
    rw [h5] at h; simp only [Option.bind_some] at h
    have a5 := decCount_ok (n := x5.1) (s' := x5.2) h5 ho
    have a6 := decN_all hf x5.1 x5.2 l s' h a5.1
    exact ⟨a6.1, by have := a5.2.2.2.2; omega, a6.2.2⟩
mutual
/-- No text of it is longer than what may be read. -/
def tin : Dep → Prop
  | .mk _ n _ e ds => n.size ≤ 1048576 ∧ e.size ≤ 1048576 ∧ tins ds
def tins : List Dep → Prop
  | [] => True
  | a :: r => tin a ∧ tins r
end
mutual
theorem tin_small : ∀ d, tin d → small d
  | .mk _ n _ e ds, ⟨h1, h2, h3⟩ => ⟨Nat.le_trans h1 (by decide), Nat.le_trans h2 (by decide), tins_small ds h3⟩
theorem tins_small : ∀ ds, tins ds → smalls ds
  | [], _ => trivial
  | a :: r, ⟨h1, h2⟩ => ⟨tin_small a h1, tins_small r h2⟩
end
/-- A package as it may be read. -/
structure PkgTiny (p : Pkg) : Prop where
  txt : ∀ k, (p.txt k).size ≤ 1048576
  dep : ∀ i, (p.ls i).length ≤ 16 ∧ ∀ d ∈ p.ls i, tin d ∧ nodes d ≤ 31
  files : (∀ t ∈ p.files, t.size ≤ 1048576) ∧ p.files.length ≤ 16
theorem PkgTiny.small {p : Pkg} (h : PkgTiny p) : PkgSmall p :=
  ⟨fun k => Nat.le_trans (h.txt k) (by decide), fun i _ => ⟨Nat.le_trans (h.dep i).1 (by decide), fun d hd => ⟨tin_small d ((h.dep i).2 d hd).1, Nat.le_trans ((h.dep i).2 d hd).2 (by decide)⟩⟩, fun t ht => Nat.le_trans (h.files.1 t ht) (by decide), Nat.le_trans h.files.2 (by decide)⟩
/-- A dependency that was read has no more parts than were left. -/
theorem decPart_small {bs : ByteArray} (hz : bs.size ≤ 1048576) : ∀ (f : Nat) (s : RS) (d : Dep) (s' : RS), decPart bs f s = some (d, s') → s.Ok bs → tin d ∧ (nodes d : Int) + s'.parts ≤ s.parts ∧ 0 ≤ s'.parts
  | 0, s, d, s', h, ho => by simp [decPart] at h
  | f + 1, s, d, s', h, ho => by
    have ih := decPart_small hz f
    have ip := decPart_parts bs f
    have hN : ∀ (n : Nat) (s : RS) (l : List Dep) (s' : RS), decN (decPart bs f) n s = some (l, s') → s.Ok bs → 0 ≤ s.parts → tins l ∧ (nodesA l : Int) + s'.parts ≤ s.parts ∧ 0 ≤ s'.parts := by
      intro n
      induction n with
      | zero =>
        intro s l s' h ho hp
        simp only [decN] at h
        injection h with h
        injection h with h1 h2
        subst h1 h2
        refine ⟨trivial, ?_, hp⟩
        show ((0 : Nat) : Int) + _ ≤ _
        omega
      | succ n ihn =>
        intro s l s' h ho hp
        rw [decN_succ] at h
        cases hd : decPart bs f s with
        | none => rw [hd] at h; cases h
        | some x =>
          rw [hd] at h
          simp only [Option.bind_some] at h
          cases hn : decN (decPart bs f) n x.2 with
          | none => rw [hn] at h; cases h
          | some y =>
            rw [hn] at h
            simp only [Option.bind_some] at h
            injection h with h
            injection h with h1 h2
            subst h1 h2
            have a1 := ih s x.1 x.2 hd ho
            have a0 := ip s x.1 x.2 hd ho
            have a2 := ihn x.2 y.1 y.2 hn a0.2 a1.2.2
            refine ⟨⟨a1.1, a2.1⟩, ?_, a2.2.2⟩
            show ((nodes x.1 + nodesA y.1 : Nat) : Int) + _ ≤ _
            have := a1.2.1
            have := a2.2.1
            omega
    unfold decPart at h
    split at h
    · rename_i hp
      have ho0 : RS.Ok bs { s with parts := s.parts - 1 } := ⟨ho.pos, ho.sizes, ho.many, by have := ho.parts; show s.parts - 1 ≤ 31; omega⟩
      cases h1 : decNum bs { s with parts := s.parts - 1 } with
      | none => rw [h1] at h; cases h
      | some x1 =>
        rw [h1] at h; simp only [Option.bind_some] at h
        have a1 := decNum_ok (n := x1.1) (s' := x1.2) h1 ho0
        cases h2 : decText bs x1.2 with
        | none => rw [h2] at h; cases h
        | some x2 =>
          rw [h2] at h; simp only [Option.bind_some] at h
          have a2 := decText_ok (t := x2.1) (s' := x2.2) h2 a1.1
          cases h3 : decNum bs x2.2 with
          | none => rw [h3] at h; cases h
          | some x3 =>
            rw [h3] at h; simp only [Option.bind_some] at h
            have a3 := decNum_ok (n := x3.1) (s' := x3.2) h3 a2.1
            cases h4 : decText bs x3.2 with
            | none => rw [h4] at h; cases h
            | some x4 =>
              rw [h4] at h; simp only [Option.bind_some] at h
              have a4 := decText_ok (t := x4.1) (s' := x4.2) h4 a3.1
              unfold decList at h
              cases h5 : decCount bs 16 x4.2 with
              | none => rw [h5] at h; cases h
              | some x5 =>
                rw [h5] at h; simp only [Option.bind_some] at h
                have a5 := decCount_ok (n := x5.1) (s' := x5.2) h5 a4.1
                cases h6 : decN (decPart bs f) x5.1 x5.2 with
                | none => rw [h6] at h; cases h
                | some x6 =>
                  rw [h6] at h; simp only [Option.bind_some] at h
                  injection h with h
                  injection h with hd h
                  subst h
                  subst hd
                  have e1 : x1.2.parts = s.parts - 1 := a1.2.2.2
                  have e2 := a2.2.1
                  have e3 := a3.2.2.2
                  have e4 := a4.2.1
                  have e5 := a5.2.2.2.1
                  have a6 := hN x5.1 x5.2 x6.1 x6.2 h6 a5.1 (by omega)
                  have e6 := a6.2.1
                  have z2 := a2.2.2.1
                  have z4 := a4.2.2.1
                  refine ⟨⟨by omega, by omega, a6.1⟩, ?_, a6.2.2⟩
                  show ((1 + nodesA x6.1 : Nat) : Int) + _ ≤ _
                  omega
    · cases h
theorem decPkg_small {bs : ByteArray} (hz : bs.size ≤ 1048576) (s : RS) (p : Pkg) (s' : RS) (h : decPkg bs s = some (p, s')) (ho : s.Ok bs) : s'.Ok bs ∧ PkgTiny p := by
  have hT : ∀ s x s', decText bs s = some (x, s') → s.Ok bs → s'.Ok bs ∧ x.size ≤ bs.size := fun s x s' h ho => by
    have := decText_ok h ho
    exact ⟨this.1, this.2.2.1⟩
  have hD : ∀ s x s', decDep bs s = some (x, s') → s.Ok bs → s'.Ok bs ∧ (tin x ∧ nodes x ≤ 31) := fun s x s' h ho => by
    have h1 := decPart_small hz 31 _ x s' h ⟨ho.pos, ho.sizes, ho.many, Int.le_refl _⟩
    refine ⟨decDep_ok h ho, h1.1, ?_⟩
    have h2 := h1.2.1
    have h3 := h1.2.2
    have h4 : ({ s with parts := 31 } : RS).parts = 31 := rfl
    rw [h4] at h2
    omega
  unfold decPkg at h
  cases h1 : decN (decText bs) 4 s with
  | none => rw [h1] at h; cases h
  | some x1 =>
    rw [h1] at h; simp only [Option.bind_some] at h
    have a1 := decN_all hT 4 s x1.1 x1.2 h1 ho
    cases h2 : decN (decList bs (decDep bs) 16) 7 x1.2 with
    | none => rw [h2] at h; cases h
    | some x2 =>
      rw [h2] at h; simp only [Option.bind_some] at h
      have a2 := decN_all (P := fun (l : List Dep) => l.length ≤ 16 ∧ ∀ d ∈ l, tin d ∧ nodes d ≤ 31) (fun s x s' h ho => by have := decList_all hD h ho; exact ⟨this.1, this.2⟩) 7 x1.2 x2.1 x2.2 h2 a1.1
      cases h3 : decList bs (decText bs) 16 x2.2 with
      | none => rw [h3] at h; cases h
      | some x3 =>
        rw [h3] at h; simp only [Option.bind_some] at h
        have a3 := decList_all hT (l := x3.1) (s' := x3.2) h3 a2.1
        injection h with h
        injection h with hp hs
        subst hp hs
        have hg : ∀ k, (x1.1.getD k ⟨#[]⟩).size ≤ 1048576 := fun k => by
          rw [List.getD_eq_getElem?_getD]
          cases hk : x1.1[k]? with
          | none => show (⟨#[]⟩ : ByteArray).size ≤ _; decide
          | some t =>
            have := a1.2.2 t (List.mem_of_getElem? hk)
            show t.size ≤ _
            omega
        refine ⟨a3.1, ⟨fun k => ?_, fun i => ?_, fun t ht => ?_, ?_⟩⟩
        · match k with
          | 0 => exact hg 0
          | 1 => exact hg 1
          | 2 => exact hg 2
          | k + 3 => exact hg 3
        · show (x2.1.getD i []).length ≤ _ ∧ ∀ d ∈ x2.1.getD i [], _
          rw [List.getD_eq_getElem?_getD]
          cases hk : x2.1[i]? with
          | none => exact ⟨by simp, fun d hd => by cases hd⟩
          | some l =>
            have := a2.2.2 l (List.mem_of_getElem? hk)
            exact ⟨by show l.length ≤ _; omega, this.2⟩
        · have := a3.2.2 t ht
          omega
        · have := a3.2.1
          show x3.1.length ≤ _
          omega
theorem decRepo_small {bs : ByteArray} (hz : bs.size ≤ 1048576) {s : RS} {r : Rep × List Pkg} {s' : RS} (h : decRepo bs s = some (r, s')) (ho : s.Ok bs) : r.1.name.size ≤ bs.size ∧ r.2.length ≤ 200 ∧ ∀ p ∈ r.2, PkgTiny p := by
  unfold decRepo at h
  cases h1 : decText bs s with
  | none => rw [h1] at h; cases h
  | some x1 =>
    rw [h1] at h; simp only [Option.bind_some] at h
    have a1 := decText_ok (t := x1.1) (s' := x1.2) h1 ho
    cases h2 : decNum bs x1.2 with
    | none => rw [h2] at h; cases h
    | some x2 =>
      rw [h2] at h; simp only [Option.bind_some] at h
      have a2 := decNum_ok (n := x2.1) (s' := x2.2) h2 a1.1
      cases h3 : decCount bs 1 x2.2 with
      | none => rw [h3] at h; cases h
      | some x3 =>
        rw [h3] at h; simp only [Option.bind_some] at h
        have a3 := decCount_ok (n := x3.1) (s' := x3.2) h3 a2.1
        cases h4 : decList bs (decPkg bs) 200 x3.2 with
        | none => rw [h4] at h; cases h
        | some x4 =>
          rw [h4] at h; simp only [Option.bind_some] at h
          have a4 := decList_all (decPkg_small hz) (l := x4.1) (s' := x4.2) h4 a3.1
          injection h with h
          injection h with hr hs
          subst hr hs
          exact ⟨a1.2.2.1, a4.2⟩
/-- A package, and the number of its repository. -/
def kp (k : Kep) : Pkg × Nat := (k.p, k.rep)
def GotN (bs : ByteArray) : Nat → RS → List Rep → List (Pkg × Nat) → List Rep → List (Pkg × Nat) → RS → Prop
  | 0, s, reps, ps, reps', ps', s' => reps' = reps ∧ ps' = ps ∧ s' = s
  | n + 1, s, reps, ps, reps', ps', s' => ∃ r s1, decRepo bs s = some (r, s1) ∧ AddR QC reps ps.length r.1.name r.1.inst r.2 0 ∧ GotN bs n s1 (reps ++ [r.1]) (ps ++ r.2.map fun p => (p, reps.length)) reps' ps' s'
def LostN (bs : ByteArray) : Nat → RS → List Rep → List (Pkg × Nat) → Prop
  | 0, s, reps, ps => False
  | n + 1, s, reps, ps => decRepo bs s = none ∨ ∃ r s1, decRepo bs s = some (r, s1) ∧ ((∃ m, m ≠ 0 ∧ AddR QC reps ps.length r.1.name r.1.inst r.2 m) ∨
      (AddR QC reps ps.length r.1.name r.1.inst r.2 0 ∧ LostN bs n s1 (reps ++ [r.1]) (ps ++ r.2.map fun p => (p, reps.length))))
/-- What a pool is read of. -/
def GotP (bs : ByteArray) (s : RS) (kind : Int) (reps : List Rep) (ps : List (Pkg × Nat)) (s' : RS) : Prop :=
  ∃ s1 n s2, decNum bs s = some (kind, s1) ∧ (kind = 1 ∨ kind = 2) ∧ decCount bs 8 s1 = some (n, s2) ∧ GotN bs n s2 [] [] reps ps s'
def LostP (bs : ByteArray) (s : RS) : Prop :=
  decNum bs s = none ∨ ∃ kind s1, decNum bs s = some (kind, s1) ∧ (¬ (kind = 1 ∨ kind = 2) ∨ ((kind = 1 ∨ kind = 2) ∧ (decCount bs 8 s1 = none ∨ ∃ n s2, decCount bs 8 s1 = some (n, s2) ∧ LostN bs n s2 [] [])))
/-- Where n repositories are to be read, and so many are. -/
structure RestP (bs : ByteArray) (n : Nat) (s0 : RS) (k : Nat) (s : RS) (reps : List Rep) (ps : List (Pkg × Nat)) : Prop where
  got : ∀ reps' ps' s', GotN bs (n - k) s reps ps reps' ps' s' → GotN bs n s0 [] [] reps' ps' s'
  lost : LostN bs (n - k) s reps ps → LostN bs n s0 [] []
section
variable {bs : ByteArray} {n k : Nat} {s0 s s1 : RS} {reps : List Rep} {ps : List (Pkg × Nat)} {r : Rep × List Pkg}
theorem RestP.start : RestP bs n s0 0 s0 [] [] := ⟨fun _ _ _ h => h, fun h => h⟩
theorem RestP.next (h : RestP bs n s0 k s reps ps) (hk : k < n) (hd : decRepo bs s = some (r, s1)) (ha : AddR QC reps ps.length r.1.name r.1.inst r.2 0) : RestP bs n s0 (k + 1) s1 (reps ++ [r.1]) (ps ++ r.2.map fun p => (p, reps.length)) := by
  obtain ⟨m, hm⟩ : ∃ m, n - k = m + 1 := ⟨n - k - 1, by omega⟩
  have hm2 : n - (k + 1) = m := by omega
  have hgot := h.got
  have hlost := h.lost
  rw [hm] at hgot hlost
  constructor
  · intro reps' ps' s' hg
    rw [hm2] at hg
    exact hgot _ _ _ ⟨r, s1, hd, ha, hg⟩
  · intro hg
    rw [hm2] at hg
    exact hlost (.inr ⟨r, s1, hd, .inr ⟨ha, hg⟩⟩)
theorem RestP.none_ (h : RestP bs n s0 k s reps ps) (hk : k < n) (hd : decRepo bs s = none) : LostN bs n s0 [] [] := by
  obtain ⟨m, hm⟩ : ∃ m, n - k = m + 1 := ⟨n - k - 1, by omega⟩
  have h1 := h.lost
  rw [hm] at h1
  exact h1 (.inl hd)
theorem RestP.bad {m : Int} (h : RestP bs n s0 k s reps ps) (hk : k < n) (hd : decRepo bs s = some (r, s1)) (hm0 : m ≠ 0) (ha : AddR QC reps ps.length r.1.name r.1.inst r.2 m) : LostN bs n s0 [] [] := by
  obtain ⟨j, hj⟩ : ∃ j, n - k = j + 1 := ⟨n - k - 1, by omega⟩
  have h1 := h.lost
  rw [hj] at h1
  exact h1 (.inr ⟨r, s1, hd, .inl ⟨m, hm0, ha⟩⟩)
theorem RestP.done (h : RestP bs n s0 n s reps ps) : GotN bs n s0 [] [] reps ps s := h.got _ _ _ (by rw [Nat.sub_self]; exact ⟨rfl, rfl, rfl⟩)
end
/-- What reading a pool gives. -/
def PoolTook (w : World) (base g : Nat) (O : Nat → Prop) (bs : ByteArray) (b0 o0 : Nat) (s : RS) (e : Ending) (w' : World) : Prop :=
  TurnedP O w w' ∧ ((e = gaveUp 90 ∧ LostP bs s) ∨ ∃ n0 pg OP S T kind reps ks s' O', e = .returned (.pointer (some ⟨pg, 0, none⟩)) ∧ w.heap.size ≤ n0 ∧ PoolAt w' n0 pg OP S T kind reps ks ∧ RdAt w' base g O' bs b0 o0 s' ∧ GotP bs s kind reps (ks.map kp) s' ∧ (∀ k ∈ ks, PkgTiny k.p ∧ k.rep < reps.length) ∧ ks.length ≤ 200 ∧ reps.length ≤ 8 ∧ (∀ r ∈ reps, r.name.size ≤ 1048576) ∧ (∀ j, S j ∨ T j → w.heap.size ≤ j))
/-- While a pool is read. -/
structure RoP (w wx : World) (base g : Nat) (O O' : Nat → Prop) (bs : ByteArray) (b0 o0 : Nat) (s' : RS) (n0 pg : Nat) (OP S T : Nat → Prop) (kind : Int) (reps : List Rep) (ks : List Kep) : Prop where
  acc : Racc w wx base g O O' bs b0 o0 s'
  pool : PoolAt wx n0 pg OP S T kind reps ks
  apart : ∀ j, OP j ∨ S j ∨ T j → ¬ O' j
  far : ∀ j, S j ∨ T j → w.heap.size ≤ j
  tabs : Tabs wx
  bw : base ≤ w.heap.size
  n0w : w.heap.size ≤ n0
  b2 : 2 ≤ base
  small : ∀ k ∈ ks, PkgTiny k.p ∧ k.rep < reps.length
  names : ∀ r ∈ reps, r.name.size ≤ 1048576
  ks200 : ks.length ≤ 200
  reps8 : reps.length ≤ 8
section
variable {w wx w2 : World} {base g b0 o0 n0 pg : Nat} {O O' O2 OP S T : Nat → Prop} {bs : ByteArray} {s' s2 : RS} {kind : Int} {reps : List Rep} {ks : List Kep}
theorem RoP.next (h : RoP w wx base g O O' bs b0 o0 s' n0 pg OP S T kind reps ks) (ht : TurnedP O' wx w2) (hA : RdAt w2 base g O2 bs b0 o0 s2) (ho : ∀ k, O2 k → O' k ∨ wx.heap.size ≤ k) : RoP w w2 base g O O2 bs b0 o0 s2 n0 pg OP S T kind reps ks := by
  have hbw := h.acc.turned.size
  have hw := h.bw
  refine ⟨h.acc.next ht hA ho, h.pool.turned ht fun k hk => ⟨fun h1 => h.apart k (.inl h1) hk, fun h1 => h.apart k (.inr (.inl h1)) hk, fun h1 => h.apart k (.inr (.inr h1)) hk⟩, fun j hj h2 => ?_, h.far,
    h.tabs.below (ht.below (B := base) (fun k _ hk => (h.acc.at_.O_lt hk).1) (by omega)) h.b2, h.bw, h.n0w, h.b2, h.small, h.names, h.ks200, h.reps8⟩
  rcases ho j h2 with h3 | h3
  · exact h.apart j hj h3
  · have := h.pool.lt hj
    omega
theorem RoP.later (h : RoP w wx base g O O' bs b0 o0 s' n0 pg OP S T kind reps ks) (hb : Below wx.heap.size wx w2) : RoP w w2 base g O O' bs b0 o0 s' n0 pg OP S T kind reps ks :=
  ⟨h.acc.later hb, h.pool.below hb, h.apart, h.far, h.tabs.below hb h.tabs.two, h.bw, h.n0w, h.b2, h.small, h.names, h.ks200, h.reps8⟩
theorem RoP.gone (h : RoP w wx base g O O' bs b0 o0 s' n0 pg OP S T kind reps ks) (ht : TurnedP OP wx w2) : TurnedP O w w2 := h.acc.turned.trans ht fun j hj hj2 => by
  have := h.pool.ge hj2
  have := h.n0w
  omega
theorem RoP.added {r : Rep × List Pkg} {e : Ending} (h : RoP w wx base g O O' bs b0 o0 s' n0 pg OP S T kind reps ks) (hsm : ∀ p ∈ r.2, PkgTiny p) (hrn : r.1.name.size ≤ 1048576)
    (h2 : Added QC wx n0 pg OP S T kind reps ks r.1.name r.1.prio r.1.inst r.2 e w2) :
    ∃ m, e = .returned (.int .i64 m) ∧ AddR QC reps (ks.map kp).length r.1.name r.1.inst r.2 m ∧ TurnedP O w w2 ∧
      (m = 0 → ∃ OP' S' T' ks', RoP w w2 base g O O' bs b0 o0 s' n0 pg OP' S' T' kind (reps ++ [r.1]) ks' ∧ ks'.map kp = ks.map kp ++ r.2.map fun p => (p, reps.length)) := by
  obtain ⟨m, hm, he, ht, -, hok⟩ := h2
  refine ⟨m, he, by rw [List.length_map]; exact hm, h.gone ht, fun h0 => ?_⟩
  obtain ⟨OP', S', T', new, hP, hnew, hrep, hO', hS', hT'⟩ := hok h0
  subst h0
  have hsum := hm.sum
  have hlen : new.length = r.2.length := by have := congrArg List.length hnew; simpa using this
  have hbw := h.acc.turned.size
  have hw := h.bw
  have hn0 := h.n0w
  have hlt := h.pool
  have hA := h.acc.at_.turned ht fun k hk => ⟨h.apart k (.inl hk), by have := h.pool.ge hk; omega⟩
  refine ⟨OP', S', T', ks ++ new, ⟨⟨hA, h.gone ht, h.acc.own⟩, hP, fun j hj ho => ?_, fun j hj => ?_, h.tabs.below (ht.below (B := base) (fun k _ hk => by have := h.pool.ge hk; omega) (by omega)) h.b2, h.bw, h.n0w, h.b2, fun k hk => ?_, fun x hx => ?_, ?_, ?_⟩, ?_⟩
  · have hl := (h.acc.at_.O_lt ho).2
    rcases hj with hj | hj | hj
    · rcases hO' j hj with h3 | h3
      · exact h.apart j (.inl h3) ho
      · omega
    · rcases hS' j hj with h3 | h3
      · exact h.apart j (.inr (.inl h3)) ho
      · omega
    · rcases hT' j hj with h3 | h3
      · exact h.apart j (.inr (.inr h3)) ho
      · omega
  · rcases hj with hj | hj
    · rcases hS' j hj with h3 | h3
      · exact h.far j (.inl h3)
      · omega
    · rcases hT' j hj with h3 | h3
      · exact h.far j (.inr h3)
      · omega
  · rcases List.mem_append.1 hk with hk | hk
    · exact ⟨(h.small k hk).1, by have := (h.small k hk).2; rw [List.length_append]; simp; omega⟩
    · refine ⟨hsm k.p ?_, by rw [hrep k hk, List.length_append]; simp⟩
      rw [← hnew]
      exact List.mem_map_of_mem hk
  · rcases List.mem_append.1 hx with hx | hx
    · exact h.names x hx
    · rw [List.mem_singleton.1 hx]
      exact hrn
  · rw [List.length_append, hlen]
    exact hsum.1
  · rw [List.length_append]
    simp
    omega
  · rw [List.map_append]
    congr 1
    rw [← hnew, List.map_map]
    refine List.map_congr_left fun x hx => ?_
    show (x.p, x.rep) = (x.p, reps.length)
    rw [hrep x hx]
end
/-- A kind that is none. -/
def NoPool (w : World) (e : Ending) (w' : World) : Prop := e = .returned (.tuple #[.pointer none, .int .i64 1]) ∧ w = w'
set_option maxHeartbeats 1000000 in
set_option maxRecDepth 100000 in
theorem new_bad (kind : Int) (hk : ¬ (kind = 1 ∨ kind = 2)) (w : World) : Calls Tryz.prog 14 #[.int .i64 kind] w (NoPool w) := by
  have h1 : (kind != 1) = true := by simp; omega
  have h2 : (kind != 2) = true := by simp; omega
  have h3 : (kind == 1) = false := by simp; omega
  have h4 : (kind == 2) = false := by simp; omega
  clear hk
  go_enter Tryz.func14, Tryz.ntmps14
  go_wp2_with fail
  go_ret2
  exact ⟨rfl, rfl⟩
end Go.Proofs.YtpmfmkpfjomgnaaGreatDoor

/- A pool is laid into bytes: Write. -/
namespace Go.Proofs.YtpmfmkpfjomgnaaGreatDoor
set_option linter.unusedSimpArgs false
set_option linter.unusedVariables false
open Go.RowKit
open Go.Maps (Keyed string_keyed)

/-- A repository's bytes, of what it has alone. -/
def stA (s : WS) (x : Rep × List Pkg) : WS := WS.list WS.pkg (((s.text x.1.name).num x.1.prio).num (bI x.1.inst)) x.2
theorem stR_is (s : WS) (e : RepE) : stR s e = stA s (e.rep, e.ps.map PkE.p) := by
  unfold stR stA WS.list stE
  rw [List.foldl_map, List.length_map]
theorem StepW.stA : StepW stA :=
  ⟨fun s r => Nat.le_trans (Nat.le_trans (Nat.le_trans (WS.text_out s r.1.name) (num_more _ _)) (num_more _ _)) (StepW.pkg.list.more _ _), fun s r h => StepW.pkg.list.few _ _ (((h.text _).num _).num _)⟩
def wholeL (reps : List Rep) (ks : List Kep) : List (Rep × List Pkg) := reps.mapIdx fun i r => (r, ofRep ks i)
theorem wholeL_is {reps : List Rep} {ks : List Kep} {pk : Nat → List PkE} (h : ∀ i, (pk i).map PkE.p = ofRep ks i) : (repEs reps pk).map (fun e => (e.rep, e.ps.map PkE.p)) = wholeL reps ks := by
  unfold repEs wholeL
  apply List.ext_getElem?
  intro i
  rw [List.getElem?_map, List.getElem?_mapIdx, List.getElem?_mapIdx]
  cases reps[i]? with
  | none => rfl
  | some r => simp [h i]
theorem list_stR {reps : List Rep} {ks : List Kep} {pk : Nat → List PkE} (h : ∀ i, (pk i).map PkE.p = ofRep ks i) (s : WS) : WS.list stR s (repEs reps pk) = WS.list stA s (wholeL reps ks) := by
  unfold WS.list
  rw [← wholeL_is h, List.foldl_map, List.length_map]
  congr 1
  funext s e
  exact stR_is s e
/-- A pool's bytes. -/
def w0S : WS := ⟨[], [⟨#[]⟩]⟩
theorem few0 : w0S.Few := by unfold WS.Few w0S; simp
def encP (kind : Int) (reps : List Rep) (ks : List Kep) : List Nat := (WS.list stA (w0S.num kind) (wholeL reps ks)).out
set_option maxRecDepth 100000 in
theorem kindC_any {w : World} {base g : Nat} {O S T : Nat → Prop} {kind : Int} {reps : List Rep} {ks : List Kep} (h : PoolAt w base g O S T kind reps ks) : Calls Tryz.prog 51 #[.pointer (some ⟨g, 0, none⟩)] w fun e w' => e = .returned (.int .i64 kind) ∧ w = w' := by
  obtain ⟨vr, vp, bm, f, h⟩ := h
  have k0 := h.blk.cell 0
  simp at k0
  clear h
  go_enter Tryz.func51, Tryz.ntmps51
  go_wp2_with fail
  go_ret
  exact ⟨rfl, rfl⟩
theorem first_wr {w w3 : World} (hown3 : w3.ownsMap Tryz.prog 9 (plainElem (H := Unit) Tryz.prog 3) w.heap.size 1 ((DataW.map []).put (kdS ⟨#[]⟩) (.lit (.int .i64 0))))
    (hg3 : (w.alloc (.map #[] 0)).grownBy w3 (some w.heap.size)) :
    Below w.heap.size w (w3.alloc (.cells #[.slice none 0 0, .map (some w.heap.size)] 118)) ∧
      WrAt (w3.alloc (.cells #[.slice none 0 0, .map (some w.heap.size)] 118)) w.heap.size w3.heap.size (WrO w3.heap.size (.slice none 0 0) w.heap.size) w0S := by
  have hs := hg3.size
  simp at hs
  have hb3 : Below w.heap.size w w3 := ((Below.refl _ _).alloc (Nat.le_refl _) _).grown hg3 (by simp) (fun k hk => by injection hk with hk; omega)
  refine ⟨hb3.alloc (by omega) _, .slice none 0 0, w.heap.size, (DataW.map []).put (kdS ⟨#[]⟩) (.lit (.int .i64 0)), ⟨Blk.new _ _ _, World.ownsRow_nil _ _ _ _, hown3.alloc _, ?_, by omega, Nat.le_refl _, ?_, fun k => Iff.rfl⟩⟩
  · refine ((Agrees.none_ kdS (fun _ => True)).put (fun a b _ _ => kdS_inj a b) ⟨#[]⟩ trivial (kdS_key _) 0).congr ?_
    intro a
    by_cases ha : a = ⟨#[]⟩
    · subst ha; simp [ixI, ix, w0S]
    · have ha' : ¬ (⟨#[]⟩ : ByteArray) = a := fun e => ha e.symm
      simp [ixI, ix, ha, ha', w0S]
  · rfl
/-- What Write answers. -/
def Laid (w : World) (bs : List Nat) (e : Ending) (w' : World) : Prop := Below w.heap.size w w' ∧ ∃ v, e = .returned (.tuple #[v, .int .i64 0]) ∧ w'.ownsRow w.heap.size 5 1 v bs.length (Ids.u8s bs)
set_option maxRecDepth 100000 in
theorem write_nil (w : World) : Calls Tryz.prog 33 #[.pointer none] w fun e w' => e = .returned (.tuple #[.slice none 0 0, .int .i64 1]) ∧ w = w' := by
  go_enter Tryz.func33, Tryz.ntmps33
  go_wp2_with fail
  go_ret2
  exact ⟨rfl, rfl⟩
set_option maxHeartbeats 4000000 in
set_option maxRecDepth 100000 in
theorem write_any {w : World} {base g : Nat} {O S0 T0 : Nat → Prop} {kind : Int} {reps : List Rep} {ks : List Kep} (h : PoolAt w base g O S0 T0 kind reps ks) (hk : ∀ k ∈ ks, k.rep < reps.length ∧ PkgSmall k.p) (hks : ks.length ≤ 200) (hreps : reps.length ≤ 8)
    (hnm : ∀ r ∈ reps, r.name.size ≤ maxLen) (hm : (encP kind reps ks).length ≤ mostB) :
    Calls Tryz.prog 33 #[.pointer (some ⟨g, 0, none⟩)] w (Laid w (encP kind reps ks)) := by
  have hmm := @run_makeMap Tryz.prog
  have hmf : ∀ (fn : Fn) (first cap : Array Value) (w : World), (Instr.makeFunc fn first cap).run Tryz.prog w = .ok (.func fn first cap) w := fun _ _ _ _ => rfl
  have HK := Lib.hid (Go.WideMaps.keyOf_string_mk (P := Tryz.prog) Tryz.underlying9 (s := ⟨#[]⟩) (by decide))
  have HP := Lib.hid h
  have HPR := Lib.hid (And.intro hk (And.intro hks (And.intro hreps (And.intro hnm hm))))
  clear h hk hks hreps hnm hm
  go_enter Tryz.func33, Tryz.ntmps33
  go_wp2_with ((refine wpList_insert_own _ rfl (.tmp 7) _ _ 116 rfl 9 3 (string_keyed Tryz.underlying9) Tryz.underlying116 (plainElem (H := Unit) Tryz.prog 3) w.heap.size 0 (.map []) rfl (World.ownsMap_made (H := Unit) w Tryz.prog 9 (plainElem Tryz.prog 3)) (by decide) _ _ _ rfl rfl HK.out _ [] (plainElem_int (a := 0) Tryz.underlying3 (by decide)) ?_; intro w3 hown3 hg3))
  obtain ⟨hb4, hA4⟩ := first_wr hown3 hg3
  have CK := Lib.hid (kindC_any (HP.out.below hb4))
  have HB4 := Lib.hid hb4
  have HA4 := Lib.hid hA4
  clear hb4 hA4 hown3 hg3 HK
  refine CK.out.mono ?_
  rintro e w5 ⟨rfl, rfl⟩
  obtain ⟨w4, hw4⟩ : ∃ w4, w4 = w3.alloc (.cells #[.slice none 0 0, .map (some w.heap.size)] 118) := ⟨_, rfl⟩
  rw [← hw4] at HB4 HA4 ⊢
  obtain ⟨gw, hgw⟩ : ∃ gw, gw = w3.heap.size := ⟨_, rfl⟩
  rw [← hgw] at HA4 ⊢
  have hW4 : Wacc w4 w4 w.heap.size gw _ _ w0S := Wacc.start HA4.out few0
  have m0 : (w0S.num kind).out.length ≤ mostB := Nat.le_trans (StepW.stA.list.more (w0S.num kind) _) HPR.out.2.2.2.2
  have CN := Lib.hid (wnum_any hW4.at_ kind m0)
  have HW4 := Lib.hid hW4
  clear hW4 m0 hw4 hgw CK
  go_wp2_with fail
  refine CN.out.mono ?_
  intro e w5 hw
  obtain ⟨O5, hW5⟩ := HW4.out.next (few0.num kind) hw
  obtain ⟨rfl, -⟩ := hw
  have hb45 : Below w.heap.size w w5 := HB4.out.trans (hW5.turned.below (fun j _ hj => (HA4.out.O_lt hj).1) HB4.out.size)
  have CW := Lib.hid (whole_any (HP.out.below hb45) HPR.out.1 HPR.out.2.1 HPR.out.2.2.1)
  have HW5 := Lib.hid hW5
  have HB5 := Lib.hid hb45
  clear hW5 hb45 CN HW4
  go_wp2_with fail
  refine CW.out.mono ?_
  rintro e w6 ⟨hb6, A, c, V, S, T, U, pk, rfl, hc1, hc2, hR, hpk, hall⟩
  have hW6 := HW5.out.later hb6
  have hlen : (repEs reps pk).length = reps.length := by unfold repEs; rw [List.length_mapIdx]
  have hO6 : OutS w6 O5 (AllB V S T U) := fun b hb => ⟨fun ho => by
    have h1 := (HW5.out.at_.O_lt ho).2
    have h2 := (hall b hb).1
    omega, (hall b hb).2⟩
  have CR := writeRepos_any hW6.at_ hW6.few (repEs reps pk) A c V S T U hR (by rw [hlen]; exact hc1) hc2 hO6 (fun r hr => by
    obtain ⟨i, hi⟩ := List.mem_iff_getElem?.1 hr
    obtain ⟨r0, hr0, rfl⟩ := repEs_at hi
    refine ⟨HPR.out.2.2.2.1 r0 (List.mem_of_getElem? hr0), fun e he => ?_⟩
    have h1 : e.p ∈ (pk i).map PkE.p := List.mem_map_of_mem he
    rw [hpk i] at h1
    unfold ofRep at h1
    obtain ⟨k, hk, hke⟩ := List.mem_map.1 h1
    rw [← hke]
    exact (HPR.out.1 k (List.mem_filter.1 hk).1).2) (by rw [list_stR hpk]; exact HPR.out.2.2.2.2)
  rw [hlen, list_stR hpk] at CR
  have HCR := Lib.hid CR
  have HW6 := Lib.hid hW6
  have HBw := Lib.hid hb6
  clear hb6 hR hpk hall hW6 hlen hO6 CR CW HW5 hc1 hc2
  go_wp2_with fail
  refine HCR.out.mono ?_
  intro e w7 hw
  obtain ⟨O7, hW7⟩ := HW6.out.next (StepW.stA.list.few _ _ HW6.out.few) hw
  obtain ⟨rfl, -⟩ := hw
  obtain ⟨vo, bm, D, hS7⟩ := hW7.at_
  obtain ⟨Ao, co, rfl, -, -⟩ := own_form' hS7.out
  have c0 := hS7.blk.cell 0
  simp at c0
  have HV : Hid (Laid w (encP kind reps ks) (.returned (.tuple #[.slice Ao (encP kind reps ks).length co, .int .i64 0])) w7) :=
    ⟨HB4.out.trans (hW7.turned.below (fun j _ hj => (HA4.out.O_lt hj).1) HB4.out.size), _, rfl, hS7.out⟩
  unfold encP at HV
  generalize (WS.list stA (w0S.num kind) (wholeL reps ks)).out.length = N at *
  clear hW7 hS7 HCR HW6 HBw
  go_wp2_with fail
  go_ret2
  exact HV.out
end Go.Proofs.YtpmfmkpfjomgnaaGreatDoor

/- How long what Write lays may be. -/
namespace Go.Proofs.YtpmfmkpfjomgnaaGreatDoor
set_option linter.unusedSimpArgs false
set_option linter.unusedVariables false
open Go.RowKit

theorem num_le (s : WS) (n : Int) : (s.num n).out.length ≤ s.out.length + 10 := by
  rw [WS.num_out]
  have := (numB_len n).2
  omega
theorem text_le (s : WS) (t : ByteArray) (h : t.size ≤ 1048576) : (s.text t).out.length ≤ s.out.length + 1048596 := by
  unfold WS.text
  split
  · exact Nat.le_trans (num_le s _) (by omega)
  · show (((s.num _).num _).out ++ bytesN t).length ≤ _
    rw [List.length_append, bytesN_len]
    have h1 := num_le (s.num (s.ts.length : Int)) (t.size : Int)
    have h2 := num_le s (s.ts.length : Int)
    omega
theorem fold_le {α : Type} {st : WS → α → WS} {K : Nat} : ∀ (l : List α) (s : WS), (∀ a ∈ l, ∀ s, (st s a).out.length ≤ s.out.length + K) → (l.foldl st s).out.length ≤ s.out.length + l.length * K
  | [], s, _ => Nat.le_add_right _ _
  | x :: l, s, h => by
    have h1 := h x (by simp) s
    have h2 := fold_le l (st s x) fun a ha => h a (by simp [ha])
    rw [List.foldl_cons, List.length_cons, Nat.succ_mul]
    omega
theorem list_le {α : Type} {st : WS → α → WS} {K : Nat} (l : List α) (s : WS) (h : ∀ a ∈ l, ∀ s, (st s a).out.length ≤ s.out.length + K) : (WS.list st s l).out.length ≤ s.out.length + 10 + l.length * K := by
  unfold WS.list
  have h1 := fold_le l (s.num (l.length : Int)) h
  have h2 := num_le s (l.length : Int)
  omega
mutual
theorem depW_le : ∀ (d : Dep), tin d → ∀ s : WS, (depW d s).out.length ≤ s.out.length + nodes d * 2097222
  | .mk k n o e ds, ⟨h1, h2, h3⟩, s => by
    show (depW _ s).out.length ≤ _ + (1 + nodesA ds) * 2097222
    have a1 := num_le s k
    have a2 := text_le (s.num k) n h1
    have a3 := num_le ((s.num k).text n) o
    have a4 := text_le (((s.num k).text n).num o) e h2
    have a5 := num_le ((((s.num k).text n).num o).text e) (ds.length : Int)
    have a6 := depsW_le ds h3 (((((s.num k).text n).num o).text e).num (ds.length : Int))
    simp only [depW]
    omega
theorem depsW_le : ∀ (ds : List Dep), tins ds → ∀ s : WS, (depsW ds s).out.length ≤ s.out.length + nodesA ds * 2097222
  | [], _, s => by simp only [depsW]; omega
  | a :: r, ⟨h1, h2⟩, s => by
    have a1 := depW_le a h1 s
    have a2 := depsW_le r h2 (depW a s)
    show (depsW (a :: r) s).out.length ≤ _ + (nodes a + nodesA r) * 2097222
    simp only [depsW]
    omega
end
theorem rf_le {f : WS → Nat → WS} {K n : Nat} (h : ∀ s i, i < n → (f s i).out.length ≤ s.out.length + K) (s : WS) : ∀ k, k ≤ n → (rf f k s).out.length ≤ s.out.length + k * K
  | 0, _ => Nat.le_add_right _ _
  | k + 1, hk => by
    rw [rf_succ, Nat.succ_mul]
    have h1 := h (rf f k s) k (by omega)
    have h2 := rf_le h s k (by omega)
    omega
theorem pkg_le (s : WS) (p : Pkg) (h : PkgTiny p) : (s.pkg p).out.length ≤ s.out.length + 7302526784 := by
  unfold WS.pkg
  have a1 := rf_le (f := stT p) (K := 1048596) (n := 4) (fun s i _ => text_le s _ (h.txt i)) s 4 (by omega)
  have a2 := rf_le (f := stL p) (K := 1040222122) (n := 7) (fun s i _ => by
    have b1 := list_le (st := WS.dep) (K := 65013882) (p.ls i) s fun d hd s => by
      have c1 := (h.dep i).2 d hd
      have c2 := depW_le d c1.1 s
      show (depW d s).out.length ≤ _
      have c3 := c1.2
      omega
    have b2 := (h.dep i).1
    show (WS.list WS.dep s (p.ls i)).out.length ≤ _
    omega) (rf (stT p) 4 s) 7 (by omega)
  have a3 := list_le (st := WS.text) (K := 1048596) p.files (rf (stL p) 7 (rf (stT p) 4 s)) fun t ht s => text_le s t (h.files.1 t ht)
  have a4 := h.files.2
  omega
theorem enc_le (kind : Int) (reps : List Rep) (ks : List Kep) (hk : ∀ k ∈ ks, PkgTiny k.p) (hl : ks.length ≤ 200) (hr : reps.length ≤ 8) (hn : ∀ r ∈ reps, r.name.size ≤ 1048576) : (encP kind reps ks).length ≤ mostB := by
  unfold encP
  have a1 := list_le (st := stA) (K := 1460506405426) (wholeL reps ks) (w0S.num kind) fun x hx s => by
    unfold wholeL at hx
    obtain ⟨i, hi⟩ := List.getElem?_of_mem hx
    rw [List.getElem?_mapIdx, Option.map_eq_some_iff] at hi
    obtain ⟨r, hr2, rfl⟩ := hi
    have b1 := text_le s r.name (hn r (List.mem_of_getElem? hr2))
    have b2 := num_le (s.text r.name) r.prio
    have b3 := num_le ((s.text r.name).num r.prio) (bI r.inst)
    have b4 := list_le (st := WS.pkg) (K := 7302526784) (ofRep ks i) (((s.text r.name).num r.prio).num (bI r.inst)) fun p hp s => pkg_le s p (by
      unfold ofRep at hp
      obtain ⟨k, hk2, rfl⟩ := List.mem_map.1 hp
      exact hk k (List.mem_filter.1 hk2).1)
    have b5 : (ofRep ks i).length ≤ 200 := by
      unfold ofRep
      rw [List.length_map]
      exact Nat.le_trans (List.length_filter_le _ _) hl
    show (WS.list WS.pkg (((s.text r.name).num r.prio).num (bI r.inst)) (ofRep ks i)).out.length ≤ _
    omega
  have a2 := num_le w0S kind
  have a3 : (wholeL reps ks).length ≤ 8 := by unfold wholeL; rw [List.length_mapIdx]; exact hr
  have a4 : w0S.out.length = 0 := rfl
  unfold mostB
  omega
end Go.Proofs.YtpmfmkpfjomgnaaGreatDoor

/- A reader's pool. -/
namespace Go.Proofs.YtpmfmkpfjomgnaaGreatDoor
set_option linter.unusedSimpArgs false
set_option linter.unusedVariables false
open Go.RowKit

set_option maxHeartbeats 1600000 in
set_option maxRecDepth 100000 in
theorem rpool_any {base g b0 o0 : Nat} {bs : ByteArray} (hz : bs.size ≤ 1048576) (w : World) (O : Nat → Prop) (s : RS) (hA : RdAt w base g O bs b0 o0 s) (hT : Tabs w) (h2 : 2 ≤ base) :
    Calls Tryz.prog 74 #[.pointer (some ⟨g, 0, none⟩)] w (PoolTook w base g O bs b0 o0 s) := by
  have HBw : Hid (base ≤ w.heap.size) := by obtain ⟨A, c, vt, hS⟩ := hA; have h1 := hS.gfar; have h2 := hS.blk.lt; show base ≤ _; omega
  have HT := Lib.hid hT
  have H2 := Lib.hid h2
  have HZ := Lib.hid hz
  have HA := Lib.hid hA
  have C0 := Lib.hid (rnum_any hA hz)
  have CY := Lib.hid cmust_yes
  have CX := Lib.hid cmust_no
  clear hA hT h2
  go_enter Tryz.func74, Tryz.ntmps74
  go_wp2_with fail
  cases hd1 : decNum bs s with
  | none =>
    rw [hd1] at C0
    refine C0.out.mono ?_
    rintro e wq ⟨ht, he⟩
    have HV : Hid (PoolTook w base g O bs b0 o0 s (gaveUp 90) wq) := ⟨ht, .inl ⟨rfl, .inl hd1⟩⟩
    obtain rfl := he
    clear ht C0 hd1
    unfold gaveUp
    go_wp2_with fail
    exact ⟨rfl, HV.out⟩
  | some y1 =>
    obtain ⟨kind, s1⟩ := y1
    rw [hd1] at C0
    refine C0.out.mono ?_
    rintro e v1 ⟨ht, vv, rfl, hv, O1, hA1, hO1⟩
    obtain rfl := hv
    replace hA1 : RdAt v1 base g O1 bs b0 o0 s1 := hA1
    have HR1 : Hid (Racc w v1 base g O O1 bs b0 o0 s1) := ⟨hA1, ht, hO1⟩
    have HT1 : Hid (Tabs v1) := HT.out.below (ht.below (B := base) (fun k _ hk => (HA.out.O_lt hk).1) HBw.out) H2.out
    have HD1 := Lib.hid hd1
    clear ht hA1 hO1 C0 hd1
    by_cases hk : kind = 1 ∨ kind = 2
    · have CN := Lib.hid (new_any kind hk v1)
      have HK := Lib.hid hk
      clear hk
      go_wp2_with fail
      refine CN.out.mono ?_
      rintro e v2 ⟨hb, pg, OP, rfl, hP⟩
      have HR2 : Hid (RoP w v2 base g O O1 bs b0 o0 s1 v1.heap.size pg OP (fun _ => False) (fun _ => False) kind [] []) :=
        ⟨HR1.out.later hb, hP, (fun j hj ho => by
          have h1 := (HR1.out.at_.O_lt ho).2
          rcases hj with hj | hj | hj
          · have := hP.ge hj; omega
          · exact hj
          · exact hj), (fun j hj => (hj.elim id id).elim), HT1.out.below hb HT1.out.two, HBw.out, HR1.out.turned.size, H2.out, (fun k hk => by cases hk), (fun k hk => by cases hk), by simp, by simp⟩
      clear hb hP CN
      go_wp2_with fail
      refine (CY.out _).mono ?_
      rintro e v3 ⟨rfl, rfl⟩
      have C1 := Lib.hid (rcount_any HR2.out.acc.at_ hz 8)
      go_wp2_with fail
      cases hd2 : decCount bs 8 s1 with
      | none =>
        rw [hd2] at C1
        refine C1.out.mono ?_
        rintro e wq ⟨ht, he⟩
        have HV : Hid (PoolTook w base g O bs b0 o0 s (gaveUp 90) wq) := ⟨HR2.out.acc.gone ht, .inl ⟨rfl, .inr ⟨kind, s1, HD1.out, .inr ⟨HK.out, .inl hd2⟩⟩⟩⟩
        obtain rfl := he
        clear ht C1 hd2
        unfold gaveUp
        go_wp2_with fail
        exact ⟨rfl, HV.out⟩
      | some y2 =>
        obtain ⟨n, s2⟩ := y2
        rw [hd2] at C1
        refine C1.out.mono ?_
        rintro e v4 ⟨ht, vv, rfl, hv, O2, hA2, hO2⟩
        obtain rfl := hv
        replace hA2 : RdAt v4 base g O2 bs b0 o0 s2 := hA2
        have HD2 := Lib.hid hd2
        have H0 : Hid (∃ O' s' OP S T reps ks, RoP w v4 base g O O' bs b0 o0 s' v1.heap.size pg OP S T kind reps ks ∧ RestP bs n s2 0 s' reps (ks.map kp)) :=
          ⟨O2, s2, OP, _, _, [], [], HR2.out.next ht hA2 hO2, RestP.start⟩
        have hn8 : n ≤ 8 := by
          have hO := HR1.out.at_.ok
          exact (decCount_ok hd2 hO).2.2.2.2
        clear ht hA2 hO2 C1 hd2 HR2 HR1
        go_wp2_with fail
        go_loopw [16] (fun v wx => ∃ k : Nat, k ≤ n ∧ v = .int .i64 (k : Int) ∧ Hid (∃ O' s' OP S T reps ks, RoP w wx base g O O' bs b0 o0 s' v1.heap.size pg OP S T kind reps ks ∧ RestP bs n s2 k s' reps (ks.map kp))) (fun v _ => n - (intOf v).toNat)
        case atStart => exact ⟨0, Nat.zero_le _, rfl, H0⟩
        case round =>
          clear H0
          obtain ⟨k, hk, rfl, HB⟩ := hrel
          obtain ⟨O', s', OP, S, T, reps, ks, hR, hRest⟩ := HB.out
          by_cases hlt : k < n
          · have CF := Lib.hid (rrepo_any hz wr O' s' hR.acc.at_)
            have HR := Lib.hid hR
            have HRest := Lib.hid hRest
            clear HB hR hRest
            cases hf : decRepo bs s' with
            | none =>
              rw [hf] at CF
              have HX : Hid (LostP bs s) := .inr ⟨kind, s1, HD1.out, .inr ⟨HK.out, .inr ⟨n, s2, HD2.out, HRest.out.none_ hlt hf⟩⟩⟩
              clear hf
              go_wp2_with fail
              refine CF.out.mono ?_
              rintro e w2 ⟨ht, he⟩
              have HV : Hid (PoolTook w base g O bs b0 o0 s (gaveUp 90) w2) := ⟨HR.out.acc.gone ht, .inl ⟨rfl, HX.out⟩⟩
              obtain rfl := he
              clear ht CF
              unfold gaveUp
              go_wp2_with fail
              exact ⟨rfl, HV.out⟩
            | some y =>
              obtain ⟨r, s3⟩ := y
              rw [hf] at CF
              have HF := Lib.hid hf
              have HSm := Lib.hid (decRepo_small hz hf HR.out.acc.at_.ok)
              clear hf
              go_wp2_with fail
              refine CF.out.mono ?_
              rintro e w2 ⟨ht, v, O3, rfl, hA3, hO3, x, rfl, A, c, S0, T0, U0, l, rfl, hl, hc1, hc2, hPk, hCl, hClT, hOut, hfar⟩
              replace hA3 : RdAt w2 base g O3 bs b0 o0 s3 := hA3
              replace hl : l.map PkE.p = r.2 := hl
              have hR3 := HR.out.next ht hA3 hO3
              have hlen : l.length = r.2.length := by rw [← hl, List.length_map]
              have hwr : w.heap.size ≤ wr.heap.size := HR.out.acc.turned.size
              have CA : Hid (Calls Tryz.prog 17 #[.pointer (some ⟨pg, 0, none⟩), .agg #[.string r.1.name, .int .i64 r.1.prio, .bool r.1.inst, .slice A l.length c]] w2 (Added QC w2 v1.heap.size pg OP S T kind reps ks r.1.name r.1.prio r.1.inst r.2)) := by
                have hPo := hR3.pool
                have hge : ∀ j, OP j → j < wr.heap.size := fun j hj => HR.out.pool.lt (.inl hj)
                obtain ⟨vr, vp, bm, f, hS⟩ := hPo
                rw [← hl]
                exact add_any QC hS r.1.name r.1.prio r.1.inst A l c S0 T0 U0 hPk ⟨hc1, hc2⟩ (by have := HSm.out.2.1; omega) hR3.ks200 hR3.reps8 (fun x hx => checks_of hCl hR3.tabs (HSm.out.2.2 x.p (by rw [← hl]; exact List.mem_map_of_mem hx)).small) hR3.tabs (by have := HSm.out.1; omega)
                  (fun x hx => (HSm.out.2.2 x.p (by rw [← hl]; exact List.mem_map_of_mem hx)).small) (fun j hj ho => by have := hfar j (by rcases hj with hj | hj | hj; exact .inl (.inl hj); exact .inl (.inr hj); exact .inr hj); have := hge j ho; omega) (by have := hR3.n0w; have := hR3.bw; have := hR3.b2; omega)
              have HR3 := Lib.hid hR3
              clear ht hA3 hO3 CF hPk hCl hClT hOut hfar hR3 hc1 hc2 hwr hlen hl
              rw [show rowRe (r, s3).1.1 (.slice A l.length c) = #[.string r.1.name, .int .i64 r.1.prio, .bool r.1.inst, .slice A l.length c] from rfl]
              go_wp2_with fail
              refine CA.out.mono ?_
              rintro e w3 hadd
              obtain ⟨m, rfl, hm, hgo, hnext⟩ := HR3.out.added HSm.out.2.2 (by have := HSm.out.1; omega) hadd
              clear hadd CA
              by_cases hm0 : m = 0
              · subst hm0
                obtain ⟨OP', S', T', ks', hRn, hks⟩ := hnext rfl
                have HN : Hid (∃ O' s' OP S T reps ks, RoP w w3 base g O O' bs b0 o0 s' v1.heap.size pg OP S T kind reps ks ∧ RestP bs n s2 (k + 1) s' reps (ks.map kp)) :=
                  ⟨O3, s3, OP', S', T', _, ks', hRn, by rw [hks]; exact HRest.out.next hlt HF.out hm⟩
                clear hm hgo hnext hRn hks
                go_wp2_with fail
                refine (CY.out _).mono ?_
                rintro e w4 ⟨rfl, rfl⟩
                go_wp2_with fail
                go_roundw
                case rel => exact ⟨k + 1, by omega, by go_num, HN⟩
                case measure => simp [intOf]; omega
              · have HV : Hid (PoolTook w base g O bs b0 o0 s (gaveUp 90) w3) := ⟨hgo, .inl ⟨rfl, .inr ⟨kind, s1, HD1.out, .inr ⟨HK.out, .inr ⟨n, s2, HD2.out, HRest.out.bad hlt HF.out hm0 hm⟩⟩⟩⟩⟩
                have hmf : (m == 0) = false := by simp [hm0]
                clear hm hgo hnext hm0
                go_wp2_with fail
                refine (CX.out _).mono ?_
                rintro e w4 ⟨he, rfl⟩
                obtain rfl := he
                unfold gaveUp
                go_wp2_with fail
                exact ⟨rfl, HV.out⟩
          · obtain rfl : k = n := by omega
            have HV : Hid (PoolTook w base g O bs b0 o0 s (.returned (.pointer (some ⟨pg, 0, none⟩))) wr) :=
              ⟨hR.acc.turned, .inr ⟨_, pg, OP, S, T, kind, reps, ks, s', O', rfl, hR.n0w, hR.pool, hR.acc.at_, ⟨s1, k, s2, HD1.out, HK.out, HD2.out, hRest.done⟩, hR.small, hR.ks200, hR.reps8, hR.names, hR.far⟩⟩
            clear hlt HB hR hRest
            go_wp2_with fail
            go_ret
            exact HV.out
    · have CN := Lib.hid (new_bad kind hk v1)
      have HV : Hid (PoolTook w base g O bs b0 o0 s (gaveUp 90) v1) := ⟨HR1.out.turned, .inl ⟨rfl, .inr ⟨kind, s1, HD1.out, .inl hk⟩⟩⟩
      clear hk
      go_wp2_with fail
      refine CN.out.mono ?_
      rintro e v2 ⟨rfl, rfl⟩
      clear CN
      go_wp2_with fail
      refine (CX.out _).mono ?_
      rintro e v3 ⟨he, rfl⟩
      obtain rfl := he
      unfold gaveUp
      go_wp2_with fail
      exact ⟨rfl, HV.out⟩
end Go.Proofs.YtpmfmkpfjomgnaaGreatDoor

/- What gives up is caught: cache's caught and its closure. -/
namespace Go.Proofs.YtpmfmkpfjomgnaaGreatDoor
set_option linter.unusedSimpArgs false
set_option linter.unusedVariables false
open Go.RowKit

theorem ceql_held (n : Int) (w : World) : (binOp .eql 20 (.iface 25 (.int .i64 n)) .nilIface).run Tryz.prog w = .ok (.bool false) w := run_eql_held_nil w _ _ _ under_any
theorem ceql_nil (w : World) : (binOp .eql 20 .nilIface .nilIface).run Tryz.prog w = .ok (.bool true) w := run_eql_nil_nil w _ under_any
theorem ceql_same (w : World) : (binOp .eql 20 (.iface 25 (.int .i64 90)) (.iface 25 (.int .i64 90))).run Tryz.prog w = .ok (.bool true) w :=
  Lib.run_eql_iface_int w 90 90 Tryz.underlying20 (by kernel_rfl) Tryz.underlying25
theorem ccaught_slots (p : Addr) : (#[Value.pointer (some p)] ++ Array.replicate (Tryz.f122.ntmps - (#[Value.pointer (some p)] : Array Value).size) undef) = #[Value.pointer (some p), undef, undef, undef, undef, undef, undef, undef, undef, undef] := by
  rw [Tryz.ntmps122]; rfl
set_option maxHeartbeats 400000 in
set_option maxRecDepth 100000 in
theorem ccatch_pan (p : Addr) (x : Int) (w : World) (hc : w.cell? p = some (.int .i64 x)) (hz : w.frozen? p = false) :
    CallsD Tryz.prog 122 #[.pointer (some p)] (.panicking [{ v := .iface 25 (.int .i64 90), recovered := false }]) w fun e u' w' =>
      e = .returned (.tuple #[]) ∧ u' = .panicking [{ v := .iface 25 (.int .i64 90), recovered := true }] ∧ w' = w.setCell p (.int .i64 90) := by
  refine callsD_of_wpS Tryz.func122 rfl fun c₀ cs hu => ?_
  rw [ccaught_slots]
  apply wpS_seq
  apply wpS_region
  simp [wpOpsS, go_sem, recoverD, hu, Exit.thenS]
  refine wpS_of_wp ?_
  clear hu
  have hn := ceql_held 90
  have hs := ceql_same
  go_wp2_with fail
  exact ⟨rfl, _, rfl, _, results_none rfl _ _ _, rfl, rfl, rfl⟩
set_option maxHeartbeats 400000 in
set_option maxRecDepth 100000 in
theorem ccatch_none (p : Addr) (x : Int) (w : World) (hc : w.cell? p = some (.int .i64 x)) :
    CallsD Tryz.prog 122 #[.pointer (some p)] .returning w fun e u' w' =>
      e = .returned (.tuple #[]) ∧ u' = .returning ∧ w' = w := by
  refine callsD_of_wpS Tryz.func122 rfl fun c₀ cs hu => ?_
  rw [ccaught_slots]
  apply wpS_seq
  apply wpS_region
  simp [wpOpsS, go_sem, recoverD, hu, Exit.thenS]
  refine wpS_of_wp ?_
  have HU := Lib.hid hu
  clear hu
  have hn := ceql_nil
  go_wp2_with fail
  exact ⟨rfl, _, (by cases c₀; have := HU.out; simp at this; subst this; rfl), _, results_none rfl _ _ _, rfl, rfl, rfl⟩

/-- What is done either answers, or gives up what has not the form; the blocks of F it may turn. -/
def CDone (F : List Nat) (w : World) (Q Qp : World → Prop) (e : Ending) (w' : World) : Prop :=
  Turned F w w' ∧ ((e = .returned (.tuple #[]) ∧ Q w') ∨ (e = gaveUp 90 ∧ Qp w'))
set_option maxHeartbeats 400000 in
set_option maxRecDepth 100000 in
theorem ccaught_any (g : FuncId) (caps : Array Value) (ef : ∀ args w, (callFunc g args).run Tryz.prog w = .ok (.enter g args) w) (F : List Nat) (Q Qp : World → Prop) (w0 : World) (hF : ∀ k ∈ F, k < w0.heap.size)
    (hdo : Calls Tryz.prog g caps (w0.alloc (.cells #[.int .i64 0] 25)) (CDone F (w0.alloc (.cells #[.int .i64 0] 25)) Q Qp)) :
    Calls Tryz.prog 72 #[.func (.func g) #[] caps] w0 fun e w' => ∃ w1, Turned F (w0.alloc (.cells #[.int .i64 0] 25)) w1 ∧ Turned [w0.heap.size] w1 w' ∧ ((e = .returned (.int .i64 0) ∧ Q w1) ∨ (e = .returned (.int .i64 90) ∧ Qp w1)) := by
  have hmf : ∀ (fn : Fn) (first cap : Array Value) (w : World), (Instr.makeFunc fn first cap).run Tryz.prog w = .ok (.func fn first cap) w := fun _ _ _ _ => rfl
  have HD := Lib.hid hdo
  have K0 := Lib.hid (Blk.new w0 25 #[.int .i64 0])
  have HF := Lib.hid hF
  clear hdo hF
  go_enter_defers Tryz.func72, Tryz.ntmps72
  go_wp2_with fail
  refine HD.out.mono ?_
  rintro e w1 ⟨ht, h | h⟩
  · obtain ⟨rfl, hq⟩ := h
    have K1 := Lib.hid (K0.out.turned ht (fun hm => absurd (HF.out _ hm) (Nat.lt_irrefl _)))
    have HT := Lib.hid ht
    have HQ := Lib.hid hq
    clear ht hq HD K0
    have c0 := K1.out.cell 0
    have f0 := K1.out.free 0
    go_wp2_with fail
    have K2 : Blk (w1.setCell ⟨w0.heap.size, 0, none⟩ (.int .i64 0)) w0.heap.size 25 #[.int .i64 0] := K1.out.set_ 0 (.int .i64 0)
    refine leaves_cons (f := 122) (args := #[.pointer (some ⟨w0.heap.size, 0, none⟩)]) (by simp) (by simp [go_sem]) ?_
    refine (ccatch_none ⟨w0.heap.size, 0, none⟩ 0 _ (K2.cell 0)).mono ?_
    rintro e u' w'' ⟨rfl, rfl, rfl⟩
    have d0 : (w1.setCell ⟨w0.heap.size, 0, none⟩ (.int .i64 0)).cell? ⟨w0.heap.size, 0, none⟩ = some (.int .i64 0) := K2.cell 0
    have e0 := K2.free 0
    have TT : Turned [w0.heap.size] w1 (w1.setCell ⟨w0.heap.size, 0, none⟩ (.int .i64 0)) := (Turned.refl _ _).setCell (.inl (by simp)) _
    refine ⟨.int .i64 0, ?_, w1, HT.out, TT, .inl ⟨rfl, HQ.out⟩⟩
    simp only [results, Tryz.results72]
    simp [go_sem, d0, e0]
  · obtain ⟨rfl, hq⟩ := h
    have K1 := Lib.hid (K0.out.turned ht (fun hm => absurd (HF.out _ hm) (Nat.lt_irrefl _)))
    have HT := Lib.hid ht
    have HQ := Lib.hid hq
    clear ht hq HD K0
    have c0 := K1.out.cell 0
    have f0 := K1.out.free 0
    unfold gaveUp
    go_wp2_with fail
    refine leaves_cons (f := 122) (args := #[.pointer (some ⟨w0.heap.size, 0, none⟩)]) (by simp) (by simp [go_sem]) ?_
    refine (ccatch_pan ⟨w0.heap.size, 0, none⟩ 0 _ c0 f0).mono ?_
    rintro e u' w'' ⟨rfl, rfl, rfl⟩
    have K3 : Blk (w1.setCell ⟨w0.heap.size, 0, none⟩ (.int .i64 90)) w0.heap.size 25 #[.int .i64 90] := K1.out.set_ 0 (.int .i64 90)
    have d0 : (w1.setCell ⟨w0.heap.size, 0, none⟩ (.int .i64 90)).cell? ⟨w0.heap.size, 0, none⟩ = some (.int .i64 90) := K3.cell 0
    have e0 := K3.free 0
    have TT : Turned [w0.heap.size] w1 (w1.setCell ⟨w0.heap.size, 0, none⟩ (.int .i64 90)) := (Turned.refl _ _).setCell (.inl (by simp)) _
    refine ⟨.int .i64 90, ?_, w1, HT.out, TT, .inr ⟨rfl, HQ.out⟩⟩
    simp only [results, Tryz.results72]
    simp [go_sem, d0, e0]
end Go.Proofs.YtpmfmkpfjomgnaaGreatDoor

/- Read: what is done within caught. -/
namespace Go.Proofs.YtpmfmkpfjomgnaaGreatDoor
set_option linter.unusedSimpArgs false
set_option linter.unusedVariables false
open Go.RowKit

def natsI (l : List Nat) : List Int := l.map Int.ofNat
theorem strs_nil : strOfNums (natsI []) = ByteArray.empty := by first | rfl | (unfold natsI strOfNums; rfl) | decide | simp [natsI, strOfNums]
/-- The same bytes. -/
def sameB (l : List Nat) (bs : ByteArray) : Bool := Lib.bytesOf (natsI l) == Lib.bytesOf (natsI (bytesN bs))
theorem conv_own {w : World} {base : Nat} {v : Value} {l : List Nat} (h : w.ownsRow base 5 1 v l.length (Ids.u8s l)) : (convert 60 9 v).run Tryz.prog w = .ok (.string (strOfNums (natsI l))) w := by
  rcases own_handle h with ⟨rfl, h0⟩ | ⟨b, c, rfl⟩
  · obtain rfl := List.eq_nil_of_length_eq_zero h0
    rw [strs_nil]
    exact run_convert_bytes_nil w 60 5 Tryz.underlying60 Tryz.underlying5 0 0 9 Tryz.underlying9
  · refine run_convert_bytes_arg w 60 5 Tryz.underlying60 Tryz.underlying5 b 0 l.length c (natsI l) (by simp [natsI]) (fun i hi => ?_) 9 Tryz.underlying9
    obtain ⟨x, hx⟩ : ∃ x, l[i]? = some x := ⟨_, List.getElem?_eq_getElem hi⟩
    have hu : (Ids.u8s l)[i]? = some (.int .u8 (x : Int)) := by unfold Ids.u8s; rw [List.getElem?_map, hx]; rfl
    obtain ⟨b', e, hc⟩ := own_ats h hu
    injection e with e
    injection e with e
    subst e
    have hg : (natsI l).getD i 0 = (x : Int) := by unfold natsI; rw [List.getD_eq_getElem?_getD, List.getElem?_map, hx]; rfl
    rw [hg, Nat.zero_add]
    exact hc
theorem conv_rest {w : World} {base b0 o0 c : Nat} {bs : ByteArray} {A : Option Addr} (h : RestAt w base bs b0 o0 0 A c) : (convert 60 9 (.slice A bs.size c)).run Tryz.prog w = .ok (.string (strOfNums (natsI (bytesN bs)))) w := by
  have hl : (bytesN bs).length = bs.size := bytesN_len bs
  by_cases h0 : bs.size = 0
  · rw [h0]
    have hn : bytesN bs = [] := List.eq_nil_of_length_eq_zero (by rw [hl]; exact h0)
    rw [hn, strs_nil]
    exact run_convert_bytes_zero w 60 5 Tryz.underlying60 Tryz.underlying5 A c 9 Tryz.underlying9
  · rw [h.at_ (by omega)]
    refine run_convert_bytes_arg w 60 5 Tryz.underlying60 Tryz.underlying5 b0 (o0 + 0) bs.size c (natsI (bytesN bs)) (by simp [natsI, hl]) (fun i hi => ?_) 9 Tryz.underlying9
    have hb := h.bytes i hi
    have hx : (bytesN bs)[i]? = some (bs.data.toList[i]'(by simpa using hi)).toNat := by
      unfold bytesN
      rw [List.getElem?_map, List.getElem?_eq_getElem (by simpa using hi)]
      rfl
    have hg : (natsI (bytesN bs)).getD i 0 = (((bs.data.toList[i]'(by simpa using hi)).toNat : Nat) : Int) := by unfold natsI; rw [List.getD_eq_getElem?_getD, List.getElem?_map, hx]; rfl
    rw [hg, Nat.add_zero, hb]
    simp
    rfl
/-- Where reading begins. -/
def r0S : RS := ⟨0, [⟨#[]⟩], 0⟩
theorem r0_ok (bs : ByteArray) : r0S.Ok bs := ⟨Nat.zero_le _, (fun t ht => by rw [List.mem_singleton.1 ht]; exact Nat.zero_le _), by decide, by decide⟩
/-- What a pool that was read is. -/
structure PoolRead (n : Nat) (bs : ByteArray) (w' : World) (n0 pg : Nat) (OP S T : Nat → Prop) (kind : Int) (reps : List Rep) (ks : List Kep) : Prop where
  far : n ≤ n0
  pool : PoolAt w' n0 pg OP S T kind reps ks
  got : ∃ s', GotP bs r0S kind reps (ks.map kp) s'
  tiny : ∀ k ∈ ks, PkgTiny k.p ∧ k.rep < reps.length
  many : ks.length ≤ 200 ∧ reps.length ≤ 8
  names : ∀ r ∈ reps, r.name.size ≤ 1048576
  apart : ∀ j, S j ∨ T j → n ≤ j
  same : sameB (encP kind reps ks) bs = true
def PoolLost (bs : ByteArray) : Prop := LostP bs r0S ∨ ∃ kind reps ks s', GotP bs r0S kind reps (ks.map kp) s' ∧ sameB (encP kind reps ks) bs = false
theorem PoolRead.below {n : Nat} {bs : ByteArray} {w' w2 : World} {n0 pg : Nat} {OP S T : Nat → Prop} {kind : Int} {reps : List Rep} {ks : List Kep} (h : PoolRead n bs w' n0 pg OP S T kind reps ks) (hb : Below w'.heap.size w' w2) : PoolRead n bs w2 n0 pg OP S T kind reps ks :=
  ⟨h.far, h.pool.below hb, h.got, h.tiny, h.many, h.names, h.apart, h.same⟩
/-- Within caught, something was read, or nothing. -/
def ReadIn (w : World) (bs : ByteArray) (pb : Nat) (w' : World) : Prop := ∃ n0 pg OP S T kind reps ks, Blk w' pb 24 #[.pointer (some ⟨pg, 0, none⟩)] ∧ PoolRead w.heap.size bs w' n0 pg OP S T kind reps ks
def LostIn (bs : ByteArray) (pb : Nat) (w' : World) : Prop := Blk w' pb 24 #[.pointer none] ∧ PoolLost bs
set_option maxHeartbeats 2000000 in
set_option maxRecDepth 100000 in
theorem read1_any {w : World} {b0 o0 c bb pb : Nat} {bs : ByteArray} {A : Option Addr} (hB : Blk w bb 60 #[.slice A bs.size c]) (hP : Blk w pb 24 #[.pointer none]) (hR : RestAt w w.heap.size bs b0 o0 0 A c) (hz : bs.size ≤ 1048576) (hT : Tabs w) :
    Calls Tryz.prog 73 #[.pointer (some ⟨bb, 0, none⟩), .pointer (some ⟨pb, 0, none⟩)] w (CDone [pb] w (ReadIn w bs pb) (LostIn bs pb)) := by
  obtain ⟨w1, hw1⟩ : ∃ w1, w1 = (w.alloc (.cells #[.string ⟨#[]⟩] 9)).alloc (.cells #[.slice A bs.size c, .slice (some ⟨w.heap.size, 0, none⟩) 1 1, .int .i64 0] 125) := ⟨_, rfl⟩
  have hb1 : Below w.heap.size w w1 := by rw [hw1]; exact ((Below.refl _ _).alloc (Nat.le_refl _) _).alloc (by simp) _
  have hA : RdAt w1 w.heap.size (w.heap.size + 1) (RdO (w.heap.size + 1) (.slice (some ⟨w.heap.size, 0, none⟩) 1 1)) bs b0 o0 r0S := by
    refine ⟨A, c, _, ⟨?_, hR.stay fun hp => hb1.block b0 (hR.far hp), ?_, Nat.le_succ _, r0_ok bs, fun k => Iff.rfl⟩⟩
    · show Blk w1 _ _ #[.slice A (bs.size - 0) c, .slice (some ⟨w.heap.size, 0, none⟩) 1 1, .int .i64 0]
      rw [hw1]
      exact Blk.new' (by simp)
    · rw [hw1]
      exact ⟨rfl, .inr ⟨w.heap.size, 1, #[.string ⟨#[]⟩], rfl, Nat.le_refl _, (Blk.new _ _ _).alloc _, Nat.le_refl _, by simp [maxLen], rfl, rfl⟩⟩
  have CP := Lib.hid (rpool_any hz w1 _ r0S hA (hT.below hb1 hT.two) hT.two)
  have HA := Lib.hid hA
  have HB1 := Lib.hid hb1
  have HF := Lib.hid (And.intro hB (And.intro hP hR))
  have CY := Lib.hid cmust_yes
  have CX := Lib.hid cmust_no
  have k0 := hB.cell 0
  have HW1 := Lib.hid hw1
  have hsz : w1.heap.size = w.heap.size + 2 := by rw [hw1]; simp
  have HSZ := Lib.hid hsz
  clear hA hb1 hB hP hR hT hw1 hsz
  go_enter Tryz.func73, Tryz.ntmps73
  go_upto_region 1 with fail
  rw [← HW1.out]
  try rw [World.size_alloc]
  go_wp2_with fail
  refine CP.out.mono ?_
  rintro e w2 ⟨ht, hres⟩
  have hb2 : Below w.heap.size w w2 := HB1.out.trans (ht.below (B := w.heap.size) (fun k _ hk => (HA.out.O_lt hk).1) (by have := HSZ.out; omega))
  have HB2 := Lib.hid hb2
  rcases hres with ⟨he, hlost⟩ | ⟨n0, pg, OP, S, T, kind, reps, ks, s', O', he, hn0, hPo, -, hgot, htiny, hm1, hm2, hnames, hfar⟩
  · have HV : Hid (CDone [pb] w (ReadIn w bs pb) (LostIn bs pb) (gaveUp 90) w2) := ⟨Turned.of_below hb2 _, .inr ⟨rfl, HF.out.2.1.below hb2 HF.out.2.1.lt, .inl hlost⟩⟩
    obtain rfl := he
    clear ht hb2 hlost CP k0
    unfold gaveUp
    go_wp2_with fail
    exact ⟨rfl, HV.out⟩
  · obtain rfl := he
    have CW := Lib.hid (write_any hPo (fun k hk => ⟨(htiny k hk).2, (htiny k hk).1.small⟩) hm1 hm2 (fun r hr => Nat.le_trans (hnames r hr) (by decide)) (enc_le kind reps ks (fun k hk => (htiny k hk).1) hm1 hm2 hnames))
    have HR : Hid (∀ w3, Below w2.heap.size w2 w3 → sameB (encP kind reps ks) bs = true → PoolRead w.heap.size bs w3 n0 pg OP S T kind reps ks) := fun w3 hb hs =>
      ⟨by have := HSZ.out; omega, hPo.below hb, ⟨s', hgot⟩, htiny, ⟨hm1, hm2⟩, hnames, fun j hj => by have := hfar j hj; have := HSZ.out; omega, hs⟩
    have HL : Hid (sameB (encP kind reps ks) bs = false → PoolLost bs) := fun hs => .inr ⟨kind, reps, ks, s', hgot, hs⟩
    clear ht hb2 hn0 hPo hgot htiny hm1 hm2 hnames hfar CP k0
    go_wp2_with fail
    refine CW.out.mono ?_
    rintro e w3 ⟨hb3, v, rfl, hown⟩
    have hb23 : Below w.heap.size w w3 := HB2.out.trans (hb3.mono HB2.out.size)
    have hBb := HF.out.1.below hb23 HF.out.1.lt
    have k0 := hBb.cell 0
    have CE := Lib.hid (Tryz.bytes_Equal v (.slice A bs.size c) (natsI (encP kind reps ks)) (natsI (bytesN bs)) w3 (conv_own hown) (conv_rest (HF.out.2.2.stay fun hp => hb23.block b0 (HF.out.2.2.far hp))))
    have HB3 := Lib.hid hb23
    have HBx := Lib.hid hb3
    clear hb3 hown hb23 hBb CW
    go_wp2_with fail
    refine CE.out.mono ?_
    rintro e w4 ⟨rfl, rfl⟩
    clear CE k0
    rw [show (Lib.bytesOf (natsI (encP kind reps ks)) == Lib.bytesOf (natsI (bytesN bs))) = sameB (encP kind reps ks) bs from rfl]
    cases hs : sameB (encP kind reps ks) bs with
    | false =>
      have HV : Hid (CDone [pb] w (ReadIn w bs pb) (LostIn bs pb) (gaveUp 90) w4) := ⟨Turned.of_below HB3.out _, .inr ⟨rfl, HF.out.2.1.below HB3.out HF.out.2.1.lt, HL.out hs⟩⟩
      clear hs
      go_wp2_with fail
      refine (CX.out _).mono ?_
      rintro e w5 ⟨he, rfl⟩
      obtain rfl := he
      unfold gaveUp
      go_wp2_with fail
      exact ⟨rfl, HV.out⟩
    | true =>
      have HPR := Lib.hid (HR.out w4 HBx.out hs)
      have hPb := HF.out.2.1.below HB3.out HF.out.2.1.lt
      have f0 := hPb.free 0
      have q0 := hPb.cell 0
      have hPb2 := hPb.set_ 0 (.pointer (some ⟨pg, 0, none⟩))
      have ht5 : Turned [pb] w (w4.setCell ⟨pb, 0, none⟩ (.pointer (some ⟨pg, 0, none⟩))) := (Turned.of_below HB3.out _).setCell (.inl (by simp)) _
      have hno : ∀ k, k = pb → ¬ OP k ∧ ¬ S k ∧ ¬ T k := fun k hk => by
        subst hk
        have hlt := HF.out.2.1.lt
        refine ⟨fun h => ?_, fun h => ?_, fun h => ?_⟩
        · have := HPR.out.pool.ge h; have := HPR.out.far; omega
        · have := HPR.out.apart _ (.inl h); omega
        · have := HPR.out.apart _ (.inr h); omega
      have hp5 := HPR.out.pool.turned (set_eq _ _ pb 0 (.pointer (some ⟨pg, 0, none⟩)) (TurnedP.refl _ _)) hno
      have HV : Hid (CDone [pb] w (ReadIn w bs pb) (LostIn bs pb) (.returned (.tuple #[])) (w4.setCell ⟨pb, 0, none⟩ (.pointer (some ⟨pg, 0, none⟩)))) :=
        ⟨ht5, .inl ⟨rfl, n0, pg, OP, S, T, kind, reps, ks, hPb2, HPR.out.far, hp5, HPR.out.got, HPR.out.tiny, HPR.out.many, HPR.out.names, HPR.out.apart, HPR.out.same⟩⟩
      clear hPb2 ht5 hno hp5
      have HPb := Lib.hid hPb
      clear hs hPb
      go_wp2_with fail
      refine (CY.out _).mono ?_
      rintro e w5 ⟨rfl, rfl⟩
      go_wp2_with fail
      go_end0
      exact HV.out
end Go.Proofs.YtpmfmkpfjomgnaaGreatDoor

/- Read. -/
namespace Go.Proofs.YtpmfmkpfjomgnaaGreatDoor
set_option linter.unusedSimpArgs false
set_option linter.unusedVariables false
open Go.RowKit

/-- What Read answers. -/
def ReadPost (w : World) (bs : ByteArray) (e : Ending) (w' : World) : Prop :=
  Below w.heap.size w w' ∧ ((e = .returned (.tuple #[.pointer none, .int .i64 90]) ∧ PoolLost bs) ∨
    ∃ n0 pg OP S T kind reps ks, e = .returned (.tuple #[.pointer (some ⟨pg, 0, none⟩), .int .i64 0]) ∧ PoolRead w.heap.size bs w' n0 pg OP S T kind reps ks)
set_option maxHeartbeats 2000000 in
set_option maxRecDepth 100000 in
theorem read_any {w : World} {b0 o0 c : Nat} {bs : ByteArray} {A : Option Addr} (hR : RestAt w w.heap.size bs b0 o0 0 A c) (hz : bs.size ≤ 1048576) (hT : Tabs w) :
    Calls Tryz.prog 34 #[.slice A bs.size c] w (ReadPost w bs) := by
  have hmf : ∀ (fn : Fn) (first cap : Array Value) (w : World), (Instr.makeFunc fn first cap).run Tryz.prog w = .ok (.func fn first cap) w := fun _ _ _ _ => rfl
  have ef := enters_of Tryz.func73 (by kernel_rfl) rfl
  obtain ⟨w1, hw1⟩ : ∃ w1, w1 = w.alloc (.cells #[.slice A bs.size c] 60) := ⟨_, rfl⟩
  obtain ⟨w2, hw2⟩ : ∃ w2, w2 = w1.alloc (.cells #[.pointer none] 24) := ⟨_, rfl⟩
  obtain ⟨w3, hw3⟩ : ∃ w3, w3 = w2.alloc (.cells #[.int .i64 0] 25) := ⟨_, rfl⟩
  have hz1 : w1.heap.size = w.heap.size + 1 := by rw [hw1]; simp
  have hz2 : w2.heap.size = w.heap.size + 2 := by rw [hw2, World.size_alloc, hz1]
  have hz3 : w3.heap.size = w.heap.size + 3 := by rw [hw3, World.size_alloc, hz2]
  have hb3 : Below w.heap.size w w3 := by rw [hw3, hw2, hw1]; exact (((Below.refl _ _).alloc (Nat.le_refl _) _).alloc (by simp) _).alloc (by simp; omega) _
  have hB : Blk w3 w.heap.size 60 #[.slice A bs.size c] := by rw [hw3, hw2, hw1]; exact ((Blk.new _ _ _).alloc _).alloc _
  have hP : Blk w3 (w.heap.size + 1) 24 #[.pointer none] := by rw [hw3, hw2]; exact (Blk.new' hz1).alloc _
  have hR3 : RestAt w3 w3.heap.size bs b0 o0 0 A c := by
    have h := hR.stay (w' := w3) fun hp => hb3.block b0 (hR.far hp)
    exact ⟨h.at_, h.cap, h.most, h.bytes, fun hp => by have := h.far hp; omega⟩
  have h1 := read1_any hB hP hR3 hz (hT.below hb3 hT.two)
  have CC := ccaught_any 73 #[.pointer (some ⟨w.heap.size, 0, none⟩), .pointer (some ⟨w.heap.size + 1, 0, none⟩)] ef [w.heap.size + 1] (ReadIn w3 bs (w.heap.size + 1)) (LostIn bs (w.heap.size + 1)) w2 (fun k hk => by rw [List.mem_singleton.1 hk, hz2]; omega) (by rw [← hw3]; exact h1)
  rw [← hw3] at CC
  have HC := Lib.hid CC
  have HB3 := Lib.hid hb3
  have HZ := Lib.hid (And.intro hz1 (And.intro hz2 hz3))
  have HW1 := Lib.hid hw1
  have HW2 := Lib.hid hw2
  clear h1 CC hb3 hB hP hR3 hw1 hw2 hw3 hR hT hz1 hz2 hz3
  go_enter Tryz.func34, Tryz.ntmps34
  go_upto_region 1 with fail
  rw [← HW1.out]
  go_upto_region 2 with fail
  rw [← HW2.out, HZ.out.1]
  go_wp2_with fail
  refine HC.out.mono ?_
  rintro e w5 ⟨w4, ht1, ht2, hres⟩
  have hb4 : Below w.heap.size w w4 := HB3.out.trans (ht1.below (B := w.heap.size) (fun k hk => by rw [List.mem_singleton.1 hk]; omega) (by have := HZ.out.2.2; omega))
  have hb5 : Below w.heap.size w w5 := hb4.trans (ht2.below (B := w.heap.size) (fun k hk => by rw [List.mem_singleton.1 hk]; have := HZ.out.2.1; omega) hb4.size)
  have hn1 : w.heap.size + 1 ∉ [w2.heap.size] := fun hm => by have := List.mem_singleton.1 hm; have := HZ.out.2.1; omega
  rcases hres with ⟨he, n0, pg, OP, S, T, kind, reps, ks, hPb, hPR⟩ | ⟨he, hPb, hL⟩
  · obtain rfl := he
    have hPb5 := hPb.turned ht2 hn1
    have k0 := hPb5.cell 0
    have hsz := HZ.out
    have hp5 := hPR.pool.turned (TurnedP.of ht2 (O := fun k => k = w2.heap.size) fun k _ hk => List.mem_singleton.1 hk) (fun k hk => by
      subst hk
      refine ⟨fun h => ?_, fun h => ?_, fun h => ?_⟩
      · have := hPR.pool.ge h; have := hPR.far; omega
      · have := hPR.apart _ (.inl h); omega
      · have := hPR.apart _ (.inr h); omega)
    have HV : Hid (ReadPost w bs (.returned (.tuple #[.pointer (some ⟨pg, 0, none⟩), .int .i64 0])) w5) :=
      ⟨hb5, .inr ⟨n0, pg, OP, S, T, kind, reps, ks, rfl, ⟨by have := hPR.far; omega, hp5, hPR.got, hPR.tiny, hPR.many, hPR.names, fun j hj => by have := hPR.apart j hj; omega, hPR.same⟩⟩⟩
    clear ht1 ht2 hb4 hb5 hn1 hPb hPR hPb5 hsz hp5
    go_wp2_with fail
    go_ret2
    exact HV.out
  · obtain rfl := he
    have hPb5 := hPb.turned ht2 hn1
    have k0 := hPb5.cell 0
    have HV : Hid (ReadPost w bs (.returned (.tuple #[.pointer none, .int .i64 90])) w5) := ⟨hb5, .inl ⟨rfl, hL⟩⟩
    clear ht1 ht2 hb4 hb5 hn1 hPb hL hPb5
    go_wp2_with fail
    go_ret2
    exact HV.out
/-- Nothing holds no pool. -/
theorem got_nothing (kind : Int) (reps : List Rep) (ps : List (Pkg × Nat)) (s' : RS) : ¬ GotP ⟨#[]⟩ r0S kind reps ps s' := by
  rintro ⟨s1, n, s2, h, -⟩
  have : decNum ⟨#[]⟩ r0S = none := by decide
  rw [this] at h
  cases h
theorem read_nil {w : World} (hT : Tabs w) : Calls Tryz.prog 34 #[.slice none 0 0] w fun e w' => e = .returned (.tuple #[.pointer none, .int .i64 90]) ∧ Below w.heap.size w w' := by
  have h : RestAt w w.heap.size ⟨#[]⟩ 0 0 0 none 0 := ⟨fun h => absurd h (by decide), Nat.le_refl _, by decide, fun i hi => absurd hi (Nat.not_lt_zero _), fun h => absurd h (by decide)⟩
  refine (read_any h (by decide) hT).mono ?_
  rintro e w' ⟨hb, ⟨he, -⟩ | ⟨n0, pg, OP, S, T, kind, reps, ks, -, hP⟩⟩
  · exact ⟨he, hb⟩
  · obtain ⟨s', hg⟩ := hP.got
    exact absurd hg (got_nothing _ _ _ _)
end Go.Proofs.YtpmfmkpfjomgnaaGreatDoor
