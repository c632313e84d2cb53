/- pack: its walk. A text of stanzas: pure, and the packages in memory. Parse as a fold over a text's lines: pure. A text of tags is read as packages: pure. -/
import Derived.Test.YtdhgiammfpjniaaGreatDoorZaav
import Derived.Laws.AppendOwnNone
import Derived.Test.YtdhgiammfpjniaaGreatDoorZaau
import Derived.Lib.FieldsP
/- pack: its walk. -/
namespace Go.Proofs.YtdhgiammfpjniaaGreatDoor
set_option linter.unusedSimpArgs false
set_option linter.unusedVariables false
open Go.RowKit

structure DbW (w : World) : Prop where
  base : DbS w
  flds : FldAt w
  tabs : Ev.Tabs w
theorem DbW.below {w w' : World} (h : DbW w) (hb : Below w.heap.size w w') : DbW w' := ⟨h.base.below hb, h.flds.turned (Turned.of_below hb []) (by simp), h.tabs.turned (Turned.of_below hb []) (fun x hx => by cases hx)⟩
theorem DbW.from {w0 w : World} (h : DbW w0) (hb : Below w0.heap.size w0 w) : DbW w := h.below hb
/-- What is known while a package is made. -/
structure PkW (w0 w : World) (B sm pb m1 m2 : Nat) (s : Stz) (vs : List Value) (T : Nat → Bs) (D : Nat → List Ev.Dep) : Prop where
  pk : PkSt w0 w pb T D
  sz : SzAt w B sm s vs
  env : DbW w
  m1 : w.heap[m1]? = some (mapO txtEs)
  m2 : w.heap[m2]? = some (mapO relEs)
  res : Blk w w0.heap.size 37 zero12
  ne : w0.heap.size < pb
section
variable {w0 w w' : World} {B sm pb m1 m2 : Nat} {s : Stz} {vs : List Value} {T : Nat → Bs} {D : Nat → List Ev.Dep}
theorem RowsS.turned {w w' : World} {B : Nat} {F : List Nat} (ht : Turned F w w') (hF : ∀ k ∈ F, ∀ cs, ¬ Blk w k 9 cs) : ∀ {s : Stz} {vs : List Value}, RowsS w B s vs → RowsS w' B s vs
  | [], [], _ => trivial
  | (_, l) :: r, v :: t, ⟨h1, h2, h3⟩ => ⟨h1, own_turned h2 ht (fun k hk hm => by
    rcases h2.2 with ⟨rfl, _⟩ | ⟨g, cap, cur, rfl, _, hg, _⟩
    · cases hk
    · injection hk with hk
      subst hk
      exact hF _ hm _ hg), h3.turned ht hF⟩
theorem PkW.below (h : PkW w0 w B sm pb m1 m2 s vs T D) (hb : Below w.heap.size w w') : PkW w0 w' B sm pb m1 m2 s vs T D := by
  obtain ⟨ss, rs, F, hp⟩ := h.pk
  exact ⟨⟨ss, rs, F, hp.below hb⟩, h.sz.below hb, h.env.below hb, map_below h.m1 hb, map_below h.m2 hb, Blk.mono h.res hb, h.ne⟩
theorem PkW.bel (h : PkW w0 w B sm pb m1 m2 s vs T D) : Below w0.heap.size w0 w := by
  obtain ⟨ss, rs, F, hp⟩ := h.pk
  exact hp.bel
/-- Only the package and its lists are turned. -/
theorem PkW.turn (h : PkW w0 w B sm pb m1 m2 s vs T D) {T' : Nat → Bs} {D' : Nat → List Ev.Dep} (hp : PkSt w0 w' pb T' D') {F : List Nat} (ht : Turned F w w') (hF : ∀ k ∈ F, k = pb ∨ (∃ cs, Blk w k 39 cs)) (hw : DbW w0) : PkW w0 w' B sm pb m1 m2 s vs T' D' := by
  obtain ⟨ss, rs, F0, hk⟩ := h.pk
  have hcell : ∀ k ∈ F, ∃ t cs, Blk w k t cs ∧ (t = 37 ∨ t = 39) := fun k hm => by
    rcases hF k hm with rfl | ⟨cs, hb⟩
    · exact ⟨_, _, hk.blk, .inl rfl⟩
    · exact ⟨_, _, hb, .inr rfl⟩
  have hmap : ∀ {m : Nat} {l : List (ByteArray × Value)}, w.heap[m]? = some (mapO l) → w'.heap[m]? = some (mapO l) := fun {m l} hm => map_turned' hm ht (fun hx => by
    obtain ⟨t, cs, hb, _⟩ := hcell _ hx
    exact map_not_blk hm hb rfl)
  obtain ⟨ss', rs', F', hp'⟩ := hp
  refine ⟨⟨ss', rs', F', hp'⟩, ⟨hmap h.sz.map, h.sz.rows.turned ht (fun k hm cs hb => ?_)⟩, hw.below hp'.bel, hmap h.m1, hmap h.m2, h.res.turned ht (fun hm => ?_), h.ne⟩
  · obtain ⟨t, cs', hb', ht'⟩ := hcell k hm
    refine Blk.kind hb' hb ?_ rfl
    rcases ht' with rfl | rfl <;> decide
  · rcases hF _ hm with e | ⟨cs, hb⟩
    · have := h.ne
      omega
    · exact Blk.kind hb h.res (by decide) rfl
theorem PkW.text (h : PkW w0 w B sm pb m1 m2 s vs T D) (hw : DbW w0) (i : Nat) (hi : i < 4) (x : Bs) : PkW w0 (w.setCell ⟨pb, i, none⟩ (.string (mkS x))) B sm pb m1 m2 s vs (updF T i x) D := by
  obtain ⟨ss, rs, F, hk⟩ := h.pk
  exact h.turn ⟨ss, rs, F, hk.text i hi x⟩ (F := [pb]) ((Turned.refl _ _).setCell (.inl (by simp)) _) (fun k hm => .inl (by simpa using hm)) hw
end
theorem cell_add_ {w : World} {g jj : Nat} {u : Value} (h : w.cell? ⟨g, jj, none⟩ = some u) : w.cell? ((⟨g, 0, none⟩ : Addr).add jj) = some u := by
  by_cases e : jj = 0
  · subst e
    exact h
  · simpa [Addr.add, e] using h
theorem set12 {w : World} {g : Nat} {z0 z1 z2 z3 z4 z5 z6 z7 z8 z9 z10 z11 : Value} (h : Blk w g 37 #[z0, z1, z2, z3, z4, z5, z6, z7, z8, z9, z10, z11]) (a0 a1 a2 a3 a4 a5 a6 a7 a8 a9 a10 a11 : Value) : Blk ((((((((((((w.setCell ⟨g, 0, none⟩ (a0)).setCell ⟨g, 1, none⟩ (a1)).setCell ⟨g, 2, none⟩ (a2)).setCell ⟨g, 3, none⟩ (a3)).setCell ⟨g, 4, none⟩ (a4)).setCell ⟨g, 5, none⟩ (a5)).setCell ⟨g, 6, none⟩ (a6)).setCell ⟨g, 7, none⟩ (a7)).setCell ⟨g, 8, none⟩ (a8)).setCell ⟨g, 9, none⟩ (a9)).setCell ⟨g, 10, none⟩ (a10)).setCell ⟨g, 11, none⟩ (a11)) g 37 #[a0, a1, a2, a3, a4, a5, a6, a7, a8, a9, a10, a11] := by
  have h0 : Blk (w.setCell ⟨g, 0, none⟩ a0) g 37 #[a0, z1, z2, z3, z4, z5, z6, z7, z8, z9, z10, z11] := by
    have := h.set_ 0 a0
    simpa using this
  have h1 : Blk ((w.setCell ⟨g, 0, none⟩ a0).setCell ⟨g, 1, none⟩ a1) g 37 #[a0, a1, z2, z3, z4, z5, z6, z7, z8, z9, z10, z11] := by
    have := h0.set_ 1 a1
    simpa using this
  have h2 : Blk (((w.setCell ⟨g, 0, none⟩ a0).setCell ⟨g, 1, none⟩ a1).setCell ⟨g, 2, none⟩ a2) g 37 #[a0, a1, a2, z3, z4, z5, z6, z7, z8, z9, z10, z11] := by
    have := h1.set_ 2 a2
    simpa using this
  have h3 : Blk ((((w.setCell ⟨g, 0, none⟩ a0).setCell ⟨g, 1, none⟩ a1).setCell ⟨g, 2, none⟩ a2).setCell ⟨g, 3, none⟩ a3) g 37 #[a0, a1, a2, a3, z4, z5, z6, z7, z8, z9, z10, z11] := by
    have := h2.set_ 3 a3
    simpa using this
  have h4 : Blk (((((w.setCell ⟨g, 0, none⟩ a0).setCell ⟨g, 1, none⟩ a1).setCell ⟨g, 2, none⟩ a2).setCell ⟨g, 3, none⟩ a3).setCell ⟨g, 4, none⟩ a4) g 37 #[a0, a1, a2, a3, a4, z5, z6, z7, z8, z9, z10, z11] := by
    have := h3.set_ 4 a4
    simpa using this
  have h5 : Blk ((((((w.setCell ⟨g, 0, none⟩ a0).setCell ⟨g, 1, none⟩ a1).setCell ⟨g, 2, none⟩ a2).setCell ⟨g, 3, none⟩ a3).setCell ⟨g, 4, none⟩ a4).setCell ⟨g, 5, none⟩ a5) g 37 #[a0, a1, a2, a3, a4, a5, z6, z7, z8, z9, z10, z11] := by
    have := h4.set_ 5 a5
    simpa using this
  have h6 : Blk (((((((w.setCell ⟨g, 0, none⟩ a0).setCell ⟨g, 1, none⟩ a1).setCell ⟨g, 2, none⟩ a2).setCell ⟨g, 3, none⟩ a3).setCell ⟨g, 4, none⟩ a4).setCell ⟨g, 5, none⟩ a5).setCell ⟨g, 6, none⟩ a6) g 37 #[a0, a1, a2, a3, a4, a5, a6, z7, z8, z9, z10, z11] := by
    have := h5.set_ 6 a6
    simpa using this
  have h7 : Blk ((((((((w.setCell ⟨g, 0, none⟩ a0).setCell ⟨g, 1, none⟩ a1).setCell ⟨g, 2, none⟩ a2).setCell ⟨g, 3, none⟩ a3).setCell ⟨g, 4, none⟩ a4).setCell ⟨g, 5, none⟩ a5).setCell ⟨g, 6, none⟩ a6).setCell ⟨g, 7, none⟩ a7) g 37 #[a0, a1, a2, a3, a4, a5, a6, a7, z8, z9, z10, z11] := by
    have := h6.set_ 7 a7
    simpa using this
  have h8 : Blk (((((((((w.setCell ⟨g, 0, none⟩ a0).setCell ⟨g, 1, none⟩ a1).setCell ⟨g, 2, none⟩ a2).setCell ⟨g, 3, none⟩ a3).setCell ⟨g, 4, none⟩ a4).setCell ⟨g, 5, none⟩ a5).setCell ⟨g, 6, none⟩ a6).setCell ⟨g, 7, none⟩ a7).setCell ⟨g, 8, none⟩ a8) g 37 #[a0, a1, a2, a3, a4, a5, a6, a7, a8, z9, z10, z11] := by
    have := h7.set_ 8 a8
    simpa using this
  have h9 : Blk ((((((((((w.setCell ⟨g, 0, none⟩ a0).setCell ⟨g, 1, none⟩ a1).setCell ⟨g, 2, none⟩ a2).setCell ⟨g, 3, none⟩ a3).setCell ⟨g, 4, none⟩ a4).setCell ⟨g, 5, none⟩ a5).setCell ⟨g, 6, none⟩ a6).setCell ⟨g, 7, none⟩ a7).setCell ⟨g, 8, none⟩ a8).setCell ⟨g, 9, none⟩ a9) g 37 #[a0, a1, a2, a3, a4, a5, a6, a7, a8, a9, z10, z11] := by
    have := h8.set_ 9 a9
    simpa using this
  have h10 : Blk (((((((((((w.setCell ⟨g, 0, none⟩ a0).setCell ⟨g, 1, none⟩ a1).setCell ⟨g, 2, none⟩ a2).setCell ⟨g, 3, none⟩ a3).setCell ⟨g, 4, none⟩ a4).setCell ⟨g, 5, none⟩ a5).setCell ⟨g, 6, none⟩ a6).setCell ⟨g, 7, none⟩ a7).setCell ⟨g, 8, none⟩ a8).setCell ⟨g, 9, none⟩ a9).setCell ⟨g, 10, none⟩ a10) g 37 #[a0, a1, a2, a3, a4, a5, a6, a7, a8, a9, a10, z11] := by
    have := h9.set_ 10 a10
    simpa using this
  have h11 : Blk ((((((((((((w.setCell ⟨g, 0, none⟩ a0).setCell ⟨g, 1, none⟩ a1).setCell ⟨g, 2, none⟩ a2).setCell ⟨g, 3, none⟩ a3).setCell ⟨g, 4, none⟩ a4).setCell ⟨g, 5, none⟩ a5).setCell ⟨g, 6, none⟩ a6).setCell ⟨g, 7, none⟩ a7).setCell ⟨g, 8, none⟩ a8).setCell ⟨g, 9, none⟩ a9).setCell ⟨g, 10, none⟩ a10).setCell ⟨g, 11, none⟩ a11) g 37 #[a0, a1, a2, a3, a4, a5, a6, a7, a8, a9, a10, a11] := by
    have := h10.set_ 11 a11
    simpa using this
  exact h11
end Go.Proofs.YtdhgiammfpjniaaGreatDoor

/- A text of stanzas: pure, and the packages in memory. -/
namespace Go.Proofs.YtdhgiammfpjniaaGreatDoor
set_option linter.unusedSimpArgs false
set_option linter.unusedVariables false
open Go.RowKit Go.MapKept

/-! The packages. -/
structure Pk5 where
  S : Fs
  ss : Nat → Value
  rs : Nat → Ev.Rows5
  F : List Nat
structure PkV (w : World) (x : Pk5) : Prop where
  own : ∀ i, i < 7 → w.ownsRow 0 39 5 (x.ss i) (x.rs i).length (Ev.cells5 (x.rs i))
  is : ∀ i, i < 7 → (x.rs i).map Prod.fst = x.S.D i
  lay : ∀ i, i < 7 → ∀ y ∈ x.rs i, Ev.Lay w (fun b => b ∈ x.F) y.1 y.2
  dep : ∀ b ∈ x.F, ∃ cs, Blk w b 39 cs
theorem own_zero {w : World} {base n sz : Nat} {e : TypeId} {v : Value} {xs : List Value} (h : w.ownsRow base e sz v n xs) : w.ownsRow 0 e sz v n xs := by
  refine ⟨h.1, ?_⟩
  rcases h.2 with h2 | ⟨g, cap, cur, h1, _, h3⟩
  · exact .inl h2
  · exact .inr ⟨g, cap, cur, h1, Nat.zero_le _, h3⟩
theorem PkM.val {w0 w : World} {pb : Nat} {T : Nat → Bs} {D : Nat → List Ev.Dep} {ss : Nat → Value} {rs : Nat → Ev.Rows5} {F : List Nat} (h : PkM w0 w pb T D ss rs F) : PkV w ⟨⟨T, D⟩, ss, rs, F⟩ :=
  ⟨fun i hi => own_zero (h.own i hi), h.is, h.lay, fun b hb => (h.dep b hb).2⟩
theorem PkV.turned {w w' : World} {x : Pk5} {R : List Nat} (h : PkV w x) (ht : Turned R w w') (hR : ∀ k ∈ R, w.heap.size ≤ k ∨ ∃ cs, Blk w k 37 cs) : PkV w' x := by
  have hn : ∀ b ∈ x.F, b ∉ R := fun b hb hm => by
    obtain ⟨cs', h2⟩ := h.dep b hb
    rcases hR b hm with h3 | ⟨cs, h3⟩
    · have := h2.lt
      omega
    · exact Blk.kind h2 h3 (by decide) rfl
  refine ⟨fun i hi => own_turned (h.own i hi) ht (fun k hk hm => ?_), h.is, fun i hi y hy => Ev.Lay.stay (fun _ h => h) (Ev.StayS.turned ht hn) y.1 y.2 (h.lay i hi y hy), fun b hb => ?_⟩
  · rcases hR k hm with h3 | ⟨cs, h3⟩
    · have := own_lt (h.own i hi) hk
      omega
    · exact own_kind (h.own i hi) h3 (by decide) hk
  · obtain ⟨cs', h2⟩ := h.dep b hb
    exact ⟨cs', h2.turned ht (hn b hb)⟩
theorem PkV.below {w w' : World} {x : Pk5} (h : PkV w x) (hb : Below w.heap.size w w') : PkV w' x := h.turned (Turned.of_below hb []) (fun k hk => by cases hk)
theorem PkV.list {w : World} {x : Pk5} (h : PkV w x) {i : Nat} (hi : i < 7) : Ev.ListAt w (DbB w) (x.S.D i) (x.ss i) := by
  have hD := h.is i hi
  have hlen : (x.S.D i).length = (x.rs i).length := by rw [← hD, List.length_map]
  rcases (h.own i hi).2 with ⟨hv, h0⟩ | ⟨g, cap, cur, hv, hb, hg, h1, h2, h3, ht⟩
  · have hr : x.rs i = [] := List.length_eq_zero_iff.1 h0
    rw [hr] at hD
    rw [← hD]
    exact ⟨none, 0, hv, Nat.le_refl _, by unfold maxLen; omega, fun _ => rfl, fun j a ha => by simp at ha⟩
  · refine ⟨some ⟨g, 0, none⟩, cap, by rw [hlen]; exact hv, by omega, h2, fun e => (by cases e), fun j a ha => ?_⟩
    rw [← hD, List.getElem?_map] at ha
    obtain ⟨y, hx, rfl⟩ := Option.map_eq_some_iff.1 ha
    obtain ⟨c0, c1, c2, c3, c4⟩ := Ev.cells5_at hx
    have hown := h.own i hi
    rw [hv] at hown
    have hat : ∀ {k : Nat} {u : Value}, (Ev.cells5 (x.rs i))[k]? = some u → w.cell? ⟨g, k, none⟩ = some u := fun {k u} hk => by
      obtain ⟨b, e, hc⟩ := own_ats hown hk
      injection e with e
      injection e with e
      subst e
      exact hc
    have hB : ∀ b, b ∈ x.F → DbB w b := fun b hb => h.dep b hb
    exact ⟨g, 0, y.2, rfl, ⟨cur, hg⟩, ⟨by rw [Nat.zero_add]; exact hat c0, by rw [Nat.zero_add]; exact hat c1, by rw [Nat.zero_add]; exact hat c2, by rw [Nat.zero_add]; exact hat c3, by rw [Nat.zero_add]; exact hat c4⟩, Ev.Lay.stay hB (Ev.StayS.refl _ _) y.1 y.2 (h.lay i hi y (List.mem_of_getElem? hx))⟩
theorem PkV.pkg {w : World} {x : Pk5} (h : PkV w x) : Ev.PkgAt w (DbB w) (fun _ => False) (pkgT x.S) x.ss (.slice none 0 0) :=
  ⟨fun i hi => by
    have e : (pkgT x.S).ls i = x.S.D i := if_pos hi
    rw [e]
    exact h.list hi, ⟨none, 0, rfl, Nat.le_refl _, by unfold maxLen; omega, fun _ => rfl, fun k s hk => by simp [pkgT] at hk⟩⟩
def rowsC : List Pk5 → List Value
  | [] => []
  | x :: r => (rowT x.S.T x.ss).toList ++ rowsC r
theorem rowsC_snoc (x : Pk5) : ∀ l : List Pk5, rowsC (l ++ [x]) = rowsC l ++ (rowT x.S.T x.ss).toList
  | [] => by show (rowT x.S.T x.ss).toList ++ [] = [] ++ _; rw [List.append_nil]; rfl
  | y :: r => by show _ ++ rowsC (r ++ [x]) = (_ ++ rowsC r) ++ _; rw [rowsC_snoc x r, List.append_assoc]
structure PsV (w0 w : World) (v : Value) (xs : List Pk5) : Prop where
  row : w.ownsRow w0.heap.size 37 12 v xs.length (rowsC xs)
  all : ∀ x ∈ xs, PkV w x
  bel : Below w0.heap.size w0 w
theorem PsV.below {w0 w w' : World} {v : Value} {xs : List Pk5} (h : PsV w0 w v xs) (hb : Below w.heap.size w w') : PsV w0 w' v xs :=
  ⟨own_turned h.row (Turned.of_below hb []) (fun k hk => by simp), fun x hx => (h.all x hx).below hb, h.bel.trans (hb.mono h.bel.size)⟩
theorem PsV.put {w0 w w2 : World} {v v' : Value} {xs : List Pk5} {x : Pk5} (h : PsV w0 w v xs) (hx : PkV w x) (hown : w2.ownsRow w0.heap.size 37 12 v' (xs.length + 1) (rowsC xs ++ (rowT x.S.T x.ss).toList)) (hg : w.grownBy w2 v.ownBlock) : PsV w0 w2 v' (xs ++ [x]) := by
  have ht : Turned v.ownBlock.toList w w2 := grown_turned hg
  have hR : ∀ k ∈ v.ownBlock.toList, w.heap.size ≤ k ∨ ∃ cs, Blk w k 37 cs := fun k hk => by
    have hk : v.ownBlock = some k := by simpa using hk
    rcases h.row.2 with ⟨rfl, _⟩ | ⟨g, cap, cur, rfl, _, hg, _⟩
    · cases hk
    · injection hk with hk
      subst hk
      exact .inr ⟨cur, hg⟩
  refine ⟨by rw [rowsC_snoc, List.length_append]; exact hown, fun y hy => ?_, h.bel.trans (ht.below (fun k hk => ?_) h.bel.size)⟩
  · rcases List.mem_append.1 hy with hy | hy
    · exact (h.all y hy).turned ht hR
    · rw [List.mem_singleton.1 hy]
      exact hx.turned ht hR
  · exact (h.row.lt k (by simpa using hk)).1
def ParsePost (w0 : World) (X : Except Int (List Fs)) (e : Ending) (w' : World) : Prop := match X with
  | .error n => e = .returned (.tuple #[.slice none 0 0, .int .i64 n]) ∧ n ≠ 0 ∧ Below w0.heap.size w0 w'
  | .ok l => ∃ v xs, e = .returned (.tuple #[v, .int .i64 0]) ∧ xs.map Pk5.S = l ∧ PsV w0 w' v xs
end Go.Proofs.YtdhgiammfpjniaaGreatDoor

/- Parse as a fold over a text's lines: pure. -/
namespace Go.Proofs.YtdhgiammfpjniaaGreatDoor
set_option linter.unusedSimpArgs false
set_option linter.unusedVariables false
open Go.RowKit Go.MapKept

def linesG : Bs → Bs → List Bs
  | [], cur => if cur = [] then [] else [cur]
  | c :: r, cur => if c = 10 then cur :: linesG r [] else linesG r (cur ++ [c])
def linesX (t : Bs) : List Bs := linesG t []
theorem cut10_cons (c : UInt8) (r : Bs) : Lib.cut (c :: r) [10] = if c = 10 then ([], r, true) else (c :: (Lib.cut r [10]).1, (Lib.cut r [10]).2.1, (Lib.cut r [10]).2.2) := by
  have hi : Lib.index (c :: r) [10] = if c = 10 then 0 else if Lib.index r [10] = -1 then -1 else Lib.index r [10] + 1 := by
    show (if ([10] : Bs).isPrefixOf (c :: r) = true then (0 : Int) else if (Lib.index r [10] == -1) = true then -1 else Lib.index r [10] + 1) = _
    by_cases h : c = 10
    · subst h
      rw [if_pos rfl]
      rfl
    · rw [if_neg h]
      have h2 : ([10] : Bs).isPrefixOf (c :: r) = false := by
        show ((10 : UInt8) == c && _) = false
        have : ((10 : UInt8) == c) = false := beq_eq_false_iff_ne.2 (fun e => h e.symm)
        rw [this]
        rfl
      rw [h2]
      simp
  by_cases h : c = 10
  · subst h
    rw [if_pos rfl] at hi
    rw [if_pos rfl]
    unfold Lib.cut
    rw [hi]
    rfl
  · rw [if_neg h] at hi ⊢
    have hg := Lib.index_ge r [10]
    unfold Lib.cut
    by_cases h1 : Lib.index r [10] = -1
    · rw [if_pos h1] at hi
      rw [hi, h1]
      rfl
    · rw [if_neg h1] at hi
      have h0 : 0 ≤ Lib.index r [10] := by omega
      rw [hi, if_pos h0, if_pos (by omega)]
      obtain ⟨k, hk⟩ : ∃ k : Nat, Lib.index r [10] = (k : Int) := ⟨(Lib.index r [10]).toNat, by omega⟩
      rw [hk]
      have e1 : ((k : Int) + 1).toNat = k + 1 := by omega
      have e2 : ((k : Int)).toNat = k := by omega
      rw [e1, e2]
      simp
theorem linesG_cut : ∀ (t cur : Bs), t ≠ [] → linesG t cur = (cur ++ (Lib.cut t [10]).1) :: linesG (Lib.cut t [10]).2.1 []
  | [], cur, h => absurd rfl h
  | c :: r, cur, _ => by
    rw [cut10_cons]
    by_cases hc : c = 10
    · rw [if_pos hc]
      show (if c = 10 then cur :: linesG r [] else _) = (cur ++ []) :: linesG r []
      rw [if_pos hc, List.append_nil]
    · rw [if_neg hc]
      show (if c = 10 then _ else linesG r (cur ++ [c])) = (cur ++ c :: (Lib.cut r [10]).1) :: linesG (Lib.cut r [10]).2.1 []
      rw [if_neg hc]
      cases r with
      | nil =>
        have e : Lib.cut ([] : Bs) [10] = ([], [], false) := rfl
        rw [e]
        show (if cur ++ [c] = [] then [] else [cur ++ [c]]) = (cur ++ [c]) :: linesG [] []
        rw [if_neg (by simp)]
        rfl
      | cons d r' =>
        rw [linesG_cut (d :: r') (cur ++ [c]) (by simp), List.append_assoc]
        rfl
theorem linesX_cut {t : Bs} (h : t ≠ []) : linesX t = (Lib.cut t [10]).1 :: linesX (Lib.cut t [10]).2.1 := by
  unfold linesX
  rw [linesG_cut t [] h, List.nil_append]
/-! The fold. -/
/-! Two texts, one behind the other. -/
/-! Lines that begin with #. -/
end Go.Proofs.YtdhgiammfpjniaaGreatDoor

/- A text of tags is read as packages: pure. -/
namespace Go.Proofs.YtdhgiammfpjniaaGreatDoor
set_option linter.unusedSimpArgs false
set_option linter.unusedVariables false
open Go.RowKit Go.MapKept

/-- A package's parts. -/
structure Sk where
  T : Nat → Bs
  D : Nat → List Ev.Dep
  fl : List Bs
def pkgS (S : Sk) : Ev.Pkg := ⟨mkS (S.T 0), mkS (S.T 1), mkS (S.T 2), mkS (S.T 3), fun i => if i < 7 then S.D i else [], S.fl.map mkS⟩
def chkS (S : Sk) : Int := chkD (pkgS S)
def pkgN : Bs := [80, 107, 103]
def verN_ : Bs := [86, 101, 114]
def vndN : Bs := [86, 110, 100]
def flsN : Bs := [70, 108, 115]
def tagsN : List Bs := [[80, 114, 118], [82, 101, 113], [80, 114, 113], [67, 111, 110], [79, 98, 115], [82, 101, 99], [83, 117, 112]]
def ixIn : List Bs → Bs → Nat → Option Nat
  | [], _, _ => none
  | a :: r, t, i => if t = a then some i else ixIn r t (i + 1)
/-- What a tag means. -/
inductive Mg where
  | none
  | vnd
  | fls
  | dep (i : Nat)
def mgOf (t : Bs) : Mg := if t = vndN then .vnd else if t = flsN then .fls else match ixIn tagsN t 0 with
  | some i => .dep i
  | none => .none
def actM (m : Mg) (S : Sk) (v : Bs) : Option Sk := match m with
  | .none => some S
  | .vnd => some ⟨updF S.T 3 v, S.D, S.fl⟩
  | .fls => some ⟨S.T, S.D, S.fl ++ [dTrim v]⟩
  | .dep i => match (Ev.parseD v).1 with
    | some d => some ⟨S.T, updF S.D i (S.D i ++ [d]), S.fl⟩
    | none => none
def putM (m : Mg) : List Bs → Sk → Option Sk
  | [], S => some S
  | v :: r, S => match actM m S v with
    | some S' => putM m r S'
    | none => none
def putT (t : Bs) (vs : List Bs) (S : Sk) : Option Sk := putM (mgOf t) vs S
/-- The last package gets a tag's values. -/
def lastT (t : Bs) (vs : List Bs) : List Sk → Option (List Sk)
  | [] => none
  | [S] => match putT t vs S with
    | some S' => some [S']
    | none => none
  | S :: r => match lastT t vs r with
    | some r' => some (S :: r')
    | none => none
def wholeS : List Sk → Int
  | [] => 0
  | [S] => chkS S
  | _ :: r => wholeS r
def blankP (n : Nat) : Bool := decide (n = 32)
def wordsS (v : Bs) : List Bs := (Go.Lib.goFieldsP blankP (mkS v)).map fun s => s.data.toList
def newS (a b d : Bs) : Sk := ⟨fun i => if i = 0 then a else if i = 1 then b else if i = 2 then d else [], fun _ => [], []⟩
def headS (l : List Bs) : Option Sk := match l with
  | [a, b, c, d] => some (newS a (if c = [45] then b else b ++ 45 :: c) d)
  | _ => none
def beginS (acc : List Sk) (v : Bs) : Except Int (List Sk) :=
  if wholeS acc ≠ 0 then .error (wholeS acc) else if 200 ≤ acc.length then .error 131 else match headS (wordsS v) with
  | some S => .ok (acc ++ [S])
  | none => .error 130
inductive LnR where
  | skip
  | bad
  | pack (v : Bs)
  | one (t v : Bs)
  | blk (t : Bs)
def isLay (l : Bs) : Bool := (dTrim l).isEmpty
def tagOk (c : Bs × Bs × Bool) : Bool := c.2.2 && !c.1.isEmpty && !decide (plainN dLayS c.1 < c.1.length)
def cutBlank (l : Bs) : Bs := if Lib.hasPrefix l [32] = true then l.drop 1 else l
/-- A line's sign, tag, what it says, whether it is any. -/
def partsS (l : Bs) : UInt8 × Bs × Bs × Bool :=
  let c := Lib.cut (l.drop 1) [58]
  if l.headD 0 = 61 then (61, c.1, cutBlank c.2.1, tagOk c)
  else if l.headD 0 = 43 then (43, c.1, c.2.1, tagOk c && isLay c.2.1)
  else (l.headD 0, c.1, c.2.1, false)
def lineP (x : UInt8 × Bs × Bs × Bool) (none_ : Bool) : LnR :=
  if x.2.2.2 = false then .bad
  else if x.1 = 61 ∧ x.2.1 = pkgN then .pack x.2.2.1
  else if (x.1 = 61 ∧ x.2.1 = verN_) ∧ none_ = true then .skip
  else if none_ = true then .bad
  else if x.1 = 43 then .blk x.2.1
  else .one x.2.1 x.2.2.1
def lineS (l : Bs) (none_ : Bool) : LnR := if isLay l = true ∨ l.headD 0 = 35 then .skip else lineP (partsS l) none_
def endB (t l : Bs) : Bool := Lib.hasPrefix l (45 :: t ++ [58]) && isLay (l.drop (t.length + 2))
def blockS (t : Bs) : List Bs → List Bs → Option (List Bs × List Bs)
  | [], _ => none
  | l :: r, vs => if endB t l = true then some (vs, r) else if isLay l = true then blockS t r vs else blockS t r (vs ++ [l])
def thenS (x : Option (List Sk)) (k : List Sk → Except Int (List Sk)) : Except Int (List Sk) := match x with
  | some a => k a
  | none => .error 130
def readS : Nat → List Bs → List Sk → Except Int (List Sk)
  | 0, _, acc => .ok acc
  | _ + 1, [], acc => if wholeS acc = 0 then .ok acc else .error (wholeS acc)
  | n + 1, l :: ls, acc => match lineS l acc.isEmpty with
    | .skip => readS n ls acc
    | .bad => .error 130
    | .pack v => match beginS acc v with
      | .error e => .error e
      | .ok a => readS n ls a
    | .one t v => thenS (lastT t [v] acc) (readS n ls)
    | .blk t => match blockS t ls [] with
      | none => .error 130
      | some (vs, ls') => thenS (lastT t vs acc) (readS n ls')
def parseS (text : Bs) : Except Int (List Sk) := if text.length ≤ 40000 then readS ((linesX text).length + 1) (linesX text) [] else .error 132
theorem block_len (t : Bs) : ∀ (ls vs : List Bs) (vs' ls' : List Bs), blockS t ls vs = some (vs', ls') → ls'.length < ls.length
  | [], _, _, _, h => by cases h
  | l :: r, vs, vs', ls', h => by
    have h : (if endB t l = true then some (vs, r) else if isLay l = true then blockS t r vs else blockS t r (vs ++ [l])) = some (vs', ls') := h
    by_cases h1 : endB t l = true
    · rw [if_pos h1] at h
      injection h with h
      injection h with _ h
      rw [← h]
      exact Nat.lt_succ_self _
    · rw [if_neg h1] at h
      by_cases h2 : isLay l = true
      · rw [if_pos h2] at h
        exact Nat.lt_succ_of_lt (block_len t r _ _ _ h)
      · rw [if_neg h2] at h
        exact Nat.lt_succ_of_lt (block_len t r _ _ _ h)
/-- More fuel than lines changes nothing. -/
theorem readS_fuel : ∀ (n m : Nat) (ls : List Bs) (acc : List Sk), ls.length < n → ls.length < m → readS n ls acc = readS m ls acc
  | 0, _, _, _, h, _ => absurd h (Nat.not_lt_zero _)
  | _, 0, _, _, _, h => absurd h (Nat.not_lt_zero _)
  | n + 1, m + 1, [], acc, _, _ => rfl
  | n + 1, m + 1, l :: ls, acc, hn, hm => by
    have hn : ls.length < n := Nat.lt_of_succ_lt_succ hn
    have hm : ls.length < m := Nat.lt_of_succ_lt_succ hm
    show (match lineS l acc.isEmpty with
      | .skip => readS n ls acc
      | .bad => .error 130
      | .pack v => match beginS acc v with
        | .error e => .error e
        | .ok a => readS n ls a
      | .one t v => thenS (lastT t [v] acc) (readS n ls)
      | .blk t => match blockS t ls [] with
        | none => .error 130
        | some (vs, ls') => thenS (lastT t vs acc) (readS n ls')) = (match lineS l acc.isEmpty with
      | .skip => readS m ls acc
      | .bad => .error 130
      | .pack v => match beginS acc v with
        | .error e => .error e
        | .ok a => readS m ls a
      | .one t v => thenS (lastT t [v] acc) (readS m ls)
      | .blk t => match blockS t ls [] with
        | none => .error 130
        | some (vs, ls') => thenS (lastT t vs acc) (readS m ls'))
    cases lineS l acc.isEmpty with
    | skip => exact readS_fuel n m ls acc hn hm
    | bad => rfl
    | pack v =>
      dsimp only
      cases beginS acc v with
      | error e => rfl
      | ok a => exact readS_fuel n m ls a hn hm
    | one t v =>
      dsimp only
      cases lastT t [v] acc with
      | none => rfl
      | some a => exact readS_fuel n m ls a hn hm
    | blk t =>
      dsimp only
      cases hb : blockS t ls [] with
      | none => rfl
      | some x =>
        obtain ⟨vs, ls'⟩ := x
        have := block_len t ls [] vs ls' hb
        dsimp only
        cases lastT t vs acc with
        | none => rfl
        | some a => exact readS_fuel n m ls' a (by omega) (by omega)
end Go.Proofs.YtdhgiammfpjniaaGreatDoor
