/- pack: its walk. -/
import Derived.Test.YtdhgiammfpjniaaGreatDoorZaba
import Derived.Laws.AppendOwnNone
/- pack: its walk. -/
namespace Go.Proofs.YtdhgiammfpjniaaGreatDoor
set_option linter.unusedSimpArgs false
set_option linter.unusedVariables false
open Go.RowKit

structure DbW (w : World) : Prop where
  base : DbS w
  flds : FldAt w
  tabs : Ev.Tabs w
theorem DbW.below {w w' : World} (h : DbW w) (hb : Below w.heap.size w w') : DbW w' := ⟨h.base.below hb, h.flds.turned (Turned.of_below hb []) (by simp), h.tabs.turned (Turned.of_below hb []) (fun x hx => by cases hx)⟩
theorem DbW.from {w0 w : World} (h : DbW w0) (hb : Below w0.heap.size w0 w) : DbW w := h.below hb
/-- What is known while a package is made. -/
structure PkW (w0 w : World) (B sm pb m1 m2 : Nat) (s : Stz) (vs : List Value) (T : Nat → Bs) (D : Nat → List Ev.Dep) : Prop where
  pk : PkSt w0 w pb T D
  sz : SzAt w B sm s vs
  env : DbW w
  m1 : w.heap[m1]? = some (mapO txtEs)
  m2 : w.heap[m2]? = some (mapO relEs)
  res : Blk w w0.heap.size 37 zero12
  ne : w0.heap.size < pb
section
variable {w0 w w' : World} {B sm pb m1 m2 : Nat} {s : Stz} {vs : List Value} {T : Nat → Bs} {D : Nat → List Ev.Dep}
theorem RowsS.turned {w w' : World} {B : Nat} {F : List Nat} (ht : Turned F w w') (hF : ∀ k ∈ F, ∀ cs, ¬ Blk w k 9 cs) : ∀ {s : Stz} {vs : List Value}, RowsS w B s vs → RowsS w' B s vs
  | [], [], _ => trivial
  | (_, l) :: r, v :: t, ⟨h1, h2, h3⟩ => ⟨h1, own_turned h2 ht (fun k hk hm => by
    rcases h2.2 with ⟨rfl, _⟩ | ⟨g, cap, cur, rfl, _, hg, _⟩
    · cases hk
    · injection hk with hk
      subst hk
      exact hF _ hm _ hg), h3.turned ht hF⟩
theorem PkW.below (h : PkW w0 w B sm pb m1 m2 s vs T D) (hb : Below w.heap.size w w') : PkW w0 w' B sm pb m1 m2 s vs T D := by
  obtain ⟨ss, rs, F, hp⟩ := h.pk
  exact ⟨⟨ss, rs, F, hp.below hb⟩, h.sz.below hb, h.env.below hb, map_below h.m1 hb, map_below h.m2 hb, Blk.mono h.res hb, h.ne⟩
theorem PkW.bel (h : PkW w0 w B sm pb m1 m2 s vs T D) : Below w0.heap.size w0 w := by
  obtain ⟨ss, rs, F, hp⟩ := h.pk
  exact hp.bel
/-- Only the package and its lists are turned. -/
theorem PkW.turn (h : PkW w0 w B sm pb m1 m2 s vs T D) {T' : Nat → Bs} {D' : Nat → List Ev.Dep} (hp : PkSt w0 w' pb T' D') {F : List Nat} (ht : Turned F w w') (hF : ∀ k ∈ F, k = pb ∨ (∃ cs, Blk w k 39 cs)) (hw : DbW w0) : PkW w0 w' B sm pb m1 m2 s vs T' D' := by
  obtain ⟨ss, rs, F0, hk⟩ := h.pk
  have hcell : ∀ k ∈ F, ∃ t cs, Blk w k t cs ∧ (t = 37 ∨ t = 39) := fun k hm => by
    rcases hF k hm with rfl | ⟨cs, hb⟩
    · exact ⟨_, _, hk.blk, .inl rfl⟩
    · exact ⟨_, _, hb, .inr rfl⟩
  have hmap : ∀ {m : Nat} {l : List (ByteArray × Value)}, w.heap[m]? = some (mapO l) → w'.heap[m]? = some (mapO l) := fun {m l} hm => map_turned' hm ht (fun hx => by
    obtain ⟨t, cs, hb, _⟩ := hcell _ hx
    exact map_not_blk hm hb rfl)
  obtain ⟨ss', rs', F', hp'⟩ := hp
  refine ⟨⟨ss', rs', F', hp'⟩, ⟨hmap h.sz.map, h.sz.rows.turned ht (fun k hm cs hb => ?_)⟩, hw.below hp'.bel, hmap h.m1, hmap h.m2, h.res.turned ht (fun hm => ?_), h.ne⟩
  · obtain ⟨t, cs', hb', ht'⟩ := hcell k hm
    refine Blk.kind hb' hb ?_ rfl
    rcases ht' with rfl | rfl <;> decide
  · rcases hF _ hm with e | ⟨cs, hb⟩
    · have := h.ne
      omega
    · exact Blk.kind hb h.res (by decide) rfl
theorem PkW.text (h : PkW w0 w B sm pb m1 m2 s vs T D) (hw : DbW w0) (i : Nat) (hi : i < 4) (x : Bs) : PkW w0 (w.setCell ⟨pb, i, none⟩ (.string (mkS x))) B sm pb m1 m2 s vs (updF T i x) D := by
  obtain ⟨ss, rs, F, hk⟩ := h.pk
  exact h.turn ⟨ss, rs, F, hk.text i hi x⟩ (F := [pb]) ((Turned.refl _ _).setCell (.inl (by simp)) _) (fun k hm => .inl (by simpa using hm)) hw
theorem own_deps {base n sz : Nat} {v : Value} {xs : List Value} (h : w.ownsRow base 39 sz v n xs) : ∀ k ∈ v.ownBlock.toList, ∃ cs, Blk w k 39 cs := fun k hk => by
  have hk : v.ownBlock = some k := by simpa using hk
  rcases h.2 with ⟨rfl, _⟩ | ⟨g, cap, cur, rfl, _, hg, _⟩
  · cases hk
  · injection hk with hk
    subst hk
    exact ⟨cur, hg⟩
end
theorem PkM.turn1 {w0 w w' : World} {pb rb : Nat} {T : Nat → Bs} {D : Nat → List Ev.Dep} {ss : Nat → Value} {rs : Nat → Ev.Rows5} {F : List Nat} (h : PkM w0 w pb T D ss rs F) (ht : Turned [rb] w w') {cs : Array Value} (hr : Blk w rb 37 cs) (hne : rb ≠ pb) (hge : w0.heap.size ≤ rb) : PkM w0 w' pb T D ss rs F := by
  have hn : ∀ b ∈ F, b ∉ [rb] := fun b hb hm => by
    obtain ⟨_, cs', h2⟩ := h.dep b hb
    simp at hm
    exact Blk.kind h2 hr (by decide) hm
  refine ⟨h.blk.turned ht (fun hm => by simp at hm; exact hne hm.symm), fun j hj => own_turned (h.own j hj) ht (fun k hk hm => ?_), h.is, fun j hj y hy => Ev.Lay.stay (fun _ h => h) (Ev.StayS.turned ht hn) y.1 y.2 (h.lay j hj y hy), h.far, h.apart, fun b hb => ?_, h.pge, h.bel.trans (ht.below (fun k hk => by simp at hk; rw [hk]; exact hge) h.bel.size)⟩
  · simp at hm
    exact own_kind (h.own j hj) hr (by decide) (by rw [hk, hm])
  · obtain ⟨h1, cs', h2⟩ := h.dep b hb
    exact ⟨h1, cs', h2.turned ht (hn b hb)⟩
theorem cell_add_ {w : World} {g jj : Nat} {u : Value} (h : w.cell? ⟨g, jj, none⟩ = some u) : w.cell? ((⟨g, 0, none⟩ : Addr).add jj) = some u := by
  by_cases e : jj = 0
  · subst e
    exact h
  · simpa [Addr.add, e] using h
theorem all_is {l : Bs} (h : l = allN) : ((mkS l).toList == ([97, 108, 108] : List UInt8)) = true := by subst h; first | rfl | kernel_rfl | decide +kernel
theorem all_no {l : Bs} (h : ¬ l = allN) : ((mkS l).toList == ([97, 108, 108] : List UInt8)) = false := by
  have h1 := str_ne (a := mkS l) (b := mkS allN) (fun e => h (mkS_inj_ e))
  have h2 : (mkS allN).toList = [97, 108, 108] := by first | rfl | kernel_rfl | decide +kernel
  rw [h2] at h1
  exact h1
theorem set12 {w : World} {g : Nat} {z0 z1 z2 z3 z4 z5 z6 z7 z8 z9 z10 z11 : Value} (h : Blk w g 37 #[z0, z1, z2, z3, z4, z5, z6, z7, z8, z9, z10, z11]) (a0 a1 a2 a3 a4 a5 a6 a7 a8 a9 a10 a11 : Value) : Blk ((((((((((((w.setCell ⟨g, 0, none⟩ (a0)).setCell ⟨g, 1, none⟩ (a1)).setCell ⟨g, 2, none⟩ (a2)).setCell ⟨g, 3, none⟩ (a3)).setCell ⟨g, 4, none⟩ (a4)).setCell ⟨g, 5, none⟩ (a5)).setCell ⟨g, 6, none⟩ (a6)).setCell ⟨g, 7, none⟩ (a7)).setCell ⟨g, 8, none⟩ (a8)).setCell ⟨g, 9, none⟩ (a9)).setCell ⟨g, 10, none⟩ (a10)).setCell ⟨g, 11, none⟩ (a11)) g 37 #[a0, a1, a2, a3, a4, a5, a6, a7, a8, a9, a10, a11] := by
  have h0 : Blk (w.setCell ⟨g, 0, none⟩ a0) g 37 #[a0, z1, z2, z3, z4, z5, z6, z7, z8, z9, z10, z11] := by
    have := h.set_ 0 a0
    simpa using this
  have h1 : Blk ((w.setCell ⟨g, 0, none⟩ a0).setCell ⟨g, 1, none⟩ a1) g 37 #[a0, a1, z2, z3, z4, z5, z6, z7, z8, z9, z10, z11] := by
    have := h0.set_ 1 a1
    simpa using this
  have h2 : Blk (((w.setCell ⟨g, 0, none⟩ a0).setCell ⟨g, 1, none⟩ a1).setCell ⟨g, 2, none⟩ a2) g 37 #[a0, a1, a2, z3, z4, z5, z6, z7, z8, z9, z10, z11] := by
    have := h1.set_ 2 a2
    simpa using this
  have h3 : Blk ((((w.setCell ⟨g, 0, none⟩ a0).setCell ⟨g, 1, none⟩ a1).setCell ⟨g, 2, none⟩ a2).setCell ⟨g, 3, none⟩ a3) g 37 #[a0, a1, a2, a3, z4, z5, z6, z7, z8, z9, z10, z11] := by
    have := h2.set_ 3 a3
    simpa using this
  have h4 : Blk (((((w.setCell ⟨g, 0, none⟩ a0).setCell ⟨g, 1, none⟩ a1).setCell ⟨g, 2, none⟩ a2).setCell ⟨g, 3, none⟩ a3).setCell ⟨g, 4, none⟩ a4) g 37 #[a0, a1, a2, a3, a4, z5, z6, z7, z8, z9, z10, z11] := by
    have := h3.set_ 4 a4
    simpa using this
  have h5 : Blk ((((((w.setCell ⟨g, 0, none⟩ a0).setCell ⟨g, 1, none⟩ a1).setCell ⟨g, 2, none⟩ a2).setCell ⟨g, 3, none⟩ a3).setCell ⟨g, 4, none⟩ a4).setCell ⟨g, 5, none⟩ a5) g 37 #[a0, a1, a2, a3, a4, a5, z6, z7, z8, z9, z10, z11] := by
    have := h4.set_ 5 a5
    simpa using this
  have h6 : Blk (((((((w.setCell ⟨g, 0, none⟩ a0).setCell ⟨g, 1, none⟩ a1).setCell ⟨g, 2, none⟩ a2).setCell ⟨g, 3, none⟩ a3).setCell ⟨g, 4, none⟩ a4).setCell ⟨g, 5, none⟩ a5).setCell ⟨g, 6, none⟩ a6) g 37 #[a0, a1, a2, a3, a4, a5, a6, z7, z8, z9, z10, z11] := by
    have := h5.set_ 6 a6
    simpa using this
  have h7 : Blk ((((((((w.setCell ⟨g, 0, none⟩ a0).setCell ⟨g, 1, none⟩ a1).setCell ⟨g, 2, none⟩ a2).setCell ⟨g, 3, none⟩ a3).setCell ⟨g, 4, none⟩ a4).setCell ⟨g, 5, none⟩ a5).setCell ⟨g, 6, none⟩ a6).setCell ⟨g, 7, none⟩ a7) g 37 #[a0, a1, a2, a3, a4, a5, a6, a7, z8, z9, z10, z11] := by
    have := h6.set_ 7 a7
    simpa using this
  have h8 : Blk (((((((((w.setCell ⟨g, 0, none⟩ a0).setCell ⟨g, 1, none⟩ a1).setCell ⟨g, 2, none⟩ a2).setCell ⟨g, 3, none⟩ a3).setCell ⟨g, 4, none⟩ a4).setCell ⟨g, 5, none⟩ a5).setCell ⟨g, 6, none⟩ a6).setCell ⟨g, 7, none⟩ a7).setCell ⟨g, 8, none⟩ a8) g 37 #[a0, a1, a2, a3, a4, a5, a6, a7, a8, z9, z10, z11] := by
    have := h7.set_ 8 a8
    simpa using this
  have h9 : Blk ((((((((((w.setCell ⟨g, 0, none⟩ a0).setCell ⟨g, 1, none⟩ a1).setCell ⟨g, 2, none⟩ a2).setCell ⟨g, 3, none⟩ a3).setCell ⟨g, 4, none⟩ a4).setCell ⟨g, 5, none⟩ a5).setCell ⟨g, 6, none⟩ a6).setCell ⟨g, 7, none⟩ a7).setCell ⟨g, 8, none⟩ a8).setCell ⟨g, 9, none⟩ a9) g 37 #[a0, a1, a2, a3, a4, a5, a6, a7, a8, a9, z10, z11] := by
    have := h8.set_ 9 a9
    simpa using this
  have h10 : Blk (((((((((((w.setCell ⟨g, 0, none⟩ a0).setCell ⟨g, 1, none⟩ a1).setCell ⟨g, 2, none⟩ a2).setCell ⟨g, 3, none⟩ a3).setCell ⟨g, 4, none⟩ a4).setCell ⟨g, 5, none⟩ a5).setCell ⟨g, 6, none⟩ a6).setCell ⟨g, 7, none⟩ a7).setCell ⟨g, 8, none⟩ a8).setCell ⟨g, 9, none⟩ a9).setCell ⟨g, 10, none⟩ a10) g 37 #[a0, a1, a2, a3, a4, a5, a6, a7, a8, a9, a10, z11] := by
    have := h9.set_ 10 a10
    simpa using this
  have h11 : Blk ((((((((((((w.setCell ⟨g, 0, none⟩ a0).setCell ⟨g, 1, none⟩ a1).setCell ⟨g, 2, none⟩ a2).setCell ⟨g, 3, none⟩ a3).setCell ⟨g, 4, none⟩ a4).setCell ⟨g, 5, none⟩ a5).setCell ⟨g, 6, none⟩ a6).setCell ⟨g, 7, none⟩ a7).setCell ⟨g, 8, none⟩ a8).setCell ⟨g, 9, none⟩ a9).setCell ⟨g, 10, none⟩ a10).setCell ⟨g, 11, none⟩ a11) g 37 #[a0, a1, a2, a3, a4, a5, a6, a7, a8, a9, a10, a11] := by
    have := h10.set_ 11 a11
    simpa using this
  exact h11
theorem turned12 (w : World) (g : Nat) (a0 a1 a2 a3 a4 a5 a6 a7 a8 a9 a10 a11 : Value) : Turned [g] w ((((((((((((w.setCell ⟨g, 0, none⟩ a0).setCell ⟨g, 1, none⟩ a1).setCell ⟨g, 2, none⟩ a2).setCell ⟨g, 3, none⟩ a3).setCell ⟨g, 4, none⟩ a4).setCell ⟨g, 5, none⟩ a5).setCell ⟨g, 6, none⟩ a6).setCell ⟨g, 7, none⟩ a7).setCell ⟨g, 8, none⟩ a8).setCell ⟨g, 9, none⟩ a9).setCell ⟨g, 10, none⟩ a10).setCell ⟨g, 11, none⟩ a11) := ((((((((((((Turned.refl [g] w).setCell (.inl (List.mem_singleton.2 rfl)) a0).setCell (.inl (List.mem_singleton.2 rfl)) a1).setCell (.inl (List.mem_singleton.2 rfl)) a2).setCell (.inl (List.mem_singleton.2 rfl)) a3).setCell (.inl (List.mem_singleton.2 rfl)) a4).setCell (.inl (List.mem_singleton.2 rfl)) a5).setCell (.inl (List.mem_singleton.2 rfl)) a6).setCell (.inl (List.mem_singleton.2 rfl)) a7).setCell (.inl (List.mem_singleton.2 rfl)) a8).setCell (.inl (List.mem_singleton.2 rfl)) a9).setCell (.inl (List.mem_singleton.2 rfl)) a10).setCell (.inl (List.mem_singleton.2 rfl)) a11
theorem grown_refl (w : World) (row : Option Nat) : w.grownBy w row := ⟨rfl, rfl, rfl, Nat.le_refl _, fun _ _ _ => rfl⟩
theorem list_len : ∀ (ps : List Bs) (ds : List Ev.Dep), listX ps = some ds → ds.length = ps.length
  | [], ds, h => by
    injection h with h
    subst h
    rfl
  | p :: r, ds, h => by
    have h : (match someX (partsX 124 p) with
      | none => none
      | some ds => (listX r).map fun l => oneX ds :: l) = some ds := h
    cases hs : someX (partsX 124 p) with
    | none => rw [hs] at h; cases h
    | some d0 =>
      rw [hs] at h
      obtain ⟨d2, h2, rfl⟩ := Option.map_eq_some_iff.1 h
      rw [List.length_cons, list_len r d2 h2]
      rfl
set_option maxRecDepth 100000 in
theorem deps_len {l : Bs} {ds : List Ev.Dep} (hl : l.length ≤ 100000) (h : depsX l = some ds) : ds.length ≤ 100001 := by
  unfold depsX at h
  split at h
  · injection h with h
    subst h
    simp
  · rw [list_len _ _ h]
    exact Nat.le_trans (parts_many 44 l) (by omega)
set_option maxRecDepth 100000 in
theorem fold_len {s : Stz} {L : Nat} (hz : ∀ k ds, depsX (txF s k) = some ds → ds.length ≤ L) : ∀ (k : Nat) (S : Fs), foldF s k = some S → ∀ i, (S.D i).length ≤ k * L
  | 0, S, h => by
    injection h with h
    subst h
    intro i
    exact Nat.zero_le _
  | k + 1, S, h => by
    obtain ⟨S0, h0, h1⟩ := Option.bind_eq_some_iff.1 h
    have ih := fold_len hz k S0 h0
    unfold stepF at h1
    split at h1
    · injection h1 with h1
      subst h1
      intro i
      rw [Nat.succ_mul]
      exact Nat.le_add_right_of_le (ih i)
    · cases hd0 : depsX (txF s k) with
      | none => rw [hd0] at h1; cases h1
      | some ds =>
        rw [hd0] at h1
        injection h1 with h1
        subst h1
        intro i
        have h2 := hz _ _ hd0
        show (updF S0.D (relI k) (S0.D (relI k) ++ ds) i).length ≤ _
        by_cases e : i = relI k
        · subst e
          rw [updF_same, List.length_append, Nat.succ_mul]
          exact Nat.add_le_add (ih (relI k)) h2
        · rw [updF_other _ _ e, Nat.succ_mul]
          exact Nat.le_add_right_of_le (ih i)
set_option maxHeartbeats 64000000 in
set_option maxRecDepth 1000000 in
theorem pack_any (s : Stz) (sm B : Nat) (vs : List Value) (w : World) (hS : SzAt w B sm s vs) (hz : ∀ n, (joinX (getS s n)).length ≤ 100000) (hn : ∀ n, (getS s n).length ≤ 1000000) (hW : DbW w) :
    Calls Tryz.prog 22 #[.map (some sm)] w (PackPost w (packX s)) := by
  have CT := Lib.hid (fun w => textFields_any w)
  have CR := Lib.hid (fun w => relationFields_any w)
  have CX := Lib.hid (fun (k : Nat) (v : Value) (wx : World) (h : GotS wx (getS s (fldL.getD k [])) v) => join_any h (hz _) (hn _))
  have CC := Lib.hid (fun (k : Nat) wx => clone_long (txF s k) (Nat.le_trans (hz _) (by omega)) wx)
  have CL := Lib.hid (fun (k : Nat) wx (h : DbS wx) => relations_any (txF s k) (hz _) wx h)
  have HZ := Lib.hid hz
  have HW := Lib.hid hW
  have eqn := eqlRn
  have eqf := eqlRf
  obtain ⟨i, z, hi, hz0, hz1, hz2, hz3⟩ := Ev.info_dep5
  have HI := Lib.hid hi
  have ix0 : ∀ w, (Instr.index 84 (.agg #[.string (mkS [80, 97, 99, 107, 97, 103, 101]), .string (mkS [86, 101, 114, 115, 105, 111, 110]), .string (mkS [65, 114, 99, 104, 105, 116, 101, 99, 116, 117, 114, 101]), .string (mkS [79, 114, 105, 103, 105, 110]), .string (mkS [80, 114, 111, 118, 105, 100, 101, 115]), .string (mkS [68, 101, 112, 101, 110, 100, 115]), .string (mkS [80, 114, 101, 45, 68, 101, 112, 101, 110, 100, 115]), .string (mkS [67, 111, 110, 102, 108, 105, 99, 116, 115]), .string (mkS [66, 114, 101, 97, 107, 115]), .string (mkS [82, 101, 112, 108, 97, 99, 101, 115]), .string (mkS [82, 101, 99, 111, 109, 109, 101, 110, 100, 115]), .string (mkS [69, 110, 104, 97, 110, 99, 101, 115])]) (.int .i64 0)).run Tryz.prog w = .ok (.string (mkS [80, 97, 99, 107, 97, 103, 101])) w := fun _ => by kernel_rfl
  have ix1 : ∀ w, (Instr.index 84 (.agg #[.string (mkS [80, 97, 99, 107, 97, 103, 101]), .string (mkS [86, 101, 114, 115, 105, 111, 110]), .string (mkS [65, 114, 99, 104, 105, 116, 101, 99, 116, 117, 114, 101]), .string (mkS [79, 114, 105, 103, 105, 110]), .string (mkS [80, 114, 111, 118, 105, 100, 101, 115]), .string (mkS [68, 101, 112, 101, 110, 100, 115]), .string (mkS [80, 114, 101, 45, 68, 101, 112, 101, 110, 100, 115]), .string (mkS [67, 111, 110, 102, 108, 105, 99, 116, 115]), .string (mkS [66, 114, 101, 97, 107, 115]), .string (mkS [82, 101, 112, 108, 97, 99, 101, 115]), .string (mkS [82, 101, 99, 111, 109, 109, 101, 110, 100, 115]), .string (mkS [69, 110, 104, 97, 110, 99, 101, 115])]) (.int .i64 1)).run Tryz.prog w = .ok (.string (mkS [86, 101, 114, 115, 105, 111, 110])) w := fun _ => by kernel_rfl
  have ix2 : ∀ w, (Instr.index 84 (.agg #[.string (mkS [80, 97, 99, 107, 97, 103, 101]), .string (mkS [86, 101, 114, 115, 105, 111, 110]), .string (mkS [65, 114, 99, 104, 105, 116, 101, 99, 116, 117, 114, 101]), .string (mkS [79, 114, 105, 103, 105, 110]), .string (mkS [80, 114, 111, 118, 105, 100, 101, 115]), .string (mkS [68, 101, 112, 101, 110, 100, 115]), .string (mkS [80, 114, 101, 45, 68, 101, 112, 101, 110, 100, 115]), .string (mkS [67, 111, 110, 102, 108, 105, 99, 116, 115]), .string (mkS [66, 114, 101, 97, 107, 115]), .string (mkS [82, 101, 112, 108, 97, 99, 101, 115]), .string (mkS [82, 101, 99, 111, 109, 109, 101, 110, 100, 115]), .string (mkS [69, 110, 104, 97, 110, 99, 101, 115])]) (.int .i64 2)).run Tryz.prog w = .ok (.string (mkS [65, 114, 99, 104, 105, 116, 101, 99, 116, 117, 114, 101])) w := fun _ => by kernel_rfl
  have ix3 : ∀ w, (Instr.index 84 (.agg #[.string (mkS [80, 97, 99, 107, 97, 103, 101]), .string (mkS [86, 101, 114, 115, 105, 111, 110]), .string (mkS [65, 114, 99, 104, 105, 116, 101, 99, 116, 117, 114, 101]), .string (mkS [79, 114, 105, 103, 105, 110]), .string (mkS [80, 114, 111, 118, 105, 100, 101, 115]), .string (mkS [68, 101, 112, 101, 110, 100, 115]), .string (mkS [80, 114, 101, 45, 68, 101, 112, 101, 110, 100, 115]), .string (mkS [67, 111, 110, 102, 108, 105, 99, 116, 115]), .string (mkS [66, 114, 101, 97, 107, 115]), .string (mkS [82, 101, 112, 108, 97, 99, 101, 115]), .string (mkS [82, 101, 99, 111, 109, 109, 101, 110, 100, 115]), .string (mkS [69, 110, 104, 97, 110, 99, 101, 115])]) (.int .i64 3)).run Tryz.prog w = .ok (.string (mkS [79, 114, 105, 103, 105, 110])) w := fun _ => by kernel_rfl
  have ix4 : ∀ w, (Instr.index 84 (.agg #[.string (mkS [80, 97, 99, 107, 97, 103, 101]), .string (mkS [86, 101, 114, 115, 105, 111, 110]), .string (mkS [65, 114, 99, 104, 105, 116, 101, 99, 116, 117, 114, 101]), .string (mkS [79, 114, 105, 103, 105, 110]), .string (mkS [80, 114, 111, 118, 105, 100, 101, 115]), .string (mkS [68, 101, 112, 101, 110, 100, 115]), .string (mkS [80, 114, 101, 45, 68, 101, 112, 101, 110, 100, 115]), .string (mkS [67, 111, 110, 102, 108, 105, 99, 116, 115]), .string (mkS [66, 114, 101, 97, 107, 115]), .string (mkS [82, 101, 112, 108, 97, 99, 101, 115]), .string (mkS [82, 101, 99, 111, 109, 109, 101, 110, 100, 115]), .string (mkS [69, 110, 104, 97, 110, 99, 101, 115])]) (.int .i64 4)).run Tryz.prog w = .ok (.string (mkS [80, 114, 111, 118, 105, 100, 101, 115])) w := fun _ => by kernel_rfl
  have ix5 : ∀ w, (Instr.index 84 (.agg #[.string (mkS [80, 97, 99, 107, 97, 103, 101]), .string (mkS [86, 101, 114, 115, 105, 111, 110]), .string (mkS [65, 114, 99, 104, 105, 116, 101, 99, 116, 117, 114, 101]), .string (mkS [79, 114, 105, 103, 105, 110]), .string (mkS [80, 114, 111, 118, 105, 100, 101, 115]), .string (mkS [68, 101, 112, 101, 110, 100, 115]), .string (mkS [80, 114, 101, 45, 68, 101, 112, 101, 110, 100, 115]), .string (mkS [67, 111, 110, 102, 108, 105, 99, 116, 115]), .string (mkS [66, 114, 101, 97, 107, 115]), .string (mkS [82, 101, 112, 108, 97, 99, 101, 115]), .string (mkS [82, 101, 99, 111, 109, 109, 101, 110, 100, 115]), .string (mkS [69, 110, 104, 97, 110, 99, 101, 115])]) (.int .i64 5)).run Tryz.prog w = .ok (.string (mkS [68, 101, 112, 101, 110, 100, 115])) w := fun _ => by kernel_rfl
  have ix6 : ∀ w, (Instr.index 84 (.agg #[.string (mkS [80, 97, 99, 107, 97, 103, 101]), .string (mkS [86, 101, 114, 115, 105, 111, 110]), .string (mkS [65, 114, 99, 104, 105, 116, 101, 99, 116, 117, 114, 101]), .string (mkS [79, 114, 105, 103, 105, 110]), .string (mkS [80, 114, 111, 118, 105, 100, 101, 115]), .string (mkS [68, 101, 112, 101, 110, 100, 115]), .string (mkS [80, 114, 101, 45, 68, 101, 112, 101, 110, 100, 115]), .string (mkS [67, 111, 110, 102, 108, 105, 99, 116, 115]), .string (mkS [66, 114, 101, 97, 107, 115]), .string (mkS [82, 101, 112, 108, 97, 99, 101, 115]), .string (mkS [82, 101, 99, 111, 109, 109, 101, 110, 100, 115]), .string (mkS [69, 110, 104, 97, 110, 99, 101, 115])]) (.int .i64 6)).run Tryz.prog w = .ok (.string (mkS [80, 114, 101, 45, 68, 101, 112, 101, 110, 100, 115])) w := fun _ => by kernel_rfl
  have ix7 : ∀ w, (Instr.index 84 (.agg #[.string (mkS [80, 97, 99, 107, 97, 103, 101]), .string (mkS [86, 101, 114, 115, 105, 111, 110]), .string (mkS [65, 114, 99, 104, 105, 116, 101, 99, 116, 117, 114, 101]), .string (mkS [79, 114, 105, 103, 105, 110]), .string (mkS [80, 114, 111, 118, 105, 100, 101, 115]), .string (mkS [68, 101, 112, 101, 110, 100, 115]), .string (mkS [80, 114, 101, 45, 68, 101, 112, 101, 110, 100, 115]), .string (mkS [67, 111, 110, 102, 108, 105, 99, 116, 115]), .string (mkS [66, 114, 101, 97, 107, 115]), .string (mkS [82, 101, 112, 108, 97, 99, 101, 115]), .string (mkS [82, 101, 99, 111, 109, 109, 101, 110, 100, 115]), .string (mkS [69, 110, 104, 97, 110, 99, 101, 115])]) (.int .i64 7)).run Tryz.prog w = .ok (.string (mkS [67, 111, 110, 102, 108, 105, 99, 116, 115])) w := fun _ => by kernel_rfl
  have ix8 : ∀ w, (Instr.index 84 (.agg #[.string (mkS [80, 97, 99, 107, 97, 103, 101]), .string (mkS [86, 101, 114, 115, 105, 111, 110]), .string (mkS [65, 114, 99, 104, 105, 116, 101, 99, 116, 117, 114, 101]), .string (mkS [79, 114, 105, 103, 105, 110]), .string (mkS [80, 114, 111, 118, 105, 100, 101, 115]), .string (mkS [68, 101, 112, 101, 110, 100, 115]), .string (mkS [80, 114, 101, 45, 68, 101, 112, 101, 110, 100, 115]), .string (mkS [67, 111, 110, 102, 108, 105, 99, 116, 115]), .string (mkS [66, 114, 101, 97, 107, 115]), .string (mkS [82, 101, 112, 108, 97, 99, 101, 115]), .string (mkS [82, 101, 99, 111, 109, 109, 101, 110, 100, 115]), .string (mkS [69, 110, 104, 97, 110, 99, 101, 115])]) (.int .i64 8)).run Tryz.prog w = .ok (.string (mkS [66, 114, 101, 97, 107, 115])) w := fun _ => by kernel_rfl
  have ix9 : ∀ w, (Instr.index 84 (.agg #[.string (mkS [80, 97, 99, 107, 97, 103, 101]), .string (mkS [86, 101, 114, 115, 105, 111, 110]), .string (mkS [65, 114, 99, 104, 105, 116, 101, 99, 116, 117, 114, 101]), .string (mkS [79, 114, 105, 103, 105, 110]), .string (mkS [80, 114, 111, 118, 105, 100, 101, 115]), .string (mkS [68, 101, 112, 101, 110, 100, 115]), .string (mkS [80, 114, 101, 45, 68, 101, 112, 101, 110, 100, 115]), .string (mkS [67, 111, 110, 102, 108, 105, 99, 116, 115]), .string (mkS [66, 114, 101, 97, 107, 115]), .string (mkS [82, 101, 112, 108, 97, 99, 101, 115]), .string (mkS [82, 101, 99, 111, 109, 109, 101, 110, 100, 115]), .string (mkS [69, 110, 104, 97, 110, 99, 101, 115])]) (.int .i64 9)).run Tryz.prog w = .ok (.string (mkS [82, 101, 112, 108, 97, 99, 101, 115])) w := fun _ => by kernel_rfl
  have ix10 : ∀ w, (Instr.index 84 (.agg #[.string (mkS [80, 97, 99, 107, 97, 103, 101]), .string (mkS [86, 101, 114, 115, 105, 111, 110]), .string (mkS [65, 114, 99, 104, 105, 116, 101, 99, 116, 117, 114, 101]), .string (mkS [79, 114, 105, 103, 105, 110]), .string (mkS [80, 114, 111, 118, 105, 100, 101, 115]), .string (mkS [68, 101, 112, 101, 110, 100, 115]), .string (mkS [80, 114, 101, 45, 68, 101, 112, 101, 110, 100, 115]), .string (mkS [67, 111, 110, 102, 108, 105, 99, 116, 115]), .string (mkS [66, 114, 101, 97, 107, 115]), .string (mkS [82, 101, 112, 108, 97, 99, 101, 115]), .string (mkS [82, 101, 99, 111, 109, 109, 101, 110, 100, 115]), .string (mkS [69, 110, 104, 97, 110, 99, 101, 115])]) (.int .i64 10)).run Tryz.prog w = .ok (.string (mkS [82, 101, 99, 111, 109, 109, 101, 110, 100, 115])) w := fun _ => by kernel_rfl
  have ix11 : ∀ w, (Instr.index 84 (.agg #[.string (mkS [80, 97, 99, 107, 97, 103, 101]), .string (mkS [86, 101, 114, 115, 105, 111, 110]), .string (mkS [65, 114, 99, 104, 105, 116, 101, 99, 116, 117, 114, 101]), .string (mkS [79, 114, 105, 103, 105, 110]), .string (mkS [80, 114, 111, 118, 105, 100, 101, 115]), .string (mkS [68, 101, 112, 101, 110, 100, 115]), .string (mkS [80, 114, 101, 45, 68, 101, 112, 101, 110, 100, 115]), .string (mkS [67, 111, 110, 102, 108, 105, 99, 116, 115]), .string (mkS [66, 114, 101, 97, 107, 115]), .string (mkS [82, 101, 112, 108, 97, 99, 101, 115]), .string (mkS [82, 101, 99, 111, 109, 109, 101, 110, 100, 115]), .string (mkS [69, 110, 104, 97, 110, 99, 101, 115])]) (.int .i64 11)).run Tryz.prog w = .ok (.string (mkS [69, 110, 104, 97, 110, 99, 101, 115])) w := fun _ => by kernel_rfl
  have efrelationFields_1 := enters_of Tryz.func99 (by kernel_rfl) rfl
  have efrelationFields_2 := enters_of Tryz.func100 (by kernel_rfl) rfl
  have efrelationFields_3 := enters_of Tryz.func101 (by kernel_rfl) rfl
  have efrelationFields_4 := enters_of Tryz.func102 (by kernel_rfl) rfl
  have efrelationFields_5 := enters_of Tryz.func103 (by kernel_rfl) rfl
  have efrelationFields_6 := enters_of Tryz.func104 (by kernel_rfl) rfl
  have efrelationFields_7 := enters_of Tryz.func105 (by kernel_rfl) rfl
  have eftextFields_1 := enters_of Tryz.func95 (by kernel_rfl) rfl
  have eftextFields_2 := enters_of Tryz.func96 (by kernel_rfl) rfl
  have eftextFields_3 := enters_of Tryz.func97 (by kernel_rfl) rfl
  have eftextFields_4 := enters_of Tryz.func98 (by kernel_rfl) rfl
  obtain ⟨w1, hw1⟩ : ∃ w1, w1 = (w.alloc (.cells #[.string ⟨#[]⟩, .string ⟨#[]⟩, .string ⟨#[]⟩, .string ⟨#[]⟩, .slice none 0 0, .slice none 0 0, .slice none 0 0, .slice none 0 0, .slice none 0 0, .slice none 0 0, .slice none 0 0, .slice none 0 0] 37)).alloc (.cells #[.string ⟨#[]⟩, .string ⟨#[]⟩, .string ⟨#[]⟩, .string ⟨#[]⟩, .slice none 0 0, .slice none 0 0, .slice none 0 0, .slice none 0 0, .slice none 0 0, .slice none 0 0, .slice none 0 0, .slice none 0 0] 37) := ⟨_, rfl⟩
  have R1 : Hid (Blk w1 w.heap.size 37 zero12) := by rw [hw1]; exact (Blk.new _ _ _).alloc _
  have P1 : Hid (Blk w1 (w.heap.size + 1) 37 zero12) := by rw [hw1]; exact Blk.new' (by simp)
  have HB1 : Hid (Below w.heap.size w w1) := by rw [hw1]; exact ((Below.refl _ _).alloc (Nat.le_refl _) _).alloc (by simp) _
  have S1 := Lib.hid (hS.below HB1.out)
  clear hz hn hW hi hS
  go_enter Tryz.func22, Tryz.ntmps22
  go_upto_region 2 with fail
  rw [← hw1]
  clear hw1
  go_wp2_with fail
  refine (CT.out _).mono ?_
  rintro e w2 ⟨m1, rfl, hm1, hb⟩
  have R2 := Lib.hid (Blk.mono R1.out hb)
  have P2 := Lib.hid (Blk.mono P1.out hb)
  have S2 := Lib.hid (S1.out.below hb)
  have HM1 := Lib.hid hm1
  have HB2 := Lib.hid (HB1.out.trans (hb.mono HB1.out.size))
  clear hb hm1 CT R1 P1 S1 HB1
  go_wp2_with fail
  refine (CR.out _).mono ?_
  rintro e w3 ⟨m2, rfl, hm2, hb⟩
  have HP3 : Hid (PkW w w3 B sm (w.heap.size + 1) m1 m2 s vs (fun _ => []) (fun _ => [])) := by
    have hb3 := HB2.out.trans (hb.mono HB2.out.size)
    exact ⟨⟨fun _ => .slice none 0 0, fun _ => [], [], ⟨Blk.mono P2.out hb, fun i hi => World.ownsRow_nil _ _ _ _, fun i hi => rfl, fun i hi x hx => (by cases hx), fun i hi b hb => (by cases hb), fun i j hi hj hne k hk => (by cases hk), fun b hb => (by cases hb), by omega, hb3⟩⟩, S2.out.below hb, HW.out.below hb3, map_below HM1.out hb, hm2, Blk.mono R2.out hb, by omega⟩
  clear hb hm2 CR R2 P2 S2 HM1 HB2
  obtain ⟨tF, hF⟩ := HP3.out.env.flds
  have q0 := hF.cell 0
  have q1 := hF.cell 1
  have q2 := hF.cell 2
  have q3 := hF.cell 3
  have q4 := hF.cell 4
  have q5 := hF.cell 5
  have q6 := hF.cell 6
  have q7 := hF.cell 7
  have q8 := hF.cell 8
  have q9 := hF.cell 9
  have q10 := hF.cell 10
  have q11 := hF.cell 11
  unfold fldCs at q0 q1 q2 q3 q4 q5 q6 q7 q8 q9 q10 q11
  simp at q0 q1 q2 q3 q4 q5 q6 q7 q8 q9 q10 q11
  clear hF
  go_wp2_with fail
  clear q0 q1 q2 q3 q4 q5 q6 q7 q8 q9 q10 q11
  have HF0 : Hid (foldF s 0 = some ⟨fun _ => [], fun _ => []⟩) := rfl
  go_loopg [17] 12 (fun gk v17 wx => ∃ (k : Nat) (S : Fs), k + gk = 12 ∧ v17 = .int .i64 (k : Int) ∧ Hid (PkW w wx B sm (w.heap.size + 1) m1 m2 s vs S.T S.D) ∧ Hid (foldF s k = some S))
  case atStart => exact ⟨0, ⟨fun _ => [], fun _ => []⟩, by omega, rfl, HP3, HF0⟩
  case round =>
    obtain ⟨k, S, hkg, rfl, HP, HF⟩ := hrel
    clear HP3 HF0
    have hk' : k = 0 ∨ k = 1 ∨ k = 2 ∨ k = 3 ∨ k = 4 ∨ k = 5 ∨ k = 6 ∨ k = 7 ∨ k = 8 ∨ k = 9 ∨ k = 10 ∨ k = 11 ∨ k = 12 := by omega
    have HKG := Lib.hid hkg
    clear hkg
    rcases hk' with rfl | rfl | rfl | rfl | rfl | rfl | rfl | rfl | rfl | rfl | rfl | rfl | rfl
    · clear ix1 ix2 ix3 ix4 ix5 ix6 ix7 ix8 ix9 ix10 ix11 efrelationFields_1 efrelationFields_2 efrelationFields_3 efrelationFields_4 efrelationFields_5 efrelationFields_6 efrelationFields_7 eftextFields_2 eftextFields_3 eftextFields_4
      obtain ⟨ss, rs, F, hPk⟩ := HP.out.pk
      have hlk := run_lookS (P := Tryz.prog) (k := mkS [80, 97, 99, 107, 97, 103, 101]) Tryz.underlying41 Tryz.underlying9 zeroSs HP.out.sz.map
      have hgot := look_got [80, 97, 99, 107, 97, 103, 101] HP.out.sz.rows
      generalize (lookO (mkS [80, 97, 99, 107, 97, 103, 101]) (szEs s vs)).getD (.slice none 0 0) = V at *
      have CXk := Lib.hid (CX.out 0 V wr hgot)
      have CCk := Lib.hid (CC.out 0)
      have CLk := Lib.hid (CL.out 0)
      have htx : joinX (getS s (fldL.getD 0 [])) = txF s 0 := rfl
      rw [htx] at CXk
      clear CX CC CL hgot htx hPk
      go_wp2_with fail
      refine CXk.out.mono ?_
      rintro e w4 ⟨rfl, hb⟩
      have HP4 := Lib.hid (HP.out.below hb)
      clear hb CXk HP hlk
      have hl2 := run_look (P := Tryz.prog) (k := mkS [80, 97, 99, 107, 97, 103, 101]) Tryz.underlying82 Tryz.underlying9 zeroRf HP4.out.m2
      rw [rel0] at hl2
      have hl3 := run_look (P := Tryz.prog) (k := mkS [80, 97, 99, 107, 97, 103, 101]) Tryz.underlying80 Tryz.underlying9 zeroTf HP4.out.m1
      rw [txt0] at hl3
      simp only [Option.getD_none, Option.getD_some, fcV] at hl2 hl3
      obtain ⟨ss, rs, F, hPk⟩ := HP4.out.pk
      have CF := Lib.hid (cl_textFields_1 (w.heap.size + 1) w4 _ hPk.blk)
      clear hPk CLk
      go_wp2_with fail
      refine CF.out.mono ?_
      rintro e w5 ⟨rfl, rfl⟩
      clear CF hl2 hl3
      go_wp2_with fail
      refine (CCk.out _).mono ?_
      rintro e w6 ⟨rfl, hb⟩
      have HP6 := Lib.hid (HP4.out.below hb)
      clear hb CCk HP4
      obtain ⟨ss, rs, F, hPk⟩ := HP6.out.pk
      have p0 := hPk.blk.cell 0
      have pf := hPk.blk.free 0
      unfold rowT at p0
      simp at p0
      have HP7 := Lib.hid (HP6.out.text HW.out 0 (by omega) (txF s 0))
      have HFk : Hid (foldF s 1 = some ⟨updF S.T 0 (txF s 0), S.D⟩) := by show (foldF s 0).bind _ = _; rw [HF.out]; rfl
      clear hPk HP6
      generalize txF s 0 = X at *
      go_wp2_with fail
      go_roundg (gk - 1)
      case measure => have := HKG.out; omega
      case rel => exact ⟨1, _, by have := HKG.out; omega, rfl, HP7, HFk⟩
    · clear ix0 ix2 ix3 ix4 ix5 ix6 ix7 ix8 ix9 ix10 ix11 efrelationFields_1 efrelationFields_2 efrelationFields_3 efrelationFields_4 efrelationFields_5 efrelationFields_6 efrelationFields_7 eftextFields_1 eftextFields_3 eftextFields_4
      obtain ⟨ss, rs, F, hPk⟩ := HP.out.pk
      have hlk := run_lookS (P := Tryz.prog) (k := mkS [86, 101, 114, 115, 105, 111, 110]) Tryz.underlying41 Tryz.underlying9 zeroSs HP.out.sz.map
      have hgot := look_got [86, 101, 114, 115, 105, 111, 110] HP.out.sz.rows
      generalize (lookO (mkS [86, 101, 114, 115, 105, 111, 110]) (szEs s vs)).getD (.slice none 0 0) = V at *
      have CXk := Lib.hid (CX.out 1 V wr hgot)
      have CCk := Lib.hid (CC.out 1)
      have CLk := Lib.hid (CL.out 1)
      have htx : joinX (getS s (fldL.getD 1 [])) = txF s 1 := rfl
      rw [htx] at CXk
      clear CX CC CL hgot htx hPk
      go_wp2_with fail
      refine CXk.out.mono ?_
      rintro e w4 ⟨rfl, hb⟩
      have HP4 := Lib.hid (HP.out.below hb)
      clear hb CXk HP hlk
      have hl2 := run_look (P := Tryz.prog) (k := mkS [86, 101, 114, 115, 105, 111, 110]) Tryz.underlying82 Tryz.underlying9 zeroRf HP4.out.m2
      rw [rel1] at hl2
      have hl3 := run_look (P := Tryz.prog) (k := mkS [86, 101, 114, 115, 105, 111, 110]) Tryz.underlying80 Tryz.underlying9 zeroTf HP4.out.m1
      rw [txt1] at hl3
      simp only [Option.getD_none, Option.getD_some, fcV] at hl2 hl3
      obtain ⟨ss, rs, F, hPk⟩ := HP4.out.pk
      have CF := Lib.hid (cl_textFields_2 (w.heap.size + 1) w4 _ hPk.blk)
      clear hPk CLk
      go_wp2_with fail
      refine CF.out.mono ?_
      rintro e w5 ⟨rfl, rfl⟩
      clear CF hl2 hl3
      go_wp2_with fail
      refine (CCk.out _).mono ?_
      rintro e w6 ⟨rfl, hb⟩
      have HP6 := Lib.hid (HP4.out.below hb)
      clear hb CCk HP4
      obtain ⟨ss, rs, F, hPk⟩ := HP6.out.pk
      have p0 := hPk.blk.cell 1
      have pf := hPk.blk.free 1
      unfold rowT at p0
      simp at p0
      have HP7 := Lib.hid (HP6.out.text HW.out 1 (by omega) (txF s 1))
      have HFk : Hid (foldF s 2 = some ⟨updF S.T 1 (txF s 1), S.D⟩) := by show (foldF s 1).bind _ = _; rw [HF.out]; rfl
      clear hPk HP6
      generalize txF s 1 = X at *
      go_wp2_with fail
      go_roundg (gk - 1)
      case measure => have := HKG.out; omega
      case rel => exact ⟨2, _, by have := HKG.out; omega, rfl, HP7, HFk⟩
    · clear ix0 ix1 ix3 ix4 ix5 ix6 ix7 ix8 ix9 ix10 ix11 efrelationFields_1 efrelationFields_2 efrelationFields_3 efrelationFields_4 efrelationFields_5 efrelationFields_6 efrelationFields_7 eftextFields_1 eftextFields_2 eftextFields_4
      obtain ⟨ss, rs, F, hPk⟩ := HP.out.pk
      have hlk := run_lookS (P := Tryz.prog) (k := mkS [65, 114, 99, 104, 105, 116, 101, 99, 116, 117, 114, 101]) Tryz.underlying41 Tryz.underlying9 zeroSs HP.out.sz.map
      have hgot := look_got [65, 114, 99, 104, 105, 116, 101, 99, 116, 117, 114, 101] HP.out.sz.rows
      generalize (lookO (mkS [65, 114, 99, 104, 105, 116, 101, 99, 116, 117, 114, 101]) (szEs s vs)).getD (.slice none 0 0) = V at *
      have CXk := Lib.hid (CX.out 2 V wr hgot)
      have CCk := Lib.hid (CC.out 2)
      have CLk := Lib.hid (CL.out 2)
      have htx : joinX (getS s (fldL.getD 2 [])) = txF s 2 := rfl
      rw [htx] at CXk
      clear CX CC CL hgot htx hPk
      go_wp2_with fail
      refine CXk.out.mono ?_
      rintro e w4 ⟨rfl, hb⟩
      have HP4 := Lib.hid (HP.out.below hb)
      clear hb CXk HP hlk
      have hl2 := run_look (P := Tryz.prog) (k := mkS [65, 114, 99, 104, 105, 116, 101, 99, 116, 117, 114, 101]) Tryz.underlying82 Tryz.underlying9 zeroRf HP4.out.m2
      rw [rel2] at hl2
      have hl3 := run_look (P := Tryz.prog) (k := mkS [65, 114, 99, 104, 105, 116, 101, 99, 116, 117, 114, 101]) Tryz.underlying80 Tryz.underlying9 zeroTf HP4.out.m1
      rw [txt2] at hl3
      simp only [Option.getD_none, Option.getD_some, fcV] at hl2 hl3
      obtain ⟨ss, rs, F, hPk⟩ := HP4.out.pk
      have CF := Lib.hid (cl_textFields_3 (w.heap.size + 1) w4 _ hPk.blk)
      clear hPk CLk
      go_wp2_with fail
      refine CF.out.mono ?_
      rintro e w5 ⟨rfl, rfl⟩
      clear CF hl2 hl3
      go_wp2_with fail
      refine (CCk.out _).mono ?_
      rintro e w6 ⟨rfl, hb⟩
      have HP6 := Lib.hid (HP4.out.below hb)
      clear hb CCk HP4
      obtain ⟨ss, rs, F, hPk⟩ := HP6.out.pk
      have p0 := hPk.blk.cell 2
      have pf := hPk.blk.free 2
      unfold rowT at p0
      simp at p0
      have HP7 := Lib.hid (HP6.out.text HW.out 2 (by omega) (txF s 2))
      have HFk : Hid (foldF s 3 = some ⟨updF S.T 2 (txF s 2), S.D⟩) := by show (foldF s 2).bind _ = _; rw [HF.out]; rfl
      clear hPk HP6
      generalize txF s 2 = X at *
      go_wp2_with fail
      go_roundg (gk - 1)
      case measure => have := HKG.out; omega
      case rel => exact ⟨3, _, by have := HKG.out; omega, rfl, HP7, HFk⟩
    · clear ix0 ix1 ix2 ix4 ix5 ix6 ix7 ix8 ix9 ix10 ix11 efrelationFields_1 efrelationFields_2 efrelationFields_3 efrelationFields_4 efrelationFields_5 efrelationFields_6 efrelationFields_7 eftextFields_1 eftextFields_2 eftextFields_3
      obtain ⟨ss, rs, F, hPk⟩ := HP.out.pk
      have hlk := run_lookS (P := Tryz.prog) (k := mkS [79, 114, 105, 103, 105, 110]) Tryz.underlying41 Tryz.underlying9 zeroSs HP.out.sz.map
      have hgot := look_got [79, 114, 105, 103, 105, 110] HP.out.sz.rows
      generalize (lookO (mkS [79, 114, 105, 103, 105, 110]) (szEs s vs)).getD (.slice none 0 0) = V at *
      have CXk := Lib.hid (CX.out 3 V wr hgot)
      have CCk := Lib.hid (CC.out 3)
      have CLk := Lib.hid (CL.out 3)
      have htx : joinX (getS s (fldL.getD 3 [])) = txF s 3 := rfl
      rw [htx] at CXk
      clear CX CC CL hgot htx hPk
      go_wp2_with fail
      refine CXk.out.mono ?_
      rintro e w4 ⟨rfl, hb⟩
      have HP4 := Lib.hid (HP.out.below hb)
      clear hb CXk HP hlk
      have hl2 := run_look (P := Tryz.prog) (k := mkS [79, 114, 105, 103, 105, 110]) Tryz.underlying82 Tryz.underlying9 zeroRf HP4.out.m2
      rw [rel3] at hl2
      have hl3 := run_look (P := Tryz.prog) (k := mkS [79, 114, 105, 103, 105, 110]) Tryz.underlying80 Tryz.underlying9 zeroTf HP4.out.m1
      rw [txt3] at hl3
      simp only [Option.getD_none, Option.getD_some, fcV] at hl2 hl3
      obtain ⟨ss, rs, F, hPk⟩ := HP4.out.pk
      have CF := Lib.hid (cl_textFields_4 (w.heap.size + 1) w4 _ hPk.blk)
      clear hPk CLk
      go_wp2_with fail
      refine CF.out.mono ?_
      rintro e w5 ⟨rfl, rfl⟩
      clear CF hl2 hl3
      go_wp2_with fail
      refine (CCk.out _).mono ?_
      rintro e w6 ⟨rfl, hb⟩
      have HP6 := Lib.hid (HP4.out.below hb)
      clear hb CCk HP4
      obtain ⟨ss, rs, F, hPk⟩ := HP6.out.pk
      have p0 := hPk.blk.cell 3
      have pf := hPk.blk.free 3
      unfold rowT at p0
      simp at p0
      have HP7 := Lib.hid (HP6.out.text HW.out 3 (by omega) (txF s 3))
      have HFk : Hid (foldF s 4 = some ⟨updF S.T 3 (txF s 3), S.D⟩) := by show (foldF s 3).bind _ = _; rw [HF.out]; rfl
      clear hPk HP6
      generalize txF s 3 = X at *
      go_wp2_with fail
      go_roundg (gk - 1)
      case measure => have := HKG.out; omega
      case rel => exact ⟨4, _, by have := HKG.out; omega, rfl, HP7, HFk⟩
    · clear ix0 ix1 ix2 ix3 ix5 ix6 ix7 ix8 ix9 ix10 ix11 efrelationFields_1 efrelationFields_3 efrelationFields_4 efrelationFields_5 efrelationFields_6 efrelationFields_7 eftextFields_1 eftextFields_2 eftextFields_3 eftextFields_4
      obtain ⟨ss, rs, F, hPk⟩ := HP.out.pk
      have hlk := run_lookS (P := Tryz.prog) (k := mkS [80, 114, 111, 118, 105, 100, 101, 115]) Tryz.underlying41 Tryz.underlying9 zeroSs HP.out.sz.map
      have hgot := look_got [80, 114, 111, 118, 105, 100, 101, 115] HP.out.sz.rows
      generalize (lookO (mkS [80, 114, 111, 118, 105, 100, 101, 115]) (szEs s vs)).getD (.slice none 0 0) = V at *
      have CXk := Lib.hid (CX.out 4 V wr hgot)
      have CCk := Lib.hid (CC.out 4)
      have CLk := Lib.hid (CL.out 4)
      have htx : joinX (getS s (fldL.getD 4 [])) = txF s 4 := rfl
      rw [htx] at CXk
      clear CX CC CL hgot htx hPk
      go_wp2_with fail
      refine CXk.out.mono ?_
      rintro e w4 ⟨rfl, hb⟩
      have HP4 := Lib.hid (HP.out.below hb)
      clear hb CXk HP hlk
      have hl2 := run_look (P := Tryz.prog) (k := mkS [80, 114, 111, 118, 105, 100, 101, 115]) Tryz.underlying82 Tryz.underlying9 zeroRf HP4.out.m2
      rw [rel4] at hl2
      simp only [Option.getD_some, fcV] at hl2
      have CLw := Lib.hid (CLk.out w4 HP4.out.env.base)
      clear CLk CCk
      have HFk : Hid (foldF s 5 = match depsX (txF s 4) with
        | none => none
        | some ds => some ⟨S.T, updF S.D 0 (S.D 0 ++ ds)⟩) := by show (foldF s 4).bind _ = _; rw [HF.out]; rfl
      have HDL0 : Hid (∀ ds, depsX (txF s 4) = some ds → ds.length ≤ 100001) := fun ds h => deps_len (HZ.out _) h
      have HFL : Hid (∀ i, (S.D i).length ≤ 1200012) := fun i => Nat.le_trans (fold_len (fun k ds h => deps_len (HZ.out _) h) _ _ HF.out i) (by omega)
      generalize txF s 4 = X at *
      cases hd : depsX X with
      | none =>
        rw [hd] at CLw HFk
        have HN : Hid (packX s = .error 120) := by
          show packX s = _
          unfold packX
          have := foldF_none (HFk.out : foldF s 5 = none) 7
          rw [this]
        unfold RelPost at CLw
        clear hd HFk
        go_wp2_with fail
        refine CLw.out.mono ?_
        rintro e w5 ⟨rfl, hb⟩
        have HP5 := Lib.hid (HP4.out.below hb)
        have HR5 := Lib.hid HP5.out.res
        have HBB := Lib.hid HP5.out.bel
        clear hb CLw HP4 HP5 hl2
        have z0 := HR5.out.cell 0
        have f0 := HR5.out.free 0
        have z1 := HR5.out.cell 1
        have f1 := HR5.out.free 1
        have z2 := HR5.out.cell 2
        have f2 := HR5.out.free 2
        have z3 := HR5.out.cell 3
        have f3 := HR5.out.free 3
        have z4 := HR5.out.cell 4
        have f4 := HR5.out.free 4
        have z5 := HR5.out.cell 5
        have f5 := HR5.out.free 5
        have z6 := HR5.out.cell 6
        have f6 := HR5.out.free 6
        have z7 := HR5.out.cell 7
        have f7 := HR5.out.free 7
        have z8 := HR5.out.cell 8
        have f8 := HR5.out.free 8
        have z9 := HR5.out.cell 9
        have f9 := HR5.out.free 9
        have z10 := HR5.out.cell 10
        have f10 := HR5.out.free 10
        have z11 := HR5.out.cell 11
        have f11 := HR5.out.free 11
        unfold zero12 at z0 z1 z2 z3 z4 z5 z6 z7 z8 z9 z10 z11
        simp at z0 z1 z2 z3 z4 z5 z6 z7 z8 z9 z10 z11
        have HK := Lib.hid (pkg_get ((((((((((((HR5.out.set_ 0 (.string ⟨#[]⟩)).set_ 1 (.string ⟨#[]⟩)).set_ 2 (.string ⟨#[]⟩)).set_ 3 (.string ⟨#[]⟩)).set_ 4 (.slice none 0 0)).set_ 5 (.slice none 0 0)).set_ 6 (.slice none 0 0)).set_ 7 (.slice none 0 0)).set_ 8 (.slice none 0 0)).set_ 9 (.slice none 0 0)).set_ 10 (.slice none 0 0)).set_ 11 (.slice none 0 0)))
        have HBZ : Hid (Below w.heap.size w ((((((((((((w5.setCell ⟨w.heap.size, 0, none⟩ (.string ⟨#[]⟩)).setCell ⟨w.heap.size, 1, none⟩ (.string ⟨#[]⟩)).setCell ⟨w.heap.size, 2, none⟩ (.string ⟨#[]⟩)).setCell ⟨w.heap.size, 3, none⟩ (.string ⟨#[]⟩)).setCell ⟨w.heap.size, 4, none⟩ (.slice none 0 0)).setCell ⟨w.heap.size, 5, none⟩ (.slice none 0 0)).setCell ⟨w.heap.size, 6, none⟩ (.slice none 0 0)).setCell ⟨w.heap.size, 7, none⟩ (.slice none 0 0)).setCell ⟨w.heap.size, 8, none⟩ (.slice none 0 0)).setCell ⟨w.heap.size, 9, none⟩ (.slice none 0 0)).setCell ⟨w.heap.size, 10, none⟩ (.slice none 0 0)).setCell ⟨w.heap.size, 11, none⟩ (.slice none 0 0))) := ((((((((((((HBB.out.setCell (Nat.le_refl _) _).setCell (Nat.le_refl _) _).setCell (Nat.le_refl _) _).setCell (Nat.le_refl _) _).setCell (Nat.le_refl _) _).setCell (Nat.le_refl _) _).setCell (Nat.le_refl _) _).setCell (Nat.le_refl _) _).setCell (Nat.le_refl _) _).setCell (Nat.le_refl _) _).setCell (Nat.le_refl _) _).setCell (Nat.le_refl _) _)
        clear HR5 HBB
        go_wp2_with fail
        show bodyPost _ _ _ _ _ _
        refine bodyPost_ret (v := .tuple #[.agg #[.string ⟨#[]⟩, .string ⟨#[]⟩, .string ⟨#[]⟩, .string ⟨#[]⟩, .slice none 0 0, .slice none 0 0, .slice none 0 0, .slice none 0 0, .slice none 0 0, .slice none 0 0, .slice none 0 0, .slice none 0 0], .int .i64 120]) ?_ rfl ?_
        · refine (res_cell_tmp (t := 2) (u := 3) rfl _ (ad := ⟨w.heap.size, 0, none⟩) rfl HK.out).trans ?_
          rfl
        · show PackPost w (packX s) _ _
          rw [HN.out]
          exact ⟨rfl, by decide, HBZ.out⟩
      | some ds =>
        have hdX := hd
        rw [hd] at CLw HFk
        unfold RelPost at CLw
        clear hd
        go_wp2_with fail
        refine CLw.out.mono ?_
        rintro e w5 ⟨v, r, F', rfl, hr, hds⟩
        subst hds
        have HDL := Lib.hid (HDL0.out _ hdX)
        clear hdX
        have hb : Below w4.heap.size w4 w5 := hr.bel
        have HP5 := Lib.hid (HP4.out.below hb)
        obtain ⟨ss, rs, F, hPk⟩ := HP4.out.pk
        have hPk5 := hPk.below hb
        have CF := Lib.hid (cl_relationFields_2 (w.heap.size + 1) w5 _ hPk5.blk)
        have hl3 := run_look (P := Tryz.prog) (k := mkS [80, 114, 111, 118, 105, 100, 101, 115]) Tryz.underlying82 Tryz.underlying9 zeroRf HP5.out.m2
        rw [rel4] at hl3
        simp only [Option.getD_some, fcV] at hl3
        have p0 := hPk5.blk.cell 4
        have pf := hPk5.blk.free 4
        unfold rowT at p0
        simp at p0
        have HPUT := Lib.hid (fun v'' w'' ho hg hat => hPk.put hb hr (i := 0) (by omega) (v'' := v'') (w'' := w'') ho hg hat)
        have HOWN := Lib.hid (hPk5.own 0 (by omega))
        have hOd := own_deps HOWN.out
        have HOD := Lib.hid hOd
        have hrl : r.length ≤ 100001 := by have := HDL.out; rw [List.length_map] at this; exact this
        have hnl : (rs 0).length ≤ 1200012 := by have := HFL.out 0; rw [← hPk.is 0 (by omega), List.length_map] at this; omega
        have hsz5 : w.heap.size ≤ w5.heap.size := HP5.out.bel.size
        obtain ⟨As, cs_, hss, hs1, hs2⟩ := own_form' HOWN.out
        unfold maxLen at hs2
        rw [hss] at p0 HOWN HPUT HOD
        have HPB := Lib.hid hPk5.blk
        clear hPk hPk5 hOd hss
        go_wp2_with fail
        refine CF.out.mono ?_
        rintro e w6 ⟨rfl, rfl⟩
        clear CF hl3
        rcases hr.own.2 with ⟨hv, h0⟩ | ⟨g, cap, cur, hv, hbg, hgg, hg1, hg2, hg3, hg4⟩
        · subst hv
          have hr0 : r = [] := List.length_eq_zero_iff.1 h0
          subst hr0
          have HP7 := Lib.hid (HPUT.out (.slice As (rs 0).length cs_) w6 (by rw [show (rs 0).length + ([] : Ev.Rows5).length = (rs 0).length from rfl, show Ev.cells5 ([] : Ev.Rows5) = [] from rfl, List.append_nil]; exact HOWN.out) (grown_refl _ _) (.inl rfl))
          have HPW := Lib.hid (HP5.out.turn ⟨_, _, _, HP7.out.1⟩ HP7.out.2 (fun k hk => (List.mem_cons.1 hk).elim (fun e => .inl e) (fun h => .inr (HOD.out k h))) HW.out)
          clear hr hb HPUT HP4 HP5 HP7
          go_wp2_with (at_builtin; refine wpList_append_own_none rfl (.tmp 50) (.tmp 51) 35 rfl w.heap.size 39 i 5 Tryz.underlying35 HI.out (.slice As (rs 0).length cs_) (rs 0).length (Ev.cells5 (rs 0)) rfl HOWN.out rfl ?_)
          go_roundg (gk - 1)
          case measure => have := HKG.out; omega
          case rel => exact ⟨5, ⟨S.T, updF S.D 0 (S.D 0 ++ [])⟩, by have := HKG.out; omega, rfl, HPW, HFk⟩
        · subst hv
          have HC : Hid (∀ (jj : Nat) u, (Ev.cells5 r)[jj]? = some u → w6.cell? ((⟨g, 0, none⟩ : Addr).add jj) = some u) := fun jj u hj => by
            obtain ⟨b, e, hc⟩ := own_ats hr.own hj
            injection e with e
            injection e with e
            subst e
            exact cell_add_ hc
          have HO1 : Hid (∀ u ∈ Ev.cells5 r, u.oneCell' = true) := Ev.one_cells5 (fun x hx => hr.lay x hx)
          have HLN := Lib.hid (Ev.cells5_len r)
          have HEQ : Hid (∀ v7 : Value, ∀ w7 : World, w6.grownBy w7 (Value.slice As (rs 0).length cs_).ownBlock → Blk w7 (w.heap.size + 1) 37 (rowT S.T ss)) := fun v7 w7 hg => HPB.out.grown hg (fun e => own_kind HOWN.out HPB.out (by decide) e.symm)
          have HPW := Lib.hid (fun (v7 : Value) (w7 : World) ho hg hat => HP5.out.turn ⟨_, _, _, (HPUT.out v7 w7 ho hg hat).1⟩ (HPUT.out v7 w7 ho hg hat).2 (fun k hk => (List.mem_cons.1 hk).elim (fun e => .inl e) (fun h => .inr (HOD.out k h))) HW.out)
          clear hr hb HPUT HP4 HP5 HPB hgg hg3 hg4 hbg
          go_wp2_with (at_builtin; refine wpList_append_own_at _ rfl (.tmp 50) (.tmp 51) 35 rfl w.heap.size 39 i z 5 72 Tryz.underlying35 HI.out hz0 hz2 hz3 hz1 (by decide) (.slice As (rs 0).length cs_) (rs 0).length (Ev.cells5 (rs 0)) rfl HOWN.out ⟨g, 0, none⟩ r.length cap (Ev.cells5 r) rfl HLN.out HC.out HO1.out (by unfold maxLen; omega) (by omega) (by omega) ?_; intro v7 w7 hown7 hg7 hnil7 hat7; have HP7 := Lib.hid (HPW.out v7 w7 hown7 hg7 hat7); have hB7 := HEQ.out v7 w7 hg7; have p7 := hB7.cell 4; have f7 := hB7.free 4; unfold rowT at p7; simp at p7; obtain ⟨A7, c7, rfl, hn7, hm7⟩ := own_form' hown7; clear hown7 hg7 hnil7 hat7 hB7)
          go_roundg (gk - 1)
          case measure => have := HKG.out; omega
          case rel => exact ⟨5, ⟨S.T, updF S.D 0 (S.D 0 ++ r.map Prod.fst)⟩, by have := HKG.out; omega, rfl, HP7, HFk⟩
    · clear ix0 ix1 ix2 ix3 ix4 ix6 ix7 ix8 ix9 ix10 ix11 efrelationFields_1 efrelationFields_2 efrelationFields_4 efrelationFields_5 efrelationFields_6 efrelationFields_7 eftextFields_1 eftextFields_2 eftextFields_3 eftextFields_4
      obtain ⟨ss, rs, F, hPk⟩ := HP.out.pk
      have hlk := run_lookS (P := Tryz.prog) (k := mkS [68, 101, 112, 101, 110, 100, 115]) Tryz.underlying41 Tryz.underlying9 zeroSs HP.out.sz.map
      have hgot := look_got [68, 101, 112, 101, 110, 100, 115] HP.out.sz.rows
      generalize (lookO (mkS [68, 101, 112, 101, 110, 100, 115]) (szEs s vs)).getD (.slice none 0 0) = V at *
      have CXk := Lib.hid (CX.out 5 V wr hgot)
      have CCk := Lib.hid (CC.out 5)
      have CLk := Lib.hid (CL.out 5)
      have htx : joinX (getS s (fldL.getD 5 [])) = txF s 5 := rfl
      rw [htx] at CXk
      clear CX CC CL hgot htx hPk
      go_wp2_with fail
      refine CXk.out.mono ?_
      rintro e w4 ⟨rfl, hb⟩
      have HP4 := Lib.hid (HP.out.below hb)
      clear hb CXk HP hlk
      have hl2 := run_look (P := Tryz.prog) (k := mkS [68, 101, 112, 101, 110, 100, 115]) Tryz.underlying82 Tryz.underlying9 zeroRf HP4.out.m2
      rw [rel5] at hl2
      simp only [Option.getD_some, fcV] at hl2
      have CLw := Lib.hid (CLk.out w4 HP4.out.env.base)
      clear CLk CCk
      have HFk : Hid (foldF s 6 = match depsX (txF s 5) with
        | none => none
        | some ds => some ⟨S.T, updF S.D 1 (S.D 1 ++ ds)⟩) := by show (foldF s 5).bind _ = _; rw [HF.out]; rfl
      have HDL0 : Hid (∀ ds, depsX (txF s 5) = some ds → ds.length ≤ 100001) := fun ds h => deps_len (HZ.out _) h
      have HFL : Hid (∀ i, (S.D i).length ≤ 1200012) := fun i => Nat.le_trans (fold_len (fun k ds h => deps_len (HZ.out _) h) _ _ HF.out i) (by omega)
      generalize txF s 5 = X at *
      cases hd : depsX X with
      | none =>
        rw [hd] at CLw HFk
        have HN : Hid (packX s = .error 120) := by
          show packX s = _
          unfold packX
          have := foldF_none (HFk.out : foldF s 6 = none) 6
          rw [this]
        unfold RelPost at CLw
        clear hd HFk
        go_wp2_with fail
        refine CLw.out.mono ?_
        rintro e w5 ⟨rfl, hb⟩
        have HP5 := Lib.hid (HP4.out.below hb)
        have HR5 := Lib.hid HP5.out.res
        have HBB := Lib.hid HP5.out.bel
        clear hb CLw HP4 HP5 hl2
        have z0 := HR5.out.cell 0
        have f0 := HR5.out.free 0
        have z1 := HR5.out.cell 1
        have f1 := HR5.out.free 1
        have z2 := HR5.out.cell 2
        have f2 := HR5.out.free 2
        have z3 := HR5.out.cell 3
        have f3 := HR5.out.free 3
        have z4 := HR5.out.cell 4
        have f4 := HR5.out.free 4
        have z5 := HR5.out.cell 5
        have f5 := HR5.out.free 5
        have z6 := HR5.out.cell 6
        have f6 := HR5.out.free 6
        have z7 := HR5.out.cell 7
        have f7 := HR5.out.free 7
        have z8 := HR5.out.cell 8
        have f8 := HR5.out.free 8
        have z9 := HR5.out.cell 9
        have f9 := HR5.out.free 9
        have z10 := HR5.out.cell 10
        have f10 := HR5.out.free 10
        have z11 := HR5.out.cell 11
        have f11 := HR5.out.free 11
        unfold zero12 at z0 z1 z2 z3 z4 z5 z6 z7 z8 z9 z10 z11
        simp at z0 z1 z2 z3 z4 z5 z6 z7 z8 z9 z10 z11
        have HK := Lib.hid (pkg_get ((((((((((((HR5.out.set_ 0 (.string ⟨#[]⟩)).set_ 1 (.string ⟨#[]⟩)).set_ 2 (.string ⟨#[]⟩)).set_ 3 (.string ⟨#[]⟩)).set_ 4 (.slice none 0 0)).set_ 5 (.slice none 0 0)).set_ 6 (.slice none 0 0)).set_ 7 (.slice none 0 0)).set_ 8 (.slice none 0 0)).set_ 9 (.slice none 0 0)).set_ 10 (.slice none 0 0)).set_ 11 (.slice none 0 0)))
        have HBZ : Hid (Below w.heap.size w ((((((((((((w5.setCell ⟨w.heap.size, 0, none⟩ (.string ⟨#[]⟩)).setCell ⟨w.heap.size, 1, none⟩ (.string ⟨#[]⟩)).setCell ⟨w.heap.size, 2, none⟩ (.string ⟨#[]⟩)).setCell ⟨w.heap.size, 3, none⟩ (.string ⟨#[]⟩)).setCell ⟨w.heap.size, 4, none⟩ (.slice none 0 0)).setCell ⟨w.heap.size, 5, none⟩ (.slice none 0 0)).setCell ⟨w.heap.size, 6, none⟩ (.slice none 0 0)).setCell ⟨w.heap.size, 7, none⟩ (.slice none 0 0)).setCell ⟨w.heap.size, 8, none⟩ (.slice none 0 0)).setCell ⟨w.heap.size, 9, none⟩ (.slice none 0 0)).setCell ⟨w.heap.size, 10, none⟩ (.slice none 0 0)).setCell ⟨w.heap.size, 11, none⟩ (.slice none 0 0))) := ((((((((((((HBB.out.setCell (Nat.le_refl _) _).setCell (Nat.le_refl _) _).setCell (Nat.le_refl _) _).setCell (Nat.le_refl _) _).setCell (Nat.le_refl _) _).setCell (Nat.le_refl _) _).setCell (Nat.le_refl _) _).setCell (Nat.le_refl _) _).setCell (Nat.le_refl _) _).setCell (Nat.le_refl _) _).setCell (Nat.le_refl _) _).setCell (Nat.le_refl _) _)
        clear HR5 HBB
        go_wp2_with fail
        show bodyPost _ _ _ _ _ _
        refine bodyPost_ret (v := .tuple #[.agg #[.string ⟨#[]⟩, .string ⟨#[]⟩, .string ⟨#[]⟩, .string ⟨#[]⟩, .slice none 0 0, .slice none 0 0, .slice none 0 0, .slice none 0 0, .slice none 0 0, .slice none 0 0, .slice none 0 0, .slice none 0 0], .int .i64 120]) ?_ rfl ?_
        · refine (res_cell_tmp (t := 2) (u := 3) rfl _ (ad := ⟨w.heap.size, 0, none⟩) rfl HK.out).trans ?_
          rfl
        · show PackPost w (packX s) _ _
          rw [HN.out]
          exact ⟨rfl, by decide, HBZ.out⟩
      | some ds =>
        have hdX := hd
        rw [hd] at CLw HFk
        unfold RelPost at CLw
        clear hd
        go_wp2_with fail
        refine CLw.out.mono ?_
        rintro e w5 ⟨v, r, F', rfl, hr, hds⟩
        subst hds
        have HDL := Lib.hid (HDL0.out _ hdX)
        clear hdX
        have hb : Below w4.heap.size w4 w5 := hr.bel
        have HP5 := Lib.hid (HP4.out.below hb)
        obtain ⟨ss, rs, F, hPk⟩ := HP4.out.pk
        have hPk5 := hPk.below hb
        have CF := Lib.hid (cl_relationFields_3 (w.heap.size + 1) w5 _ hPk5.blk)
        have hl3 := run_look (P := Tryz.prog) (k := mkS [68, 101, 112, 101, 110, 100, 115]) Tryz.underlying82 Tryz.underlying9 zeroRf HP5.out.m2
        rw [rel5] at hl3
        simp only [Option.getD_some, fcV] at hl3
        have p0 := hPk5.blk.cell 5
        have pf := hPk5.blk.free 5
        unfold rowT at p0
        simp at p0
        have HPUT := Lib.hid (fun v'' w'' ho hg hat => hPk.put hb hr (i := 1) (by omega) (v'' := v'') (w'' := w'') ho hg hat)
        have HOWN := Lib.hid (hPk5.own 1 (by omega))
        have hOd := own_deps HOWN.out
        have HOD := Lib.hid hOd
        have hrl : r.length ≤ 100001 := by have := HDL.out; rw [List.length_map] at this; exact this
        have hnl : (rs 1).length ≤ 1200012 := by have := HFL.out 1; rw [← hPk.is 1 (by omega), List.length_map] at this; omega
        have hsz5 : w.heap.size ≤ w5.heap.size := HP5.out.bel.size
        obtain ⟨As, cs_, hss, hs1, hs2⟩ := own_form' HOWN.out
        unfold maxLen at hs2
        rw [hss] at p0 HOWN HPUT HOD
        have HPB := Lib.hid hPk5.blk
        clear hPk hPk5 hOd hss
        go_wp2_with fail
        refine CF.out.mono ?_
        rintro e w6 ⟨rfl, rfl⟩
        clear CF hl3
        rcases hr.own.2 with ⟨hv, h0⟩ | ⟨g, cap, cur, hv, hbg, hgg, hg1, hg2, hg3, hg4⟩
        · subst hv
          have hr0 : r = [] := List.length_eq_zero_iff.1 h0
          subst hr0
          have HP7 := Lib.hid (HPUT.out (.slice As (rs 1).length cs_) w6 (by rw [show (rs 1).length + ([] : Ev.Rows5).length = (rs 1).length from rfl, show Ev.cells5 ([] : Ev.Rows5) = [] from rfl, List.append_nil]; exact HOWN.out) (grown_refl _ _) (.inl rfl))
          have HPW := Lib.hid (HP5.out.turn ⟨_, _, _, HP7.out.1⟩ HP7.out.2 (fun k hk => (List.mem_cons.1 hk).elim (fun e => .inl e) (fun h => .inr (HOD.out k h))) HW.out)
          clear hr hb HPUT HP4 HP5 HP7
          go_wp2_with (at_builtin; refine wpList_append_own_none rfl (.tmp 50) (.tmp 51) 35 rfl w.heap.size 39 i 5 Tryz.underlying35 HI.out (.slice As (rs 1).length cs_) (rs 1).length (Ev.cells5 (rs 1)) rfl HOWN.out rfl ?_)
          go_roundg (gk - 1)
          case measure => have := HKG.out; omega
          case rel => exact ⟨6, ⟨S.T, updF S.D 1 (S.D 1 ++ [])⟩, by have := HKG.out; omega, rfl, HPW, HFk⟩
        · subst hv
          have HC : Hid (∀ (jj : Nat) u, (Ev.cells5 r)[jj]? = some u → w6.cell? ((⟨g, 0, none⟩ : Addr).add jj) = some u) := fun jj u hj => by
            obtain ⟨b, e, hc⟩ := own_ats hr.own hj
            injection e with e
            injection e with e
            subst e
            exact cell_add_ hc
          have HO1 : Hid (∀ u ∈ Ev.cells5 r, u.oneCell' = true) := Ev.one_cells5 (fun x hx => hr.lay x hx)
          have HLN := Lib.hid (Ev.cells5_len r)
          have HEQ : Hid (∀ v7 : Value, ∀ w7 : World, w6.grownBy w7 (Value.slice As (rs 1).length cs_).ownBlock → Blk w7 (w.heap.size + 1) 37 (rowT S.T ss)) := fun v7 w7 hg => HPB.out.grown hg (fun e => own_kind HOWN.out HPB.out (by decide) e.symm)
          have HPW := Lib.hid (fun (v7 : Value) (w7 : World) ho hg hat => HP5.out.turn ⟨_, _, _, (HPUT.out v7 w7 ho hg hat).1⟩ (HPUT.out v7 w7 ho hg hat).2 (fun k hk => (List.mem_cons.1 hk).elim (fun e => .inl e) (fun h => .inr (HOD.out k h))) HW.out)
          clear hr hb HPUT HP4 HP5 HPB hgg hg3 hg4 hbg
          go_wp2_with (at_builtin; refine wpList_append_own_at _ rfl (.tmp 50) (.tmp 51) 35 rfl w.heap.size 39 i z 5 72 Tryz.underlying35 HI.out hz0 hz2 hz3 hz1 (by decide) (.slice As (rs 1).length cs_) (rs 1).length (Ev.cells5 (rs 1)) rfl HOWN.out ⟨g, 0, none⟩ r.length cap (Ev.cells5 r) rfl HLN.out HC.out HO1.out (by unfold maxLen; omega) (by omega) (by omega) ?_; intro v7 w7 hown7 hg7 hnil7 hat7; have HP7 := Lib.hid (HPW.out v7 w7 hown7 hg7 hat7); have hB7 := HEQ.out v7 w7 hg7; have p7 := hB7.cell 5; have f7 := hB7.free 5; unfold rowT at p7; simp at p7; obtain ⟨A7, c7, rfl, hn7, hm7⟩ := own_form' hown7; clear hown7 hg7 hnil7 hat7 hB7)
          go_roundg (gk - 1)
          case measure => have := HKG.out; omega
          case rel => exact ⟨6, ⟨S.T, updF S.D 1 (S.D 1 ++ r.map Prod.fst)⟩, by have := HKG.out; omega, rfl, HP7, HFk⟩
    · clear ix0 ix1 ix2 ix3 ix4 ix5 ix7 ix8 ix9 ix10 ix11 efrelationFields_1 efrelationFields_2 efrelationFields_3 efrelationFields_5 efrelationFields_6 efrelationFields_7 eftextFields_1 eftextFields_2 eftextFields_3 eftextFields_4
      obtain ⟨ss, rs, F, hPk⟩ := HP.out.pk
      have hlk := run_lookS (P := Tryz.prog) (k := mkS [80, 114, 101, 45, 68, 101, 112, 101, 110, 100, 115]) Tryz.underlying41 Tryz.underlying9 zeroSs HP.out.sz.map
      have hgot := look_got [80, 114, 101, 45, 68, 101, 112, 101, 110, 100, 115] HP.out.sz.rows
      generalize (lookO (mkS [80, 114, 101, 45, 68, 101, 112, 101, 110, 100, 115]) (szEs s vs)).getD (.slice none 0 0) = V at *
      have CXk := Lib.hid (CX.out 6 V wr hgot)
      have CCk := Lib.hid (CC.out 6)
      have CLk := Lib.hid (CL.out 6)
      have htx : joinX (getS s (fldL.getD 6 [])) = txF s 6 := rfl
      rw [htx] at CXk
      clear CX CC CL hgot htx hPk
      go_wp2_with fail
      refine CXk.out.mono ?_
      rintro e w4 ⟨rfl, hb⟩
      have HP4 := Lib.hid (HP.out.below hb)
      clear hb CXk HP hlk
      have hl2 := run_look (P := Tryz.prog) (k := mkS [80, 114, 101, 45, 68, 101, 112, 101, 110, 100, 115]) Tryz.underlying82 Tryz.underlying9 zeroRf HP4.out.m2
      rw [rel6] at hl2
      simp only [Option.getD_some, fcV] at hl2
      have CLw := Lib.hid (CLk.out w4 HP4.out.env.base)
      clear CLk CCk
      have HFk : Hid (foldF s 7 = match depsX (txF s 6) with
        | none => none
        | some ds => some ⟨S.T, updF S.D 2 (S.D 2 ++ ds)⟩) := by show (foldF s 6).bind _ = _; rw [HF.out]; rfl
      have HDL0 : Hid (∀ ds, depsX (txF s 6) = some ds → ds.length ≤ 100001) := fun ds h => deps_len (HZ.out _) h
      have HFL : Hid (∀ i, (S.D i).length ≤ 1200012) := fun i => Nat.le_trans (fold_len (fun k ds h => deps_len (HZ.out _) h) _ _ HF.out i) (by omega)
      generalize txF s 6 = X at *
      cases hd : depsX X with
      | none =>
        rw [hd] at CLw HFk
        have HN : Hid (packX s = .error 120) := by
          show packX s = _
          unfold packX
          have := foldF_none (HFk.out : foldF s 7 = none) 5
          rw [this]
        unfold RelPost at CLw
        clear hd HFk
        go_wp2_with fail
        refine CLw.out.mono ?_
        rintro e w5 ⟨rfl, hb⟩
        have HP5 := Lib.hid (HP4.out.below hb)
        have HR5 := Lib.hid HP5.out.res
        have HBB := Lib.hid HP5.out.bel
        clear hb CLw HP4 HP5 hl2
        have z0 := HR5.out.cell 0
        have f0 := HR5.out.free 0
        have z1 := HR5.out.cell 1
        have f1 := HR5.out.free 1
        have z2 := HR5.out.cell 2
        have f2 := HR5.out.free 2
        have z3 := HR5.out.cell 3
        have f3 := HR5.out.free 3
        have z4 := HR5.out.cell 4
        have f4 := HR5.out.free 4
        have z5 := HR5.out.cell 5
        have f5 := HR5.out.free 5
        have z6 := HR5.out.cell 6
        have f6 := HR5.out.free 6
        have z7 := HR5.out.cell 7
        have f7 := HR5.out.free 7
        have z8 := HR5.out.cell 8
        have f8 := HR5.out.free 8
        have z9 := HR5.out.cell 9
        have f9 := HR5.out.free 9
        have z10 := HR5.out.cell 10
        have f10 := HR5.out.free 10
        have z11 := HR5.out.cell 11
        have f11 := HR5.out.free 11
        unfold zero12 at z0 z1 z2 z3 z4 z5 z6 z7 z8 z9 z10 z11
        simp at z0 z1 z2 z3 z4 z5 z6 z7 z8 z9 z10 z11
        have HK := Lib.hid (pkg_get ((((((((((((HR5.out.set_ 0 (.string ⟨#[]⟩)).set_ 1 (.string ⟨#[]⟩)).set_ 2 (.string ⟨#[]⟩)).set_ 3 (.string ⟨#[]⟩)).set_ 4 (.slice none 0 0)).set_ 5 (.slice none 0 0)).set_ 6 (.slice none 0 0)).set_ 7 (.slice none 0 0)).set_ 8 (.slice none 0 0)).set_ 9 (.slice none 0 0)).set_ 10 (.slice none 0 0)).set_ 11 (.slice none 0 0)))
        have HBZ : Hid (Below w.heap.size w ((((((((((((w5.setCell ⟨w.heap.size, 0, none⟩ (.string ⟨#[]⟩)).setCell ⟨w.heap.size, 1, none⟩ (.string ⟨#[]⟩)).setCell ⟨w.heap.size, 2, none⟩ (.string ⟨#[]⟩)).setCell ⟨w.heap.size, 3, none⟩ (.string ⟨#[]⟩)).setCell ⟨w.heap.size, 4, none⟩ (.slice none 0 0)).setCell ⟨w.heap.size, 5, none⟩ (.slice none 0 0)).setCell ⟨w.heap.size, 6, none⟩ (.slice none 0 0)).setCell ⟨w.heap.size, 7, none⟩ (.slice none 0 0)).setCell ⟨w.heap.size, 8, none⟩ (.slice none 0 0)).setCell ⟨w.heap.size, 9, none⟩ (.slice none 0 0)).setCell ⟨w.heap.size, 10, none⟩ (.slice none 0 0)).setCell ⟨w.heap.size, 11, none⟩ (.slice none 0 0))) := ((((((((((((HBB.out.setCell (Nat.le_refl _) _).setCell (Nat.le_refl _) _).setCell (Nat.le_refl _) _).setCell (Nat.le_refl _) _).setCell (Nat.le_refl _) _).setCell (Nat.le_refl _) _).setCell (Nat.le_refl _) _).setCell (Nat.le_refl _) _).setCell (Nat.le_refl _) _).setCell (Nat.le_refl _) _).setCell (Nat.le_refl _) _).setCell (Nat.le_refl _) _)
        clear HR5 HBB
        go_wp2_with fail
        show bodyPost _ _ _ _ _ _
        refine bodyPost_ret (v := .tuple #[.agg #[.string ⟨#[]⟩, .string ⟨#[]⟩, .string ⟨#[]⟩, .string ⟨#[]⟩, .slice none 0 0, .slice none 0 0, .slice none 0 0, .slice none 0 0, .slice none 0 0, .slice none 0 0, .slice none 0 0, .slice none 0 0], .int .i64 120]) ?_ rfl ?_
        · refine (res_cell_tmp (t := 2) (u := 3) rfl _ (ad := ⟨w.heap.size, 0, none⟩) rfl HK.out).trans ?_
          rfl
        · show PackPost w (packX s) _ _
          rw [HN.out]
          exact ⟨rfl, by decide, HBZ.out⟩
      | some ds =>
        have hdX := hd
        rw [hd] at CLw HFk
        unfold RelPost at CLw
        clear hd
        go_wp2_with fail
        refine CLw.out.mono ?_
        rintro e w5 ⟨v, r, F', rfl, hr, hds⟩
        subst hds
        have HDL := Lib.hid (HDL0.out _ hdX)
        clear hdX
        have hb : Below w4.heap.size w4 w5 := hr.bel
        have HP5 := Lib.hid (HP4.out.below hb)
        obtain ⟨ss, rs, F, hPk⟩ := HP4.out.pk
        have hPk5 := hPk.below hb
        have CF := Lib.hid (cl_relationFields_4 (w.heap.size + 1) w5 _ hPk5.blk)
        have hl3 := run_look (P := Tryz.prog) (k := mkS [80, 114, 101, 45, 68, 101, 112, 101, 110, 100, 115]) Tryz.underlying82 Tryz.underlying9 zeroRf HP5.out.m2
        rw [rel6] at hl3
        simp only [Option.getD_some, fcV] at hl3
        have p0 := hPk5.blk.cell 6
        have pf := hPk5.blk.free 6
        unfold rowT at p0
        simp at p0
        have HPUT := Lib.hid (fun v'' w'' ho hg hat => hPk.put hb hr (i := 2) (by omega) (v'' := v'') (w'' := w'') ho hg hat)
        have HOWN := Lib.hid (hPk5.own 2 (by omega))
        have hOd := own_deps HOWN.out
        have HOD := Lib.hid hOd
        have hrl : r.length ≤ 100001 := by have := HDL.out; rw [List.length_map] at this; exact this
        have hnl : (rs 2).length ≤ 1200012 := by have := HFL.out 2; rw [← hPk.is 2 (by omega), List.length_map] at this; omega
        have hsz5 : w.heap.size ≤ w5.heap.size := HP5.out.bel.size
        obtain ⟨As, cs_, hss, hs1, hs2⟩ := own_form' HOWN.out
        unfold maxLen at hs2
        rw [hss] at p0 HOWN HPUT HOD
        have HPB := Lib.hid hPk5.blk
        clear hPk hPk5 hOd hss
        go_wp2_with fail
        refine CF.out.mono ?_
        rintro e w6 ⟨rfl, rfl⟩
        clear CF hl3
        rcases hr.own.2 with ⟨hv, h0⟩ | ⟨g, cap, cur, hv, hbg, hgg, hg1, hg2, hg3, hg4⟩
        · subst hv
          have hr0 : r = [] := List.length_eq_zero_iff.1 h0
          subst hr0
          have HP7 := Lib.hid (HPUT.out (.slice As (rs 2).length cs_) w6 (by rw [show (rs 2).length + ([] : Ev.Rows5).length = (rs 2).length from rfl, show Ev.cells5 ([] : Ev.Rows5) = [] from rfl, List.append_nil]; exact HOWN.out) (grown_refl _ _) (.inl rfl))
          have HPW := Lib.hid (HP5.out.turn ⟨_, _, _, HP7.out.1⟩ HP7.out.2 (fun k hk => (List.mem_cons.1 hk).elim (fun e => .inl e) (fun h => .inr (HOD.out k h))) HW.out)
          clear hr hb HPUT HP4 HP5 HP7
          go_wp2_with (at_builtin; refine wpList_append_own_none rfl (.tmp 50) (.tmp 51) 35 rfl w.heap.size 39 i 5 Tryz.underlying35 HI.out (.slice As (rs 2).length cs_) (rs 2).length (Ev.cells5 (rs 2)) rfl HOWN.out rfl ?_)
          go_roundg (gk - 1)
          case measure => have := HKG.out; omega
          case rel => exact ⟨7, ⟨S.T, updF S.D 2 (S.D 2 ++ [])⟩, by have := HKG.out; omega, rfl, HPW, HFk⟩
        · subst hv
          have HC : Hid (∀ (jj : Nat) u, (Ev.cells5 r)[jj]? = some u → w6.cell? ((⟨g, 0, none⟩ : Addr).add jj) = some u) := fun jj u hj => by
            obtain ⟨b, e, hc⟩ := own_ats hr.own hj
            injection e with e
            injection e with e
            subst e
            exact cell_add_ hc
          have HO1 : Hid (∀ u ∈ Ev.cells5 r, u.oneCell' = true) := Ev.one_cells5 (fun x hx => hr.lay x hx)
          have HLN := Lib.hid (Ev.cells5_len r)
          have HEQ : Hid (∀ v7 : Value, ∀ w7 : World, w6.grownBy w7 (Value.slice As (rs 2).length cs_).ownBlock → Blk w7 (w.heap.size + 1) 37 (rowT S.T ss)) := fun v7 w7 hg => HPB.out.grown hg (fun e => own_kind HOWN.out HPB.out (by decide) e.symm)
          have HPW := Lib.hid (fun (v7 : Value) (w7 : World) ho hg hat => HP5.out.turn ⟨_, _, _, (HPUT.out v7 w7 ho hg hat).1⟩ (HPUT.out v7 w7 ho hg hat).2 (fun k hk => (List.mem_cons.1 hk).elim (fun e => .inl e) (fun h => .inr (HOD.out k h))) HW.out)
          clear hr hb HPUT HP4 HP5 HPB hgg hg3 hg4 hbg
          go_wp2_with (at_builtin; refine wpList_append_own_at _ rfl (.tmp 50) (.tmp 51) 35 rfl w.heap.size 39 i z 5 72 Tryz.underlying35 HI.out hz0 hz2 hz3 hz1 (by decide) (.slice As (rs 2).length cs_) (rs 2).length (Ev.cells5 (rs 2)) rfl HOWN.out ⟨g, 0, none⟩ r.length cap (Ev.cells5 r) rfl HLN.out HC.out HO1.out (by unfold maxLen; omega) (by omega) (by omega) ?_; intro v7 w7 hown7 hg7 hnil7 hat7; have HP7 := Lib.hid (HPW.out v7 w7 hown7 hg7 hat7); have hB7 := HEQ.out v7 w7 hg7; have p7 := hB7.cell 6; have f7 := hB7.free 6; unfold rowT at p7; simp at p7; obtain ⟨A7, c7, rfl, hn7, hm7⟩ := own_form' hown7; clear hown7 hg7 hnil7 hat7 hB7)
          go_roundg (gk - 1)
          case measure => have := HKG.out; omega
          case rel => exact ⟨7, ⟨S.T, updF S.D 2 (S.D 2 ++ r.map Prod.fst)⟩, by have := HKG.out; omega, rfl, HP7, HFk⟩
    · clear ix0 ix1 ix2 ix3 ix4 ix5 ix6 ix8 ix9 ix10 ix11 efrelationFields_2 efrelationFields_3 efrelationFields_4 efrelationFields_5 efrelationFields_6 efrelationFields_7 eftextFields_1 eftextFields_2 eftextFields_3 eftextFields_4
      obtain ⟨ss, rs, F, hPk⟩ := HP.out.pk
      have hlk := run_lookS (P := Tryz.prog) (k := mkS [67, 111, 110, 102, 108, 105, 99, 116, 115]) Tryz.underlying41 Tryz.underlying9 zeroSs HP.out.sz.map
      have hgot := look_got [67, 111, 110, 102, 108, 105, 99, 116, 115] HP.out.sz.rows
      generalize (lookO (mkS [67, 111, 110, 102, 108, 105, 99, 116, 115]) (szEs s vs)).getD (.slice none 0 0) = V at *
      have CXk := Lib.hid (CX.out 7 V wr hgot)
      have CCk := Lib.hid (CC.out 7)
      have CLk := Lib.hid (CL.out 7)
      have htx : joinX (getS s (fldL.getD 7 [])) = txF s 7 := rfl
      rw [htx] at CXk
      clear CX CC CL hgot htx hPk
      go_wp2_with fail
      refine CXk.out.mono ?_
      rintro e w4 ⟨rfl, hb⟩
      have HP4 := Lib.hid (HP.out.below hb)
      clear hb CXk HP hlk
      have hl2 := run_look (P := Tryz.prog) (k := mkS [67, 111, 110, 102, 108, 105, 99, 116, 115]) Tryz.underlying82 Tryz.underlying9 zeroRf HP4.out.m2
      rw [rel7] at hl2
      simp only [Option.getD_some, fcV] at hl2
      have CLw := Lib.hid (CLk.out w4 HP4.out.env.base)
      clear CLk CCk
      have HFk : Hid (foldF s 8 = match depsX (txF s 7) with
        | none => none
        | some ds => some ⟨S.T, updF S.D 3 (S.D 3 ++ ds)⟩) := by show (foldF s 7).bind _ = _; rw [HF.out]; rfl
      have HDL0 : Hid (∀ ds, depsX (txF s 7) = some ds → ds.length ≤ 100001) := fun ds h => deps_len (HZ.out _) h
      have HFL : Hid (∀ i, (S.D i).length ≤ 1200012) := fun i => Nat.le_trans (fold_len (fun k ds h => deps_len (HZ.out _) h) _ _ HF.out i) (by omega)
      generalize txF s 7 = X at *
      cases hd : depsX X with
      | none =>
        rw [hd] at CLw HFk
        have HN : Hid (packX s = .error 120) := by
          show packX s = _
          unfold packX
          have := foldF_none (HFk.out : foldF s 8 = none) 4
          rw [this]
        unfold RelPost at CLw
        clear hd HFk
        go_wp2_with fail
        refine CLw.out.mono ?_
        rintro e w5 ⟨rfl, hb⟩
        have HP5 := Lib.hid (HP4.out.below hb)
        have HR5 := Lib.hid HP5.out.res
        have HBB := Lib.hid HP5.out.bel
        clear hb CLw HP4 HP5 hl2
        have z0 := HR5.out.cell 0
        have f0 := HR5.out.free 0
        have z1 := HR5.out.cell 1
        have f1 := HR5.out.free 1
        have z2 := HR5.out.cell 2
        have f2 := HR5.out.free 2
        have z3 := HR5.out.cell 3
        have f3 := HR5.out.free 3
        have z4 := HR5.out.cell 4
        have f4 := HR5.out.free 4
        have z5 := HR5.out.cell 5
        have f5 := HR5.out.free 5
        have z6 := HR5.out.cell 6
        have f6 := HR5.out.free 6
        have z7 := HR5.out.cell 7
        have f7 := HR5.out.free 7
        have z8 := HR5.out.cell 8
        have f8 := HR5.out.free 8
        have z9 := HR5.out.cell 9
        have f9 := HR5.out.free 9
        have z10 := HR5.out.cell 10
        have f10 := HR5.out.free 10
        have z11 := HR5.out.cell 11
        have f11 := HR5.out.free 11
        unfold zero12 at z0 z1 z2 z3 z4 z5 z6 z7 z8 z9 z10 z11
        simp at z0 z1 z2 z3 z4 z5 z6 z7 z8 z9 z10 z11
        have HK := Lib.hid (pkg_get ((((((((((((HR5.out.set_ 0 (.string ⟨#[]⟩)).set_ 1 (.string ⟨#[]⟩)).set_ 2 (.string ⟨#[]⟩)).set_ 3 (.string ⟨#[]⟩)).set_ 4 (.slice none 0 0)).set_ 5 (.slice none 0 0)).set_ 6 (.slice none 0 0)).set_ 7 (.slice none 0 0)).set_ 8 (.slice none 0 0)).set_ 9 (.slice none 0 0)).set_ 10 (.slice none 0 0)).set_ 11 (.slice none 0 0)))
        have HBZ : Hid (Below w.heap.size w ((((((((((((w5.setCell ⟨w.heap.size, 0, none⟩ (.string ⟨#[]⟩)).setCell ⟨w.heap.size, 1, none⟩ (.string ⟨#[]⟩)).setCell ⟨w.heap.size, 2, none⟩ (.string ⟨#[]⟩)).setCell ⟨w.heap.size, 3, none⟩ (.string ⟨#[]⟩)).setCell ⟨w.heap.size, 4, none⟩ (.slice none 0 0)).setCell ⟨w.heap.size, 5, none⟩ (.slice none 0 0)).setCell ⟨w.heap.size, 6, none⟩ (.slice none 0 0)).setCell ⟨w.heap.size, 7, none⟩ (.slice none 0 0)).setCell ⟨w.heap.size, 8, none⟩ (.slice none 0 0)).setCell ⟨w.heap.size, 9, none⟩ (.slice none 0 0)).setCell ⟨w.heap.size, 10, none⟩ (.slice none 0 0)).setCell ⟨w.heap.size, 11, none⟩ (.slice none 0 0))) := ((((((((((((HBB.out.setCell (Nat.le_refl _) _).setCell (Nat.le_refl _) _).setCell (Nat.le_refl _) _).setCell (Nat.le_refl _) _).setCell (Nat.le_refl _) _).setCell (Nat.le_refl _) _).setCell (Nat.le_refl _) _).setCell (Nat.le_refl _) _).setCell (Nat.le_refl _) _).setCell (Nat.le_refl _) _).setCell (Nat.le_refl _) _).setCell (Nat.le_refl _) _)
        clear HR5 HBB
        go_wp2_with fail
        show bodyPost _ _ _ _ _ _
        refine bodyPost_ret (v := .tuple #[.agg #[.string ⟨#[]⟩, .string ⟨#[]⟩, .string ⟨#[]⟩, .string ⟨#[]⟩, .slice none 0 0, .slice none 0 0, .slice none 0 0, .slice none 0 0, .slice none 0 0, .slice none 0 0, .slice none 0 0, .slice none 0 0], .int .i64 120]) ?_ rfl ?_
        · refine (res_cell_tmp (t := 2) (u := 3) rfl _ (ad := ⟨w.heap.size, 0, none⟩) rfl HK.out).trans ?_
          rfl
        · show PackPost w (packX s) _ _
          rw [HN.out]
          exact ⟨rfl, by decide, HBZ.out⟩
      | some ds =>
        have hdX := hd
        rw [hd] at CLw HFk
        unfold RelPost at CLw
        clear hd
        go_wp2_with fail
        refine CLw.out.mono ?_
        rintro e w5 ⟨v, r, F', rfl, hr, hds⟩
        subst hds
        have HDL := Lib.hid (HDL0.out _ hdX)
        clear hdX
        have hb : Below w4.heap.size w4 w5 := hr.bel
        have HP5 := Lib.hid (HP4.out.below hb)
        obtain ⟨ss, rs, F, hPk⟩ := HP4.out.pk
        have hPk5 := hPk.below hb
        have CF := Lib.hid (cl_relationFields_1 (w.heap.size + 1) w5 _ hPk5.blk)
        have hl3 := run_look (P := Tryz.prog) (k := mkS [67, 111, 110, 102, 108, 105, 99, 116, 115]) Tryz.underlying82 Tryz.underlying9 zeroRf HP5.out.m2
        rw [rel7] at hl3
        simp only [Option.getD_some, fcV] at hl3
        have p0 := hPk5.blk.cell 7
        have pf := hPk5.blk.free 7
        unfold rowT at p0
        simp at p0
        have HPUT := Lib.hid (fun v'' w'' ho hg hat => hPk.put hb hr (i := 3) (by omega) (v'' := v'') (w'' := w'') ho hg hat)
        have HOWN := Lib.hid (hPk5.own 3 (by omega))
        have hOd := own_deps HOWN.out
        have HOD := Lib.hid hOd
        have hrl : r.length ≤ 100001 := by have := HDL.out; rw [List.length_map] at this; exact this
        have hnl : (rs 3).length ≤ 1200012 := by have := HFL.out 3; rw [← hPk.is 3 (by omega), List.length_map] at this; omega
        have hsz5 : w.heap.size ≤ w5.heap.size := HP5.out.bel.size
        obtain ⟨As, cs_, hss, hs1, hs2⟩ := own_form' HOWN.out
        unfold maxLen at hs2
        rw [hss] at p0 HOWN HPUT HOD
        have HPB := Lib.hid hPk5.blk
        clear hPk hPk5 hOd hss
        go_wp2_with fail
        refine CF.out.mono ?_
        rintro e w6 ⟨rfl, rfl⟩
        clear CF hl3
        rcases hr.own.2 with ⟨hv, h0⟩ | ⟨g, cap, cur, hv, hbg, hgg, hg1, hg2, hg3, hg4⟩
        · subst hv
          have hr0 : r = [] := List.length_eq_zero_iff.1 h0
          subst hr0
          have HP7 := Lib.hid (HPUT.out (.slice As (rs 3).length cs_) w6 (by rw [show (rs 3).length + ([] : Ev.Rows5).length = (rs 3).length from rfl, show Ev.cells5 ([] : Ev.Rows5) = [] from rfl, List.append_nil]; exact HOWN.out) (grown_refl _ _) (.inl rfl))
          have HPW := Lib.hid (HP5.out.turn ⟨_, _, _, HP7.out.1⟩ HP7.out.2 (fun k hk => (List.mem_cons.1 hk).elim (fun e => .inl e) (fun h => .inr (HOD.out k h))) HW.out)
          clear hr hb HPUT HP4 HP5 HP7
          go_wp2_with (at_builtin; refine wpList_append_own_none rfl (.tmp 50) (.tmp 51) 35 rfl w.heap.size 39 i 5 Tryz.underlying35 HI.out (.slice As (rs 3).length cs_) (rs 3).length (Ev.cells5 (rs 3)) rfl HOWN.out rfl ?_)
          go_roundg (gk - 1)
          case measure => have := HKG.out; omega
          case rel => exact ⟨8, ⟨S.T, updF S.D 3 (S.D 3 ++ [])⟩, by have := HKG.out; omega, rfl, HPW, HFk⟩
        · subst hv
          have HC : Hid (∀ (jj : Nat) u, (Ev.cells5 r)[jj]? = some u → w6.cell? ((⟨g, 0, none⟩ : Addr).add jj) = some u) := fun jj u hj => by
            obtain ⟨b, e, hc⟩ := own_ats hr.own hj
            injection e with e
            injection e with e
            subst e
            exact cell_add_ hc
          have HO1 : Hid (∀ u ∈ Ev.cells5 r, u.oneCell' = true) := Ev.one_cells5 (fun x hx => hr.lay x hx)
          have HLN := Lib.hid (Ev.cells5_len r)
          have HEQ : Hid (∀ v7 : Value, ∀ w7 : World, w6.grownBy w7 (Value.slice As (rs 3).length cs_).ownBlock → Blk w7 (w.heap.size + 1) 37 (rowT S.T ss)) := fun v7 w7 hg => HPB.out.grown hg (fun e => own_kind HOWN.out HPB.out (by decide) e.symm)
          have HPW := Lib.hid (fun (v7 : Value) (w7 : World) ho hg hat => HP5.out.turn ⟨_, _, _, (HPUT.out v7 w7 ho hg hat).1⟩ (HPUT.out v7 w7 ho hg hat).2 (fun k hk => (List.mem_cons.1 hk).elim (fun e => .inl e) (fun h => .inr (HOD.out k h))) HW.out)
          clear hr hb HPUT HP4 HP5 HPB hgg hg3 hg4 hbg
          go_wp2_with (at_builtin; refine wpList_append_own_at _ rfl (.tmp 50) (.tmp 51) 35 rfl w.heap.size 39 i z 5 72 Tryz.underlying35 HI.out hz0 hz2 hz3 hz1 (by decide) (.slice As (rs 3).length cs_) (rs 3).length (Ev.cells5 (rs 3)) rfl HOWN.out ⟨g, 0, none⟩ r.length cap (Ev.cells5 r) rfl HLN.out HC.out HO1.out (by unfold maxLen; omega) (by omega) (by omega) ?_; intro v7 w7 hown7 hg7 hnil7 hat7; have HP7 := Lib.hid (HPW.out v7 w7 hown7 hg7 hat7); have hB7 := HEQ.out v7 w7 hg7; have p7 := hB7.cell 7; have f7 := hB7.free 7; unfold rowT at p7; simp at p7; obtain ⟨A7, c7, rfl, hn7, hm7⟩ := own_form' hown7; clear hown7 hg7 hnil7 hat7 hB7)
          go_roundg (gk - 1)
          case measure => have := HKG.out; omega
          case rel => exact ⟨8, ⟨S.T, updF S.D 3 (S.D 3 ++ r.map Prod.fst)⟩, by have := HKG.out; omega, rfl, HP7, HFk⟩
    · clear ix0 ix1 ix2 ix3 ix4 ix5 ix6 ix7 ix9 ix10 ix11 efrelationFields_2 efrelationFields_3 efrelationFields_4 efrelationFields_5 efrelationFields_6 efrelationFields_7 eftextFields_1 eftextFields_2 eftextFields_3 eftextFields_4
      obtain ⟨ss, rs, F, hPk⟩ := HP.out.pk
      have hlk := run_lookS (P := Tryz.prog) (k := mkS [66, 114, 101, 97, 107, 115]) Tryz.underlying41 Tryz.underlying9 zeroSs HP.out.sz.map
      have hgot := look_got [66, 114, 101, 97, 107, 115] HP.out.sz.rows
      generalize (lookO (mkS [66, 114, 101, 97, 107, 115]) (szEs s vs)).getD (.slice none 0 0) = V at *
      have CXk := Lib.hid (CX.out 8 V wr hgot)
      have CCk := Lib.hid (CC.out 8)
      have CLk := Lib.hid (CL.out 8)
      have htx : joinX (getS s (fldL.getD 8 [])) = txF s 8 := rfl
      rw [htx] at CXk
      clear CX CC CL hgot htx hPk
      go_wp2_with fail
      refine CXk.out.mono ?_
      rintro e w4 ⟨rfl, hb⟩
      have HP4 := Lib.hid (HP.out.below hb)
      clear hb CXk HP hlk
      have hl2 := run_look (P := Tryz.prog) (k := mkS [66, 114, 101, 97, 107, 115]) Tryz.underlying82 Tryz.underlying9 zeroRf HP4.out.m2
      rw [rel8] at hl2
      simp only [Option.getD_some, fcV] at hl2
      have CLw := Lib.hid (CLk.out w4 HP4.out.env.base)
      clear CLk CCk
      have HFk : Hid (foldF s 9 = match depsX (txF s 8) with
        | none => none
        | some ds => some ⟨S.T, updF S.D 3 (S.D 3 ++ ds)⟩) := by show (foldF s 8).bind _ = _; rw [HF.out]; rfl
      have HDL0 : Hid (∀ ds, depsX (txF s 8) = some ds → ds.length ≤ 100001) := fun ds h => deps_len (HZ.out _) h
      have HFL : Hid (∀ i, (S.D i).length ≤ 1200012) := fun i => Nat.le_trans (fold_len (fun k ds h => deps_len (HZ.out _) h) _ _ HF.out i) (by omega)
      generalize txF s 8 = X at *
      cases hd : depsX X with
      | none =>
        rw [hd] at CLw HFk
        have HN : Hid (packX s = .error 120) := by
          show packX s = _
          unfold packX
          have := foldF_none (HFk.out : foldF s 9 = none) 3
          rw [this]
        unfold RelPost at CLw
        clear hd HFk
        go_wp2_with fail
        refine CLw.out.mono ?_
        rintro e w5 ⟨rfl, hb⟩
        have HP5 := Lib.hid (HP4.out.below hb)
        have HR5 := Lib.hid HP5.out.res
        have HBB := Lib.hid HP5.out.bel
        clear hb CLw HP4 HP5 hl2
        have z0 := HR5.out.cell 0
        have f0 := HR5.out.free 0
        have z1 := HR5.out.cell 1
        have f1 := HR5.out.free 1
        have z2 := HR5.out.cell 2
        have f2 := HR5.out.free 2
        have z3 := HR5.out.cell 3
        have f3 := HR5.out.free 3
        have z4 := HR5.out.cell 4
        have f4 := HR5.out.free 4
        have z5 := HR5.out.cell 5
        have f5 := HR5.out.free 5
        have z6 := HR5.out.cell 6
        have f6 := HR5.out.free 6
        have z7 := HR5.out.cell 7
        have f7 := HR5.out.free 7
        have z8 := HR5.out.cell 8
        have f8 := HR5.out.free 8
        have z9 := HR5.out.cell 9
        have f9 := HR5.out.free 9
        have z10 := HR5.out.cell 10
        have f10 := HR5.out.free 10
        have z11 := HR5.out.cell 11
        have f11 := HR5.out.free 11
        unfold zero12 at z0 z1 z2 z3 z4 z5 z6 z7 z8 z9 z10 z11
        simp at z0 z1 z2 z3 z4 z5 z6 z7 z8 z9 z10 z11
        have HK := Lib.hid (pkg_get ((((((((((((HR5.out.set_ 0 (.string ⟨#[]⟩)).set_ 1 (.string ⟨#[]⟩)).set_ 2 (.string ⟨#[]⟩)).set_ 3 (.string ⟨#[]⟩)).set_ 4 (.slice none 0 0)).set_ 5 (.slice none 0 0)).set_ 6 (.slice none 0 0)).set_ 7 (.slice none 0 0)).set_ 8 (.slice none 0 0)).set_ 9 (.slice none 0 0)).set_ 10 (.slice none 0 0)).set_ 11 (.slice none 0 0)))
        have HBZ : Hid (Below w.heap.size w ((((((((((((w5.setCell ⟨w.heap.size, 0, none⟩ (.string ⟨#[]⟩)).setCell ⟨w.heap.size, 1, none⟩ (.string ⟨#[]⟩)).setCell ⟨w.heap.size, 2, none⟩ (.string ⟨#[]⟩)).setCell ⟨w.heap.size, 3, none⟩ (.string ⟨#[]⟩)).setCell ⟨w.heap.size, 4, none⟩ (.slice none 0 0)).setCell ⟨w.heap.size, 5, none⟩ (.slice none 0 0)).setCell ⟨w.heap.size, 6, none⟩ (.slice none 0 0)).setCell ⟨w.heap.size, 7, none⟩ (.slice none 0 0)).setCell ⟨w.heap.size, 8, none⟩ (.slice none 0 0)).setCell ⟨w.heap.size, 9, none⟩ (.slice none 0 0)).setCell ⟨w.heap.size, 10, none⟩ (.slice none 0 0)).setCell ⟨w.heap.size, 11, none⟩ (.slice none 0 0))) := ((((((((((((HBB.out.setCell (Nat.le_refl _) _).setCell (Nat.le_refl _) _).setCell (Nat.le_refl _) _).setCell (Nat.le_refl _) _).setCell (Nat.le_refl _) _).setCell (Nat.le_refl _) _).setCell (Nat.le_refl _) _).setCell (Nat.le_refl _) _).setCell (Nat.le_refl _) _).setCell (Nat.le_refl _) _).setCell (Nat.le_refl _) _).setCell (Nat.le_refl _) _)
        clear HR5 HBB
        go_wp2_with fail
        show bodyPost _ _ _ _ _ _
        refine bodyPost_ret (v := .tuple #[.agg #[.string ⟨#[]⟩, .string ⟨#[]⟩, .string ⟨#[]⟩, .string ⟨#[]⟩, .slice none 0 0, .slice none 0 0, .slice none 0 0, .slice none 0 0, .slice none 0 0, .slice none 0 0, .slice none 0 0, .slice none 0 0], .int .i64 120]) ?_ rfl ?_
        · refine (res_cell_tmp (t := 2) (u := 3) rfl _ (ad := ⟨w.heap.size, 0, none⟩) rfl HK.out).trans ?_
          rfl
        · show PackPost w (packX s) _ _
          rw [HN.out]
          exact ⟨rfl, by decide, HBZ.out⟩
      | some ds =>
        have hdX := hd
        rw [hd] at CLw HFk
        unfold RelPost at CLw
        clear hd
        go_wp2_with fail
        refine CLw.out.mono ?_
        rintro e w5 ⟨v, r, F', rfl, hr, hds⟩
        subst hds
        have HDL := Lib.hid (HDL0.out _ hdX)
        clear hdX
        have hb : Below w4.heap.size w4 w5 := hr.bel
        have HP5 := Lib.hid (HP4.out.below hb)
        obtain ⟨ss, rs, F, hPk⟩ := HP4.out.pk
        have hPk5 := hPk.below hb
        have CF := Lib.hid (cl_relationFields_1 (w.heap.size + 1) w5 _ hPk5.blk)
        have hl3 := run_look (P := Tryz.prog) (k := mkS [66, 114, 101, 97, 107, 115]) Tryz.underlying82 Tryz.underlying9 zeroRf HP5.out.m2
        rw [rel8] at hl3
        simp only [Option.getD_some, fcV] at hl3
        have p0 := hPk5.blk.cell 7
        have pf := hPk5.blk.free 7
        unfold rowT at p0
        simp at p0
        have HPUT := Lib.hid (fun v'' w'' ho hg hat => hPk.put hb hr (i := 3) (by omega) (v'' := v'') (w'' := w'') ho hg hat)
        have HOWN := Lib.hid (hPk5.own 3 (by omega))
        have hOd := own_deps HOWN.out
        have HOD := Lib.hid hOd
        have hrl : r.length ≤ 100001 := by have := HDL.out; rw [List.length_map] at this; exact this
        have hnl : (rs 3).length ≤ 1200012 := by have := HFL.out 3; rw [← hPk.is 3 (by omega), List.length_map] at this; omega
        have hsz5 : w.heap.size ≤ w5.heap.size := HP5.out.bel.size
        obtain ⟨As, cs_, hss, hs1, hs2⟩ := own_form' HOWN.out
        unfold maxLen at hs2
        rw [hss] at p0 HOWN HPUT HOD
        have HPB := Lib.hid hPk5.blk
        clear hPk hPk5 hOd hss
        go_wp2_with fail
        refine CF.out.mono ?_
        rintro e w6 ⟨rfl, rfl⟩
        clear CF hl3
        rcases hr.own.2 with ⟨hv, h0⟩ | ⟨g, cap, cur, hv, hbg, hgg, hg1, hg2, hg3, hg4⟩
        · subst hv
          have hr0 : r = [] := List.length_eq_zero_iff.1 h0
          subst hr0
          have HP7 := Lib.hid (HPUT.out (.slice As (rs 3).length cs_) w6 (by rw [show (rs 3).length + ([] : Ev.Rows5).length = (rs 3).length from rfl, show Ev.cells5 ([] : Ev.Rows5) = [] from rfl, List.append_nil]; exact HOWN.out) (grown_refl _ _) (.inl rfl))
          have HPW := Lib.hid (HP5.out.turn ⟨_, _, _, HP7.out.1⟩ HP7.out.2 (fun k hk => (List.mem_cons.1 hk).elim (fun e => .inl e) (fun h => .inr (HOD.out k h))) HW.out)
          clear hr hb HPUT HP4 HP5 HP7
          go_wp2_with (at_builtin; refine wpList_append_own_none rfl (.tmp 50) (.tmp 51) 35 rfl w.heap.size 39 i 5 Tryz.underlying35 HI.out (.slice As (rs 3).length cs_) (rs 3).length (Ev.cells5 (rs 3)) rfl HOWN.out rfl ?_)
          go_roundg (gk - 1)
          case measure => have := HKG.out; omega
          case rel => exact ⟨9, ⟨S.T, updF S.D 3 (S.D 3 ++ [])⟩, by have := HKG.out; omega, rfl, HPW, HFk⟩
        · subst hv
          have HC : Hid (∀ (jj : Nat) u, (Ev.cells5 r)[jj]? = some u → w6.cell? ((⟨g, 0, none⟩ : Addr).add jj) = some u) := fun jj u hj => by
            obtain ⟨b, e, hc⟩ := own_ats hr.own hj
            injection e with e
            injection e with e
            subst e
            exact cell_add_ hc
          have HO1 : Hid (∀ u ∈ Ev.cells5 r, u.oneCell' = true) := Ev.one_cells5 (fun x hx => hr.lay x hx)
          have HLN := Lib.hid (Ev.cells5_len r)
          have HEQ : Hid (∀ v7 : Value, ∀ w7 : World, w6.grownBy w7 (Value.slice As (rs 3).length cs_).ownBlock → Blk w7 (w.heap.size + 1) 37 (rowT S.T ss)) := fun v7 w7 hg => HPB.out.grown hg (fun e => own_kind HOWN.out HPB.out (by decide) e.symm)
          have HPW := Lib.hid (fun (v7 : Value) (w7 : World) ho hg hat => HP5.out.turn ⟨_, _, _, (HPUT.out v7 w7 ho hg hat).1⟩ (HPUT.out v7 w7 ho hg hat).2 (fun k hk => (List.mem_cons.1 hk).elim (fun e => .inl e) (fun h => .inr (HOD.out k h))) HW.out)
          clear hr hb HPUT HP4 HP5 HPB hgg hg3 hg4 hbg
          go_wp2_with (at_builtin; refine wpList_append_own_at _ rfl (.tmp 50) (.tmp 51) 35 rfl w.heap.size 39 i z 5 72 Tryz.underlying35 HI.out hz0 hz2 hz3 hz1 (by decide) (.slice As (rs 3).length cs_) (rs 3).length (Ev.cells5 (rs 3)) rfl HOWN.out ⟨g, 0, none⟩ r.length cap (Ev.cells5 r) rfl HLN.out HC.out HO1.out (by unfold maxLen; omega) (by omega) (by omega) ?_; intro v7 w7 hown7 hg7 hnil7 hat7; have HP7 := Lib.hid (HPW.out v7 w7 hown7 hg7 hat7); have hB7 := HEQ.out v7 w7 hg7; have p7 := hB7.cell 7; have f7 := hB7.free 7; unfold rowT at p7; simp at p7; obtain ⟨A7, c7, rfl, hn7, hm7⟩ := own_form' hown7; clear hown7 hg7 hnil7 hat7 hB7)
          go_roundg (gk - 1)
          case measure => have := HKG.out; omega
          case rel => exact ⟨9, ⟨S.T, updF S.D 3 (S.D 3 ++ r.map Prod.fst)⟩, by have := HKG.out; omega, rfl, HP7, HFk⟩
    · clear ix0 ix1 ix2 ix3 ix4 ix5 ix6 ix7 ix8 ix10 ix11 efrelationFields_1 efrelationFields_2 efrelationFields_3 efrelationFields_4 efrelationFields_6 efrelationFields_7 eftextFields_1 eftextFields_2 eftextFields_3 eftextFields_4
      obtain ⟨ss, rs, F, hPk⟩ := HP.out.pk
      have hlk := run_lookS (P := Tryz.prog) (k := mkS [82, 101, 112, 108, 97, 99, 101, 115]) Tryz.underlying41 Tryz.underlying9 zeroSs HP.out.sz.map
      have hgot := look_got [82, 101, 112, 108, 97, 99, 101, 115] HP.out.sz.rows
      generalize (lookO (mkS [82, 101, 112, 108, 97, 99, 101, 115]) (szEs s vs)).getD (.slice none 0 0) = V at *
      have CXk := Lib.hid (CX.out 9 V wr hgot)
      have CCk := Lib.hid (CC.out 9)
      have CLk := Lib.hid (CL.out 9)
      have htx : joinX (getS s (fldL.getD 9 [])) = txF s 9 := rfl
      rw [htx] at CXk
      clear CX CC CL hgot htx hPk
      go_wp2_with fail
      refine CXk.out.mono ?_
      rintro e w4 ⟨rfl, hb⟩
      have HP4 := Lib.hid (HP.out.below hb)
      clear hb CXk HP hlk
      have hl2 := run_look (P := Tryz.prog) (k := mkS [82, 101, 112, 108, 97, 99, 101, 115]) Tryz.underlying82 Tryz.underlying9 zeroRf HP4.out.m2
      rw [rel9] at hl2
      simp only [Option.getD_some, fcV] at hl2
      have CLw := Lib.hid (CLk.out w4 HP4.out.env.base)
      clear CLk CCk
      have HFk : Hid (foldF s 10 = match depsX (txF s 9) with
        | none => none
        | some ds => some ⟨S.T, updF S.D 4 (S.D 4 ++ ds)⟩) := by show (foldF s 9).bind _ = _; rw [HF.out]; rfl
      have HDL0 : Hid (∀ ds, depsX (txF s 9) = some ds → ds.length ≤ 100001) := fun ds h => deps_len (HZ.out _) h
      have HFL : Hid (∀ i, (S.D i).length ≤ 1200012) := fun i => Nat.le_trans (fold_len (fun k ds h => deps_len (HZ.out _) h) _ _ HF.out i) (by omega)
      generalize txF s 9 = X at *
      cases hd : depsX X with
      | none =>
        rw [hd] at CLw HFk
        have HN : Hid (packX s = .error 120) := by
          show packX s = _
          unfold packX
          have := foldF_none (HFk.out : foldF s 10 = none) 2
          rw [this]
        unfold RelPost at CLw
        clear hd HFk
        go_wp2_with fail
        refine CLw.out.mono ?_
        rintro e w5 ⟨rfl, hb⟩
        have HP5 := Lib.hid (HP4.out.below hb)
        have HR5 := Lib.hid HP5.out.res
        have HBB := Lib.hid HP5.out.bel
        clear hb CLw HP4 HP5 hl2
        have z0 := HR5.out.cell 0
        have f0 := HR5.out.free 0
        have z1 := HR5.out.cell 1
        have f1 := HR5.out.free 1
        have z2 := HR5.out.cell 2
        have f2 := HR5.out.free 2
        have z3 := HR5.out.cell 3
        have f3 := HR5.out.free 3
        have z4 := HR5.out.cell 4
        have f4 := HR5.out.free 4
        have z5 := HR5.out.cell 5
        have f5 := HR5.out.free 5
        have z6 := HR5.out.cell 6
        have f6 := HR5.out.free 6
        have z7 := HR5.out.cell 7
        have f7 := HR5.out.free 7
        have z8 := HR5.out.cell 8
        have f8 := HR5.out.free 8
        have z9 := HR5.out.cell 9
        have f9 := HR5.out.free 9
        have z10 := HR5.out.cell 10
        have f10 := HR5.out.free 10
        have z11 := HR5.out.cell 11
        have f11 := HR5.out.free 11
        unfold zero12 at z0 z1 z2 z3 z4 z5 z6 z7 z8 z9 z10 z11
        simp at z0 z1 z2 z3 z4 z5 z6 z7 z8 z9 z10 z11
        have HK := Lib.hid (pkg_get ((((((((((((HR5.out.set_ 0 (.string ⟨#[]⟩)).set_ 1 (.string ⟨#[]⟩)).set_ 2 (.string ⟨#[]⟩)).set_ 3 (.string ⟨#[]⟩)).set_ 4 (.slice none 0 0)).set_ 5 (.slice none 0 0)).set_ 6 (.slice none 0 0)).set_ 7 (.slice none 0 0)).set_ 8 (.slice none 0 0)).set_ 9 (.slice none 0 0)).set_ 10 (.slice none 0 0)).set_ 11 (.slice none 0 0)))
        have HBZ : Hid (Below w.heap.size w ((((((((((((w5.setCell ⟨w.heap.size, 0, none⟩ (.string ⟨#[]⟩)).setCell ⟨w.heap.size, 1, none⟩ (.string ⟨#[]⟩)).setCell ⟨w.heap.size, 2, none⟩ (.string ⟨#[]⟩)).setCell ⟨w.heap.size, 3, none⟩ (.string ⟨#[]⟩)).setCell ⟨w.heap.size, 4, none⟩ (.slice none 0 0)).setCell ⟨w.heap.size, 5, none⟩ (.slice none 0 0)).setCell ⟨w.heap.size, 6, none⟩ (.slice none 0 0)).setCell ⟨w.heap.size, 7, none⟩ (.slice none 0 0)).setCell ⟨w.heap.size, 8, none⟩ (.slice none 0 0)).setCell ⟨w.heap.size, 9, none⟩ (.slice none 0 0)).setCell ⟨w.heap.size, 10, none⟩ (.slice none 0 0)).setCell ⟨w.heap.size, 11, none⟩ (.slice none 0 0))) := ((((((((((((HBB.out.setCell (Nat.le_refl _) _).setCell (Nat.le_refl _) _).setCell (Nat.le_refl _) _).setCell (Nat.le_refl _) _).setCell (Nat.le_refl _) _).setCell (Nat.le_refl _) _).setCell (Nat.le_refl _) _).setCell (Nat.le_refl _) _).setCell (Nat.le_refl _) _).setCell (Nat.le_refl _) _).setCell (Nat.le_refl _) _).setCell (Nat.le_refl _) _)
        clear HR5 HBB
        go_wp2_with fail
        show bodyPost _ _ _ _ _ _
        refine bodyPost_ret (v := .tuple #[.agg #[.string ⟨#[]⟩, .string ⟨#[]⟩, .string ⟨#[]⟩, .string ⟨#[]⟩, .slice none 0 0, .slice none 0 0, .slice none 0 0, .slice none 0 0, .slice none 0 0, .slice none 0 0, .slice none 0 0, .slice none 0 0], .int .i64 120]) ?_ rfl ?_
        · refine (res_cell_tmp (t := 2) (u := 3) rfl _ (ad := ⟨w.heap.size, 0, none⟩) rfl HK.out).trans ?_
          rfl
        · show PackPost w (packX s) _ _
          rw [HN.out]
          exact ⟨rfl, by decide, HBZ.out⟩
      | some ds =>
        have hdX := hd
        rw [hd] at CLw HFk
        unfold RelPost at CLw
        clear hd
        go_wp2_with fail
        refine CLw.out.mono ?_
        rintro e w5 ⟨v, r, F', rfl, hr, hds⟩
        subst hds
        have HDL := Lib.hid (HDL0.out _ hdX)
        clear hdX
        have hb : Below w4.heap.size w4 w5 := hr.bel
        have HP5 := Lib.hid (HP4.out.below hb)
        obtain ⟨ss, rs, F, hPk⟩ := HP4.out.pk
        have hPk5 := hPk.below hb
        have CF := Lib.hid (cl_relationFields_5 (w.heap.size + 1) w5 _ hPk5.blk)
        have hl3 := run_look (P := Tryz.prog) (k := mkS [82, 101, 112, 108, 97, 99, 101, 115]) Tryz.underlying82 Tryz.underlying9 zeroRf HP5.out.m2
        rw [rel9] at hl3
        simp only [Option.getD_some, fcV] at hl3
        have p0 := hPk5.blk.cell 8
        have pf := hPk5.blk.free 8
        unfold rowT at p0
        simp at p0
        have HPUT := Lib.hid (fun v'' w'' ho hg hat => hPk.put hb hr (i := 4) (by omega) (v'' := v'') (w'' := w'') ho hg hat)
        have HOWN := Lib.hid (hPk5.own 4 (by omega))
        have hOd := own_deps HOWN.out
        have HOD := Lib.hid hOd
        have hrl : r.length ≤ 100001 := by have := HDL.out; rw [List.length_map] at this; exact this
        have hnl : (rs 4).length ≤ 1200012 := by have := HFL.out 4; rw [← hPk.is 4 (by omega), List.length_map] at this; omega
        have hsz5 : w.heap.size ≤ w5.heap.size := HP5.out.bel.size
        obtain ⟨As, cs_, hss, hs1, hs2⟩ := own_form' HOWN.out
        unfold maxLen at hs2
        rw [hss] at p0 HOWN HPUT HOD
        have HPB := Lib.hid hPk5.blk
        clear hPk hPk5 hOd hss
        go_wp2_with fail
        refine CF.out.mono ?_
        rintro e w6 ⟨rfl, rfl⟩
        clear CF hl3
        rcases hr.own.2 with ⟨hv, h0⟩ | ⟨g, cap, cur, hv, hbg, hgg, hg1, hg2, hg3, hg4⟩
        · subst hv
          have hr0 : r = [] := List.length_eq_zero_iff.1 h0
          subst hr0
          have HP7 := Lib.hid (HPUT.out (.slice As (rs 4).length cs_) w6 (by rw [show (rs 4).length + ([] : Ev.Rows5).length = (rs 4).length from rfl, show Ev.cells5 ([] : Ev.Rows5) = [] from rfl, List.append_nil]; exact HOWN.out) (grown_refl _ _) (.inl rfl))
          have HPW := Lib.hid (HP5.out.turn ⟨_, _, _, HP7.out.1⟩ HP7.out.2 (fun k hk => (List.mem_cons.1 hk).elim (fun e => .inl e) (fun h => .inr (HOD.out k h))) HW.out)
          clear hr hb HPUT HP4 HP5 HP7
          go_wp2_with (at_builtin; refine wpList_append_own_none rfl (.tmp 50) (.tmp 51) 35 rfl w.heap.size 39 i 5 Tryz.underlying35 HI.out (.slice As (rs 4).length cs_) (rs 4).length (Ev.cells5 (rs 4)) rfl HOWN.out rfl ?_)
          go_roundg (gk - 1)
          case measure => have := HKG.out; omega
          case rel => exact ⟨10, ⟨S.T, updF S.D 4 (S.D 4 ++ [])⟩, by have := HKG.out; omega, rfl, HPW, HFk⟩
        · subst hv
          have HC : Hid (∀ (jj : Nat) u, (Ev.cells5 r)[jj]? = some u → w6.cell? ((⟨g, 0, none⟩ : Addr).add jj) = some u) := fun jj u hj => by
            obtain ⟨b, e, hc⟩ := own_ats hr.own hj
            injection e with e
            injection e with e
            subst e
            exact cell_add_ hc
          have HO1 : Hid (∀ u ∈ Ev.cells5 r, u.oneCell' = true) := Ev.one_cells5 (fun x hx => hr.lay x hx)
          have HLN := Lib.hid (Ev.cells5_len r)
          have HEQ : Hid (∀ v7 : Value, ∀ w7 : World, w6.grownBy w7 (Value.slice As (rs 4).length cs_).ownBlock → Blk w7 (w.heap.size + 1) 37 (rowT S.T ss)) := fun v7 w7 hg => HPB.out.grown hg (fun e => own_kind HOWN.out HPB.out (by decide) e.symm)
          have HPW := Lib.hid (fun (v7 : Value) (w7 : World) ho hg hat => HP5.out.turn ⟨_, _, _, (HPUT.out v7 w7 ho hg hat).1⟩ (HPUT.out v7 w7 ho hg hat).2 (fun k hk => (List.mem_cons.1 hk).elim (fun e => .inl e) (fun h => .inr (HOD.out k h))) HW.out)
          clear hr hb HPUT HP4 HP5 HPB hgg hg3 hg4 hbg
          go_wp2_with (at_builtin; refine wpList_append_own_at _ rfl (.tmp 50) (.tmp 51) 35 rfl w.heap.size 39 i z 5 72 Tryz.underlying35 HI.out hz0 hz2 hz3 hz1 (by decide) (.slice As (rs 4).length cs_) (rs 4).length (Ev.cells5 (rs 4)) rfl HOWN.out ⟨g, 0, none⟩ r.length cap (Ev.cells5 r) rfl HLN.out HC.out HO1.out (by unfold maxLen; omega) (by omega) (by omega) ?_; intro v7 w7 hown7 hg7 hnil7 hat7; have HP7 := Lib.hid (HPW.out v7 w7 hown7 hg7 hat7); have hB7 := HEQ.out v7 w7 hg7; have p7 := hB7.cell 8; have f7 := hB7.free 8; unfold rowT at p7; simp at p7; obtain ⟨A7, c7, rfl, hn7, hm7⟩ := own_form' hown7; clear hown7 hg7 hnil7 hat7 hB7)
          go_roundg (gk - 1)
          case measure => have := HKG.out; omega
          case rel => exact ⟨10, ⟨S.T, updF S.D 4 (S.D 4 ++ r.map Prod.fst)⟩, by have := HKG.out; omega, rfl, HP7, HFk⟩
    · clear ix0 ix1 ix2 ix3 ix4 ix5 ix6 ix7 ix8 ix9 ix11 efrelationFields_1 efrelationFields_2 efrelationFields_3 efrelationFields_4 efrelationFields_5 efrelationFields_7 eftextFields_1 eftextFields_2 eftextFields_3 eftextFields_4
      obtain ⟨ss, rs, F, hPk⟩ := HP.out.pk
      have hlk := run_lookS (P := Tryz.prog) (k := mkS [82, 101, 99, 111, 109, 109, 101, 110, 100, 115]) Tryz.underlying41 Tryz.underlying9 zeroSs HP.out.sz.map
      have hgot := look_got [82, 101, 99, 111, 109, 109, 101, 110, 100, 115] HP.out.sz.rows
      generalize (lookO (mkS [82, 101, 99, 111, 109, 109, 101, 110, 100, 115]) (szEs s vs)).getD (.slice none 0 0) = V at *
      have CXk := Lib.hid (CX.out 10 V wr hgot)
      have CCk := Lib.hid (CC.out 10)
      have CLk := Lib.hid (CL.out 10)
      have htx : joinX (getS s (fldL.getD 10 [])) = txF s 10 := rfl
      rw [htx] at CXk
      clear CX CC CL hgot htx hPk
      go_wp2_with fail
      refine CXk.out.mono ?_
      rintro e w4 ⟨rfl, hb⟩
      have HP4 := Lib.hid (HP.out.below hb)
      clear hb CXk HP hlk
      have hl2 := run_look (P := Tryz.prog) (k := mkS [82, 101, 99, 111, 109, 109, 101, 110, 100, 115]) Tryz.underlying82 Tryz.underlying9 zeroRf HP4.out.m2
      rw [rel10] at hl2
      simp only [Option.getD_some, fcV] at hl2
      have CLw := Lib.hid (CLk.out w4 HP4.out.env.base)
      clear CLk CCk
      have HFk : Hid (foldF s 11 = match depsX (txF s 10) with
        | none => none
        | some ds => some ⟨S.T, updF S.D 5 (S.D 5 ++ ds)⟩) := by show (foldF s 10).bind _ = _; rw [HF.out]; rfl
      have HDL0 : Hid (∀ ds, depsX (txF s 10) = some ds → ds.length ≤ 100001) := fun ds h => deps_len (HZ.out _) h
      have HFL : Hid (∀ i, (S.D i).length ≤ 1200012) := fun i => Nat.le_trans (fold_len (fun k ds h => deps_len (HZ.out _) h) _ _ HF.out i) (by omega)
      generalize txF s 10 = X at *
      cases hd : depsX X with
      | none =>
        rw [hd] at CLw HFk
        have HN : Hid (packX s = .error 120) := by
          show packX s = _
          unfold packX
          have := foldF_none (HFk.out : foldF s 11 = none) 1
          rw [this]
        unfold RelPost at CLw
        clear hd HFk
        go_wp2_with fail
        refine CLw.out.mono ?_
        rintro e w5 ⟨rfl, hb⟩
        have HP5 := Lib.hid (HP4.out.below hb)
        have HR5 := Lib.hid HP5.out.res
        have HBB := Lib.hid HP5.out.bel
        clear hb CLw HP4 HP5 hl2
        have z0 := HR5.out.cell 0
        have f0 := HR5.out.free 0
        have z1 := HR5.out.cell 1
        have f1 := HR5.out.free 1
        have z2 := HR5.out.cell 2
        have f2 := HR5.out.free 2
        have z3 := HR5.out.cell 3
        have f3 := HR5.out.free 3
        have z4 := HR5.out.cell 4
        have f4 := HR5.out.free 4
        have z5 := HR5.out.cell 5
        have f5 := HR5.out.free 5
        have z6 := HR5.out.cell 6
        have f6 := HR5.out.free 6
        have z7 := HR5.out.cell 7
        have f7 := HR5.out.free 7
        have z8 := HR5.out.cell 8
        have f8 := HR5.out.free 8
        have z9 := HR5.out.cell 9
        have f9 := HR5.out.free 9
        have z10 := HR5.out.cell 10
        have f10 := HR5.out.free 10
        have z11 := HR5.out.cell 11
        have f11 := HR5.out.free 11
        unfold zero12 at z0 z1 z2 z3 z4 z5 z6 z7 z8 z9 z10 z11
        simp at z0 z1 z2 z3 z4 z5 z6 z7 z8 z9 z10 z11
        have HK := Lib.hid (pkg_get ((((((((((((HR5.out.set_ 0 (.string ⟨#[]⟩)).set_ 1 (.string ⟨#[]⟩)).set_ 2 (.string ⟨#[]⟩)).set_ 3 (.string ⟨#[]⟩)).set_ 4 (.slice none 0 0)).set_ 5 (.slice none 0 0)).set_ 6 (.slice none 0 0)).set_ 7 (.slice none 0 0)).set_ 8 (.slice none 0 0)).set_ 9 (.slice none 0 0)).set_ 10 (.slice none 0 0)).set_ 11 (.slice none 0 0)))
        have HBZ : Hid (Below w.heap.size w ((((((((((((w5.setCell ⟨w.heap.size, 0, none⟩ (.string ⟨#[]⟩)).setCell ⟨w.heap.size, 1, none⟩ (.string ⟨#[]⟩)).setCell ⟨w.heap.size, 2, none⟩ (.string ⟨#[]⟩)).setCell ⟨w.heap.size, 3, none⟩ (.string ⟨#[]⟩)).setCell ⟨w.heap.size, 4, none⟩ (.slice none 0 0)).setCell ⟨w.heap.size, 5, none⟩ (.slice none 0 0)).setCell ⟨w.heap.size, 6, none⟩ (.slice none 0 0)).setCell ⟨w.heap.size, 7, none⟩ (.slice none 0 0)).setCell ⟨w.heap.size, 8, none⟩ (.slice none 0 0)).setCell ⟨w.heap.size, 9, none⟩ (.slice none 0 0)).setCell ⟨w.heap.size, 10, none⟩ (.slice none 0 0)).setCell ⟨w.heap.size, 11, none⟩ (.slice none 0 0))) := ((((((((((((HBB.out.setCell (Nat.le_refl _) _).setCell (Nat.le_refl _) _).setCell (Nat.le_refl _) _).setCell (Nat.le_refl _) _).setCell (Nat.le_refl _) _).setCell (Nat.le_refl _) _).setCell (Nat.le_refl _) _).setCell (Nat.le_refl _) _).setCell (Nat.le_refl _) _).setCell (Nat.le_refl _) _).setCell (Nat.le_refl _) _).setCell (Nat.le_refl _) _)
        clear HR5 HBB
        go_wp2_with fail
        show bodyPost _ _ _ _ _ _
        refine bodyPost_ret (v := .tuple #[.agg #[.string ⟨#[]⟩, .string ⟨#[]⟩, .string ⟨#[]⟩, .string ⟨#[]⟩, .slice none 0 0, .slice none 0 0, .slice none 0 0, .slice none 0 0, .slice none 0 0, .slice none 0 0, .slice none 0 0, .slice none 0 0], .int .i64 120]) ?_ rfl ?_
        · refine (res_cell_tmp (t := 2) (u := 3) rfl _ (ad := ⟨w.heap.size, 0, none⟩) rfl HK.out).trans ?_
          rfl
        · show PackPost w (packX s) _ _
          rw [HN.out]
          exact ⟨rfl, by decide, HBZ.out⟩
      | some ds =>
        have hdX := hd
        rw [hd] at CLw HFk
        unfold RelPost at CLw
        clear hd
        go_wp2_with fail
        refine CLw.out.mono ?_
        rintro e w5 ⟨v, r, F', rfl, hr, hds⟩
        subst hds
        have HDL := Lib.hid (HDL0.out _ hdX)
        clear hdX
        have hb : Below w4.heap.size w4 w5 := hr.bel
        have HP5 := Lib.hid (HP4.out.below hb)
        obtain ⟨ss, rs, F, hPk⟩ := HP4.out.pk
        have hPk5 := hPk.below hb
        have CF := Lib.hid (cl_relationFields_6 (w.heap.size + 1) w5 _ hPk5.blk)
        have hl3 := run_look (P := Tryz.prog) (k := mkS [82, 101, 99, 111, 109, 109, 101, 110, 100, 115]) Tryz.underlying82 Tryz.underlying9 zeroRf HP5.out.m2
        rw [rel10] at hl3
        simp only [Option.getD_some, fcV] at hl3
        have p0 := hPk5.blk.cell 9
        have pf := hPk5.blk.free 9
        unfold rowT at p0
        simp at p0
        have HPUT := Lib.hid (fun v'' w'' ho hg hat => hPk.put hb hr (i := 5) (by omega) (v'' := v'') (w'' := w'') ho hg hat)
        have HOWN := Lib.hid (hPk5.own 5 (by omega))
        have hOd := own_deps HOWN.out
        have HOD := Lib.hid hOd
        have hrl : r.length ≤ 100001 := by have := HDL.out; rw [List.length_map] at this; exact this
        have hnl : (rs 5).length ≤ 1200012 := by have := HFL.out 5; rw [← hPk.is 5 (by omega), List.length_map] at this; omega
        have hsz5 : w.heap.size ≤ w5.heap.size := HP5.out.bel.size
        obtain ⟨As, cs_, hss, hs1, hs2⟩ := own_form' HOWN.out
        unfold maxLen at hs2
        rw [hss] at p0 HOWN HPUT HOD
        have HPB := Lib.hid hPk5.blk
        clear hPk hPk5 hOd hss
        go_wp2_with fail
        refine CF.out.mono ?_
        rintro e w6 ⟨rfl, rfl⟩
        clear CF hl3
        rcases hr.own.2 with ⟨hv, h0⟩ | ⟨g, cap, cur, hv, hbg, hgg, hg1, hg2, hg3, hg4⟩
        · subst hv
          have hr0 : r = [] := List.length_eq_zero_iff.1 h0
          subst hr0
          have HP7 := Lib.hid (HPUT.out (.slice As (rs 5).length cs_) w6 (by rw [show (rs 5).length + ([] : Ev.Rows5).length = (rs 5).length from rfl, show Ev.cells5 ([] : Ev.Rows5) = [] from rfl, List.append_nil]; exact HOWN.out) (grown_refl _ _) (.inl rfl))
          have HPW := Lib.hid (HP5.out.turn ⟨_, _, _, HP7.out.1⟩ HP7.out.2 (fun k hk => (List.mem_cons.1 hk).elim (fun e => .inl e) (fun h => .inr (HOD.out k h))) HW.out)
          clear hr hb HPUT HP4 HP5 HP7
          go_wp2_with (at_builtin; refine wpList_append_own_none rfl (.tmp 50) (.tmp 51) 35 rfl w.heap.size 39 i 5 Tryz.underlying35 HI.out (.slice As (rs 5).length cs_) (rs 5).length (Ev.cells5 (rs 5)) rfl HOWN.out rfl ?_)
          go_roundg (gk - 1)
          case measure => have := HKG.out; omega
          case rel => exact ⟨11, ⟨S.T, updF S.D 5 (S.D 5 ++ [])⟩, by have := HKG.out; omega, rfl, HPW, HFk⟩
        · subst hv
          have HC : Hid (∀ (jj : Nat) u, (Ev.cells5 r)[jj]? = some u → w6.cell? ((⟨g, 0, none⟩ : Addr).add jj) = some u) := fun jj u hj => by
            obtain ⟨b, e, hc⟩ := own_ats hr.own hj
            injection e with e
            injection e with e
            subst e
            exact cell_add_ hc
          have HO1 : Hid (∀ u ∈ Ev.cells5 r, u.oneCell' = true) := Ev.one_cells5 (fun x hx => hr.lay x hx)
          have HLN := Lib.hid (Ev.cells5_len r)
          have HEQ : Hid (∀ v7 : Value, ∀ w7 : World, w6.grownBy w7 (Value.slice As (rs 5).length cs_).ownBlock → Blk w7 (w.heap.size + 1) 37 (rowT S.T ss)) := fun v7 w7 hg => HPB.out.grown hg (fun e => own_kind HOWN.out HPB.out (by decide) e.symm)
          have HPW := Lib.hid (fun (v7 : Value) (w7 : World) ho hg hat => HP5.out.turn ⟨_, _, _, (HPUT.out v7 w7 ho hg hat).1⟩ (HPUT.out v7 w7 ho hg hat).2 (fun k hk => (List.mem_cons.1 hk).elim (fun e => .inl e) (fun h => .inr (HOD.out k h))) HW.out)
          clear hr hb HPUT HP4 HP5 HPB hgg hg3 hg4 hbg
          go_wp2_with (at_builtin; refine wpList_append_own_at _ rfl (.tmp 50) (.tmp 51) 35 rfl w.heap.size 39 i z 5 72 Tryz.underlying35 HI.out hz0 hz2 hz3 hz1 (by decide) (.slice As (rs 5).length cs_) (rs 5).length (Ev.cells5 (rs 5)) rfl HOWN.out ⟨g, 0, none⟩ r.length cap (Ev.cells5 r) rfl HLN.out HC.out HO1.out (by unfold maxLen; omega) (by omega) (by omega) ?_; intro v7 w7 hown7 hg7 hnil7 hat7; have HP7 := Lib.hid (HPW.out v7 w7 hown7 hg7 hat7); have hB7 := HEQ.out v7 w7 hg7; have p7 := hB7.cell 9; have f7 := hB7.free 9; unfold rowT at p7; simp at p7; obtain ⟨A7, c7, rfl, hn7, hm7⟩ := own_form' hown7; clear hown7 hg7 hnil7 hat7 hB7)
          go_roundg (gk - 1)
          case measure => have := HKG.out; omega
          case rel => exact ⟨11, ⟨S.T, updF S.D 5 (S.D 5 ++ r.map Prod.fst)⟩, by have := HKG.out; omega, rfl, HP7, HFk⟩
    · clear ix0 ix1 ix2 ix3 ix4 ix5 ix6 ix7 ix8 ix9 ix10 efrelationFields_1 efrelationFields_2 efrelationFields_3 efrelationFields_4 efrelationFields_5 efrelationFields_6 eftextFields_1 eftextFields_2 eftextFields_3 eftextFields_4
      obtain ⟨ss, rs, F, hPk⟩ := HP.out.pk
      have hlk := run_lookS (P := Tryz.prog) (k := mkS [69, 110, 104, 97, 110, 99, 101, 115]) Tryz.underlying41 Tryz.underlying9 zeroSs HP.out.sz.map
      have hgot := look_got [69, 110, 104, 97, 110, 99, 101, 115] HP.out.sz.rows
      generalize (lookO (mkS [69, 110, 104, 97, 110, 99, 101, 115]) (szEs s vs)).getD (.slice none 0 0) = V at *
      have CXk := Lib.hid (CX.out 11 V wr hgot)
      have CCk := Lib.hid (CC.out 11)
      have CLk := Lib.hid (CL.out 11)
      have htx : joinX (getS s (fldL.getD 11 [])) = txF s 11 := rfl
      rw [htx] at CXk
      clear CX CC CL hgot htx hPk
      go_wp2_with fail
      refine CXk.out.mono ?_
      rintro e w4 ⟨rfl, hb⟩
      have HP4 := Lib.hid (HP.out.below hb)
      clear hb CXk HP hlk
      have hl2 := run_look (P := Tryz.prog) (k := mkS [69, 110, 104, 97, 110, 99, 101, 115]) Tryz.underlying82 Tryz.underlying9 zeroRf HP4.out.m2
      rw [rel11] at hl2
      simp only [Option.getD_some, fcV] at hl2
      have CLw := Lib.hid (CLk.out w4 HP4.out.env.base)
      clear CLk CCk
      have HFk : Hid (foldF s 12 = match depsX (txF s 11) with
        | none => none
        | some ds => some ⟨S.T, updF S.D 6 (S.D 6 ++ ds)⟩) := by show (foldF s 11).bind _ = _; rw [HF.out]; rfl
      have HDL0 : Hid (∀ ds, depsX (txF s 11) = some ds → ds.length ≤ 100001) := fun ds h => deps_len (HZ.out _) h
      have HFL : Hid (∀ i, (S.D i).length ≤ 1200012) := fun i => Nat.le_trans (fold_len (fun k ds h => deps_len (HZ.out _) h) _ _ HF.out i) (by omega)
      generalize txF s 11 = X at *
      cases hd : depsX X with
      | none =>
        rw [hd] at CLw HFk
        have HN : Hid (packX s = .error 120) := by
          show packX s = _
          unfold packX
          have := foldF_none (HFk.out : foldF s 12 = none) 0
          rw [this]
        unfold RelPost at CLw
        clear hd HFk
        go_wp2_with fail
        refine CLw.out.mono ?_
        rintro e w5 ⟨rfl, hb⟩
        have HP5 := Lib.hid (HP4.out.below hb)
        have HR5 := Lib.hid HP5.out.res
        have HBB := Lib.hid HP5.out.bel
        clear hb CLw HP4 HP5 hl2
        have z0 := HR5.out.cell 0
        have f0 := HR5.out.free 0
        have z1 := HR5.out.cell 1
        have f1 := HR5.out.free 1
        have z2 := HR5.out.cell 2
        have f2 := HR5.out.free 2
        have z3 := HR5.out.cell 3
        have f3 := HR5.out.free 3
        have z4 := HR5.out.cell 4
        have f4 := HR5.out.free 4
        have z5 := HR5.out.cell 5
        have f5 := HR5.out.free 5
        have z6 := HR5.out.cell 6
        have f6 := HR5.out.free 6
        have z7 := HR5.out.cell 7
        have f7 := HR5.out.free 7
        have z8 := HR5.out.cell 8
        have f8 := HR5.out.free 8
        have z9 := HR5.out.cell 9
        have f9 := HR5.out.free 9
        have z10 := HR5.out.cell 10
        have f10 := HR5.out.free 10
        have z11 := HR5.out.cell 11
        have f11 := HR5.out.free 11
        unfold zero12 at z0 z1 z2 z3 z4 z5 z6 z7 z8 z9 z10 z11
        simp at z0 z1 z2 z3 z4 z5 z6 z7 z8 z9 z10 z11
        have HK := Lib.hid (pkg_get ((((((((((((HR5.out.set_ 0 (.string ⟨#[]⟩)).set_ 1 (.string ⟨#[]⟩)).set_ 2 (.string ⟨#[]⟩)).set_ 3 (.string ⟨#[]⟩)).set_ 4 (.slice none 0 0)).set_ 5 (.slice none 0 0)).set_ 6 (.slice none 0 0)).set_ 7 (.slice none 0 0)).set_ 8 (.slice none 0 0)).set_ 9 (.slice none 0 0)).set_ 10 (.slice none 0 0)).set_ 11 (.slice none 0 0)))
        have HBZ : Hid (Below w.heap.size w ((((((((((((w5.setCell ⟨w.heap.size, 0, none⟩ (.string ⟨#[]⟩)).setCell ⟨w.heap.size, 1, none⟩ (.string ⟨#[]⟩)).setCell ⟨w.heap.size, 2, none⟩ (.string ⟨#[]⟩)).setCell ⟨w.heap.size, 3, none⟩ (.string ⟨#[]⟩)).setCell ⟨w.heap.size, 4, none⟩ (.slice none 0 0)).setCell ⟨w.heap.size, 5, none⟩ (.slice none 0 0)).setCell ⟨w.heap.size, 6, none⟩ (.slice none 0 0)).setCell ⟨w.heap.size, 7, none⟩ (.slice none 0 0)).setCell ⟨w.heap.size, 8, none⟩ (.slice none 0 0)).setCell ⟨w.heap.size, 9, none⟩ (.slice none 0 0)).setCell ⟨w.heap.size, 10, none⟩ (.slice none 0 0)).setCell ⟨w.heap.size, 11, none⟩ (.slice none 0 0))) := ((((((((((((HBB.out.setCell (Nat.le_refl _) _).setCell (Nat.le_refl _) _).setCell (Nat.le_refl _) _).setCell (Nat.le_refl _) _).setCell (Nat.le_refl _) _).setCell (Nat.le_refl _) _).setCell (Nat.le_refl _) _).setCell (Nat.le_refl _) _).setCell (Nat.le_refl _) _).setCell (Nat.le_refl _) _).setCell (Nat.le_refl _) _).setCell (Nat.le_refl _) _)
        clear HR5 HBB
        go_wp2_with fail
        show bodyPost _ _ _ _ _ _
        refine bodyPost_ret (v := .tuple #[.agg #[.string ⟨#[]⟩, .string ⟨#[]⟩, .string ⟨#[]⟩, .string ⟨#[]⟩, .slice none 0 0, .slice none 0 0, .slice none 0 0, .slice none 0 0, .slice none 0 0, .slice none 0 0, .slice none 0 0, .slice none 0 0], .int .i64 120]) ?_ rfl ?_
        · refine (res_cell_tmp (t := 2) (u := 3) rfl _ (ad := ⟨w.heap.size, 0, none⟩) rfl HK.out).trans ?_
          rfl
        · show PackPost w (packX s) _ _
          rw [HN.out]
          exact ⟨rfl, by decide, HBZ.out⟩
      | some ds =>
        have hdX := hd
        rw [hd] at CLw HFk
        unfold RelPost at CLw
        clear hd
        go_wp2_with fail
        refine CLw.out.mono ?_
        rintro e w5 ⟨v, r, F', rfl, hr, hds⟩
        subst hds
        have HDL := Lib.hid (HDL0.out _ hdX)
        clear hdX
        have hb : Below w4.heap.size w4 w5 := hr.bel
        have HP5 := Lib.hid (HP4.out.below hb)
        obtain ⟨ss, rs, F, hPk⟩ := HP4.out.pk
        have hPk5 := hPk.below hb
        have CF := Lib.hid (cl_relationFields_7 (w.heap.size + 1) w5 _ hPk5.blk)
        have hl3 := run_look (P := Tryz.prog) (k := mkS [69, 110, 104, 97, 110, 99, 101, 115]) Tryz.underlying82 Tryz.underlying9 zeroRf HP5.out.m2
        rw [rel11] at hl3
        simp only [Option.getD_some, fcV] at hl3
        have p0 := hPk5.blk.cell 10
        have pf := hPk5.blk.free 10
        unfold rowT at p0
        simp at p0
        have HPUT := Lib.hid (fun v'' w'' ho hg hat => hPk.put hb hr (i := 6) (by omega) (v'' := v'') (w'' := w'') ho hg hat)
        have HOWN := Lib.hid (hPk5.own 6 (by omega))
        have hOd := own_deps HOWN.out
        have HOD := Lib.hid hOd
        have hrl : r.length ≤ 100001 := by have := HDL.out; rw [List.length_map] at this; exact this
        have hnl : (rs 6).length ≤ 1200012 := by have := HFL.out 6; rw [← hPk.is 6 (by omega), List.length_map] at this; omega
        have hsz5 : w.heap.size ≤ w5.heap.size := HP5.out.bel.size
        obtain ⟨As, cs_, hss, hs1, hs2⟩ := own_form' HOWN.out
        unfold maxLen at hs2
        rw [hss] at p0 HOWN HPUT HOD
        have HPB := Lib.hid hPk5.blk
        clear hPk hPk5 hOd hss
        go_wp2_with fail
        refine CF.out.mono ?_
        rintro e w6 ⟨rfl, rfl⟩
        clear CF hl3
        rcases hr.own.2 with ⟨hv, h0⟩ | ⟨g, cap, cur, hv, hbg, hgg, hg1, hg2, hg3, hg4⟩
        · subst hv
          have hr0 : r = [] := List.length_eq_zero_iff.1 h0
          subst hr0
          have HP7 := Lib.hid (HPUT.out (.slice As (rs 6).length cs_) w6 (by rw [show (rs 6).length + ([] : Ev.Rows5).length = (rs 6).length from rfl, show Ev.cells5 ([] : Ev.Rows5) = [] from rfl, List.append_nil]; exact HOWN.out) (grown_refl _ _) (.inl rfl))
          have HPW := Lib.hid (HP5.out.turn ⟨_, _, _, HP7.out.1⟩ HP7.out.2 (fun k hk => (List.mem_cons.1 hk).elim (fun e => .inl e) (fun h => .inr (HOD.out k h))) HW.out)
          clear hr hb HPUT HP4 HP5 HP7
          go_wp2_with (at_builtin; refine wpList_append_own_none rfl (.tmp 50) (.tmp 51) 35 rfl w.heap.size 39 i 5 Tryz.underlying35 HI.out (.slice As (rs 6).length cs_) (rs 6).length (Ev.cells5 (rs 6)) rfl HOWN.out rfl ?_)
          go_roundg (gk - 1)
          case measure => have := HKG.out; omega
          case rel => exact ⟨12, ⟨S.T, updF S.D 6 (S.D 6 ++ [])⟩, by have := HKG.out; omega, rfl, HPW, HFk⟩
        · subst hv
          have HC : Hid (∀ (jj : Nat) u, (Ev.cells5 r)[jj]? = some u → w6.cell? ((⟨g, 0, none⟩ : Addr).add jj) = some u) := fun jj u hj => by
            obtain ⟨b, e, hc⟩ := own_ats hr.own hj
            injection e with e
            injection e with e
            subst e
            exact cell_add_ hc
          have HO1 : Hid (∀ u ∈ Ev.cells5 r, u.oneCell' = true) := Ev.one_cells5 (fun x hx => hr.lay x hx)
          have HLN := Lib.hid (Ev.cells5_len r)
          have HEQ : Hid (∀ v7 : Value, ∀ w7 : World, w6.grownBy w7 (Value.slice As (rs 6).length cs_).ownBlock → Blk w7 (w.heap.size + 1) 37 (rowT S.T ss)) := fun v7 w7 hg => HPB.out.grown hg (fun e => own_kind HOWN.out HPB.out (by decide) e.symm)
          have HPW := Lib.hid (fun (v7 : Value) (w7 : World) ho hg hat => HP5.out.turn ⟨_, _, _, (HPUT.out v7 w7 ho hg hat).1⟩ (HPUT.out v7 w7 ho hg hat).2 (fun k hk => (List.mem_cons.1 hk).elim (fun e => .inl e) (fun h => .inr (HOD.out k h))) HW.out)
          clear hr hb HPUT HP4 HP5 HPB hgg hg3 hg4 hbg
          go_wp2_with (at_builtin; refine wpList_append_own_at _ rfl (.tmp 50) (.tmp 51) 35 rfl w.heap.size 39 i z 5 72 Tryz.underlying35 HI.out hz0 hz2 hz3 hz1 (by decide) (.slice As (rs 6).length cs_) (rs 6).length (Ev.cells5 (rs 6)) rfl HOWN.out ⟨g, 0, none⟩ r.length cap (Ev.cells5 r) rfl HLN.out HC.out HO1.out (by unfold maxLen; omega) (by omega) (by omega) ?_; intro v7 w7 hown7 hg7 hnil7 hat7; have HP7 := Lib.hid (HPW.out v7 w7 hown7 hg7 hat7); have hB7 := HEQ.out v7 w7 hg7; have p7 := hB7.cell 10; have f7 := hB7.free 10; unfold rowT at p7; simp at p7; obtain ⟨A7, c7, rfl, hn7, hm7⟩ := own_form' hown7; clear hown7 hg7 hnil7 hat7 hB7)
          go_roundg (gk - 1)
          case measure => have := HKG.out; omega
          case rel => exact ⟨12, ⟨S.T, updF S.D 6 (S.D 6 ++ r.map Prod.fst)⟩, by have := HKG.out; omega, rfl, HP7, HFk⟩
    · clear ix0 ix1 ix2 ix3 ix4 ix5 ix6 ix7 ix8 ix9 ix10 ix11 efrelationFields_1 efrelationFields_2 efrelationFields_3 efrelationFields_4 efrelationFields_5 efrelationFields_6 efrelationFields_7 eftextFields_1 eftextFields_2 eftextFields_3 eftextFields_4
      clear CX CC CL
      have HND := Lib.hid (fin_nodes (fold_nodes HZ.out 12 S HF.out))
      have hpx : packX s = if chkD (pkgT (finS S)) = 0 then .ok (finS S) else .error (chkD (pkgT (finS S))) := by
        unfold packX
        rw [(HF.out : foldF s 12 = some S)]
      have HPX := Lib.hid hpx
      clear hpx
      obtain ⟨ss, rs, F, hPk⟩ := HP.out.pk
      have p0 := hPk.blk.cell 0
      have p1 := hPk.blk.cell 1
      have p2 := hPk.blk.cell 2
      have p3 := hPk.blk.cell 3
      have p4 := hPk.blk.cell 4
      have p5 := hPk.blk.cell 5
      have p6 := hPk.blk.cell 6
      have p7 := hPk.blk.cell 7
      have p8 := hPk.blk.cell 8
      have p9 := hPk.blk.cell 9
      have p10 := hPk.blk.cell 10
      have p11 := hPk.blk.cell 11
      have f2 := hPk.blk.free 2
      unfold rowT at p0 p1 p2 p3 p4 p5 p6 p7 p8 p9 p10 p11
      simp at p0 p1 p2 p3 p4 p5 p6 p7 p8 p9 p10 p11
      by_cases hA : S.T 2 = allN
      · have tn := all_is hA
        have hfin : finS S = ⟨updF S.T 2 noarN, S.D⟩ := if_pos hA
        rw [hfin] at HPX HND
        have q : mkS noarN = ⟨#[110, 111, 97, 114, 99, 104]⟩ := rfl
        have HPw := HP.out.text HW.out 2 (by omega) noarN
        have HPm := hPk.text 2 (by omega) noarN
        rw [q] at HPw HPm
        have hck := HPm.check HPw.env.tabs HND.out
        rw [show rowT (updF S.T 2 noarN) ss = #[.string (mkS (S.T 0)), .string (mkS (S.T 1)), .string ⟨#[110, 111, 97, 114, 99, 104]⟩, .string (mkS (S.T 3)), ss 0, ss 1, ss 2, ss 3, ss 4, ss 5, ss 6, .slice none 0 0] from by unfold rowT updF; rfl] at hck
        have CK := Lib.hid hck
        clear hck
        have HPM := Lib.hid HPm
        have HPW := Lib.hid HPw
        clear HPm HPw hPk hfin q HND hA
        generalize chkD (pkgT ⟨updF S.T 2 noarN, S.D⟩) = n at *
        go_wp2_with fail
        refine CK.out.mono ?_
        rintro e w5 ⟨rfl, hb⟩
        have HP5 := Lib.hid (HPM.out.below hb)
        have HQ5 := Lib.hid (HPW.out.below hb)
        have HR5 := Lib.hid HQ5.out.res
        have HBB := Lib.hid HQ5.out.bel
        have hne := HQ5.out.ne
        clear hb CK HPM HPW tn f2 p0 p1 p2 p3 p4 p5 p6 p7 p8 p9 p10 p11
        generalize updF S.T 2 noarN = T2 at *
        by_cases hn : n = 0
        · subst hn
          have HPX2 : Hid (packX s = .ok ⟨T2, S.D⟩) := Lib.hid (HPX.out.trans (if_pos rfl))
          clear HPX
          obtain ⟨A0, c0, e0, _, _⟩ := own_form' (HP5.out.own 0 (by omega))
          obtain ⟨A1, c1, e1, _, _⟩ := own_form' (HP5.out.own 1 (by omega))
          obtain ⟨A2, c2, e2, _, _⟩ := own_form' (HP5.out.own 2 (by omega))
          obtain ⟨A3, c3, e3, _, _⟩ := own_form' (HP5.out.own 3 (by omega))
          obtain ⟨A4, c4, e4, _, _⟩ := own_form' (HP5.out.own 4 (by omega))
          obtain ⟨A5, c5, e5, _, _⟩ := own_form' (HP5.out.own 5 (by omega))
          obtain ⟨A6, c6, e6, _, _⟩ := own_form' (HP5.out.own 6 (by omega))
          have l0 := HP5.out.blk.cell 0
          have l1 := HP5.out.blk.cell 1
          have l2 := HP5.out.blk.cell 2
          have l3 := HP5.out.blk.cell 3
          have l4 := HP5.out.blk.cell 4
          have l5 := HP5.out.blk.cell 5
          have l6 := HP5.out.blk.cell 6
          have l7 := HP5.out.blk.cell 7
          have l8 := HP5.out.blk.cell 8
          have l9 := HP5.out.blk.cell 9
          have l10 := HP5.out.blk.cell 10
          have l11 := HP5.out.blk.cell 11
          unfold rowT at l0 l1 l2 l3 l4 l5 l6 l7 l8 l9 l10 l11
          simp at l0 l1 l2 l3 l4 l5 l6 l7 l8 l9 l10 l11
          rw [e0] at l4
          rw [e1] at l5
          rw [e2] at l6
          rw [e3] at l7
          rw [e4] at l8
          rw [e5] at l9
          rw [e6] at l10
          have z0 := HR5.out.cell 0
          have f0 := HR5.out.free 0
          have z1 := HR5.out.cell 1
          have f1 := HR5.out.free 1
          have z2 := HR5.out.cell 2
          have f2 := HR5.out.free 2
          have z3 := HR5.out.cell 3
          have f3 := HR5.out.free 3
          have z4 := HR5.out.cell 4
          have f4 := HR5.out.free 4
          have z5 := HR5.out.cell 5
          have f5 := HR5.out.free 5
          have z6 := HR5.out.cell 6
          have f6 := HR5.out.free 6
          have z7 := HR5.out.cell 7
          have f7 := HR5.out.free 7
          have z8 := HR5.out.cell 8
          have f8 := HR5.out.free 8
          have z9 := HR5.out.cell 9
          have f9 := HR5.out.free 9
          have z10 := HR5.out.cell 10
          have f10 := HR5.out.free 10
          have z11 := HR5.out.cell 11
          have f11 := HR5.out.free 11
          unfold zero12 at z0 z1 z2 z3 z4 z5 z6 z7 z8 z9 z10 z11
          simp at z0 z1 z2 z3 z4 z5 z6 z7 z8 z9 z10 z11
          have HK := Lib.hid (pkg_get (set12 HR5.out (.string (mkS (T2 0))) (.string (mkS (T2 1))) (.string (mkS (T2 2))) (.string (mkS (T2 3))) (.slice A0 (rs 0).length c0) (.slice A1 (rs 1).length c1) (.slice A2 (rs 2).length c2) (.slice A3 (rs 3).length c3) (.slice A4 (rs 4).length c4) (.slice A5 (rs 5).length c5) (.slice A6 (rs 6).length c6) (.slice none 0 0)))
          have HPZ := Lib.hid (HP5.out.turn1 (rb := w.heap.size) (turned12 w5 w.heap.size (.string (mkS (T2 0))) (.string (mkS (T2 1))) (.string (mkS (T2 2))) (.string (mkS (T2 3))) (.slice A0 (rs 0).length c0) (.slice A1 (rs 1).length c1) (.slice A2 (rs 2).length c2) (.slice A3 (rs 3).length c3) (.slice A4 (rs 4).length c4) (.slice A5 (rs 5).length c5) (.slice A6 (rs 6).length c6) (.slice none 0 0)) HR5.out (by omega) (Nat.le_refl _))
          clear HR5
          go_wp2_with fail
          show bodyPost _ _ _ _ _ _
          refine bodyPost_ret (v := .tuple #[.agg #[.string (mkS (T2 0)), .string (mkS (T2 1)), .string (mkS (T2 2)), .string (mkS (T2 3)), .slice A0 (rs 0).length c0, .slice A1 (rs 1).length c1, .slice A2 (rs 2).length c2, .slice A3 (rs 3).length c3, .slice A4 (rs 4).length c4, .slice A5 (rs 5).length c5, .slice A6 (rs 6).length c6, .slice none 0 0], .int .i64 0]) ?_ rfl ?_
          · refine (res_cell_tmp (t := 2) (u := 3) rfl _ (ad := ⟨w.heap.size, 0, none⟩) rfl HK.out).trans ?_
            rfl
          · show PackPost w (packX s) _ _
            rw [HPX2.out]
            exact ⟨ss, rs, F, w.heap.size + 1, by unfold rowT; rw [e0, e1, e2, e3, e4, e5, e6], HPZ.out⟩
        · have hn' : (n == 0) = false := by simp [hn]
          have hn2 : (n != 0) = true := by simp [hn]
          have HPX2 : Hid (packX s = .error n) := Lib.hid (HPX.out.trans (if_neg hn))
          clear HPX
          have z0 := HR5.out.cell 0
          have f0 := HR5.out.free 0
          have z1 := HR5.out.cell 1
          have f1 := HR5.out.free 1
          have z2 := HR5.out.cell 2
          have f2 := HR5.out.free 2
          have z3 := HR5.out.cell 3
          have f3 := HR5.out.free 3
          have z4 := HR5.out.cell 4
          have f4 := HR5.out.free 4
          have z5 := HR5.out.cell 5
          have f5 := HR5.out.free 5
          have z6 := HR5.out.cell 6
          have f6 := HR5.out.free 6
          have z7 := HR5.out.cell 7
          have f7 := HR5.out.free 7
          have z8 := HR5.out.cell 8
          have f8 := HR5.out.free 8
          have z9 := HR5.out.cell 9
          have f9 := HR5.out.free 9
          have z10 := HR5.out.cell 10
          have f10 := HR5.out.free 10
          have z11 := HR5.out.cell 11
          have f11 := HR5.out.free 11
          unfold zero12 at z0 z1 z2 z3 z4 z5 z6 z7 z8 z9 z10 z11
          simp at z0 z1 z2 z3 z4 z5 z6 z7 z8 z9 z10 z11
          have HK := Lib.hid (pkg_get ((((((((((((HR5.out.set_ 0 (.string ⟨#[]⟩)).set_ 1 (.string ⟨#[]⟩)).set_ 2 (.string ⟨#[]⟩)).set_ 3 (.string ⟨#[]⟩)).set_ 4 (.slice none 0 0)).set_ 5 (.slice none 0 0)).set_ 6 (.slice none 0 0)).set_ 7 (.slice none 0 0)).set_ 8 (.slice none 0 0)).set_ 9 (.slice none 0 0)).set_ 10 (.slice none 0 0)).set_ 11 (.slice none 0 0)))
          have HBZ : Hid (Below w.heap.size w ((((((((((((w5.setCell ⟨w.heap.size, 0, none⟩ (.string ⟨#[]⟩)).setCell ⟨w.heap.size, 1, none⟩ (.string ⟨#[]⟩)).setCell ⟨w.heap.size, 2, none⟩ (.string ⟨#[]⟩)).setCell ⟨w.heap.size, 3, none⟩ (.string ⟨#[]⟩)).setCell ⟨w.heap.size, 4, none⟩ (.slice none 0 0)).setCell ⟨w.heap.size, 5, none⟩ (.slice none 0 0)).setCell ⟨w.heap.size, 6, none⟩ (.slice none 0 0)).setCell ⟨w.heap.size, 7, none⟩ (.slice none 0 0)).setCell ⟨w.heap.size, 8, none⟩ (.slice none 0 0)).setCell ⟨w.heap.size, 9, none⟩ (.slice none 0 0)).setCell ⟨w.heap.size, 10, none⟩ (.slice none 0 0)).setCell ⟨w.heap.size, 11, none⟩ (.slice none 0 0))) := ((((((((((((HBB.out.setCell (Nat.le_refl _) _).setCell (Nat.le_refl _) _).setCell (Nat.le_refl _) _).setCell (Nat.le_refl _) _).setCell (Nat.le_refl _) _).setCell (Nat.le_refl _) _).setCell (Nat.le_refl _) _).setCell (Nat.le_refl _) _).setCell (Nat.le_refl _) _).setCell (Nat.le_refl _) _).setCell (Nat.le_refl _) _).setCell (Nat.le_refl _) _)
          clear HR5 HBB HP5 HQ5
          go_wp2_with fail
          show bodyPost _ _ _ _ _ _
          refine bodyPost_ret (v := .tuple #[.agg #[.string ⟨#[]⟩, .string ⟨#[]⟩, .string ⟨#[]⟩, .string ⟨#[]⟩, .slice none 0 0, .slice none 0 0, .slice none 0 0, .slice none 0 0, .slice none 0 0, .slice none 0 0, .slice none 0 0, .slice none 0 0], .int .i64 n]) ?_ rfl ?_
          · refine (res_cell_tmp (t := 2) (u := 3) rfl _ (ad := ⟨w.heap.size, 0, none⟩) rfl HK.out).trans ?_
            rfl
          · show PackPost w (packX s) _ _
            rw [HPX2.out]
            exact ⟨rfl, hn, HBZ.out⟩
      · have tn := all_no hA
        have hfin : finS S = ⟨S.T, S.D⟩ := if_neg hA
        rw [hfin] at HPX HND
        have hck := hPk.check HP.out.env.tabs HND.out
        unfold rowT at hck
        have CK := Lib.hid hck
        clear hck
        have HPM := Lib.hid hPk
        have HPW := Lib.hid HP.out
        clear hPk hfin HND hA
        generalize chkD (pkgT ⟨S.T, S.D⟩) = n at *
        go_wp2_with fail
        refine CK.out.mono ?_
        rintro e w5 ⟨rfl, hb⟩
        have HP5 := Lib.hid (HPM.out.below hb)
        have HQ5 := Lib.hid (HPW.out.below hb)
        have HR5 := Lib.hid HQ5.out.res
        have HBB := Lib.hid HQ5.out.bel
        have hne := HQ5.out.ne
        clear hb CK HPM HPW tn f2 p0 p1 p2 p3 p4 p5 p6 p7 p8 p9 p10 p11
        by_cases hn : n = 0
        · subst hn
          have HPX2 : Hid (packX s = .ok ⟨S.T, S.D⟩) := Lib.hid (HPX.out.trans (if_pos rfl))
          clear HPX
          obtain ⟨A0, c0, e0, _, _⟩ := own_form' (HP5.out.own 0 (by omega))
          obtain ⟨A1, c1, e1, _, _⟩ := own_form' (HP5.out.own 1 (by omega))
          obtain ⟨A2, c2, e2, _, _⟩ := own_form' (HP5.out.own 2 (by omega))
          obtain ⟨A3, c3, e3, _, _⟩ := own_form' (HP5.out.own 3 (by omega))
          obtain ⟨A4, c4, e4, _, _⟩ := own_form' (HP5.out.own 4 (by omega))
          obtain ⟨A5, c5, e5, _, _⟩ := own_form' (HP5.out.own 5 (by omega))
          obtain ⟨A6, c6, e6, _, _⟩ := own_form' (HP5.out.own 6 (by omega))
          have l0 := HP5.out.blk.cell 0
          have l1 := HP5.out.blk.cell 1
          have l2 := HP5.out.blk.cell 2
          have l3 := HP5.out.blk.cell 3
          have l4 := HP5.out.blk.cell 4
          have l5 := HP5.out.blk.cell 5
          have l6 := HP5.out.blk.cell 6
          have l7 := HP5.out.blk.cell 7
          have l8 := HP5.out.blk.cell 8
          have l9 := HP5.out.blk.cell 9
          have l10 := HP5.out.blk.cell 10
          have l11 := HP5.out.blk.cell 11
          unfold rowT at l0 l1 l2 l3 l4 l5 l6 l7 l8 l9 l10 l11
          simp at l0 l1 l2 l3 l4 l5 l6 l7 l8 l9 l10 l11
          rw [e0] at l4
          rw [e1] at l5
          rw [e2] at l6
          rw [e3] at l7
          rw [e4] at l8
          rw [e5] at l9
          rw [e6] at l10
          have z0 := HR5.out.cell 0
          have f0 := HR5.out.free 0
          have z1 := HR5.out.cell 1
          have f1 := HR5.out.free 1
          have z2 := HR5.out.cell 2
          have f2 := HR5.out.free 2
          have z3 := HR5.out.cell 3
          have f3 := HR5.out.free 3
          have z4 := HR5.out.cell 4
          have f4 := HR5.out.free 4
          have z5 := HR5.out.cell 5
          have f5 := HR5.out.free 5
          have z6 := HR5.out.cell 6
          have f6 := HR5.out.free 6
          have z7 := HR5.out.cell 7
          have f7 := HR5.out.free 7
          have z8 := HR5.out.cell 8
          have f8 := HR5.out.free 8
          have z9 := HR5.out.cell 9
          have f9 := HR5.out.free 9
          have z10 := HR5.out.cell 10
          have f10 := HR5.out.free 10
          have z11 := HR5.out.cell 11
          have f11 := HR5.out.free 11
          unfold zero12 at z0 z1 z2 z3 z4 z5 z6 z7 z8 z9 z10 z11
          simp at z0 z1 z2 z3 z4 z5 z6 z7 z8 z9 z10 z11
          have HK := Lib.hid (pkg_get (set12 HR5.out (.string (mkS (S.T 0))) (.string (mkS (S.T 1))) (.string (mkS (S.T 2))) (.string (mkS (S.T 3))) (.slice A0 (rs 0).length c0) (.slice A1 (rs 1).length c1) (.slice A2 (rs 2).length c2) (.slice A3 (rs 3).length c3) (.slice A4 (rs 4).length c4) (.slice A5 (rs 5).length c5) (.slice A6 (rs 6).length c6) (.slice none 0 0)))
          have HPZ := Lib.hid (HP5.out.turn1 (rb := w.heap.size) (turned12 w5 w.heap.size (.string (mkS (S.T 0))) (.string (mkS (S.T 1))) (.string (mkS (S.T 2))) (.string (mkS (S.T 3))) (.slice A0 (rs 0).length c0) (.slice A1 (rs 1).length c1) (.slice A2 (rs 2).length c2) (.slice A3 (rs 3).length c3) (.slice A4 (rs 4).length c4) (.slice A5 (rs 5).length c5) (.slice A6 (rs 6).length c6) (.slice none 0 0)) HR5.out (by omega) (Nat.le_refl _))
          clear HR5
          go_wp2_with fail
          show bodyPost _ _ _ _ _ _
          refine bodyPost_ret (v := .tuple #[.agg #[.string (mkS (S.T 0)), .string (mkS (S.T 1)), .string (mkS (S.T 2)), .string (mkS (S.T 3)), .slice A0 (rs 0).length c0, .slice A1 (rs 1).length c1, .slice A2 (rs 2).length c2, .slice A3 (rs 3).length c3, .slice A4 (rs 4).length c4, .slice A5 (rs 5).length c5, .slice A6 (rs 6).length c6, .slice none 0 0], .int .i64 0]) ?_ rfl ?_
          · refine (res_cell_tmp (t := 2) (u := 3) rfl _ (ad := ⟨w.heap.size, 0, none⟩) rfl HK.out).trans ?_
            rfl
          · show PackPost w (packX s) _ _
            rw [HPX2.out]
            exact ⟨ss, rs, F, w.heap.size + 1, by unfold rowT; rw [e0, e1, e2, e3, e4, e5, e6], HPZ.out⟩
        · have hn' : (n == 0) = false := by simp [hn]
          have hn2 : (n != 0) = true := by simp [hn]
          have HPX2 : Hid (packX s = .error n) := Lib.hid (HPX.out.trans (if_neg hn))
          clear HPX
          have z0 := HR5.out.cell 0
          have f0 := HR5.out.free 0
          have z1 := HR5.out.cell 1
          have f1 := HR5.out.free 1
          have z2 := HR5.out.cell 2
          have f2 := HR5.out.free 2
          have z3 := HR5.out.cell 3
          have f3 := HR5.out.free 3
          have z4 := HR5.out.cell 4
          have f4 := HR5.out.free 4
          have z5 := HR5.out.cell 5
          have f5 := HR5.out.free 5
          have z6 := HR5.out.cell 6
          have f6 := HR5.out.free 6
          have z7 := HR5.out.cell 7
          have f7 := HR5.out.free 7
          have z8 := HR5.out.cell 8
          have f8 := HR5.out.free 8
          have z9 := HR5.out.cell 9
          have f9 := HR5.out.free 9
          have z10 := HR5.out.cell 10
          have f10 := HR5.out.free 10
          have z11 := HR5.out.cell 11
          have f11 := HR5.out.free 11
          unfold zero12 at z0 z1 z2 z3 z4 z5 z6 z7 z8 z9 z10 z11
          simp at z0 z1 z2 z3 z4 z5 z6 z7 z8 z9 z10 z11
          have HK := Lib.hid (pkg_get ((((((((((((HR5.out.set_ 0 (.string ⟨#[]⟩)).set_ 1 (.string ⟨#[]⟩)).set_ 2 (.string ⟨#[]⟩)).set_ 3 (.string ⟨#[]⟩)).set_ 4 (.slice none 0 0)).set_ 5 (.slice none 0 0)).set_ 6 (.slice none 0 0)).set_ 7 (.slice none 0 0)).set_ 8 (.slice none 0 0)).set_ 9 (.slice none 0 0)).set_ 10 (.slice none 0 0)).set_ 11 (.slice none 0 0)))
          have HBZ : Hid (Below w.heap.size w ((((((((((((w5.setCell ⟨w.heap.size, 0, none⟩ (.string ⟨#[]⟩)).setCell ⟨w.heap.size, 1, none⟩ (.string ⟨#[]⟩)).setCell ⟨w.heap.size, 2, none⟩ (.string ⟨#[]⟩)).setCell ⟨w.heap.size, 3, none⟩ (.string ⟨#[]⟩)).setCell ⟨w.heap.size, 4, none⟩ (.slice none 0 0)).setCell ⟨w.heap.size, 5, none⟩ (.slice none 0 0)).setCell ⟨w.heap.size, 6, none⟩ (.slice none 0 0)).setCell ⟨w.heap.size, 7, none⟩ (.slice none 0 0)).setCell ⟨w.heap.size, 8, none⟩ (.slice none 0 0)).setCell ⟨w.heap.size, 9, none⟩ (.slice none 0 0)).setCell ⟨w.heap.size, 10, none⟩ (.slice none 0 0)).setCell ⟨w.heap.size, 11, none⟩ (.slice none 0 0))) := ((((((((((((HBB.out.setCell (Nat.le_refl _) _).setCell (Nat.le_refl _) _).setCell (Nat.le_refl _) _).setCell (Nat.le_refl _) _).setCell (Nat.le_refl _) _).setCell (Nat.le_refl _) _).setCell (Nat.le_refl _) _).setCell (Nat.le_refl _) _).setCell (Nat.le_refl _) _).setCell (Nat.le_refl _) _).setCell (Nat.le_refl _) _).setCell (Nat.le_refl _) _)
          clear HR5 HBB HP5 HQ5
          go_wp2_with fail
          show bodyPost _ _ _ _ _ _
          refine bodyPost_ret (v := .tuple #[.agg #[.string ⟨#[]⟩, .string ⟨#[]⟩, .string ⟨#[]⟩, .string ⟨#[]⟩, .slice none 0 0, .slice none 0 0, .slice none 0 0, .slice none 0 0, .slice none 0 0, .slice none 0 0, .slice none 0 0, .slice none 0 0], .int .i64 n]) ?_ rfl ?_
          · refine (res_cell_tmp (t := 2) (u := 3) rfl _ (ad := ⟨w.heap.size, 0, none⟩) rfl HK.out).trans ?_
            rfl
          · show PackPost w (packX s) _ _
            rw [HPX2.out]
            exact ⟨rfl, hn, HBZ.out⟩
end Go.Proofs.YtdhgiammfpjniaaGreatDoor
