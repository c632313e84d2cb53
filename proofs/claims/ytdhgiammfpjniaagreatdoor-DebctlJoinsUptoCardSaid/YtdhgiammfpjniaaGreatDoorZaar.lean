/- What is in memory while relations are read. -/
import Derived.Test.YtdhgiammfpjniaaGreatDoorZaaq
/- What is in memory while relations are read. -/
namespace Go.Proofs.YtdhgiammfpjniaaGreatDoor
set_option linter.unusedSimpArgs false
set_option linter.unusedVariables false
open Go.RowKit

theorem Blk.mono {w w' : World} {g : Nat} {t : TypeId} {cs : Array Value} (h : Blk w g t cs) (hb : Below w.heap.size w w') : Blk w' g t cs := Blk.below h hb (Blk.lt h)
def MaxAt (w : World) : Prop := ∃ m, w.cell? ⟨5, 0, none⟩ = some (.int .i64 m)
theorem MaxAt.below {w w' : World} (h : MaxAt w) (hb : Below w.heap.size w w') : MaxAt w' := by
  obtain ⟨m, h⟩ := h
  exact ⟨m, (World.cell?_of_block (hb.block _ (cell_lt h))).trans h⟩
def strs_ (ps : List Bs) : Array Value := (ps.map fun p => Value.string (mkS p)).toArray
theorem split_any (c : UInt8) (l : Bs) (hl : l.length ≤ 200000) (w : World) (hm : MaxAt w) :
    Calls Tryz.prog 108 #[.string (mkS l), .string (mkS [c])] w fun e w' => ∃ b, e = .returned (.slice (some ⟨b, 0, none⟩) (partsX c l).length (partsX c l).length) ∧ Blk w' b 9 (strs_ (partsX c l)) ∧ Below w.heap.size w w' := by
  obtain ⟨m, hm⟩ := hm
  refine (Tryz.strings_Split (mkS l) (mkS [c]) m w (by rw [mkS_size]; omega) hm (by rw [mkS_size]; simp)).mono ?_
  rintro e w' ⟨rfl, rfl⟩
  rw [parts_len, parts_cells]
  exact ⟨w.heap.size, rfl, Blk.new _ _ _, (Below.refl _ _).alloc (Nat.le_refl _) _⟩
theorem strs_at {ps : List Bs} {k : Nat} {p : Bs} (h : ps[k]? = some p) : (strs_ ps)[k]? = some (.string (mkS p)) := by
  unfold strs_
  rw [List.getElem?_toArray, List.getElem?_map, h]
  rfl
def rowR (q : Rl) : Ev.Dep × Value := (depR q, .slice none 0 0)
theorem rowR_cells (q : Rl) : Ev.cells5 [rowR q] = (relC q).toList := rfl
structure ReM (w0 w : World) (v : Value) (r : Ev.Rows5) (F : List Nat) : Prop where
  own : w.ownsRow w0.heap.size 39 5 v r.length (Ev.cells5 r)
  lay : ∀ x ∈ r, Ev.Lay w (fun b => b ∈ F) x.1 x.2
  dep : ∀ b ∈ F, w0.heap.size ≤ b ∧ (∃ cs, Blk w b 39 cs) ∧ v.ownBlock ≠ some b
  bel : Below w0.heap.size w0 w
structure EiM (w0 w : World) (v v' : Value) (qs : List Rl) (F : List Nat) : Prop where
  own : w.ownsRow w0.heap.size 39 5 v' qs.length (Ev.cells5 (qs.map rowR))
  far : ∀ k, v'.ownBlock = some k → k ∉ F ∧ v.ownBlock ≠ some k
section
variable {w0 w w' : World} {v v' v'' : Value} {r : Ev.Rows5} {F : List Nat} {qs : List Rl} {q : Rl}
theorem ReM.turned {G : List Nat} (h : ReM w0 w v r F) (ht : Turned G w w') (hG : ∀ k ∈ G, w0.heap.size ≤ k ∧ k ∉ F ∧ v.ownBlock ≠ some k) : ReM w0 w' v r F :=
  ⟨own_turned h.own ht (fun k hk hm => (hG k hm).2.2 hk), fun x hx => Ev.Lay.stay (fun _ h => h) (Ev.StayS.turned ht (fun b hb hm => (hG b hm).2.1 hb)) x.1 x.2 (h.lay x hx),
    fun b hb => by
      obtain ⟨h1, ⟨cs, h2⟩, h3⟩ := h.dep b hb
      exact ⟨h1, ⟨cs, h2.turned ht (fun hm => (hG b hm).2.1 hb)⟩, h3⟩,
    h.bel.trans (ht.below (fun k hk => (hG k hk).1) h.bel.size)⟩
theorem ReM.below (h : ReM w0 w v r F) (hb : Below w.heap.size w w') : ReM w0 w' v r F := h.turned (Turned.of_below hb []) (fun k hk => by cases hk)
theorem EiM.below (h : EiM w0 w v v' qs F) (hb : Below w.heap.size w w') : EiM w0 w' v v' qs F := ⟨own_turned h.own (Turned.of_below hb []) (fun _ _ => by simp), h.far⟩
theorem grown_turned {row : Option Nat} (h : w.grownBy w' row) : Turned row.toList w w' := (Turned.refl _ w).grown h (fun k hk => .inl (by rw [hk]; simp))
theorem cells_snoc (a : Ev.Rows5) (x : Ev.Dep × Value) : Ev.cells5 (a ++ [x]) = Ev.cells5 a ++ Ev.cells5 [x] := Ev.cells5_append a [x]
theorem EiM.put (h : EiM w0 w v v' qs F) (hR : ReM w0 w v r F) (hown : w'.ownsRow w0.heap.size 39 5 v'' (qs.length + 1) (Ev.cells5 (qs.map rowR) ++ (relC q).toList)) (hg : w.grownBy w' v'.ownBlock) (hat : v''.ownBlock = v'.ownBlock ∨ v''.ownBlock = some w.heap.size) :
    EiM w0 w' v v'' (qs ++ [q]) F ∧ ReM w0 w' v r F := by
  refine ⟨⟨?_, fun k hk => ?_⟩, hR.turned (grown_turned hg) (fun k hk => ?_)⟩
  · rw [List.map_append, List.map_singleton, cells_snoc, rowR_cells, List.length_append]
    exact hown
  · rcases hat with e | e
    · exact h.far k (by rw [← e]; exact hk)
    · rw [e] at hk
      injection hk with hk
      refine ⟨fun hm => ?_, fun hv => ?_⟩
      · obtain ⟨_, ⟨cs, hb⟩, _⟩ := hR.dep k hm
        have := hb.lt
        omega
      · have := own_lt hR.own hv
        omega
  · have hk' : v'.ownBlock = some k := by simpa using hk
    exact ⟨(h.own.lt k hk').1, (h.far k hk').1, (h.far k hk').2⟩
theorem ReM.add (h : ReM w0 w v r F) {x : Ev.Dep × Value} {G : List Nat} (hx : Ev.Lay w (fun b => b ∈ G ++ F) x.1 x.2) (hG : ∀ b ∈ G, w0.heap.size ≤ b ∧ (∃ cs, Blk w b 39 cs) ∧ v.ownBlock ≠ some b)
    (hown : w'.ownsRow w0.heap.size 39 5 v'' (r.length + 1) (Ev.cells5 r ++ Ev.cells5 [x])) (hg : w.grownBy w' v.ownBlock) (hat : v''.ownBlock = v.ownBlock ∨ v''.ownBlock = some w.heap.size) : ReM w0 w' v'' (r ++ [x]) (G ++ F) := by
  have ht := grown_turned hg
  have hall : ∀ b ∈ G ++ F, w0.heap.size ≤ b ∧ (∃ cs, Blk w b 39 cs) ∧ v.ownBlock ≠ some b := fun b hb => by
    rcases List.mem_append.1 hb with hb | hb
    · exact hG b hb
    · exact h.dep b hb
  have hst : Ev.StayS (fun b => b ∈ G ++ F) w w' := Ev.StayS.turned ht (fun b hb hm => (hall b hb).2.2 (by simpa using hm))
  refine ⟨by rw [cells_snoc, List.length_append]; exact hown, fun y hy => ?_, fun b hb => ?_, h.bel.trans (ht.below (fun k hk => (h.own.lt k (by simpa using hk)).1) h.bel.size)⟩
  · rcases List.mem_append.1 hy with hy | hy
    · exact Ev.Lay.stay (fun _ h => h) hst y.1 y.2 (Ev.Lay.stay (fun b hb => List.mem_append_right _ hb) (Ev.StayS.refl _ _) y.1 y.2 (h.lay y hy))
    · rw [List.mem_singleton] at hy
      subst hy
      exact Ev.Lay.stay (fun _ h => h) hst y.1 y.2 hx
  · obtain ⟨h1, ⟨cs, h2⟩, h3⟩ := hall b hb
    refine ⟨h1, ⟨cs, h2.turned ht (fun hm => h3 (by simpa using hm))⟩, fun hv => ?_⟩
    rcases hat with e | e
    · exact h3 (by rw [← e]; exact hv)
    · rw [e] at hv
      injection hv with hv
      have := h2.lt
      omega
theorem ReM.one (h : ReM w0 w v r F) (hown : w'.ownsRow w0.heap.size 39 5 v'' (r.length + 1) (Ev.cells5 r ++ (relC q).toList)) (hg : w.grownBy w' v.ownBlock) (hat : v''.ownBlock = v.ownBlock ∨ v''.ownBlock = some w.heap.size) : ReM w0 w' v'' (r ++ [rowR q]) F := by
  have := h.add (x := rowR q) (G := []) (Ev.Lay.none_ _ _ _ _ _ _) (fun b hb => by cases hb) hown hg hat
  simpa using this
theorem or_lay (h : EiM w0 w v v' qs F) : Ev.Lay w (fun b => b ∈ v'.ownBlock.toList ++ F) (.mk 3 ⟨#[]⟩ 0 ⟨#[]⟩ (qs.map depR)) v' := by
  rw [Ev.lay_iff]
  have hlen : (Ev.Dep.mk 3 ⟨#[]⟩ 0 ⟨#[]⟩ (qs.map depR)).args.length = qs.length := List.length_map ..
  rw [hlen]
  have hargs : (Ev.Dep.mk 3 ⟨#[]⟩ 0 ⟨#[]⟩ (qs.map depR)).args = qs.map depR := rfl
  rw [hargs]
  rcases h.own.2 with ⟨rfl, h0⟩ | ⟨g, cap, cur, rfl, hb, hg, h1, h2, h3, ht⟩
  · refine ⟨none, 0, by rw [h0], by omega, ⟨by unfold maxLen; omega, fun _ => rfl⟩, fun j a ha => ?_⟩
    have : qs = [] := List.length_eq_zero_iff.1 h0
    subst this
    simp at ha
  · refine ⟨some ⟨g, 0, none⟩, cap, rfl, h1, ⟨h2, fun e => (by cases e)⟩, fun j a ha => ?_⟩
    rw [List.getElem?_map] at ha
    obtain ⟨q, hq, rfl⟩ := Option.map_eq_some_iff.1 ha
    have hr : (qs.map rowR)[j]? = some (rowR q) := by rw [List.getElem?_map, hq]; rfl
    obtain ⟨c0, c1, c2, c3, c4⟩ := Ev.cells5_at hr
    have hat : ∀ {k : Nat} {u : Value}, (Ev.cells5 (qs.map rowR))[k]? = some u → w.cell? ⟨g, k, none⟩ = some u := fun {k u} hk => by
      obtain ⟨b, e, hc⟩ := own_ats h.own hk
      injection e with e
      injection e with e
      subst e
      exact hc
    refine ⟨g, 0, .slice none 0 0, rfl, by simp [Value.ownBlock], ⟨?_, ?_, ?_, ?_, ?_⟩, Ev.Lay.none_ _ _ _ _ _ _⟩
    · rw [Nat.zero_add]; exact hat c0
    · rw [Nat.zero_add]; exact hat c1
    · rw [Nat.zero_add]; exact hat c2
    · rw [Nat.zero_add]; exact hat c3
    · rw [Nat.zero_add]; exact hat c4
theorem ReM.or (h : ReM w0 w v r F) (he : EiM w0 w v v' qs F) (hown : w'.ownsRow w0.heap.size 39 5 v'' (r.length + 1) (Ev.cells5 r ++ [.int .i64 3, .string ⟨#[]⟩, .int .i64 0, .string ⟨#[]⟩, v'])) (hg : w.grownBy w' v.ownBlock) (hat : v''.ownBlock = v.ownBlock ∨ v''.ownBlock = some w.heap.size) :
    ReM w0 w' v'' (r ++ [(.mk 3 ⟨#[]⟩ 0 ⟨#[]⟩ (qs.map depR), v')]) (v'.ownBlock.toList ++ F) := by
  refine h.add (or_lay he) (fun b hb => ?_) hown hg hat
  have hb' : v'.ownBlock = some b := by simpa using hb
  refine ⟨(he.own.lt b hb').1, ?_, (he.far b hb').2⟩
  rcases he.own.2 with ⟨rfl, h0⟩ | ⟨g, cap, cur, rfl, hb2, hg2, _⟩
  · cases hb'
  · injection hb' with hb'
    subst hb'
    exact ⟨cur, hg2⟩
end
end Go.Proofs.YtdhgiammfpjniaaGreatDoor
