/- A stanza in memory, and the package that is made of it. -/
import Derived.Test.YtljldbdjkjllhaaGreatDoorYea
import Derived.Test.YtljldbdjkjllhaaGreatDoorYdf
/- A stanza in memory, and the package that is made of it. -/
namespace Go.Proofs.YtljldbdjkjllhaaGreatDoor
set_option linter.unusedSimpArgs false
set_option linter.unusedVariables false
open Go.RowKit Go.MapKept

abbrev Stz := List (Bs × List Bs)
def getS : Stz → Bs → List Bs
  | [], _ => []
  | (a, l) :: r, n => if n = a then l else getS r n
def szEs : Stz → List Value → List (ByteArray × Value)
  | (a, _) :: r, v :: t => (mkS a, v) :: szEs r t
  | _, _ => []
def RowsS (w : World) (B : Nat) : Stz → List Value → Prop
  | [], [] => True
  | (_, l) :: r, v :: t => l ≠ [] ∧ w.ownsRow B 9 1 v l.length (l.map fun p => Value.string (mkS p)) ∧ RowsS w B r t
  | _, _ => False
def joinX (l : List Bs) : Bs := Lib.join l [32]
structure SzAt (w : World) (B sm : Nat) (s : Stz) (vs : List Value) : Prop where
  map : w.heap[sm]? = some (mapO (szEs s vs))
  rows : RowsS w B s vs
theorem RowsS.below {w w' : World} {B : Nat} (hb : Below w.heap.size w w') : ∀ {s : Stz} {vs : List Value}, RowsS w B s vs → RowsS w' B s vs
  | [], [], _ => trivial
  | (_, l) :: r, v :: t, ⟨h1, h2, h3⟩ => ⟨h1, own_turned h2 (Turned.of_below hb []) (fun _ _ => by simp), h3.below hb⟩
theorem SzAt.below {w w' : World} {B sm : Nat} {s : Stz} {vs : List Value} (h : SzAt w B sm s vs) (hb : Below w.heap.size w w') : SzAt w' B sm s vs := ⟨map_below h.map hb, h.rows.below hb⟩
section
variable {P : Program} {w : World} {mty kt et : TypeId} {m : Nat} {l : List (ByteArray × Value)} {k : ByteArray}
theorem run_lookS (hm : P.underlying mty = some (.map kt et)) (hd : P.underlying kt = some .string) (hz : ∀ w, (zeroValue et).run P w = .ok (.slice none 0 0) w) (hb : w.heap[m]? = some (mapO l)) :
    (Instr.lookup mty (.map (some m)) (.string k) false).run P w = .ok ((lookO k l).getD (.slice none 0 0)) w := by
  have hk : IsKey .string (.string k) := by simp [IsKey]
  unfold mapO at hb
  rcases find_es k l 0 0 with ⟨h1, h2⟩ | ⟨p, u, h1, h2⟩
  · rw [h1]
    simp [Instr.lookup, run_underlying hm, Go.MapKept.run_getObj_map hb, run_checkKey hd hk, run_findKey hd h2, hz, Result.andThen]
  · rw [h1]
    simp [Instr.lookup, run_underlying hm, Go.MapKept.run_getObj_map hb, run_checkKey hd hk, run_findKey hd h2, Result.andThen]
end
theorem zeroSs : ∀ w, (zeroValue 37).run Tryz.prog w = .ok (.slice none 0 0) w := fun w => by kernel_rfl
/-- A field's lines in memory: nil, or a row. -/
def GotS (w : World) (l : List Bs) (v : Value) : Prop := (l = [] ∧ v = .slice none 0 0) ∨ ∃ g c, v = .slice (some ⟨g, 0, none⟩) l.length c ∧ l.length ≤ c ∧ c ≤ maxLen ∧ l ≠ [] ∧ g < w.heap.size ∧ ∀ (j : Nat) (p : Bs), l[j]? = some p → w.cell? ⟨g, j, none⟩ = some (.string (mkS p))
theorem mkS_inj_ {a b : Bs} (h : mkS a = mkS b) : a = b := by
  have := congrArg (fun s : ByteArray => s.data.toList) h
  simpa [mkS_list] using this
theorem look_got {w : World} {B : Nat} (n : Bs) : ∀ {s : Stz} {vs : List Value}, RowsS w B s vs → GotS w (getS s n) ((lookO (mkS n) (szEs s vs)).getD (.slice none 0 0))
  | [], [], _ => .inl ⟨rfl, rfl⟩
  | (a, l) :: r, v :: t, ⟨h1, h2, h3⟩ => by
    show GotS w (if n = a then l else getS r n) (((if mkS n = mkS a then some v else lookO (mkS n) (szEs r t))).getD _)
    by_cases h : n = a
    · rw [if_pos h, if_pos (by rw [h])]
      have hat : ∀ (j : Nat) (p : Bs), l[j]? = some p → ∃ g, (∃ c, v = .slice (some ⟨g, 0, none⟩) l.length c ∧ l.length ≤ c ∧ c ≤ maxLen) ∧ w.cell? ⟨g, j, none⟩ = some (.string (mkS p)) := fun j p hp => by
        obtain ⟨A, c, rfl, hc1, hc2⟩ := own_form' h2
        obtain ⟨g, rfl, hc⟩ := own_at_ h2 (k := j) (u := .string (mkS p)) (by rw [List.getElem?_map, hp]; rfl)
        exact ⟨g, ⟨c, rfl, hc1, hc2⟩, hc⟩
      obtain ⟨x, hx⟩ : ∃ x, l[0]? = some x := ⟨_, List.getElem?_eq_getElem (by cases l with | nil => exact absurd rfl h1 | cons _ _ => simp)⟩
      obtain ⟨g, ⟨c, rfl, hc1, hc2⟩, hcell⟩ := hat 0 x hx
      refine .inr ⟨g, c, rfl, hc1, hc2, h1, cell_lt hcell, fun j p hp => ?_⟩
      obtain ⟨g', ⟨c', e, _, _⟩, hc⟩ := hat j p hp
      injection e with e
      injection e with e
      injection e with e
      subst e
      exact hc
    · rw [if_neg h, if_neg (fun e => h (mkS_inj_ e))]
      exact look_got n h3
theorem join_any {w : World} {l : List Bs} {v : Value} (h : GotS w l v) (hz : (joinX l).length ≤ 100000) (hn : l.length ≤ 1000000) :
    Calls Tryz.prog 59 #[v, .string ⟨#[32]⟩] w fun e w' => e = .returned (.string (mkS (joinX l))) ∧ Below w.heap.size w w' := by
  rcases h with ⟨rfl, rfl⟩ | ⟨g, c, rfl, hc1, hc2, hne, hg, hcl⟩
  · refine (Tryz.strings_Join_none none 0 ⟨#[32]⟩ w).mono ?_
    rintro e w' ⟨rfl, rfl⟩
    exact ⟨rfl, Below.refl _ _⟩
  · have hl : (l.map mkS).length = l.length := List.length_map ..
    have hmap : (l.map mkS).map (fun s => s.data.toList) = l := by
      rw [List.map_map]
      have : ((fun s : ByteArray => s.data.toList) ∘ mkS) = id := by funext x; exact mkS_list x
      rw [this, List.map_id]
    have := Tryz.strings_Join g 0 c (l.map mkS) ⟨#[32]⟩ w (fun j x hx => by
      rw [List.getElem?_map] at hx
      obtain ⟨p, hp, rfl⟩ := Option.map_eq_some_iff.1 hx
      rw [Nat.zero_add]
      exact hcl j p hp) hg (by rw [hl]; omega) (by rw [hl]; exact hc1) (by rw [hmap]; unfold joinX at hz; show (Lib.join l [32]).length ≤ _; omega)
    rw [hl, hmap] at this
    exact this
/-! The package. -/
def updF {α : Type} (f : Nat → α) (i : Nat) (x : α) (j : Nat) : α := if j = i then x else f j
def rowT (T : Nat → Bs) (ss : Nat → Value) : Array Value := #[.string (mkS (T 0)), .string (mkS (T 1)), .string (mkS (T 2)), .string (mkS (T 3)), ss 0, ss 1, ss 2, ss 3, ss 4, ss 5, ss 6, .slice none 0 0]
structure PkM (w0 w : World) (pb : Nat) (T : Nat → Bs) (D : Nat → List Ev.Dep) (ss : Nat → Value) (rs : Nat → Ev.Rows5) (F : List Nat) : Prop where
  blk : Blk w pb 42 (rowT T ss)
  own : ∀ i, i < 7 → w.ownsRow w0.heap.size 44 5 (ss i) (rs i).length (Ev.cells5 (rs i))
  is : ∀ i, i < 7 → (rs i).map Prod.fst = D i
  lay : ∀ i, i < 7 → ∀ x ∈ rs i, Ev.Lay w (fun b => b ∈ F) x.1 x.2
  far : ∀ i, i < 7 → ∀ b ∈ F, (ss i).ownBlock ≠ some b
  apart : ∀ i j, i < 7 → j < 7 → i ≠ j → ∀ k, (ss i).ownBlock = some k → (ss j).ownBlock ≠ some k
  dep : ∀ b ∈ F, w0.heap.size ≤ b ∧ ∃ cs, Blk w b 44 cs
  pge : w0.heap.size ≤ pb
  bel : Below w0.heap.size w0 w
def PkSt (w0 w : World) (pb : Nat) (T : Nat → Bs) (D : Nat → List Ev.Dep) : Prop := ∃ ss rs F, PkM w0 w pb T D ss rs F
section
variable {w0 w w' w2 : World} {pb : Nat} {T : Nat → Bs} {D : Nat → List Ev.Dep} {ss : Nat → Value} {rs : Nat → Ev.Rows5} {F : List Nat}
theorem PkM.below (h : PkM w0 w pb T D ss rs F) (hb : Below w.heap.size w w') : PkM w0 w' pb T D ss rs F :=
  ⟨Blk.mono h.blk hb, fun i hi => own_turned (h.own i hi) (Turned.of_below hb []) (fun _ _ => by simp), h.is, fun i hi x hx => Ev.Lay.stay (fun _ h => h) (Ev.StayS.below' hb) x.1 x.2 (h.lay i hi x hx), h.far, h.apart,
    fun b hb' => by
      obtain ⟨h1, cs, h2⟩ := h.dep b hb'
      exact ⟨h1, cs, Blk.mono h2 hb⟩, h.pge, h.bel.trans (hb.mono h.bel.size)⟩
theorem rowT_set (T : Nat → Bs) (ss : Nat → Value) (x : Bs) : ∀ i, i < 4 → (rowT T ss).setIfInBounds i (.string (mkS x)) = rowT (updF T i x) ss
  | 0, _ => rfl
  | 1, _ => rfl
  | 2, _ => rfl
  | 3, _ => rfl
  | n + 4, h => by omega
theorem rowT_put (T : Nat → Bs) (ss : Nat → Value) (v : Value) : ∀ i, i < 7 → (rowT T ss).setIfInBounds (4 + i) v = rowT T (updF ss i v)
  | 0, _ => rfl
  | 1, _ => rfl
  | 2, _ => rfl
  | 3, _ => rfl
  | 4, _ => rfl
  | 5, _ => rfl
  | 6, _ => rfl
  | n + 7, h => by omega
theorem PkM.text (h : PkM w0 w pb T D ss rs F) (i : Nat) (hi : i < 4) (x : Bs) : PkM w0 (w.setCell ⟨pb, i, none⟩ (.string (mkS x))) pb (updF T i x) D ss rs F := by
  have ht : Turned [pb] w (w.setCell ⟨pb, i, none⟩ (.string (mkS x))) := (Turned.refl _ _).setCell (.inl (by simp)) _
  have hn : ∀ b ∈ F, b ∉ [pb] := fun b hb hm => by
    obtain ⟨_, cs, h2⟩ := h.dep b hb
    simp at hm
    exact Blk.kind h2 h.blk (by decide) hm
  refine ⟨by rw [← rowT_set T ss x i hi]; exact h.blk.set_ i _, fun j hj => own_turned (h.own j hj) ht (fun k hk hm => ?_), h.is, fun j hj y hy => Ev.Lay.stay (fun _ h => h) (Ev.StayS.turned ht hn) y.1 y.2 (h.lay j hj y hy), h.far, h.apart, fun b hb => ?_, h.pge, h.bel.trans (ht.below (fun k hk => by simp at hk; rw [hk]; exact h.pge) h.bel.size)⟩
  · simp at hm
    exact own_kind (h.own j hj) h.blk (by decide) (by rw [hk, hm])
  · obtain ⟨h1, cs, h2⟩ := h.dep b hb
    exact ⟨h1, cs, h2.turned ht (hn b hb)⟩
theorem updF_same {α : Type} (f : Nat → α) (i : Nat) (x : α) : updF f i x i = x := if_pos rfl
theorem updF_other {α : Type} (f : Nat → α) {i j : Nat} (x : α) (h : j ≠ i) : updF f i x j = f j := if_neg h
/-- A list grows by what relations answered. -/
theorem PkM.put (h : PkM w0 w pb T D ss rs F) (hb : Below w.heap.size w w') {v : Value} {r : Ev.Rows5} {F' : List Nat} (hr : ReM w w' v r F') {i : Nat} (hi : i < 7) {v'' : Value} {w'' : World}
    (hown : w''.ownsRow w0.heap.size 44 5 v'' ((rs i).length + r.length) (Ev.cells5 (rs i) ++ Ev.cells5 r)) (hg : w'.grownBy w'' (ss i).ownBlock) (hat : v''.ownBlock = (ss i).ownBlock ∨ v''.ownBlock = some w'.heap.size) :
    PkM w0 (w''.setCell ⟨pb, 4 + i, none⟩ v'') pb T (updF D i (D i ++ r.map Prod.fst)) (updF ss i v'') (updF rs i (rs i ++ r)) (F' ++ F) ∧ Turned (pb :: (ss i).ownBlock.toList) w' (w''.setCell ⟨pb, 4 + i, none⟩ v'') := by
  have h' := h.below hb
  have ht1 : Turned (pb :: (ss i).ownBlock.toList) w' w'' := (grown_turned hg).more (fun k hk => List.mem_cons_of_mem _ hk)
  have hblk : Blk w'' pb 42 (rowT T ss) := h'.blk.turned (grown_turned hg) (fun hm => own_kind (h'.own i hi) h'.blk (by decide) (by simpa using hm))
  have ht : Turned (pb :: (ss i).ownBlock.toList) w' (w''.setCell ⟨pb, 4 + i, none⟩ v'') := ht1.setCell (.inl (by simp)) _
  have hdep : ∀ b ∈ F' ++ F, w0.heap.size ≤ b ∧ (∃ cs, Blk w' b 44 cs) ∧ b ∉ pb :: (ss i).ownBlock.toList := fun b hb' => by
    have hne : ∀ cs, Blk w' b 44 cs → b ≠ pb := fun cs hB e => Blk.kind hB h'.blk (by decide) e
    rcases List.mem_append.1 hb' with hm | hm
    · obtain ⟨h1, ⟨cs, h2⟩, h3⟩ := hr.dep b hm
      refine ⟨Nat.le_trans h.bel.size h1, ⟨cs, h2⟩, fun hx => ?_⟩
      rcases List.mem_cons.1 hx with e | hx
      · exact hne cs h2 e
      · have hx' : (ss i).ownBlock = some b := by simpa using hx
        have := own_lt (h.own i hi) hx'
        omega
    · obtain ⟨h1, cs, h2⟩ := h'.dep b hm
      refine ⟨h1, ⟨cs, h2⟩, fun hx => ?_⟩
      rcases List.mem_cons.1 hx with e | hx
      · exact hne cs h2 e
      · exact h.far i hi b hm (by simpa using hx)
  have hst : Ev.StayS (fun b => b ∈ F' ++ F) w' (w''.setCell ⟨pb, 4 + i, none⟩ v'') := Ev.StayS.turned ht (fun b hb' hm => (hdep b hb').2.2 hm)
  have hvlt : ∀ k, v''.ownBlock = some k → (ss i).ownBlock = some k ∨ k = w'.heap.size := fun k hk => by
    rcases hat with e | e
    · exact .inl (by rw [← e]; exact hk)
    · rw [e] at hk
      injection hk with hk
      exact .inr hk.symm
  refine ⟨⟨by rw [← rowT_put T ss v'' i hi]; exact hblk.set_ _ _, fun j hj => ?_, fun j hj => ?_, fun j hj x hx => ?_, fun j hj b hb' hv => ?_, fun j k hj hk hne q hq hq2 => ?_, fun b hb' => ?_, h.pge, h'.bel.trans (ht.below (fun k hk => ?_) h'.bel.size)⟩, ht⟩
  · by_cases e : j = i
    · subst e
      rw [updF_same, updF_same, List.length_append, Ev.cells5_append]
      exact own_setCell hown (own_kind hown hblk (by decide)) _
    · rw [updF_other _ _ e, updF_other _ _ e]
      refine own_turned (h'.own j hj) ht (fun k hk hm => ?_)
      rcases List.mem_cons.1 hm with e2 | hm
      · exact own_kind (h'.own j hj) h'.blk (by decide) (by rw [hk, e2])
      · exact h.apart j i hj hi e k hk (by simpa using hm)
  · by_cases e : j = i
    · subst e
      rw [updF_same, updF_same, List.map_append, h.is j hj]
    · rw [updF_other _ _ e, updF_other _ _ e]
      exact h.is j hj
  · by_cases e : j = i
    · subst e
      rw [updF_same] at hx
      rcases List.mem_append.1 hx with hx | hx
      · exact Ev.Lay.stay (fun _ h => h) hst x.1 x.2 (Ev.Lay.stay (fun b hb => List.mem_append_right _ hb) (Ev.StayS.refl _ _) x.1 x.2 (h'.lay j hj x hx))
      · exact Ev.Lay.stay (fun _ h => h) hst x.1 x.2 (Ev.Lay.stay (fun b hb => List.mem_append_left _ hb) (Ev.StayS.refl _ _) x.1 x.2 (hr.lay x hx))
    · rw [updF_other _ _ e] at hx
      exact Ev.Lay.stay (fun _ h => h) hst x.1 x.2 (Ev.Lay.stay (fun b hb => List.mem_append_right _ hb) (Ev.StayS.refl _ _) x.1 x.2 (h'.lay j hj x hx))
  · obtain ⟨_, ⟨cs, hB⟩, hnm⟩ := hdep b hb'
    by_cases e : j = i
    · subst e
      rw [updF_same] at hv
      rcases hvlt b hv with e2 | e2
      · exact hnm (List.mem_cons_of_mem _ (by rw [e2]; simp))
      · have := hB.lt
        omega
    · rw [updF_other _ _ e] at hv
      rcases List.mem_append.1 hb' with hm | hm
      · have h1 := (hr.dep b hm).1
        have := own_lt (h.own j hj) hv
        omega
      · exact h.far j hj b hm hv
  · have hlt : ∀ j k, j < 7 → (ss j).ownBlock = some k → k < w'.heap.size := fun j k hj hk => own_lt (h'.own j hj) hk
    by_cases e : j = i
    · subst e
      rw [updF_same] at hq
      rw [updF_other _ _ (fun e => hne e.symm)] at hq2
      rcases hvlt q hq with e2 | e2
      · exact h.apart j k hj hk hne q e2 hq2
      · have := hlt k q hk hq2
        omega
    · rw [updF_other _ _ e] at hq
      by_cases e3 : k = i
      · subst e3
        rw [updF_same] at hq2
        rcases hvlt q hq2 with e2 | e2
        · exact h.apart j k hj hk hne q hq e2
        · have := hlt j q hj hq
          omega
      · rw [updF_other _ _ e3] at hq2
        exact h.apart j k hj hk hne q hq hq2
  · obtain ⟨h1, ⟨cs, h2⟩, h3⟩ := hdep b hb'
    exact ⟨h1, cs, h2.turned ht h3⟩
  · rcases List.mem_cons.1 hk with rfl | hk
    · exact h.pge
    · exact ((h.own i hi).lt k (by simpa using hk)).1
end
end Go.Proofs.YtljldbdjkjllhaaGreatDoor
