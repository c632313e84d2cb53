/- A field's relations: what the text says, cut at commas and bars. What is in memory while relations are read. relations: its walk. -/
import Derived.Test.YtljldbdjkjllhaaGreatDoorWca
import Derived.Test.YtljldbdjkjllhaaGreatDoorWka
import Derived.Lib.SplitLaws
import Derived.Deep.LoopGhost
/- A field's relations: what the text says, cut at commas and bars. -/
namespace Go.Proofs.YtljldbdjkjllhaaGreatDoor
set_option linter.unusedSimpArgs false
set_option linter.unusedVariables false
open Go.RowKit

theorem split_len (sep : ByteArray) (h1 : 1 ≤ sep.size) : ∀ (N : Nat) (s : ByteArray), s.size ≤ N → (Lib.splitB sep 0 (Lib.countB s sep) s).length = Lib.countB s sep + 1 ∧ ∀ x ∈ Lib.splitB sep 0 (Lib.countB s sep) s, x.size ≤ s.size := by
  intro N
  induction N with
  | zero =>
    intro s hs
    rcases Lib.indexB_cases s sep with h | ⟨i, h, hi⟩
    · rw [Lib.countB_miss s sep h, Lib.splitB_zero]
      exact ⟨rfl, fun x hx => by simp at hx; rw [hx]; exact Nat.le_refl _⟩
    · omega
  | succ N ih =>
    intro s hs
    rcases Lib.indexB_cases s sep with h | ⟨i, h, hi⟩
    · rw [Lib.countB_miss s sep h, Lib.splitB_zero]
      exact ⟨rfl, fun x hx => by simp at hx; rw [hx]; exact Nat.le_refl _⟩
    · rw [Lib.countB_hit s sep i h1 h, Nat.add_comm 1, Lib.splitB_hit sep 0 _ s i h]
      have hz : (s.extract (i + sep.size) s.size).size ≤ N := by rw [ByteArray.size_extract]; omega
      obtain ⟨h2, h3⟩ := ih _ hz
      refine ⟨by rw [List.length_cons, h2], fun x hx => ?_⟩
      rcases List.mem_cons.1 hx with rfl | hx
      · rw [ByteArray.size_extract]; omega
      · have := h3 x hx
        rw [ByteArray.size_extract] at this
        omega
def partsX (c : UInt8) (l : Bs) : List Bs := (Lib.splitB (mkS [c]) 0 (Lib.countB (mkS l) (mkS [c])) (mkS l)).map fun s => s.data.toList
theorem parts_len (c : UInt8) (l : Bs) : (partsX c l).length = Lib.countB (mkS l) (mkS [c]) + 1 := by
  unfold partsX
  rw [List.length_map]
  exact (split_len (mkS [c]) (by rw [mkS_size]; simp) _ (mkS l) (Nat.le_refl _)).1
theorem parts_short {c : UInt8} {l p : Bs} (h : p ∈ partsX c l) : p.length ≤ l.length := by
  unfold partsX at h
  obtain ⟨s, hs, rfl⟩ := List.mem_map.1 h
  have := (split_len (mkS [c]) (by rw [mkS_size]; simp) _ (mkS l) (Nat.le_refl _)).2 s hs
  rw [mkS_size] at this
  simpa using this
theorem parts_many (c : UInt8) (l : Bs) : (partsX c l).length ≤ l.length + 1 := by
  rw [parts_len]
  have := Lib.countB_le (mkS [c]) (by rw [mkS_size]; simp) _ (mkS l) (Nat.le_refl _)
  rw [mkS_size] at this
  omega
theorem parts_cells (c : UInt8) (l : Bs) : (Lib.splitB (mkS [c]) 0 (Lib.countB (mkS l) (mkS [c])) (mkS l)).map Value.string = (partsX c l).map fun p => Value.string (mkS p) := by
  unfold partsX
  rw [List.map_map]
  refine List.map_congr_left fun s _ => ?_
  show Value.string s = Value.string (mkS s.data.toList)
  rw [show mkS s.data.toList = s from s_ext (by rw [mkS_list])]
def depR (q : Rl) : Ev.Dep := .mk 1 (mkS q.nm) q.op (mkS q.ev) []
/-- The relations of pieces, as far as they are. -/
def someX : List Bs → Option (List Ev.Dep)
  | [] => some []
  | p :: r => if (relX (dTrim p)).ok = true then (someX r).map fun ds => depR (relX (dTrim p)) :: ds else none
def oneX (ds : List Ev.Dep) : Ev.Dep := match ds with
  | [d] => d
  | ds => .mk 3 ⟨#[]⟩ 0 ⟨#[]⟩ ds
def listX : List Bs → Option (List Ev.Dep)
  | [] => some []
  | p :: r => match someX (partsX 124 p) with
    | none => none
    | some ds => (listX r).map fun l => oneX ds :: l
def depsX (l : Bs) : Option (List Ev.Dep) := if l = [] then some [] else listX (partsX 44 l)
theorem someX_go : ∀ (ps : List Bs) (k : Nat) (p : Bs), ps[k]? = some p → ∀ a, (someX (ps.take k) = some a) → someX ps = if (relX (dTrim p)).ok = true then (someX (ps.drop (k + 1))).map fun ds => a ++ depR (relX (dTrim p)) :: ds else none
  | [], k, p, h, _, _ => by simp at h
  | q :: r, 0, p, h, a, ha => by
    injection h with h
    subst h
    injection ha with ha
    subst ha
    rfl
  | q :: r, k + 1, p, h, a, ha => by
    have h : r[k]? = some p := by simpa using h
    have ha : (if (relX (dTrim q)).ok = true then (someX (r.take k)).map fun ds => depR (relX (dTrim q)) :: ds else none) = some a := ha
    by_cases hq : (relX (dTrim q)).ok = true
    · rw [if_pos hq] at ha
      obtain ⟨a', ha', rfl⟩ := Option.map_eq_some_iff.1 ha
      show (if (relX (dTrim q)).ok = true then (someX r).map fun ds => depR (relX (dTrim q)) :: ds else none) = _
      rw [if_pos hq, someX_go r k p h a' ha']
      by_cases hp : (relX (dTrim p)).ok = true
      · rw [if_pos hp, if_pos hp, Option.map_map]
        rfl
      · rw [if_neg hp, if_neg hp]
        rfl
    · rw [if_neg hq] at ha
      cases ha
theorem someX_snoc (ps : List Bs) (k : Nat) (p : Bs) (h : ps[k]? = some p) (a : List Ev.Dep) (ha : someX (ps.take k) = some a) (hp : (relX (dTrim p)).ok = true) : someX (ps.take (k + 1)) = some (a ++ [depR (relX (dTrim p))]) := by
  have hk := (List.getElem?_eq_some_iff.1 h).1
  have h2 : (ps.take (k + 1))[k]? = some p := by rw [List.getElem?_take, if_pos (by omega)]; exact h
  have h3 : (ps.take (k + 1)).take k = ps.take k := by rw [List.take_take, Nat.min_eq_left (by omega)]
  have h4 : (ps.take (k + 1)).drop (k + 1) = [] := List.drop_eq_nil_of_le (by simp; omega)
  rw [someX_go (ps.take (k + 1)) k p h2 a (by rw [h3]; exact ha), if_pos hp, h4]
  rfl
theorem someX_bad (ps : List Bs) (k : Nat) (p : Bs) (h : ps[k]? = some p) (a : List Ev.Dep) (ha : someX (ps.take k) = some a) (hp : (relX (dTrim p)).ok = false) : someX ps = none := by
  rw [someX_go ps k p h a ha, if_neg (by rw [hp]; simp)]
theorem listX_go : ∀ (ps : List Bs) (k : Nat) (p : Bs), ps[k]? = some p → ∀ a, (listX (ps.take k) = some a) → listX ps = match someX (partsX 124 p) with
    | none => none
    | some ds => (listX (ps.drop (k + 1))).map fun l => a ++ oneX ds :: l
  | [], k, p, h, _, _ => by simp at h
  | q :: r, 0, p, h, a, ha => by
    injection h with h
    subst h
    injection ha with ha
    subst ha
    rfl
  | q :: r, k + 1, p, h, a, ha => by
    have h : r[k]? = some p := by simpa using h
    have ha : (match someX (partsX 124 q) with
      | none => none
      | some ds => (listX (r.take k)).map fun l => oneX ds :: l) = some a := ha
    show (match someX (partsX 124 q) with
      | none => none
      | some ds => (listX r).map fun l => oneX ds :: l) = _
    cases hq : someX (partsX 124 q) with
    | none => rw [hq] at ha; cases ha
    | some ds =>
      rw [hq] at ha
      obtain ⟨a', ha', rfl⟩ := Option.map_eq_some_iff.1 ha
      simp only
      rw [listX_go r k p h a' ha']
      cases someX (partsX 124 p) with
      | none => rfl
      | some d2 =>
        simp only
        rw [Option.map_map]
        rfl
theorem listX_snoc (ps : List Bs) (k : Nat) (p : Bs) (h : ps[k]? = some p) (a ds : List Ev.Dep) (ha : listX (ps.take k) = some a) (hp : someX (partsX 124 p) = some ds) : listX (ps.take (k + 1)) = some (a ++ [oneX ds]) := by
  have hk := (List.getElem?_eq_some_iff.1 h).1
  have h2 : (ps.take (k + 1))[k]? = some p := by rw [List.getElem?_take, if_pos (by omega)]; exact h
  have h3 : (ps.take (k + 1)).take k = ps.take k := by rw [List.take_take, Nat.min_eq_left (by omega)]
  have h4 : (ps.take (k + 1)).drop (k + 1) = [] := List.drop_eq_nil_of_le (by simp; omega)
  rw [listX_go (ps.take (k + 1)) k p h2 a (by rw [h3]; exact ha), hp, h4]
  rfl
theorem listX_bad (ps : List Bs) (k : Nat) (p : Bs) (h : ps[k]? = some p) (a : List Ev.Dep) (ha : listX (ps.take k) = some a) (hp : someX (partsX 124 p) = none) : listX ps = none := by
  rw [listX_go ps k p h a ha, hp]
end Go.Proofs.YtljldbdjkjllhaaGreatDoor

/- What is in memory while relations are read. -/
namespace Go.Proofs.YtljldbdjkjllhaaGreatDoor
set_option linter.unusedSimpArgs false
set_option linter.unusedVariables false
open Go.RowKit

theorem Blk.mono {w w' : World} {g : Nat} {t : TypeId} {cs : Array Value} (h : Blk w g t cs) (hb : Below w.heap.size w w') : Blk w' g t cs := Blk.below h hb (Blk.lt h)
def MaxAt (w : World) : Prop := ∃ m, w.cell? ⟨5, 0, none⟩ = some (.int .i64 m)
theorem MaxAt.below {w w' : World} (h : MaxAt w) (hb : Below w.heap.size w w') : MaxAt w' := by
  obtain ⟨m, h⟩ := h
  exact ⟨m, (World.cell?_of_block (hb.block _ (cell_lt h))).trans h⟩
def strs_ (ps : List Bs) : Array Value := (ps.map fun p => Value.string (mkS p)).toArray
theorem split_any (c : UInt8) (l : Bs) (hl : l.length ≤ 200000) (w : World) (hm : MaxAt w) :
    Calls Tryz.prog 115 #[.string (mkS l), .string (mkS [c])] w fun e w' => ∃ b, e = .returned (.slice (some ⟨b, 0, none⟩) (partsX c l).length (partsX c l).length) ∧ Blk w' b 9 (strs_ (partsX c l)) ∧ Below w.heap.size w w' := by
  obtain ⟨m, hm⟩ := hm
  refine (Tryz.strings_Split (mkS l) (mkS [c]) m w (by rw [mkS_size]; omega) hm (by rw [mkS_size]; simp)).mono ?_
  rintro e w' ⟨rfl, rfl⟩
  rw [parts_len, parts_cells]
  exact ⟨w.heap.size, rfl, Blk.new _ _ _, (Below.refl _ _).alloc (Nat.le_refl _) _⟩
theorem strs_at {ps : List Bs} {k : Nat} {p : Bs} (h : ps[k]? = some p) : (strs_ ps)[k]? = some (.string (mkS p)) := by
  unfold strs_
  rw [List.getElem?_toArray, List.getElem?_map, h]
  rfl
def rowR (q : Rl) : Ev.Dep × Value := (depR q, .slice none 0 0)
theorem rowR_cells (q : Rl) : Ev.cells5 [rowR q] = (relC q).toList := rfl
structure ReM (w0 w : World) (v : Value) (r : Ev.Rows5) (F : List Nat) : Prop where
  own : w.ownsRow w0.heap.size 44 5 v r.length (Ev.cells5 r)
  lay : ∀ x ∈ r, Ev.Lay w (fun b => b ∈ F) x.1 x.2
  dep : ∀ b ∈ F, w0.heap.size ≤ b ∧ (∃ cs, Blk w b 44 cs) ∧ v.ownBlock ≠ some b
  bel : Below w0.heap.size w0 w
structure EiM (w0 w : World) (v v' : Value) (qs : List Rl) (F : List Nat) : Prop where
  own : w.ownsRow w0.heap.size 44 5 v' qs.length (Ev.cells5 (qs.map rowR))
  far : ∀ k, v'.ownBlock = some k → k ∉ F ∧ v.ownBlock ≠ some k
section
variable {w0 w w' : World} {v v' v'' : Value} {r : Ev.Rows5} {F : List Nat} {qs : List Rl} {q : Rl}
theorem ReM.turned {G : List Nat} (h : ReM w0 w v r F) (ht : Turned G w w') (hG : ∀ k ∈ G, w0.heap.size ≤ k ∧ k ∉ F ∧ v.ownBlock ≠ some k) : ReM w0 w' v r F :=
  ⟨own_turned h.own ht (fun k hk hm => (hG k hm).2.2 hk), fun x hx => Ev.Lay.stay (fun _ h => h) (Ev.StayS.turned ht (fun b hb hm => (hG b hm).2.1 hb)) x.1 x.2 (h.lay x hx),
    fun b hb => by
      obtain ⟨h1, ⟨cs, h2⟩, h3⟩ := h.dep b hb
      exact ⟨h1, ⟨cs, h2.turned ht (fun hm => (hG b hm).2.1 hb)⟩, h3⟩,
    h.bel.trans (ht.below (fun k hk => (hG k hk).1) h.bel.size)⟩
theorem ReM.below (h : ReM w0 w v r F) (hb : Below w.heap.size w w') : ReM w0 w' v r F := h.turned (Turned.of_below hb []) (fun k hk => by cases hk)
theorem EiM.below (h : EiM w0 w v v' qs F) (hb : Below w.heap.size w w') : EiM w0 w' v v' qs F := ⟨own_turned h.own (Turned.of_below hb []) (fun _ _ => by simp), h.far⟩
theorem grown_turned {row : Option Nat} (h : w.grownBy w' row) : Turned row.toList w w' := (Turned.refl _ w).grown h (fun k hk => .inl (by rw [hk]; simp))
theorem cells_snoc (a : Ev.Rows5) (x : Ev.Dep × Value) : Ev.cells5 (a ++ [x]) = Ev.cells5 a ++ Ev.cells5 [x] := Ev.cells5_append a [x]
theorem EiM.put (h : EiM w0 w v v' qs F) (hR : ReM w0 w v r F) (hown : w'.ownsRow w0.heap.size 44 5 v'' (qs.length + 1) (Ev.cells5 (qs.map rowR) ++ (relC q).toList)) (hg : w.grownBy w' v'.ownBlock) (hat : v''.ownBlock = v'.ownBlock ∨ v''.ownBlock = some w.heap.size) :
    EiM w0 w' v v'' (qs ++ [q]) F ∧ ReM w0 w' v r F := by
  refine ⟨⟨?_, fun k hk => ?_⟩, hR.turned (grown_turned hg) (fun k hk => ?_)⟩
  · rw [List.map_append, List.map_singleton, cells_snoc, rowR_cells, List.length_append]
    exact hown
  · rcases hat with e | e
    · exact h.far k (by rw [← e]; exact hk)
    · rw [e] at hk
      injection hk with hk
      refine ⟨fun hm => ?_, fun hv => ?_⟩
      · obtain ⟨_, ⟨cs, hb⟩, _⟩ := hR.dep k hm
        have := hb.lt
        omega
      · have := own_lt hR.own hv
        omega
  · have hk' : v'.ownBlock = some k := by simpa using hk
    exact ⟨(h.own.lt k hk').1, (h.far k hk').1, (h.far k hk').2⟩
theorem ReM.add (h : ReM w0 w v r F) {x : Ev.Dep × Value} {G : List Nat} (hx : Ev.Lay w (fun b => b ∈ G ++ F) x.1 x.2) (hG : ∀ b ∈ G, w0.heap.size ≤ b ∧ (∃ cs, Blk w b 44 cs) ∧ v.ownBlock ≠ some b)
    (hown : w'.ownsRow w0.heap.size 44 5 v'' (r.length + 1) (Ev.cells5 r ++ Ev.cells5 [x])) (hg : w.grownBy w' v.ownBlock) (hat : v''.ownBlock = v.ownBlock ∨ v''.ownBlock = some w.heap.size) : ReM w0 w' v'' (r ++ [x]) (G ++ F) := by
  have ht := grown_turned hg
  have hall : ∀ b ∈ G ++ F, w0.heap.size ≤ b ∧ (∃ cs, Blk w b 44 cs) ∧ v.ownBlock ≠ some b := fun b hb => by
    rcases List.mem_append.1 hb with hb | hb
    · exact hG b hb
    · exact h.dep b hb
  have hst : Ev.StayS (fun b => b ∈ G ++ F) w w' := Ev.StayS.turned ht (fun b hb hm => (hall b hb).2.2 (by simpa using hm))
  refine ⟨by rw [cells_snoc, List.length_append]; exact hown, fun y hy => ?_, fun b hb => ?_, h.bel.trans (ht.below (fun k hk => (h.own.lt k (by simpa using hk)).1) h.bel.size)⟩
  · rcases List.mem_append.1 hy with hy | hy
    · exact Ev.Lay.stay (fun _ h => h) hst y.1 y.2 (Ev.Lay.stay (fun b hb => List.mem_append_right _ hb) (Ev.StayS.refl _ _) y.1 y.2 (h.lay y hy))
    · rw [List.mem_singleton] at hy
      subst hy
      exact Ev.Lay.stay (fun _ h => h) hst y.1 y.2 hx
  · obtain ⟨h1, ⟨cs, h2⟩, h3⟩ := hall b hb
    refine ⟨h1, ⟨cs, h2.turned ht (fun hm => h3 (by simpa using hm))⟩, fun hv => ?_⟩
    rcases hat with e | e
    · exact h3 (by rw [← e]; exact hv)
    · rw [e] at hv
      injection hv with hv
      have := h2.lt
      omega
theorem ReM.one (h : ReM w0 w v r F) (hown : w'.ownsRow w0.heap.size 44 5 v'' (r.length + 1) (Ev.cells5 r ++ (relC q).toList)) (hg : w.grownBy w' v.ownBlock) (hat : v''.ownBlock = v.ownBlock ∨ v''.ownBlock = some w.heap.size) : ReM w0 w' v'' (r ++ [rowR q]) F := by
  have := h.add (x := rowR q) (G := []) (Ev.Lay.none_ _ _ _ _ _ _) (fun b hb => by cases hb) hown hg hat
  simpa using this
theorem or_lay (h : EiM w0 w v v' qs F) : Ev.Lay w (fun b => b ∈ v'.ownBlock.toList ++ F) (.mk 3 ⟨#[]⟩ 0 ⟨#[]⟩ (qs.map depR)) v' := by
  rw [Ev.lay_iff]
  have hlen : (Ev.Dep.mk 3 ⟨#[]⟩ 0 ⟨#[]⟩ (qs.map depR)).args.length = qs.length := List.length_map ..
  rw [hlen]
  have hargs : (Ev.Dep.mk 3 ⟨#[]⟩ 0 ⟨#[]⟩ (qs.map depR)).args = qs.map depR := rfl
  rw [hargs]
  rcases h.own.2 with ⟨rfl, h0⟩ | ⟨g, cap, cur, rfl, hb, hg, h1, h2, h3, ht⟩
  · refine ⟨none, 0, by rw [h0], by omega, ⟨by unfold maxLen; omega, fun _ => rfl⟩, fun j a ha => ?_⟩
    have : qs = [] := List.length_eq_zero_iff.1 h0
    subst this
    simp at ha
  · refine ⟨some ⟨g, 0, none⟩, cap, rfl, h1, ⟨h2, fun e => (by cases e)⟩, fun j a ha => ?_⟩
    rw [List.getElem?_map] at ha
    obtain ⟨q, hq, rfl⟩ := Option.map_eq_some_iff.1 ha
    have hr : (qs.map rowR)[j]? = some (rowR q) := by rw [List.getElem?_map, hq]; rfl
    obtain ⟨c0, c1, c2, c3, c4⟩ := Ev.cells5_at hr
    have hat : ∀ {k : Nat} {u : Value}, (Ev.cells5 (qs.map rowR))[k]? = some u → w.cell? ⟨g, k, none⟩ = some u := fun {k u} hk => by
      obtain ⟨b, e, hc⟩ := own_ats h.own hk
      injection e with e
      injection e with e
      subst e
      exact hc
    refine ⟨g, 0, .slice none 0 0, rfl, by simp [Value.ownBlock], ⟨?_, ?_, ?_, ?_, ?_⟩, Ev.Lay.none_ _ _ _ _ _ _⟩
    · rw [Nat.zero_add]; exact hat c0
    · rw [Nat.zero_add]; exact hat c1
    · rw [Nat.zero_add]; exact hat c2
    · rw [Nat.zero_add]; exact hat c3
    · rw [Nat.zero_add]; exact hat c4
theorem ReM.or (h : ReM w0 w v r F) (he : EiM w0 w v v' qs F) (hown : w'.ownsRow w0.heap.size 44 5 v'' (r.length + 1) (Ev.cells5 r ++ [.int .i64 3, .string ⟨#[]⟩, .int .i64 0, .string ⟨#[]⟩, v'])) (hg : w.grownBy w' v.ownBlock) (hat : v''.ownBlock = v.ownBlock ∨ v''.ownBlock = some w.heap.size) :
    ReM w0 w' v'' (r ++ [(.mk 3 ⟨#[]⟩ 0 ⟨#[]⟩ (qs.map depR), v')]) (v'.ownBlock.toList ++ F) := by
  refine h.add (or_lay he) (fun b hb => ?_) hown hg hat
  have hb' : v'.ownBlock = some b := by simpa using hb
  refine ⟨(he.own.lt b hb').1, ?_, (he.far b hb').2⟩
  rcases he.own.2 with ⟨rfl, h0⟩ | ⟨g, cap, cur, rfl, hb2, hg2, _⟩
  · cases hb'
  · injection hb' with hb'
    subst hb'
    exact ⟨cur, hg2⟩
end
end Go.Proofs.YtljldbdjkjllhaaGreatDoor

/- relations: its walk. -/
namespace Go.Proofs.YtljldbdjkjllhaaGreatDoor
set_option linter.unusedSimpArgs false
set_option linter.unusedVariables false
open Go.RowKit

/-- What relations answers: the list, in memory of its own, or that there is none. -/
def RelPost (w0 : World) (X : Option (List Ev.Dep)) (e : Ending) (w' : World) : Prop := match X with
  | none => e = .returned (.tuple #[.slice none 0 0, .bool false]) ∧ Below w0.heap.size w0 w'
  | some ds => ∃ v r F, e = .returned (.tuple #[v, .bool true]) ∧ ReM w0 w' v r F ∧ r.map Prod.fst = ds
structure DbS (w : World) : Prop where
  max : MaxAt w
  sgn : SgnAt w
theorem DbS.below {w w' : World} (h : DbS w) (hb : Below w.heap.size w w') : DbS w' := ⟨h.max.below hb, h.sgn.below' hb⟩
theorem oneX_or {ds : List Ev.Dep} (h : ds.length ≠ 1) : oneX ds = .mk 3 ⟨#[]⟩ 0 ⟨#[]⟩ ds := by
  match ds, h with
  | [], _ => rfl
  | [d], h => exact absurd rfl h
  | _ :: _ :: _, _ => rfl
set_option maxHeartbeats 16000000 in
set_option maxRecDepth 1000000 in
theorem relations_any (l : Bs) (hl : l.length ≤ 100000) (w : World) (hS : DbS w) :
    Calls Tryz.prog 60 #[.string (mkS l)] w (RelPost w (depsX l)) := by
  have hem := isEmpty_mkS l
  by_cases h0 : l = []
  · have he : (mkS l).toList.isEmpty = true := by rw [hem, h0]; rfl
    have HV : Hid (RelPost w (depsX l) (.returned (.tuple #[.slice none 0 0, .bool true])) w) := by
      show RelPost w (depsX l) _ w
      unfold depsX
      rw [if_pos h0]
      exact ⟨.slice none 0 0, [], [], rfl, ⟨World.ownsRow_nil _ _ _ _, fun x hx => (by cases hx), fun b hb => (by cases hb), Below.refl _ _⟩, rfl⟩
    clear hem h0 hS
    generalize mkS l = L at *
    go_enter Tryz.func60, Tryz.ntmps60
    go_wp2_with fail
    go_ret2
    exact HV.out
  have he : (mkS l).toList.isEmpty = false := by rw [hem]; simpa using h0
  have hX : depsX l = listX (partsX 44 l) := by unfold depsX; rw [if_neg h0]
  rw [hX]
  have CS := Lib.hid (split_any 44 l (by omega) w hS.max)
  have CT := Lib.hid (fun (p : Bs) (hp : p.length ≤ 100000) w' (hb : Below w.heap.size w w') => split_any 124 p (by omega) w' (hS.max.below hb))
  have CM := Lib.hid (fun (p : Bs) (hp : p.length ≤ 100000) w' => dTrim_any p (by omega) w')
  have CR := Lib.hid (fun (p : Bs) (hp : p.length ≤ 100000) w' (hb : Below w.heap.size w w') => relation_any p (by omega) w' (hS.sgn.below' hb))
  have q1 : (mkS [44] : ByteArray) = ⟨#[44]⟩ := rfl
  have q2 : (mkS [124] : ByteArray) = ⟨#[124]⟩ := rfl
  have q3 : (mkS dLayS : ByteArray) = ⟨#[32, 9]⟩ := rfl
  rw [q1] at CS
  rw [q2] at CT
  rw [q3] at CM
  have HPL : Hid (∀ p ∈ partsX 44 l, p.length ≤ 100000) := fun p hp => Nat.le_trans (parts_short hp) hl
  have hN : (partsX 44 l).length ≤ 100001 := Nat.le_trans (parts_many 44 l) (by omega)
  obtain ⟨i, z, hi, hz0, hz1, hz2, hz3⟩ := Ev.info_dep5
  have HI := Lib.hid hi
  have HS := Lib.hid hS
  clear hem h0 hX q1 q2 q3 hi hS
  generalize partsX 44 l = PS at *
  generalize mkS l = L at *
  go_enter Tryz.func60, Tryz.ntmps60
  go_wp2_with fail
  refine CS.out.mono ?_
  rintro e w1 ⟨b, rfl, hpb, hb1⟩
  have HPB := Lib.hid hpb
  have HR1 : Hid (ReM w w1 (.slice none 0 0) [] []) := ⟨World.ownsRow_nil _ _ _ _, fun x hx => (by cases hx), fun b hb => (by cases hb), hb1⟩
  have HB1 := Lib.hid hb1
  obtain ⟨N, hNN⟩ : ∃ N, N = PS.length := ⟨_, rfl⟩
  have HN := Lib.hid hNN
  rw [← hNN] at hN ⊢
  clear hpb hb1 hNN CS
  have hW1 : Hid (w1.heap.size ≤ w1.heap.size) := Nat.le_refl _
  go_wp2_with fail
  go_loopg [4, 17] N (fun gk v4 v17 wx => ∃ (k : Nat) (r : Ev.Rows5) (F : List Nat), k + gk = N ∧ v17 = .int .i64 (k : Int) ∧ Hid (ReM w wx v4 r F) ∧ Hid (listX (PS.take k) = some (r.map Prod.fst)) ∧ r.length = k ∧ Hid (Blk wx b 9 (strs_ PS)))
  case atStart => exact ⟨0, [], [], by omega, rfl, HR1, rfl, rfl, HPB⟩
  case round =>
    obtain ⟨k, r, F, hkg, rfl, HR, HL, hrk, HPX⟩ := hrel
    subst hrk
    clear HR1 HPB
    obtain ⟨Ao, co, rfl, hno, hmo⟩ := own_form' HR.out.own
    unfold maxLen at hmo
    by_cases hlt : r.length < N
    · have hltI : (r.length : Int) < (N : Int) := by omega
      obtain ⟨p, hp⟩ : ∃ p, PS[r.length]? = some p := ⟨_, List.getElem?_eq_getElem (by have := HN.out; omega)⟩
      have hpl := HPL.out p (List.mem_of_getElem? hp)
      have pc := (HPX.out.cell r.length).trans (strs_at hp)
      have HP := Lib.hid hp
      have CTp := Lib.hid (CT.out p hpl wr HR.out.bel)
      have HQL : Hid (∀ x ∈ partsX 124 p, x.length ≤ 100000) := fun x hx => Nat.le_trans (parts_short hx) hpl
      have hM : (partsX 124 p).length ≤ 100001 := Nat.le_trans (parts_many 124 p) (by omega)
      have HLN := Lib.hid (fun h => listX_bad PS r.length p hp _ HL.out h)
      have HLS := Lib.hid (fun ds h => listX_snoc PS r.length p hp _ ds HL.out h)
      clear hp hpl HL
      generalize partsX 124 p = QS at *
      generalize mkS p = P1 at *
      go_wp2_with fail
      refine CTp.out.mono ?_
      rintro e w2 ⟨b2, rfl, hqb, hb2⟩
      have HQB := Lib.hid hqb
      have HR2 := Lib.hid (HR.out.below hb2)
      have HPX2 := Lib.hid (Blk.mono HPX.out hb2)
      have HE2 : Hid (EiM w w2 (.slice Ao r.length co) (.slice none 0 0) [] F) := ⟨World.ownsRow_nil _ _ _ _, fun k hk => (by cases hk)⟩
      obtain ⟨M, hMM⟩ : ∃ M, M = QS.length := ⟨_, rfl⟩
      have HM := Lib.hid hMM
      rw [← hMM] at hM ⊢
      obtain ⟨G, hG⟩ : ∃ G, G = gk := ⟨_, rfl⟩
      clear hqb hb2 hMM CTp pc HR HPX
      go_wp2_with fail
      go_loopg [7, 24] M (fun gj v7 v24 wx => ∃ (j : Nat) (qs : List Rl), j + gj = M ∧ v24 = .int .i64 (j : Int) ∧ Hid (ReM w wx (.slice Ao r.length co) r F) ∧ Hid (EiM w wx (.slice Ao r.length co) v7 qs F) ∧ Hid (someX (QS.take j) = some (qs.map depR)) ∧ qs.length = j ∧ Hid (Blk wx b 9 (strs_ PS)) ∧ Hid (Blk wx b2 9 (strs_ QS)))
      case atStart => exact ⟨0, [], by omega, rfl, HR2, HE2, rfl, rfl, HPX2, HQB⟩
      case round =>
        obtain ⟨j, qs, hjg, rfl, HR, HE, HT, hqj, HPX, HQX⟩ := hrel
        subst hqj
        clear HR2 HE2 HPX2 HQB
        obtain ⟨Ae, ce, rfl, hne, hme⟩ := own_form' HE.out.own
        unfold maxLen at hme
        by_cases hjl : qs.length < M
        · have hjlI : (qs.length : Int) < (M : Int) := by omega
          obtain ⟨q, hq⟩ : ∃ q, QS[qs.length]? = some q := ⟨_, List.getElem?_eq_getElem (by have := HM.out; omega)⟩
          have hql := HQL.out q (List.mem_of_getElem? hq)
          have qc := (HQX.out.cell qs.length).trans (strs_at hq)
          have CMq := Lib.hid (fun w' => CM.out q hql w')
          have CRq := Lib.hid (CR.out (dTrim q) (Nat.le_trans (dTrim_len q) hql))
          have HTB := Lib.hid (fun h => someX_bad QS qs.length q hq _ HT.out h)
          have HTS := Lib.hid (fun h => someX_snoc QS qs.length q hq _ HT.out h)
          clear hq hql HT
          generalize relX (dTrim q) = R0 at *
          generalize mkS (dTrim q) = T1 at *
          generalize mkS q = Q1 at *
          go_wp2_with fail
          refine (CMq.out _).mono ?_
          rintro e w3 ⟨rfl, hb3⟩
          have HR3 := Lib.hid (HR.out.below hb3)
          have HE3 := Lib.hid (HE.out.below hb3)
          have HPX3 := Lib.hid (Blk.mono HPX.out hb3)
          have HQX3 := Lib.hid (Blk.mono HQX.out hb3)
          clear hb3 CMq HR HE HPX HQX qc
          go_wp2_with fail
          refine (CRq.out _ HR3.out.bel).mono ?_
          rintro e w4 ⟨rfl, hb4⟩
          have HR4 := Lib.hid (HR3.out.below hb4)
          have HE4 := Lib.hid (HE3.out.below hb4)
          have HPX4 := Lib.hid (Blk.mono HPX3.out hb4)
          have HQX4 := Lib.hid (Blk.mono HQX3.out hb4)
          clear hb4 CRq HR3 HE3 HPX3 HQX3
          unfold relC
          cases hok : R0.ok with
          | false =>
            have HV : Hid (listX PS = none) := HLN.out (HTB.out hok)
            have HB5 : Hid (∀ o, Below w.heap.size w (w4.alloc o)) := fun o => HR4.out.bel.alloc HR4.out.bel.size _
            clear HLN HLS HTB HTS hok
            go_wp2_with fail
            go_ret2
            show RelPost w (listX PS) _ _
            rw [HV.out]
            exact ⟨rfl, HB5.out _⟩
          | true =>
            have HTS1 := Lib.hid (HTS.out hok)
            obtain ⟨w5, hw5⟩ : ∃ w5, w5 = (w4.alloc (.cells #[.int .i64 1, .string (mkS R0.nm), .int .i64 R0.op, .string (mkS R0.ev), .slice none 0 0] 44)).alloc (.cells #[.int .i64 1, .string (mkS R0.nm), .int .i64 R0.op, .string (mkS R0.ev), .slice none 0 0] 44) := ⟨_, rfl⟩
            have hb5 : Below w4.heap.size w4 w5 := by rw [hw5]; exact ((Below.refl _ _).alloc (Nat.le_refl _) _).alloc (by simp) _
            have HC5 : Hid (∀ (jj : Nat) u, (relC R0).toList[jj]? = some u → w5.cell? ((⟨w4.heap.size + 1, 0, none⟩ : Addr).add jj) = some u) := fun jj u hj => by
              have h := cells_new (w4.alloc (.cells #[.int .i64 1, .string (mkS R0.nm), .int .i64 R0.op, .string (mkS R0.ev), .slice none 0 0] 44)) (relC R0) 44 jj u hj
              rw [hw5]
              show ((w4.alloc (.cells #[.int .i64 1, .string (mkS R0.nm), .int .i64 R0.op, .string (mkS R0.ev), .slice none 0 0] 44)).alloc (.cells (relC R0) 44)).cell? _ = _
              simpa using h
            have HR5 := Lib.hid (HR4.out.below hb5)
            have HE5 := Lib.hid (HE4.out.below hb5)
            have HPX5 := Lib.hid (Blk.mono HPX4.out hb5)
            have HQX5 := Lib.hid (Blk.mono HQX4.out hb5)
            have HPUT := Lib.hid (fun v'' w' ho hg hat => EiM.put (v'' := v'') (w' := w') (q := R0) HE5.out HR5.out ho hg hat)
            have hsz4 : w.heap.size ≤ w4.heap.size := HR4.out.bel.size
            clear hb5 HR4 HE4 HPX4 HQX4 HTS HTB hok
            subst hw5
            go_wp2_with (at_builtin; refine wpList_append_own_at _ rfl (.tmp 36) (.tmp 38) 40 rfl w.heap.size 44 i z 5 72 Tryz.underlying40 HI.out hz0 hz2 hz3 hz1 (by decide) (.slice Ae qs.length ce) qs.length (Ev.cells5 (qs.map rowR)) rfl HE5.out.own ⟨w4.heap.size + 1, 0, none⟩ 1 1 (relC R0).toList rfl rfl HC5.out (by intro u hu; simp [relC] at hu; rcases hu with rfl | rfl | rfl | rfl | rfl <;> rfl) (by unfold maxLen; omega) (by omega) (by simp; omega) ?_; intro v7' w7 hown7 hg7 hnil7 hat7; have HP7 := Lib.hid (HPUT.out v7' w7 hown7 hg7 hat7); have HPX7 := Lib.hid (HPX5.out.grown hg7 (fun e => own_kind HE5.out.own HPX5.out (by decide) e.symm)); have HQX7 := Lib.hid (HQX5.out.grown hg7 (fun e => own_kind HE5.out.own HQX5.out (by decide) e.symm)); clear hown7 hg7 hnil7 hat7)
            go_roundg (gk - 1)
            case measure => omega
            case rel => exact ⟨qs.length + 1, qs ++ [R0], by omega, by go_num, HP7.out.2, HP7.out.1, by show someX (QS.take (qs.length + 1)) = _; rw [HTS1.out, List.map_append]; rfl, by simp, HPX7, HQX7⟩
        · have hjlI : ¬ (qs.length : Int) < (M : Int) := by omega
          have HTV : Hid (someX QS = some (qs.map depR)) := by
            have h := HT.out
            rw [List.take_of_length_le (by have := HM.out; omega)] at h
            exact h
          have HLS1 := Lib.hid (HLS.out _ HTV.out)
          clear HT HLN HLS HTV
          by_cases hone : qs.length = 1
          · obtain ⟨q0, rfl⟩ : ∃ q0, qs = [q0] := List.length_eq_one_iff.1 hone
            have hl1 : [q0].length = 1 := rfl
            have hrow : ∃ g, Ae = some ⟨g, 0, none⟩ ∧ ∀ jj, jj < 5 → wr.cell? ⟨g, jj, none⟩ = (relC q0)[jj]? := by
              obtain ⟨g, rfl, _⟩ := own_ats HE.out.own (k := 0) (u := .int .i64 1) rfl
              refine ⟨g, rfl, fun jj hj => ?_⟩
              obtain ⟨u, hu⟩ : ∃ u, (relC q0)[jj]? = some u := ⟨_, Array.getElem?_eq_getElem (by show jj < 5; exact hj)⟩
              obtain ⟨g', e, hc⟩ := own_ats HE.out.own (k := jj) (u := u) (by show (relC q0).toList[jj]? = _; rw [Array.getElem?_toList]; exact hu)
              injection e with e
              injection e with e
              subst e
              rw [hu, hc]
            obtain ⟨g, rfl, hcl⟩ := hrow
            have g0 := hcl 0 (by omega)
            have g1 := hcl 1 (by omega)
            have g2 := hcl 2 (by omega)
            have g3 := hcl 3 (by omega)
            have g4 := hcl 4 (by omega)
            unfold relC at g0 g1 g2 g3 g4
            simp at g0 g1 g2 g3 g4
            rw [hl1] at hne hjg hjlI hjl
            clear hcl hone
            obtain ⟨w5, hw5⟩ : ∃ w5, w5 = wr.alloc (.cells #[.int .i64 1, .string (mkS q0.nm), .int .i64 q0.op, .string (mkS q0.ev), .slice none 0 0] 44) := ⟨_, rfl⟩
            have hb5 : Below wr.heap.size wr w5 := by rw [hw5]; exact (Below.refl _ _).alloc (Nat.le_refl _) _
            have HC5 : Hid (∀ (jj : Nat) u, (relC q0).toList[jj]? = some u → w5.cell? ((⟨wr.heap.size, 0, none⟩ : Addr).add jj) = some u) := fun jj u hj => by
              rw [hw5]
              exact cells_new wr #[.int .i64 1, .string (mkS q0.nm), .int .i64 q0.op, .string (mkS q0.ev), .slice none 0 0] 44 jj u hj
            have HR5 := Lib.hid (HR.out.below hb5)
            have HE5 := Lib.hid (HE.out.below hb5)
            have HPX5 := Lib.hid (Blk.mono HPX.out hb5)
            have HPUT := Lib.hid (fun v'' w' ho hg hat => ReM.one (q := q0) HR5.out (v'' := v'') (w' := w') ho hg hat)
            have hszr : w.heap.size ≤ wr.heap.size := HR.out.bel.size
            clear hb5 HR HE HPX HQX
            subst hw5
            go_wp2_with (at_builtin; refine wpList_append_own_at _ rfl (.tmp 44) (.tmp 48) 40 rfl w.heap.size 44 i z 5 72 Tryz.underlying40 HI.out hz0 hz2 hz3 hz1 (by decide) (.slice Ao r.length co) r.length (Ev.cells5 r) rfl HR5.out.own ⟨wr.heap.size, 0, none⟩ 1 1 (relC q0).toList rfl rfl HC5.out (by intro u hu; simp [relC] at hu; rcases hu with rfl | rfl | rfl | rfl | rfl <;> rfl) (by unfold maxLen; omega) (by omega) (by simp; omega) ?_; intro v7' w7 hown7 hg7 hnil7 hat7; have HP7 := Lib.hid (HPUT.out v7' w7 hown7 hg7 hat7); have HPX7 := Lib.hid (HPX5.out.grown hg7 (fun e => own_kind HR5.out.own HPX5.out (by decide) e.symm)); clear hown7 hg7 hnil7 hat7)
            go_roundg (G - 1)
            case measure => omega
            case rel => exact ⟨r.length + 1, r ++ [rowR q0], F, by omega, by go_num, HP7.out, by show listX (PS.take (r.length + 1)) = _; rw [HLS1.out, List.map_append]; rfl, by simp, HPX7⟩
          · have hone1 : ((qs.length : Int) == 1) = false := by simp; omega
            have HOR : Hid (oneX (qs.map depR) = .mk 3 ⟨#[]⟩ 0 ⟨#[]⟩ (qs.map depR)) := oneX_or (by rw [List.length_map]; exact hone)
            clear hone
            obtain ⟨w5, hw5⟩ : ∃ w5, w5 = wr.alloc (.cells #[.int .i64 3, .string ⟨#[]⟩, .int .i64 0, .string ⟨#[]⟩, .slice Ae qs.length ce] 44) := ⟨_, rfl⟩
            have hb5 : Below wr.heap.size wr w5 := by rw [hw5]; exact (Below.refl _ _).alloc (Nat.le_refl _) _
            have HC5 : Hid (∀ (jj : Nat) u, [.int .i64 3, .string ⟨#[]⟩, .int .i64 0, .string ⟨#[]⟩, .slice Ae qs.length ce][jj]? = some u → w5.cell? ((⟨wr.heap.size, 0, none⟩ : Addr).add jj) = some u) := fun jj u hj => by
              rw [hw5]
              exact cells_new wr #[.int .i64 3, .string ⟨#[]⟩, .int .i64 0, .string ⟨#[]⟩, .slice Ae qs.length ce] 44 jj u hj
            have HR5 := Lib.hid (HR.out.below hb5)
            have HE5 := Lib.hid (HE.out.below hb5)
            have HPX5 := Lib.hid (Blk.mono HPX.out hb5)
            have HPUT := Lib.hid (fun v'' w' ho hg hat => ReM.or HR5.out HE5.out (v'' := v'') (w' := w') ho hg hat)
            have hszr : w.heap.size ≤ wr.heap.size := HR.out.bel.size
            clear hb5 HR HE HPX HQX
            subst hw5
            go_wp2_with (at_builtin; refine wpList_append_own_at _ rfl (.tmp 50) (.tmp 53) 40 rfl w.heap.size 44 i z 5 72 Tryz.underlying40 HI.out hz0 hz2 hz3 hz1 (by decide) (.slice Ao r.length co) r.length (Ev.cells5 r) rfl HR5.out.own ⟨wr.heap.size, 0, none⟩ 1 1 [.int .i64 3, .string ⟨#[]⟩, .int .i64 0, .string ⟨#[]⟩, .slice Ae qs.length ce] rfl rfl HC5.out (by intro u hu; simp at hu; rcases hu with rfl | rfl | rfl | rfl | rfl <;> rfl) (by unfold maxLen; omega) (by omega) (by simp; omega) ?_; intro v7' w7 hown7 hg7 hnil7 hat7; have HP7 := Lib.hid (HPUT.out v7' w7 hown7 hg7 hat7); have HPX7 := Lib.hid (HPX5.out.grown hg7 (fun e => own_kind HR5.out.own HPX5.out (by decide) e.symm)); clear hown7 hg7 hnil7 hat7)
            go_roundg (G - 1)
            case measure => omega
            case rel => exact ⟨r.length + 1, r ++ [(Ev.Dep.mk 3 ⟨#[]⟩ 0 ⟨#[]⟩ (qs.map depR), Value.slice Ae qs.length ce)], (Value.slice Ae qs.length ce).ownBlock.toList ++ F, by omega, by go_num, HP7.out, by show listX (PS.take (r.length + 1)) = _; rw [HLS1.out, HOR.out, List.map_append]; rfl, by simp, HPX7⟩
    · have hltI : ¬ (r.length : Int) < (N : Int) := by omega
      have HV : Hid (listX PS = some (r.map Prod.fst)) := by
        have h := HL.out
        rw [List.take_of_length_le (by have := HN.out; omega)] at h
        exact h
      clear HL
      go_wp2_with fail
      go_ret2
      show RelPost w (listX PS) _ _
      rw [HV.out]
      exact ⟨.slice Ao r.length co, r, F, rfl, HR.out, rfl⟩
end Go.Proofs.YtljldbdjkjllhaaGreatDoor
