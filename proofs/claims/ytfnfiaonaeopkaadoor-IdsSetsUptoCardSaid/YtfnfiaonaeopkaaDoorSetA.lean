/- IdsSets: what is kept in memory. -/
import Derived.Test.YtfnfiaonaeopkaaDoorLawC
import Derived.Test.YtfnfiaonaeopkaaDoorBulk
import Derived.Test.YtfnfiaonaeopkaaDoorMergeMinus
import Derived.Maps.OwnIn
import Derived.Deep.Cut
import Derived.Deep.CutRange
namespace Go.Proofs.YtfnfiaonaeopkaaDoor
set_option linter.unusedSimpArgs false
set_option linter.unusedVariables false
open Go.RowKit Go.Shelf

theorem infoI : (Tryd.prog.info? 3).map (fun i => (i.zero, i.size, i.bytes)) = some (some (.int .i64 0), 1, 8) := by kernel_rfl
theorem mrg_minus (xs ys : List Int) : old.mrg old.fMinus xs ys = old.srt (old.kOut ys xs) :=
  old.rise_ext _ _ (old.mrg_rise _ _ _) (old.srt_rise _) fun z => by
    rw [old.mrg_mem, old.srt_mem]; unfold old.Want old.fMinus old.kOut
    rw [List.mem_filter]
    by_cases h1 : z ∈ xs <;> by_cases h2 : z ∈ ys <;> simp [h1, h2]
theorem iminus_any (A A' : Option Addr) (c c' B n m : Nat) (xs ys : List Int) (w : World) (hl : xs.length = n) (hl' : ys.length = m) (hn : n ≤ 4194304) (hm : m ≤ 4194304) (hB : B ≤ w.heap.size) (hr : old.Rd w B A (old.i64s xs)) (hr' : old.Rd w B A' (old.i64s ys)) :
    Calls Tryd.prog 15 #[.slice A n c, .slice A' m c'] w (old.Lst w (old.srt (old.kOut ys xs))) := by
  have C := Lib.hid (old.mergeMinus_any A A' c c' B n m xs ys w hl hl' hn hm hB hr hr')
  rw [mrg_minus] at C
  clear hl hl' hr hr'
  go_enter Tryd.func15, Tryd.ntmps15
  go_wp2_with fail
  refine C.out.mono ?_
  rintro e w2 ⟨A2, c2, rfl, h1, h2, h3, h4⟩
  have H3 := Lib.hid h3
  clear h3
  go_wp2_with fail
  go_ret
  exact ⟨A2, c2, rfl, h1, h2, H3.out, h4⟩

/-! Which numbers are in. -/
def ok (z : Int) : Prop := 0 ≤ z ∧ z ≤ 65535
instance (z : Int) : Decidable (ok z) := inferInstanceAs (Decidable (_ ∧ _))
def inZ (ws : Nat → Nat) (z : Int) : Prop := 0 ≤ z ∧ z ≤ 65535 ∧ isIn ws z.toNat = true
def putZ (ws : Nat → Nat) (z : Int) (u : Bool) : Nat → Nat := if ok z then putB ws z.toNat u else ws
theorem putB_other {ws : Nat → Nat} {k m : Nat} (h : m ≠ k) (u : Bool) : isIn (putB ws k u) m = isIn ws m := by
  unfold putB
  split
  · rfl
  · rw [flip_in, decide_eq_false h]; simp
theorem putZ_in {ws : Nat → Nat} {z : Int} {u : Bool} (y : Int) : inZ (putZ ws z u) y ↔ if y = z then ok z ∧ u = true else inZ ws y := by
  unfold putZ
  by_cases hz : ok z
  · rw [if_pos hz]
    by_cases hy : y = z
    · subst hy
      rw [if_pos rfl]
      unfold inZ
      rw [putB_in]
      exact ⟨fun h => ⟨hz, h.2.2⟩, fun h => ⟨hz.1, hz.2, h.2⟩⟩
    · rw [if_neg hy]
      unfold inZ
      constructor
      · rintro ⟨a, b, c⟩
        rw [putB_other (by have := hz.1; omega)] at c
        exact ⟨a, b, c⟩
      · rintro ⟨a, b, c⟩
        refine ⟨a, b, ?_⟩
        rw [putB_other (by have := hz.1; omega)]
        exact c
  · rw [if_neg hz]
    by_cases hy : y = z
    · subst hy
      rw [if_pos rfl]
      exact ⟨fun h => absurd ⟨h.1, h.2.1⟩ hz, fun h => absurd h.1 hz⟩
    · rw [if_neg hy]
theorem set_all (w : World) (b : Nat) (ws : Nat → Nat) (h : BitsAt w b ws) (z : Int) (u : Bool) :
    Calls Tryd.prog 7 #[.pointer (some ⟨b, 0, none⟩), .int .i64 z, .bool u] w fun e w' => (∃ x : Bool, e = .returned (.tuple #[.bool x, .int .i64 (if ok z then 0 else 1)])) ∧ BitsAt w' b (putZ ws z u) ∧ Turned [b] w w' := by
  unfold putZ
  by_cases hz : ok z
  · simp only [if_pos hz]
    obtain ⟨k, rfl⟩ : ∃ k : Nat, z = (k : Int) := ⟨z.toNat, by have := hz.1; omega⟩
    refine (set_any w b ws h k (by have := hz.2; omega) u).mono ?_
    rintro e w' ⟨rfl, hB, ht⟩
    exact ⟨⟨_, rfl⟩, by simpa using hB, ht⟩
  · simp only [if_neg hz]
    refine (set_out w b z (by unfold ok at hz; omega) u).mono ?_
    rintro e w' ⟨rfl, rfl⟩
    exact ⟨⟨_, rfl⟩, h, Turned.refl _ _⟩
theorem same_of {ws : Nat → Nat} {X : List Int} (h : ∀ z, inZ ws z ↔ z ∈ X) : Same ws (old.srt X) :=
  ⟨old.srt_rise _, fun z => by rw [old.srt_mem]; exact (h z).symm⟩
theorem in_zero (z : Int) : inZ (fun _ => 0) z ↔ z ∈ ([] : List Int) := by simp [inZ, isIn]
theorem in_put {ws : Nat → Nat} {X : List Int} {z : Int} (h : ∀ y, inZ ws y ↔ y ∈ X) (hz : ok z) (y : Int) : inZ (putZ ws z true) y ↔ y ∈ X ++ [z] := by
  rw [putZ_in]
  by_cases hy : y = z
  · subst hy; simp [hz]
  · rw [if_neg hy, h]; simp [hy]
theorem in_put_no {ws : Nat → Nat} {X : List Int} {z : Int} (h : ∀ y, inZ ws y ↔ y ∈ X) (hz : ¬ ok z) (y : Int) : inZ (putZ ws z true) y ↔ y ∈ X := by
  unfold putZ; rw [if_neg hz]; exact h y
theorem in_out {ws : Nat → Nat} {D X : List Int} {z : Int} (h : ∀ y, inZ ws y ↔ y ∈ old.kOut D X) (y : Int) : inZ (putZ ws z false) y ↔ y ∈ old.kOut (D ++ [z]) X := by
  rw [putZ_in]
  unfold old.kOut at *
  rw [List.mem_filter]
  by_cases hy : y = z
  · subst hy; simp
  · rw [if_neg hy, h, List.mem_filter]; simp [hy]
theorem kOut_nil (X : List Int) : old.kOut [] X = X := by simp [old.kOut]
theorem kOut_self (D X : List Int) : old.kOut X (old.kOut D X) = [] := by
  unfold old.kOut
  rw [List.filter_eq_nil_iff]
  intro y hy
  simpa using (List.mem_filter.1 hy).1
theorem take_snoc {l : List Int} {k : Nat} {z : Int} (h : l[k]? = some z) : l.take (k + 1) = l.take k ++ [z] := by
  rw [List.take_add_one, h]; rfl

/-! Numbers gathered. -/
structure St (W : World) (bb : Nat) (w : World) (v : Value) (g : List Int) (ws : Nat → Nat) : Prop where
  below : Below W.heap.size W w
  far : W.heap.size ≤ bb
  bits : BitsAt w bb ws
  own : w.ownsRow (bb + 1) 3 1 v g.length (old.i64s g)
  mem : ∀ z, inZ ws z ↔ z ∈ g
section
variable {W w w' : World} {bb : Nat} {v v' : Value} {g : List Int} {ws : Nat → Nat} {z : Int}
theorem own_no {base n : Nat} {xs : List Value} {e : TypeId} {size : Nat} (h : w.ownsRow base e size v n xs) {b : Nat} (hb : b < base) : some b ≠ v.ownBlock := fun e' => by
  have := (h.lt b e'.symm).1
  omega
theorem St.set_ (h : St W bb w v g ws) (ht : Turned [bb] w w') (hB : BitsAt w' bb (putZ ws z true)) (hz : ¬ ok z) : St W bb w' v g (putZ ws z true) := by
  have hf := h.far
  refine ⟨h.below.trans (ht.below (fun k hk => by simp at hk; omega) h.below.size), hf, hB, own_turned h.own ht (fun k hk hm => ?_), in_put_no h.mem hz⟩
  simp at hm
  have := (h.own.lt k hk).1
  omega
theorem St.app {w4 : World} {o : Obj} (h : St W bb w v g ws) (ht : Turned [bb] w w') (hB : BitsAt w' bb (putZ ws z true)) (hz : ok z) (hown : w4.ownsRow (bb + 1) 3 1 v' (g.length + 1) (old.i64s g ++ [.int .i64 z])) (hg : (w'.alloc o).grownBy w4 v.ownBlock) :
    St W bb w4 v' (g ++ [z]) (putZ ws z true) := by
  have hf := h.far
  have hb1 : Below W.heap.size W w' := h.below.trans (ht.below (fun k hk => by simp at hk; omega) h.below.size)
  refine ⟨(hb1.alloc hb1.size o).grown hg (by have := hb1.size; simp; omega) (fun k hk => by have := (h.own.lt k hk).1; omega), hf, ⟨(hB.blk.alloc o).grown hg (own_no h.own (by omega)), hB.small⟩, ?_, in_put h.mem hz⟩
  rw [List.length_append]
  have e : old.i64s (g ++ [z]) = old.i64s g ++ [.int .i64 z] := by simp [old.i64s]
  rw [e]
  exact hown

/-! Behind it. -/
structure Aft (W : World) (bb ba D : Nat) (A : Option Addr) (g X : List Int) (w : World) (ws : Nat → Nat) : Prop where
  below : Below W.heap.size W w
  far : W.heap.size ≤ bb
  bits : BitsAt w bb ws
  rd : old.Rd w ba A (old.i64s g)
  size : ba ≤ w.heap.size
  after : bb < ba
  dd : ba ≤ D
  defs : w.heap[D]? = some (.deferred (some []))
  mem : ∀ z, inZ ws z ↔ z ∈ X
variable {ba D : Nat} {A : Option Addr} {X X' : List Int} {ws' : Nat → Nat}
theorem Aft.below_ (h : Aft W bb ba D A g X w ws) (hb : Below w.heap.size w w') : Aft W bb ba D A g X w' ws :=
  ⟨h.below.trans (hb.mono h.below.size), h.far, ⟨h.bits.blk.below hb h.bits.blk.lt, h.bits.small⟩, h.rd.below hb h.size, Nat.le_trans h.size hb.size, h.after, h.dd,
    (hb.block D (Array.getElem?_eq_some_iff.1 h.defs).1).trans h.defs, h.mem⟩
theorem Aft.turned (h : Aft W bb ba D A g X w ws) (ht : Turned [bb] w w') (hB : BitsAt w' bb ws') (hm : ∀ z, inZ ws' z ↔ z ∈ X') : Aft W bb ba D A g X' w' ws' := by
  have hf := h.far
  have ha := h.after
  have hd := h.dd
  refine ⟨h.below.trans (ht.below (fun k hk => by simp at hk; omega) h.below.size), hf, hB, fun k v hk => ?_, Nat.le_trans h.size ht.size, ha, hd, (ht.block D (Array.getElem?_eq_some_iff.1 h.defs).1 (by simp; omega)).trans h.defs, hm⟩
  obtain ⟨b, o, rfl, h2, h3⟩ := h.rd k v hk
  refine ⟨b, o, rfl, h2, ?_⟩
  have hne : b ≠ bb := by
    rintro rfl
    have hv : ∃ z, v = .int .i64 z := by
      unfold old.i64s at hk
      rw [List.getElem?_map] at hk
      cases hl : g[k]? with
      | none => rw [hl] at hk; cases hk
      | some z => rw [hl] at hk; injection hk with hk; exact ⟨z, hk.symm⟩
    obtain ⟨z, rfl⟩ := hv
    exact noInt_bits h.bits _ _ h3
  exact (World.cell?_of_block (ht.block b (by have := h.size; omega) (by simp; omega))).trans h3
theorem Aft.fin (h : Aft W bb ba D A g X w ws) : Below W.heap.size W (w.putObj D (.deferred none)) :=
  h.below.trans (belowK_b (w := W) (Nat.le_refl _) _ D _ (.deferred none) (by have := h.far; have := h.after; have := h.dd; omega) h.defs rfl rfl)
end

/-! The numbers gathered by the range. -/
def InvS (w0 : World) (ba : Nat) (pre : List Nat) (w : World) : Prop :=
  Below ba w0 w ∧ ∃ A c, Blk w ba 28 #[.slice A pre.length c] ∧ w.ownsRow (ba + 1) 3 1 (.slice A pre.length c) pre.length (old.i64s (ints pre))
theorem own_abides {W W' : World} {row : Option Nat} {base : Nat} {e : TypeId} {size : Nat} {v : Value} {k : Nat} {xs : List Value} (h : W.ownsRow base e size v k xs) (hg : W.grownBy W' row)
    (hrow : ∀ r, row = some r → ∃ o : Obj, W.heap[r]? = some o ∧ o.isCells = false) : W'.ownsRow base e size v k xs := by
  refine h.kept hg ?_
  rcases h.2 with ⟨rfl, _⟩ | ⟨g, cap, cur, rfl, _, hgb, _⟩
  · exact .inl rfl
  · refine .inr fun e' => ?_
    obtain ⟨o, ho, hw⟩ := hrow g (by simpa [Value.ownBlock] using e'.symm)
    rw [hgb] at ho; cases ho; cases hw
theorem invS_own {w0 : World} {ba B : Nat} (hB : ba ≤ B) (hs : ba ≤ w0.heap.size) : OwnFrom B (InvS w0 ba) := fun pre w w' row h hg hr => by
  have hr' : ∀ r, row = some r → ∃ o : Obj, w.heap[r]? = some o ∧ o.isCells = false := fun r e => (hr r e).2
  obtain ⟨hb, A, c, hB1, hO⟩ := h
  exact ⟨hb.grown hg (Nat.le_trans hs hb.size) (fun k e => Nat.le_trans hB (hr k e).1), A, c, blk_kept hB1 hg hr', own_abides hO hg hr'⟩
theorem invS_step {w0 w w4 : World} {ba : Nat} {pre : List Nat} {x : Nat} {A : Option Addr} {c : Nat} {v' : Value} {o : Obj} (hs : ba ≤ w0.heap.size) (hb : Below ba w0 w) (hB : Blk w ba 28 #[.slice A pre.length c]) (hO : w.ownsRow (ba + 1) 3 1 (.slice A pre.length c) pre.length (old.i64s (ints pre)))
    (hown : w4.ownsRow (ba + 1) 3 1 v' (pre.length + 1) (old.i64s (ints pre) ++ [.int .i64 (x : Int)])) (hg : (w.alloc o).grownBy w4 (Value.slice A pre.length c).ownBlock) :
    w4.cell? ⟨ba, 0, none⟩ = some (.slice A pre.length c) ∧ w4.frozen? ⟨ba, 0, none⟩ = false ∧ InvS w0 ba (pre ++ [x]) (w4.setCell ⟨ba, 0, none⟩ v') ∧ KeepsOthers w (w4.setCell ⟨ba, 0, none⟩ v') ∧ Below ba w (w4.setCell ⟨ba, 0, none⟩ v') := by
  have hB4 : Blk w4 ba 28 #[.slice A pre.length c] := (hB.alloc o).grown hg (own_no hO (by omega))
  have hsz : ba ≤ w.heap.size := Nat.le_trans hs hb.size
  have hbw : Below ba w (w4.setCell ⟨ba, 0, none⟩ v') := (((Below.refl ba w).alloc hsz o).grown hg (by simp; omega) (fun k hk => by have := (hO.lt k hk).1; omega)).setCell (p := ⟨ba, 0, none⟩) (Nat.le_refl _) _
  obtain ⟨A', c', rfl, h1, h2⟩ := own_form' hown
  refine ⟨hB4.cell 0, hB4.free 0, ⟨hb.trans hbw, A', c', ?_, ?_⟩, ?_, hbw⟩
  · have := hB4.set_ 0 (.slice A' (pre.length + 1) c')
    rw [List.length_append]
    exact this
  · have e : old.i64s (ints (pre ++ [x])) = old.i64s (ints pre) ++ [.int .i64 (x : Int)] := by simp [old.i64s, ints]
    rw [e, List.length_append]
    exact own_setCell hown (fun e' => own_no hown (by omega : ba < ba + 1) e'.symm) _
  · refine ((KeepsOthers.alloc w o).trans (KeepsOthers.of_grownBy hg ?_)).trans (KeepsOthers.setCell _ _ _)
    intro j ob hj hob
    rcases (hO.alloc o).2 with ⟨hv, _⟩ | ⟨g, cap, cur, hv, _, hgb, _⟩
    · rw [hv] at hj; simp [Value.ownBlock] at hj
    · rw [hv] at hj
      obtain rfl : g = j := by simpa [Value.ownBlock] using hj
      rw [hgb] at hob; cases hob; rfl
end Go.Proofs.YtfnfiaonaeopkaaDoor
