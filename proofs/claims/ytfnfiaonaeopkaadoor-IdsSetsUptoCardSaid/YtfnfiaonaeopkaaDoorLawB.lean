/- The walk of IdsBits. -/
import Derived.Test.YtfnfiaonaeopkaaDoorLawA
import Derived.MakeChecks
import Derived.Deep.QuietTactic
import Derived.BigQuiet
import Derived.Lib.LaidTab
namespace Go.Proofs.YtfnfiaonaeopkaaDoor
set_option linter.unusedSimpArgs false
set_option linter.unusedVariables false
open Go.RowKit Go.Shelf

theorem op_cells {H : Type} {enc : TypeId × Value → H} {W : World} {cs : List Value} {di : DataW H} {fuel : Nat} {ps : List MemPlace} (hl : cs.length = Tryd.prog.cellsOf 30)
    (h : DataW.trod enc Tryd.prog W 0 (fun _ => true) true fuel 30 cs = some (di, ps)) :
    ∃ (n : Int) (i : Bool), cs = [.int .i64 n, .bool i] := by
  have h2 : Tryd.prog.cellsOf 30 = 2 := by kernel_rfl
  have hf := fields_of Tryd.underlying30 (by kernel_rfl) (by rw [hl, h2]; rfl) h
  obtain ⟨u0, n0, y0, e0, t0⟩ := hf 0 _ rfl
  obtain ⟨u1, n1, y1, e1, t1⟩ := hf 1 _ rfl
  obtain ⟨z0, c0, _, _⟩ := DataW.trod_int Tryd.underlying3 t0
  obtain ⟨i, c1, _⟩ := DataW.trod_bool Tryd.underlying4 t1
  simp at c0 c1
  subst c0 c1
  refine ⟨z0, i, ?_⟩
  rw [h2] at hl
  match cs, hl with
  | [v0, v1], _ =>
    simp at e0 e1
    subst e0 e1
    rfl

/-- What lies in memory at the loop's head. -/
structure HeadB (W : World) (stop : Int) (bb bl : Nat) (w : World) (l : List Int) (ws : Nat → Nat) : Prop where
  below : Below W.heap.size W w
  far : W.heap.size + 1 < bb
  next : bl = bb + 1
  c3 : Blk w W.heap.size 3 #[.int .i64 stop]
  c4 : Blk w (W.heap.size + 1) 4 #[.bool false]
  bits : BitsAt w bb ws
  lst : ListAt w bl l
theorem cells_zero : Array.replicate 1024 (Value.int .u64 0) = cellsW fun _ => 0 := by
  apply Array.ext_getElem?
  intro i
  by_cases hi : i < 1024
  · rw [cellsW_at _ hi, Array.getElem?_replicate, if_pos hi]; rfl
  · rw [Array.getElem?_eq_none (by rw [Array.size_replicate]; omega), Array.getElem?_eq_none (by rw [cellsW_size]; omega)]
set_option maxRecDepth 10000000 in
theorem zeroBits (w : World) : (zeroValue 27).run Tryd.prog w = .ok (.agg (cellsW fun _ => 0)) w := by
  have h : (Tryd.prog.info? 27).map (fun i => (i.zero, i.size)) = some (some (.agg (Array.replicate 1024 (.int .u64 0))), 1024) := by kernel_rfl
  rw [← cells_zero]
  generalize Array.replicate 1024 (Value.int .u64 0) = z at *
  exact (zero_of_info h).1 w
theorem head_start {W w1 : World} {stop : Int} (hb : Below ((W.alloc (.cells #[.int .i64 stop] 3)).alloc (.cells #[.bool false] 4)).heap.size ((W.alloc (.cells #[.int .i64 stop] 3)).alloc (.cells #[.bool false] 4)) w1) :
    HeadB W stop w1.heap.size (w1.heap.size + 1) ((w1.alloc (.cells (cellsW fun _ => 0) 27)).alloc (.cells #[.slice none 0 0] 28)) [] (fun _ => 0) := by
  have hs := hb.size
  simp at hs
  have hW : Below W.heap.size W w1 := (((Below.refl _ W).alloc (Nat.le_refl _) _).alloc (by simp) _).trans (hb.mono (by simp; omega))
  have h3 : Blk w1 W.heap.size 3 #[.int .i64 stop] := ((Blk.new W 3 #[.int .i64 stop]).alloc _).below hb (by simp; omega)
  have h4 : Blk w1 (W.heap.size + 1) 4 #[.bool false] := (Blk.new' (w := W.alloc (.cells #[.int .i64 stop] 3)) (by simp)).below hb (by simp)
  refine ⟨(hW.alloc hW.size _).alloc (by simp; omega) _, by omega, rfl, (h3.alloc _).alloc _, (h4.alloc _).alloc _, ⟨(Blk.new _ _ _).alloc _, fun _ => by decide⟩, ⟨none, 0, Blk.new' (by simp), Nat.le_refl _, by simp [maxLen], fun k v hk => by cases hk⟩⟩

section
variable {W w w' : World} {stop : Int} {bb bl : Nat} {l l' : List Int} {ws ws' : Nat → Nat}
theorem head_turned_nil (H : HeadB W stop bb bl w l ws) (ht : Turned [] w w') : HeadB W stop bb bl w' l ws :=
  ⟨H.below.trans (ht.of_nil.mono H.below.size), H.far, H.next, H.c3.turned ht (by simp), H.c4.turned ht (by simp), H.bits.turned ht (by simp), H.lst.turned ht (by simp) (fun k hk => by cases hk)⟩
theorem head_below (H : HeadB W stop bb bl w l ws) (hb : Below w.heap.size w w') : HeadB W stop bb bl w' l ws := head_turned_nil H (Turned.of_below hb [])
theorem head_alloc (H : HeadB W stop bb bl w l ws) (o : Obj) : HeadB W stop bb bl (w.alloc o) l ws := head_turned_nil H ((Turned.refl [] w).alloc o)
theorem head_drew (H : HeadB W stop bb bl w l ws) (n : Nat) : HeadB W stop bb bl (w.drewN n) l ws := head_turned_nil H ((Turned.refl [] w).drewN n)
theorem head_bits (H : HeadB W stop bb bl w l ws) (hB : BitsAt w' bb ws') (ht : Turned [bb] w w') : HeadB W stop bb bl w' l ws' := by
  have hf := H.far
  have hn := H.next
  refine ⟨H.below.trans ((ht.below (fun k hk => by simp at hk; omega) (by have := H.below.size; exact this)) : Below W.heap.size w w'), H.far, H.next, H.c3.turned ht (by simp; omega), H.c4.turned ht (by simp; omega), hB, H.lst.turned ht (by simp; omega) (fun k hk => by simp at hk; subst hk; exact noInt_bits H.bits)⟩
theorem head_store (H : HeadB W stop bb bl w l ws) {A : Option Addr} {c : Nat} (h1 : l'.length ≤ c) (h2 : c ≤ maxLen) (hR : Rd w w.heap.size A (old.i64s l')) : HeadB W stop bb bl (w.setCell ⟨bl, 0, none⟩ (.slice A l'.length c)) l' ws := by
  have hf := H.far
  have hn := H.next
  obtain ⟨A0, c0, hB, _⟩ := H.lst
  have ht : Turned [bl] w (w.setCell ⟨bl, 0, none⟩ (.slice A l'.length c)) := (Turned.refl [bl] w).setCell (.inl (by simp)) _
  have hNI : NoInt w bl := noInt_one hB (fun z hz => by cases hz)
  refine ⟨H.below.trans (ht.below (fun k hk => by simp at hk; omega) H.below.size), H.far, H.next, H.c3.turned ht (by simp; omega), H.c4.turned ht (by simp; omega), H.bits.turned ht (by simp; omega), A, c, ?_, h1, h2, rd_turned hR ht (fun k hk => by simp at hk; subst hk; exact hNI)⟩
  exact hB.set_ 0 (.slice A l'.length c)
end

/-- Bits with a number put in, or taken out. -/
def putB (ws : Nat → Nat) (k : Nat) (u : Bool) : Nat → Nat := if isIn ws k = u then ws else flip ws k
theorem putB_in (ws : Nat → Nat) (k : Nat) (u : Bool) : isIn (putB ws k u) k = u := by
  unfold putB
  split
  · rename_i h; exact h
  · rename_i h
    rw [flip_in, decide_eq_true rfl]
    cases hx : isIn ws k <;> cases u <;> simp_all
theorem set_any (w : World) (b : Nat) (ws : Nat → Nat) (h : BitsAt w b ws) (k : Nat) (hk : k ≤ 65535) (u : Bool) :
    Calls Tryd.prog 7 #[.pointer (some ⟨b, 0, none⟩), .int .i64 (k : Int), .bool u] w fun e w' => e = .returned (.tuple #[.bool (isIn ws k != u), .int .i64 0]) ∧ BitsAt w' b (putB ws k u) ∧ Turned [b] w w' := by
  by_cases hi : isIn ws k = u
  · refine (set_same w b ws h k hk u hi).mono ?_
    rintro e w' ⟨rfl, rfl⟩
    unfold putB
    rw [if_pos hi, hi]
    exact ⟨by simp, h, Turned.refl _ _⟩
  · refine (set_flip w b ws h k hk u (by cases hx : isIn ws k <;> cases u <;> simp_all)).mono ?_
    rintro e w' ⟨rfl, hB, ht⟩
    unfold putB
    rw [if_neg hi]
    exact ⟨by rw [bne_iff_ne.2 hi], hB, ht⟩
theorem same_put_any {ws : Nat → Nat} {l : List Int} (h : Same ws l) {k : Nat} (hk : k ≤ 65535) : Same (putB ws k true) (old.put1 l (k : Int)) := by
  unfold putB
  split
  · rename_i hi; exact same_put_in h hk hi
  · rename_i hi; exact same_put h hk (by simpa using hi)
theorem same_out_any {ws : Nat → Nat} {l : List Int} (h : Same ws l) {k : Nat} (hk : k ≤ 65535) : Same (putB ws k false) (old.srt (old.kOut [(k : Int)] l)) := by
  unfold putB
  split
  · rename_i hi; exact same_out_not h hk hi
  · rename_i hi; exact same_out h hk (by simpa using hi)

/-! The range over all that are in. -/
def ints (pre : List Nat) : List Int := pre.map fun n : Nat => (n : Int)
structure Base (W : World) (stop : Int) (bl bn : Nat) (A : Option Addr) (c : Nat) (l : List Int) (pre : List Nat) (w : World) : Prop where
  below : Below W.heap.size W w
  cn : Blk w bn 3 #[.int .i64 (pre.length : Int)]
  c3 : Blk w W.heap.size 3 #[.int .i64 stop]
  c4 : Blk w (W.heap.size + 1) 4 #[.bool false]
  box : Blk w bl 28 #[.slice A l.length c]
  rd : Rd w bn A (old.i64s l)
  pre : ints pre <+: l
def Inv (W : World) (stop : Int) (bl bn : Nat) (A : Option Addr) (c : Nat) (l : List Int) (pre : List Nat) (w : World) : Prop :=
  Base W stop bl bn A c l pre w ∧ ∀ j : Nat, 1 ≤ j → j ≤ pre.length → (j : Int) ≠ stop
def Left (W : World) (stop : Int) (bl bn : Nat) (A : Option Addr) (c : Nat) (l : List Int) (co : Code) (pre : List Nat) (w : World) : Prop :=
  (co = .ret ∧ ¬ ints pre <+: l) ∨ (co = .exit 2 ∧ Base W stop bl bn A c l pre w ∧ (pre.length : Int) = stop)
theorem blk_kept {w w' : World} {g : Nat} {t : TypeId} {cs : Array Value} {row : Option Nat} (h : Blk w g t cs) (hg : w.grownBy w' row) (hr : ∀ r, row = some r → ∃ o : Obj, w.heap[r]? = some o ∧ o.isCells = false) : Blk w' g t cs :=
  h.grown hg fun e => by
    obtain ⟨o, ho, hc⟩ := hr g e.symm
    have h' : w.heap[g]? = some (.cells cs t (0, 0)) := h
    rw [h'] at ho
    injection ho with ho
    subst ho
    cases hc
theorem rd_kept {w w' : World} {B : Nat} {A : Option Addr} {xs : List Value} {row : Option Nat} (h : Rd w B A xs) (hg : w.grownBy w' row) (hr : ∀ r, row = some r → ∃ o : Obj, w.heap[r]? = some o ∧ o.isCells = false) : Rd w' B A xs := fun k v hk => by
  obtain ⟨b, o, h1, h2, h3⟩ := h k v hk
  exact ⟨b, o, h1, h2, cell_kept h3 hg hr⟩
section
variable {W : World} {stop : Int} {bl bn : Nat} {A : Option Addr} {c : Nat} {l : List Int}
theorem base_own {B : Nat} (hB : W.heap.size ≤ B) : OwnFrom B (Base W stop bl bn A c l) := fun pre w w' row h hg hr => by
  have hr' : ∀ r, row = some r → ∃ o : Obj, w.heap[r]? = some o ∧ o.isCells = false := fun r e => (hr r e).2
  exact ⟨h.below.grown hg h.below.size (fun k e => Nat.le_trans hB (hr k e).1), blk_kept h.cn hg hr', blk_kept h.c3 hg hr', blk_kept h.c4 hg hr', blk_kept h.box hg hr', rd_kept h.rd hg hr', h.pre⟩
theorem inv_own {B : Nat} (hB : W.heap.size ≤ B) : OwnFrom B (Inv W stop bl bn A c l) := fun pre w w' row h hg hr => ⟨base_own hB pre w w' row h.1 hg hr, h.2⟩
theorem left_own {B : Nat} (hB : W.heap.size ≤ B) (co : Code) : OwnFrom B (Left W stop bl bn A c l co) := fun pre w w' row h hg hr => by
  rcases h with h | ⟨h1, h2, h3⟩
  · exact .inl h
  · exact .inr ⟨h1, base_own hB pre w w' row h2 hg hr, h3⟩
theorem base_step {pre : List Nat} {w : World} (h : Base W stop bl bn A c l pre w) (hbl : bl < bn) (hW : W.heap.size + 1 < bn) {x : Nat} (hp : ints (pre ++ [x]) <+: l) :
    Base W stop bl bn A c l (pre ++ [x]) (w.setCell ⟨bn, 0, none⟩ (.int .i64 ((pre.length : Int) + 1))) := by
  have hcn := h.cn.set_ 0 (.int .i64 ((pre.length : Int) + 1))
  refine ⟨h.below.setCell (p := ⟨bn, 0, none⟩) (by show W.heap.size ≤ bn; omega) _, ?_, h.c3.far (p := ⟨bn, 0, none⟩) (by simp; omega) _, h.c4.far (p := ⟨bn, 0, none⟩) (by simp; omega) _, h.box.far (p := ⟨bn, 0, none⟩) (by simp; omega) _, fun k v hk => ?_, hp⟩
  · rw [List.length_append]
    have e : (((pre.length + [x].length : Nat)) : Int) = (pre.length : Int) + 1 := by simp
    rw [e]
    simpa using hcn
  · obtain ⟨b, o, h1, h2, h3⟩ := h.rd k v hk
    exact ⟨b, o, h1, h2, (World.cell?_of_block (Below.heap_setCell w ⟨bn, 0, none⟩ _ b (by simp; omega))).trans h3⟩
theorem end_true {pre : List Nat} {w : World} (h : Base W stop bl bn A c l pre w) {D : Nat} (hK : w.heap[D]? = some (.deferred (some []))) (hW : W.heap.size + 1 < bn) (hD : bn ≤ D) :
    (w.setCell ⟨W.heap.size + 1, 0, none⟩ (.bool true)).heap[D]? = some (.deferred (some [])) ∧
    ((w.setCell ⟨W.heap.size + 1, 0, none⟩ (.bool true)).putObj D (.deferred none)).cell? ⟨W.heap.size + 1, 0, none⟩ = some (.bool true) ∧
    Below W.heap.size W ((w.setCell ⟨W.heap.size + 1, 0, none⟩ (.bool true)).putObj D (.deferred none)) := by
  have hK' : (w.setCell ⟨W.heap.size + 1, 0, none⟩ (.bool true)).heap[D]? = some (.deferred (some [])) := (Below.heap_setCell w ⟨W.heap.size + 1, 0, none⟩ _ D (by simp; omega)).trans hK
  refine ⟨hK', ?_, ?_⟩
  · exact cell_kept ((h.c4.set_ 0 (.bool true)).cell 0) (grownBy_putObj' _ D (.deferred none)) (fun r e => by cases e; exact ⟨_, hK', rfl⟩)
  · exact (h.below.setCell (p := ⟨W.heap.size + 1, 0, none⟩) (by show W.heap.size ≤ W.heap.size + 1; omega) _).trans (belowK_b (w := W) (Nat.le_refl _) _ D _ (.deferred none) (by omega) hK' rfl rfl)
theorem ints_len (pre : List Nat) : (ints pre).length = pre.length := by simp [ints]
theorem pre_step {pre : List Nat} {x : Nat} (h : ints pre <+: l) (hx : l[pre.length]? = some (x : Int)) : ints (pre ++ [x]) <+: l := by
  obtain ⟨r, rfl⟩ := h
  rw [List.getElem?_append_right (by rw [ints_len]; omega), ints_len, Nat.sub_self] at hx
  cases r with
  | nil => cases hx
  | cons y r =>
    injection hx with hx
    subst hx
    exact ⟨r, by simp [ints]⟩
theorem pre_no {pre : List Nat} {x : Nat} (hx : l[pre.length]? ≠ some (x : Int)) : ¬ ints (pre ++ [x]) <+: l := by
  rintro ⟨r, rfl⟩
  apply hx
  have e : ints (pre ++ [x]) = ints pre ++ [(x : Int)] := by simp [ints]
  rw [e, List.append_assoc, List.getElem?_append_right (by rw [ints_len]; omega), ints_len, Nat.sub_self]
  rfl
end

attribute [local go_sem] Oper.semAt_some

set_option maxHeartbeats 8000000 in
set_option maxRecDepth 1000000 in
theorem idsBits_walk {H : Type} {enc : TypeId × Value → H} (W : World) {v0 v1 : Value} {d0 d1 : DataW H} (h0 : In enc Tryd.prog W 22 v0 d0) (h1 : In enc Tryd.prog W 3 v1 d1)
    (hT : Tabled W) :
    Calls Tryd.prog 3 #[v0, v1] W (TrueBelow W) := by
  have h2 : Tryd.prog.cellsOf 30 = 2 := by kernel_rfl
  obtain ⟨A, n, c, rfl, hnc, hcm, _, hel⟩ := h0.slice Tryd.underlying22 (by rw [h2]; omega)
  obtain ⟨stop, rfl, _, _⟩ := h1.int Tryd.underlying3
  have HE : Hid (∀ i, i < n → ∃ (b o : Nat) (x : Int) (u : Bool), A = some ⟨b, o, none⟩ ∧ b < W.heap.size ∧ W.cell? ⟨b, o + i * 2, none⟩ = some (.int .i64 x) ∧ W.cell? ⟨b, o + i * 2 + 1, none⟩ = some (.bool u)) := fun i hi => by
    obtain ⟨b, o, cs, di, fuel, ps, e1, e2, e3, e4, e6, _⟩ := hel i hi
    obtain ⟨x, u, rfl⟩ := op_cells e3 e6
    rw [h2] at e4
    exact ⟨b, o, x, u, e1, e2, e4 0 _ rfl, e4 1 _ rfl⟩
  unfold maxLen at hcm
  have HT := Lib.hid hT
  clear h0 h1 hel h2 hT
  have hzB := zeroBits
  refine (callsIn_wide (n := 9)).1 ?_
  refine callsIn_of_wp_marks Tryd.func3 rfl trivial ?_ rfl
  simp only [Tryd.ntmps3, List.size_toArray, List.length_cons, List.length_nil, Nat.reduceAdd, Nat.reduceSub, Array.replicate_succ, Array.replicate_zero, List.push_toArray, List.append_toArray, List.nil_append, List.cons_append]
  refine wpIn_wide.2 ?_
  go_wp2_with (go_at_call 5; refine (old.awake_any _).mono ?_; rintro e w1 ⟨rfl, hb1⟩)
  have HD0 := Lib.hid (head_start hb1)
  have HW1 : Hid (W.heap.size + 1 < w1.heap.size) := by
    have := hb1.size
    simp at this
    show _ < _
    omega
  clear hb1 hzB
  generalize (w1.alloc (.cells (cellsW fun _ => 0) 27)).alloc (.cells #[.slice none 0 0] 28) = w2 at *
  obtain ⟨bl, hbl⟩ : ∃ bl, bl = w1.heap.size + 1 := ⟨_, rfl⟩
  rw [← hbl] at HD0
  simp only [← hbl]
  clear hbl HW1
  generalize w1.heap.size = bb at *
  go_loopw [8] (fun v8 wx => ∃ (i : Nat) (l : List Int) (ws : Nat → Nat), i ≤ n ∧ v8 = .int .i64 (i : Int) ∧ HeadB W stop bb bl wx l ws ∧ Same ws l) (fun v8 _ => n - (intOf v8).toNat)
  case atStart => exact ⟨0, [], fun _ => 0, Nat.zero_le _, rfl, HD0.out, same_nil⟩
  case round =>
    obtain ⟨i, l, ws, hi, rfl, hh, hsame⟩ := hrel
    have HH := Lib.hid hh
    have HS := Lib.hid hsame
    have hle := same_le hsame
    clear hsame
    obtain ⟨Al, cl, hBl, hcl, hcl2, hRl⟩ := hh.lst
    unfold maxLen at hcl2
    by_cases hlt : i < n
    · obtain ⟨b, o, x, u, rfl, hb, hx0, hx1⟩ := HE.out i hlt
      have c0 : wr.cell? ⟨b, o + i * 2, none⟩ = some (.int .i64 x) := (hh.below.cell (p := ⟨b, _, none⟩) hb).trans hx0
      have c1 : wr.cell? ⟨b, o + i * 2 + 1, none⟩ = some (.bool u) := (hh.below.cell (p := ⟨b, _, none⟩) hb).trans hx1
      have hltI : (i : Int) < (n : Int) := by omega
      have cl0 : wr.cell? ⟨bl, 0, none⟩ = some (.slice Al l.length cl) := hBl.cell 0
      have CH := Lib.hid (fun w (hr : old.Rd w w.heap.size Al (old.i64s l)) => old.has_any Al cl w.heap.size l.length x l w rfl (by omega) hr)
      have hlts0 : bl < wr.heap.size := hBl.lt
      clear hx0 hx1 hb
      have H3 := Lib.hid (head_alloc hh (.cells #[.int .i64 x, .bool u] 30))
      have hR3 : Rd (wr.alloc (.cells #[.int .i64 x, .bool u] 30)) (wr.alloc (.cells #[.int .i64 x, .bool u] 30)).heap.size Al (old.i64s l) := rd_turned hRl ((Turned.refl [] wr).alloc _) (fun k hk => by cases hk)
      have B3 := Lib.hid (Blk.new wr 30 #[.int .i64 x, .bool u])
      go_wp2_with fail
      refine (CH.out _ hR3).mono ?_
      rintro e w3 ⟨rfl, hw3⟩
      rw [hw3]
      clear hw3
      have hlt3 : wr.heap.size < (wr.alloc (.cells #[.int .i64 x, .bool u] 30)).heap.size := by simp
      generalize wr.alloc (.cells #[.int .i64 x, .bool u] 30) = w3 at *
      have Hbo : Hid (bb < wr.heap.size ∧ bl < wr.heap.size) := ⟨HH.out.bits.blk.lt, hlts0⟩
      generalize wr.heap.size = bo at *
      have k0 : w3.cell? ⟨bo, 0, none⟩ = some (.int .i64 x) := B3.out.cell 0
      have k1 : w3.cell? ⟨bo, 1, none⟩ = some (.bool u) := B3.out.cell 1
      clear CH hR3 c0 c1 cl0 hBl hlts0
      by_cases hout : x < 0 ∨ 65535 < x
      · have CS := Lib.hid (set_out w3 bb x hout u)
        have CO := Lib.hid (has_out w3 bb x hout)
        rcases hout with hx | hx
        · have t1 : decide (x < 0) = true := by simpa using hx
          go_wp2_with fail
          refine CS.out.mono ?_
          rintro e w4 ⟨rfl, rfl⟩
          go_wp2_with fail
          refine CO.out.mono ?_
          rintro e w4 ⟨rfl, rfl⟩
          go_wp2_with fail
          go_roundw
          case rel => exact ⟨i + 1, l, ws, by omega, by go_num, H3.out, HS.out⟩
          case measure => simp [intOf]; omega
        · have t1 : decide (x < 0) = false := by simp; omega
          have t2 : decide (65535 < x) = true := by simpa using hx
          go_wp2_with fail
          refine CS.out.mono ?_
          rintro e w4 ⟨rfl, rfl⟩
          go_wp2_with fail
          refine CO.out.mono ?_
          rintro e w4 ⟨rfl, rfl⟩
          go_wp2_with fail
          go_roundw
          case rel => exact ⟨i + 1, l, ws, by omega, by go_num, H3.out, HS.out⟩
          case measure => simp [intOf]; omega
      · have t1 : decide (x < 0) = false := by simp; omega
        have t2 : decide (65535 < x) = false := by simp; omega
        obtain ⟨k, rfl⟩ : ∃ k : Nat, x = (k : Int) := ⟨x.toNat, by omega⟩
        have hk : k ≤ 65535 := by omega
        rw [same_has HS.out hk]
        have CS := Lib.hid (set_any w3 bb ws H3.out.bits k hk u)
        have HIN := Lib.hid (putB_in ws k u)
        have HSM : Hid (Same (putB ws k u) (if u then old.put1 l (k : Int) else old.srt (old.kOut [(k : Int)] l))) := by
          show Same _ _
          cases u
          · exact same_out_any HS.out hk
          · exact same_put_any HS.out hk
        have hbo : bb < bo ∧ bl < bo := by
          refine ⟨?_, ?_⟩
          · exact Hbo.out.1
          · exact Hbo.out.2
        generalize putB ws k u = ws4 at *
        generalize isIn ws k = sx at *
        cases sx
        all_goals
          go_wp2_with fail
          refine CS.out.mono ?_
          rintro e w4 ⟨rfl, hB4, ht4⟩
          have H4 := Lib.hid (head_bits H3.out hB4 ht4)
          have B4 := Lib.hid (B3.out.turned ht4 (by simp; omega))
          have k40 : w4.cell? ⟨bo, 0, none⟩ = some (.int .i64 (k : Int)) := B4.out.cell 0
          have k41 : w4.cell? ⟨bo, 1, none⟩ = some (.bool u) := B4.out.cell 1
          obtain ⟨A4, c4, hBl4, hc4, hc42, hR4⟩ := H4.out.lst
          have cl4 : w4.cell? ⟨bl, 0, none⟩ = some (.slice A4 l.length c4) := hBl4.cell 0
          have HBl4 := Lib.hid hBl4
          have HR4 := Lib.hid hR4
          clear hB4 ht4 CS k0 k1 hBl4 hR4
          cases u
          · rw [if_neg (by simp)] at HSM
            have hR4a : Rd (w4.alloc (.cells #[.int .i64 (k : Int)] 3)) (w4.alloc (.cells #[.int .i64 (k : Int)] 3)).heap.size A4 (old.i64s l) := rd_turned HR4.out ((Turned.refl [] w4).alloc _) (fun k hk => by cases hk)
            have hR4b : old.Rd (w4.alloc (.cells #[.int .i64 (k : Int)] 3)) (w4.alloc (.cells #[.int .i64 (k : Int)] 3)).heap.size (some ⟨w4.heap.size, 0, none⟩) (old.i64s [(k : Int)]) := (old.Rd.new1 w4 (.int .i64 (k : Int)) 3).more (by simp)
            have CP := Lib.hid (old.rminus_any A4 (some ⟨w4.heap.size, 0, none⟩) c4 1 _ l.length 1 l [(k : Int)] (w4.alloc (.cells #[.int .i64 (k : Int)] 3)) rfl rfl (by omega) (by omega) (Nat.le_refl _) hR4a hR4b)
            clear hR4a hR4b
            go_wp2_with fail
            refine CP.out.mono ?_
            rintro e w5 ⟨A5, c5, rfl, h51, h52, h53, hb5'⟩
            have hb5 : Below w4.heap.size w4 w5 := ((Below.refl _ w4).alloc (Nat.le_refl _) _).trans (hb5'.mono (by simp))
            clear hb5'
            have H5 := Lib.hid (head_below H4.out hb5)
            have B5 := Lib.hid (B4.out.below hb5 B4.out.lt)
            have H6 := Lib.hid (head_store H5.out h51 h52 h53)
            have hBl5 := HBl4.out.below hb5 HBl4.out.lt
            have cl5 : w5.cell? ⟨bl, 0, none⟩ = some (.slice A4 l.length c4) := hBl5.cell 0
            have f5 := hBl5.free 0
            have B6 := Lib.hid (B5.out.far (p := ⟨bl, 0, none⟩) (by simp; omega) (.slice A5 (old.srt (old.kOut [(k : Int)] l)).length c5))
            clear hb5 CP hBl5
            go_wp2_with fail
            have cl6 : (w5.setCell ⟨bl, 0, none⟩ (.slice A5 (old.srt (old.kOut [(k : Int)] l)).length c5)).cell? ⟨bl, 0, none⟩ = some (.slice A5 (old.srt (old.kOut [(k : Int)] l)).length c5) := by
              obtain ⟨_, _, hx, _⟩ := H5.out.lst
              exact (hx.set_ 0 (.slice A5 (old.srt (old.kOut [(k : Int)] l)).length c5)).cell 0
            have k60 : (w5.setCell ⟨bl, 0, none⟩ (.slice A5 (old.srt (old.kOut [(k : Int)] l)).length c5)).cell? ⟨bo, 0, none⟩ = some (.int .i64 (k : Int)) := B6.out.cell 0
            have k61 : (w5.setCell ⟨bl, 0, none⟩ (.slice A5 (old.srt (old.kOut [(k : Int)] l)).length c5)).cell? ⟨bo, 1, none⟩ = some (.bool false) := B6.out.cell 1
            have CH6 : Hid (∀ w, BitsAt w bb ws4 → Calls Tryd.prog 8 #[.pointer (some ⟨bb, 0, none⟩), .int .i64 (k : Int)] w fun e w' => e = .returned (.bool false) ∧ w = w') := fun w hw => by
              have := has_in w bb ws4 hw k hk
              rwa [HIN.out] at this
            have CC6 : Hid (∀ w, BitsAt w bb ws4 → Calls Tryd.prog 11 #[.pointer (some ⟨bb, 0, none⟩)] w fun e w' => e = .returned (.int .i64 ((old.srt (old.kOut [(k : Int)] l)).length : Nat)) ∧ w = w') := fun w hw => by
              have := count_any w bb ws4 hw
              rwa [same_len HSM.out] at this
            clear h51 h52 h53 cl5 f5 cl4 k40 k41
            generalize w5.setCell ⟨bl, 0, none⟩ (.slice A5 (old.srt (old.kOut [(k : Int)] l)).length c5) = w6 at *
            generalize old.srt (old.kOut [(k : Int)] l) = l6 at *
            have CHd := Lib.hid (fun N => CH6.out (w6.drewN N) ⟨H6.out.bits.blk, H6.out.bits.small⟩)
            have CCd := Lib.hid (fun N => CC6.out (w6.drewN N) ⟨H6.out.bits.blk, H6.out.bits.small⟩)
            clear CH6 CC6
            go_quiet ((first
              | (go_at_call 8; exact (CHd.out _).mono fun _ _ h => ⟨h.1, _, h.2.symm⟩)
              | (go_at_call 11; exact (CCd.out _).mono fun _ _ h => ⟨h.1, _, h.2.symm⟩)))
            go_wp2_with fail
            go_roundw
            case rel => exact ⟨i + 1, l6, ws4, by omega, by go_num, head_drew H6.out _, HSM.out⟩
            case measure => simp [intOf]; omega
          · rw [if_pos rfl] at HSM
            have CP := Lib.hid (old.put1_any A4 c4 l.length (k : Int) l w4 rfl (by omega) hc4 hc42 HR4.out)
            go_wp2_with fail
            refine CP.out.mono ?_
            rintro e w5 ⟨A5, c5, rfl, h51, h52, h53, hb5⟩
            have H5 := Lib.hid (head_below H4.out hb5)
            have B5 := Lib.hid (B4.out.below hb5 B4.out.lt)
            have H6 := Lib.hid (head_store H5.out h51 h52 h53)
            have hBl5 := HBl4.out.below hb5 HBl4.out.lt
            have cl5 : w5.cell? ⟨bl, 0, none⟩ = some (.slice A4 l.length c4) := hBl5.cell 0
            have f5 := hBl5.free 0
            have B6 := Lib.hid (B5.out.far (p := ⟨bl, 0, none⟩) (by simp; omega) (.slice A5 (old.put1 l (k : Int)).length c5))
            clear hb5 CP hBl5
            go_wp2_with fail
            have cl6 : (w5.setCell ⟨bl, 0, none⟩ (.slice A5 (old.put1 l (k : Int)).length c5)).cell? ⟨bl, 0, none⟩ = some (.slice A5 (old.put1 l (k : Int)).length c5) := by
              obtain ⟨_, _, hx, _⟩ := H5.out.lst
              exact (hx.set_ 0 (.slice A5 (old.put1 l (k : Int)).length c5)).cell 0
            have k60 : (w5.setCell ⟨bl, 0, none⟩ (.slice A5 (old.put1 l (k : Int)).length c5)).cell? ⟨bo, 0, none⟩ = some (.int .i64 (k : Int)) := B6.out.cell 0
            have k61 : (w5.setCell ⟨bl, 0, none⟩ (.slice A5 (old.put1 l (k : Int)).length c5)).cell? ⟨bo, 1, none⟩ = some (.bool true) := B6.out.cell 1
            have CH6 : Hid (∀ w, BitsAt w bb ws4 → Calls Tryd.prog 8 #[.pointer (some ⟨bb, 0, none⟩), .int .i64 (k : Int)] w fun e w' => e = .returned (.bool true) ∧ w = w') := fun w hw => by
              have := has_in w bb ws4 hw k hk
              rwa [HIN.out] at this
            have CC6 : Hid (∀ w, BitsAt w bb ws4 → Calls Tryd.prog 11 #[.pointer (some ⟨bb, 0, none⟩)] w fun e w' => e = .returned (.int .i64 ((old.put1 l (k : Int)).length : Nat)) ∧ w = w') := fun w hw => by
              have := count_any w bb ws4 hw
              rwa [same_len HSM.out] at this
            clear h51 h52 h53 cl5 f5 cl4 k40 k41
            generalize w5.setCell ⟨bl, 0, none⟩ (.slice A5 (old.put1 l (k : Int)).length c5) = w6 at *
            generalize old.put1 l (k : Int) = l6 at *
            have CHd := Lib.hid (fun N => CH6.out (w6.drewN N) ⟨H6.out.bits.blk, H6.out.bits.small⟩)
            have CCd := Lib.hid (fun N => CC6.out (w6.drewN N) ⟨H6.out.bits.blk, H6.out.bits.small⟩)
            clear CH6 CC6
            go_quiet ((first
              | (go_at_call 8; exact (CHd.out _).mono fun _ _ h => ⟨h.1, _, h.2.symm⟩)
              | (go_at_call 11; exact (CCd.out _).mono fun _ _ h => ⟨h.1, _, h.2.symm⟩)))
            go_wp2_with fail
            go_roundw
            case rel => exact ⟨i + 1, l6, ws4, by omega, by go_num, head_drew H6.out _, HSM.out⟩
            case measure => simp [intOf]; omega
    · have hltI : ¬ (i : Int) < (n : Int) := by omega
      have HLO := Lib.hid (same_len HS.out)
      have HAL := Lib.hid (same_all HS.out)
      have HB0 : Hid (Inv W stop bl wr.heap.size Al cl l [] ((wr.alloc (.cells #[.int .i64 0] 3)).alloc (.cells #[.pointer (some ⟨bb, 0, none⟩)] 49))) := by
        have h1 := head_alloc (head_alloc hh (.cells #[.int .i64 0] 3)) (.cells #[.pointer (some ⟨bb, 0, none⟩)] 49)
        refine ⟨⟨h1.below, (Blk.new wr _ _).alloc _, h1.c3, h1.c4, (hBl.alloc _).alloc _, fun k v hk => ?_, List.nil_prefix⟩, fun j h1 h2 => by simp at h2; omega⟩
        obtain ⟨b, o, e1, e2, e3⟩ := hRl k v hk
        exact ⟨b, o, e1, e2, (World.cell?_of_block ((Below.heap_alloc _ _ b (by simp; omega)).trans (Below.heap_alloc wr _ b e2))).trans e3⟩
      have HSQ : Hid (SeqStopsK Fence.wide (9 - 1) Tryd.prog 19 #[.pointer (some ⟨wr.heap.size + 1, 0, none⟩)] (fun x : Nat => #[Value.int .i64 (x : Int)]) (Below W.heap.size) (fun ys => ys = allTo ws 1024) (fun pre => pre <+: allTo ws 1024) (popTo ws 1024) ((wr.alloc (.cells #[.int .i64 0] 3)).alloc (.cells #[.pointer (some ⟨bb, 0, none⟩)] 49))) := by
        have h1 := head_alloc (head_alloc hh (.cells #[.int .i64 0] 3)) (.cells #[.pointer (some ⟨bb, 0, none⟩)] 49)
        have hp : 0 < W.heap.size := cell_lt (HT.out 0 (by decide))
        refine all_stops (9 - 1) (by decide) (wr.heap.size + 1) W.heap.size bb ws _ (by simp) h1.below.size ?_ h1.bits (HT.out.below h1.below hp) hp
        exact (Blk.new' (w := wr.alloc (.cells #[.int .i64 0] 3)) (by simp)).cell 0
      have hbl : bl < wr.heap.size := hBl.lt
      have hfar : W.heap.size + 1 < wr.heap.size := by have := hh.far; have := hh.bits.blk.lt; omega
      have hbs := hh.below.size
      clear hBl hcl hcl2 hRl HE hh HH HS HD0 HT
      go_wp2_with (go_at_call 12; refine (all_any _ _).mono ?_; rintro e w3 ⟨rfl, rfl⟩)
      refine (wpIn_wide (n := 9)).1 ?_
      apply wpIn_rangeFunc_ownF (F := Fence.wide) (n := 9) rfl (by decide) (gf := 19) (lb := #[.pointer (some ⟨wr.heap.size + 1, 0, none⟩)]) (by simp [Act.eval]) trivial (enters_of Tryd.func19 (by kernel_rfl) rfl) HSQ.out belowK_t (belowK_b (by simp; omega)) (Below.refl _ _) (fun _ => rfl) (Inv W stop bl wr.heap.size Al cl l) (Left W stop bl wr.heap.size Al cl l) (inv_own (by simp; omega)) (left_own (by simp; omega)) HB0.out
      case hassign =>
        intro l' x Wx K hK
        gi_wp2
        exact hK
      case hbody =>
        rintro l' pre x Wx ⟨hI, hno⟩ hlen
        obtain ⟨i1, i2, i3, i4, i5, i6, i7⟩ := id hI
        have HI := Lib.hid hI
        have HNO := Lib.hid hno
        have cn0 : Wx.cell? ⟨wr.heap.size, 0, none⟩ = some (.int .i64 (pre.length : Int)) := i2.cell 0
        have fn0 := i2.free 0
        have cs0 : Wx.cell? ⟨W.heap.size, 0, none⟩ = some (.int .i64 stop) := i3.cell 0
        have cr0 : Wx.cell? ⟨W.heap.size + 1, 0, none⟩ = some (.bool false) := i4.cell 0
        have fr0 := i4.free 0
        have cb0 : Wx.cell? ⟨bl, 0, none⟩ = some (.slice Al l.length cl) := i5.cell 0
        have HR := Lib.hid i6
        have hne : W.heap.size ≠ wr.heap.size := by omega
        clear i1 i2 i3 i4 i5 i6 i7 hI hno
        by_cases hx : l[pre.length]? = some (x : Int)
        · have hlt : pre.length < l.length := (List.getElem?_eq_some_iff.1 hx).1
          obtain ⟨b5, o5, rfl, hb5, hc5⟩ := HR.out.at_ (k := pre.length) (v := .int .i64 (x : Int)) (by unfold old.i64s; rw [List.getElem?_map, hx]; rfl)
          have t1 : decide (l.length ≤ pre.length) = false := by simp; omega
          have HST := Lib.hid (base_step HI.out hbl hfar (pre_step HI.out.pre hx))
          have HCN : Hid ((Wx.setCell ⟨wr.heap.size, 0, none⟩ (.int .i64 ((pre.length : Int) + 1))).cell? ⟨wr.heap.size, 0, none⟩ = some (.int .i64 ((pre.length : Int) + 1))) := by
            have := HST.out.cn.cell 0
            rw [List.length_append] at this
            show _ = _
            simpa using this
          clear hx
          by_cases hs : (pre.length : Int) + 1 = stop
          · have t2 : ((pre.length : Int) + 1 == stop) = true := by simpa using hs
            have HSE := Lib.hid hs
            clear hs
            gi_wp2
            exact ⟨KeepsOthers.setCell _ _ _, .inr ⟨rfl, HST.out, by rw [List.length_append]; have := HSE.out; simp; omega⟩⟩
          · have t2 : ((pre.length : Int) + 1 == stop) = false := by simpa using hs
            have HSE := Lib.hid hs
            clear hs
            gi_wp2
            exact ⟨KeepsOthers.setCell _ _ _, (Below.refl W.heap.size Wx).setCell (p := ⟨wr.heap.size, 0, none⟩) (by show W.heap.size ≤ wr.heap.size; omega) _, HST.out, fun j h1 h2 => by
              rw [List.length_append] at h2
              simp at h2
              by_cases hj : j ≤ pre.length
              · exact HNO.out j h1 hj
              · have : j = pre.length + 1 := by omega
                subst this
                push_cast
                exact HSE.out⟩
        · have HNP := Lib.hid (pre_no hx)
          by_cases hlt : pre.length < l.length
          · obtain ⟨y, hy⟩ : ∃ y, l[pre.length]? = some y := ⟨_, List.getElem?_eq_getElem hlt⟩
            obtain ⟨b5, o5, rfl, hb5, hc5⟩ := HR.out.at_ (k := pre.length) (v := .int .i64 y) (by unfold old.i64s; rw [List.getElem?_map, hy]; rfl)
            have t1 : decide (l.length ≤ pre.length) = false := by simp; omega
            have t2 : (y != (x : Int)) = true := by
              rw [hy] at hx
              simpa using hx
            clear hx hy
            gi_wp2
            exact ⟨KeepsOthers.setCell _ _ _, .inl ⟨rfl, HNP.out⟩⟩
          · have t1 : decide (l.length ≤ pre.length) = true := by simp; omega
            clear hx
            gi_wp2
            exact ⟨KeepsOthers.setCell _ _ _, .inl ⟨rfl, HNP.out⟩⟩
      case hdone =>
        intro D xs Wx hD hS hI hK
        have hS' : xs = allTo ws 1024 := hS
        have hI' : Base W stop bl wr.heap.size Al cl l xs Wx := hI.1
        have hno : ∀ j : Nat, 1 ≤ j → j ≤ xs.length → (j : Int) ≠ stop := hI.2
        clear hS hI
        have hlen : xs.length = l.length := by rw [hS', allTo_len]; exact HLO.out
        clear hS' HAL HLO HSQ HB0
        have cn0 : Wx.cell? ⟨wr.heap.size, 0, none⟩ = some (.int .i64 (xs.length : Int)) := hI'.cn.cell 0
        have cs0 : Wx.cell? ⟨W.heap.size, 0, none⟩ = some (.int .i64 stop) := hI'.c3.cell 0
        have cr0 : Wx.cell? ⟨W.heap.size + 1, 0, none⟩ = some (.bool false) := hI'.c4.cell 0
        have fr0 := hI'.c4.free 0
        have cb0 : Wx.cell? ⟨bl, 0, none⟩ = some (.slice Al l.length cl) := hI'.box.cell 0
        have t1 : ((xs.length : Int) == (l.length : Int)) = true := by simp; omega
        have HI := Lib.hid hI'
        have HK := Lib.hid (end_true hI' hK (by omega) (by simp at hD; omega))
        clear hI' hno hlen hK
        go_wp2_with fail
        obtain ⟨hK1, hc1, hb1⟩ := HK.out
        refine ⟨by simp, .inl ⟨_, _, rfl, run_takeDeferred hK1, ?_⟩⟩
        refine ⟨.bool true, ?_, rfl, hb1⟩
        simp [results, Tryd.f3, go_sem, hc1]
      case hstop =>
        intro D co xs Wx hD hS hI hK
        have hS' : xs <+: allTo ws 1024 := hS
        have hl : ints xs <+: l := by
          rw [← HAL.out]
          obtain ⟨r, hr⟩ := hS'
          exact ⟨ints r, by rw [← hr]; simp [ints]⟩
        have hI2 : co = .exit 2 ∧ Base W stop bl wr.heap.size Al cl l xs Wx ∧ (xs.length : Int) = stop := by
          rcases hI with h | h
          · exact absurd hl h.2
          · exact h
        clear hS hS' hI
        obtain ⟨rfl, hI', hst⟩ := hI2
        have hle2 : xs.length ≤ l.length := by have := hl.length_le; rwa [ints_len] at this
        clear hl HAL HLO HSQ HB0
        have cn0 : Wx.cell? ⟨wr.heap.size, 0, none⟩ = some (.int .i64 (xs.length : Int)) := hI'.cn.cell 0
        have cs0 : Wx.cell? ⟨W.heap.size, 0, none⟩ = some (.int .i64 stop) := hI'.c3.cell 0
        have cr0 : Wx.cell? ⟨W.heap.size + 1, 0, none⟩ = some (.bool false) := hI'.c4.cell 0
        have fr0 := hI'.c4.free 0
        have cb0 : Wx.cell? ⟨bl, 0, none⟩ = some (.slice Al l.length cl) := hI'.box.cell 0
        have t2 : ((xs.length : Int) == stop) = true := by simpa using hst
        have HI := Lib.hid hI'
        have HK := Lib.hid (end_true hI' hK (by omega) (by simp at hD; omega))
        clear hI' hK hst
        refine wpIn_wide.2 ?_
        cases t1 : ((xs.length : Int) == (l.length : Int))
        all_goals
          go_wp2_with fail
          obtain ⟨hK1, hc1, hb1⟩ := HK.out
          refine ⟨by simp, .inl ⟨_, _, rfl, run_takeDeferred hK1, ?_⟩⟩
          refine ⟨.bool true, ?_, rfl, hb1⟩
          simp [results, Tryd.f3, go_sem, hc1]
end Go.Proofs.YtfnfiaonaeopkaaDoor
