/- The index: what packages have of a name. The index of a pool: New. Two versions' parts: splitBoth. What Debian says of two texts: compareDeb. -/
import Derived.Test.YtpmfmkpfjomgnaaGreatDoorZap
import Derived.Test.YtpmfmkpfjomgnaaGreatDoorZae
import Derived.Test.YtpmfmkpfjomgnaaGreatDoorZad
import Derived.Test.YtpmfmkpfjomgnaaGreatDoorZai
/- The index: what packages have of a name. -/
namespace Go.Proofs.YtpmfmkpfjomgnaaGreatDoor
set_option linter.unusedSimpArgs false
set_option linter.unusedVariables false
open Go.RowKit

structure Offer where
  id : Nat
  own : Bool
  op : Int
  evr : ByteArray
def rowO (o : Offer) : Array Value := #[.int .i64 (o.id : Int), .bool o.own, .int .i64 o.op, .string o.evr]
def cellsO (l : List Offer) : List Value := l.flatMap fun o => (rowO o).toList
theorem cellsO_append (a b : List Offer) : cellsO (a ++ b) = cellsO a ++ cellsO b := by simp [cellsO]
/-- What is offered of a name, of all that was put in, in its order. -/
def offs (s : ByteArray) (os : List (ByteArray × Offer)) : List Offer := (os.filter fun a => decide (a.1 = s)).map Prod.snd
theorem offs_snoc (s : ByteArray) (os : List (ByteArray × Offer)) (nm : ByteArray) (o : Offer) : offs s (os ++ [(nm, o)]) = offs s os ++ if nm = s then [o] else [] := by
  unfold offs
  rw [List.filter_append, List.map_append]
  by_cases h : nm = s
  · simp [h]
  · simp [h]
theorem offs_len (s : ByteArray) (os : List (ByteArray × Offer)) : (offs s os).length ≤ os.length := by
  unfold offs
  rw [List.length_map]
  exact List.length_filter_le _ _
structure IdxSt (w : World) (base x : Nat) (O : Nat → Prop) (kind size : Int) (os : List (ByteArray × Offer)) (bm : Nat) (f : ByteArray → Value) : Prop where
  blk : Blk w x 101 #[.int .i64 kind, .int .i64 size, .map (some bm)]
  map : MapR w base 104 4 bm os.length f (fun s => (offs s os).length) (fun s => cellsO (offs s os))
  gfar : base ≤ x
  mine : ∀ k, O k ↔ k = x ∨ MapO bm f k
def IdxO (x bm : Nat) (f : ByteArray → Value) (k : Nat) : Prop := k = x ∨ MapO bm f k
section
variable {w w' : World} {base x bm : Nat} {O : Nat → Prop} {kind size : Int} {os : List (ByteArray × Offer)} {f : ByteArray → Value}
theorem IdxSt.O_lt (h : IdxSt w base x O kind size os bm f) {k : Nat} (hk : O k) : base ≤ k ∧ k < w.heap.size := by
  rcases (h.mine k).1 hk with rfl | hk
  · exact ⟨h.gfar, h.blk.lt⟩
  · exact h.map.O_lt hk
theorem IdxSt.turned {Q : Nat → Prop} (h : IdxSt w base x O kind size os bm f) (ht : TurnedP Q w w') (hQ : ∀ k, Q k → ¬ O k) : IdxSt w' base x O kind size os bm f := by
  have hn : ∀ k, O k → ¬ Q k := fun k hk hq => hQ k hq hk
  exact ⟨h.blk.turnedP ht (hn x ((h.mine x).2 (.inl rfl))), h.map.turned ht fun k hk => hn k ((h.mine k).2 (.inr hk)), h.gfar, h.mine⟩
theorem IdxSt.below (h : IdxSt w base x O kind size os bm f) (hb : Below w.heap.size w w') : IdxSt w' base x O kind size os bm f :=
  h.turned (TurnedP.of_below hb fun _ => False) fun k hk => hk.elim
theorem IdxSt.put (h : IdxSt w base x O kind size os bm f) (nm : ByteArray) (o : Offer) (hsz : nm.size ≤ maxLen) (hn : os.length < maxLen) {w1 : World} {v' : Value}
    (hg : w.grownBy w1 (f nm).ownBlock) (hown : w1.ownsRow base 104 4 v' ((offs nm os).length + 1) (cellsO (offs nm os) ++ (rowO o).toList)) (hat : v'.ownBlock = (f nm).ownBlock ∨ v'.ownBlock = some w.heap.size) :
    ∃ w2 f2, (Instr.mapUpdate 99 (.map (some bm)) (.string nm) v').run Tryz.prog w1 = .ok () w2 ∧ IdxSt w2 base x (IdxO x bm f2) kind size (os ++ [(nm, o)]) bm f2 ∧ TurnedP O w w2 ∧ ∀ k, IdxO x bm f2 k → O k ∨ w.heap.size ≤ k := by
  have hat' : v'.ownBlock = (f nm).ownBlock ∨ ∃ k, v'.ownBlock = some k ∧ w.heap.size ≤ k := hat.imp id fun e => ⟨_, e, Nat.le_refl _⟩
  obtain ⟨w2, hrun, hg2, hM⟩ := h.map.put Tryz.underlying99 hsz hn hg hown hat'
  have htM : TurnedP (MapO bm f) w w2 := ((TurnedP.refl _ w).grown hg fun k _ e => .inr ⟨_, e⟩).grown hg2 fun k _ e => by injection e with e; exact .inl e.symm
  have e1 : (fun s => (offs s (os ++ [(nm, o)])).length) = fun y => if y = nm then (offs nm os).length + 1 else (offs y os).length := by
    funext y
    rw [offs_snoc]
    by_cases hx : y = nm
    · subst hx; simp
    · rw [if_neg (fun e => hx e.symm), if_neg hx, List.append_nil]
  have e2 : (fun s => cellsO (offs s (os ++ [(nm, o)]))) = fun y => if y = nm then cellsO (offs nm os) ++ (rowO o).toList else cellsO (offs y os) := by
    funext y
    rw [offs_snoc]
    by_cases hx : y = nm
    · subst hx; simp [cellsO]
    · rw [if_neg (fun e => hx e.symm), if_neg hx, List.append_nil]
  have e3 : (os ++ [(nm, o)]).length = os.length + 1 := by simp
  refine ⟨w2, _, hrun, ⟨h.blk.turnedP htM (h.map.kind h.blk (by decide)), by rw [e1, e2, e3]; exact hM, h.gfar, fun k => Iff.rfl⟩, htM.more fun k _ hk => (h.mine k).2 (.inr hk), fun k hk => ?_⟩
  rcases hk with hk | hk
  · exact .inl ((h.mine k).2 (.inl hk))
  · rcases hk with hk | ⟨s, hs⟩
    · exact .inl ((h.mine k).2 (.inr (.inl hk)))
    · simp only at hs
      by_cases hx : s = nm
      · rw [if_pos hx] at hs
        rcases hat with e | e
        · rw [hs] at e
          exact .inl ((h.mine k).2 (.inr (.inr ⟨_, e.symm⟩)))
        · rw [hs] at e
          injection e with e
          exact .inr (by omega)
      · rw [if_neg hx] at hs
        exact .inl ((h.mine k).2 (.inr (.inr ⟨_, hs⟩)))
end
/-- An offer more is in the index. -/
def AddedO (w : World) (base x : Nat) (O : Nat → Prop) (kind size : Int) (os : List (ByteArray × Offer)) (nm : ByteArray) (o : Offer) (bm : Nat) (e : Ending) (w' : World) : Prop :=
  e = .returned (.tuple #[]) ∧ ∃ f' O', IdxSt w' base x O' kind size (os ++ [(nm, o)]) bm f' ∧ TurnedP O w w' ∧ ∀ j, O' j → O j ∨ w.heap.size ≤ j
def SI (w5 : World) (g bk : Nat) (rg rk : Array Value) (l : Array Bool) (w' : World) : Prop := Blk w' g 101 rg ∧ Blk w' bk 104 rk ∧ (l.getD 13 true = false → Below w5.heap.size w5 w')
theorem SI.io {w5 : World} {g bk i : Nat} {rg rk : Array Value} (h : i ≠ 13) (l : Array Bool) (w : World) : SI w5 g bk rg rk (l.setIfInBounds i true) w ↔ SI w5 g bk rg rk l w := by
  unfold SI
  rw [getD_set_ne true h]
theorem info_offer : ∃ i z, Tryz.prog.info? 104 = some i ∧ i.zero = some z ∧ z.cells.size = 4 ∧ i.size = 4 ∧ i.bytes = 40 := by
  have h : (Tryz.prog.info? 104).map (fun i => (i.zero.map fun z => z.cells.size, i.size, i.bytes)) = some (some 4, 4, 40) := by kernel_rfl
  obtain ⟨i, hi, h2⟩ := Option.map_eq_some_iff.1 h
  simp only [Prod.mk.injEq] at h2
  obtain ⟨z, hz, h3⟩ := Option.map_eq_some_iff.1 h2.1
  exact ⟨i, z, hi, hz, h3, h2.2.1, h2.2.2⟩
theorem zero_offers (w : World) : (zeroValue 153).run Tryz.prog w = .ok (.slice none 0 0) w := by kernel_rfl
set_option maxHeartbeats 4000000 in
set_option maxRecDepth 100000 in
theorem addO_any {w : World} {base x bm : Nat} {O : Nat → Prop} {kind size : Int} {os : List (ByteArray × Offer)} {f : ByteArray → Value} (h : IdxSt w base x O kind size os bm f) (nm : ByteArray) (o : Offer) (hsz : nm.size ≤ maxLen) (hos : os.length ≤ 1000000000) :
    Calls Tryz.prog 58 #[.pointer (some ⟨x, 0, none⟩), .string nm, .agg (rowO o)] w (AddedO w base x O kind size os nm o bm) := by
  obtain ⟨w1, hw1⟩ : ∃ w1, w1 = w.alloc (.cells (rowO o) 104) := ⟨_, rfl⟩
  have hb0 : Below w.heap.size w w1 := by rw [hw1]; exact (Below.refl _ _).alloc (Nat.le_refl _) _
  have K0 : Blk w1 w.heap.size 104 (rowO o) := by rw [hw1]; exact Blk.new _ _ _
  have HB0 := Lib.hid hb0
  have HBO : Hid (¬ O w.heap.size) := fun ho => by have := (h.O_lt ho).2; omega
  have HI : Hid (IdxSt w1 base x O kind size os bm f ∧ Blk w1 w.heap.size 104 #[.int .i64 (o.id : Int), .bool o.own, .int .i64 o.op, .string o.evr] ∧ True) := ⟨h.below hb0, K0, trivial⟩
  have hlen := offs_len nm os
  obtain ⟨M, hM⟩ : ∃ M, M = (offs nm os).length := ⟨_, rfl⟩
  obtain ⟨Am, cm, hfm, hm1, hm2⟩ := own_form' (h.map.rows nm)
  rw [← hM] at hfm hm1 hlen
  unfold maxLen at hm2
  have HMM := Lib.hid (And.intro hM (And.intro hfm (And.intro hm1 hm2)))
  have HSZ := Lib.hid hsz
  have HOS := Lib.hid hos
  have HLk : Hid (∀ w', Below w1.heap.size w1 w' → (Instr.lookup 99 (.map (some bm)) (.string nm) false).run Tryz.prog w' = .ok (.slice Am M cm) w') := fun w' hb => by
    have h := (HI.out.1.below hb).map.look Tryz.underlying99 (zero_offers w') hsz
    rwa [hfm] at h
  have HIO := Lib.hid info_offer
  have hMM : M ≤ 1000000000 := by omega
  clear hM hfm hsz hlen hos hb0 K0 h
  unfold rowO at hw1 ⊢
  go_enter Tryz.func58, Tryz.ntmps58
  go_upto_region 1 with fail
  rw [← hw1]
  clear hw1
  refine wp_region_S (SI w1 x w.heap.size #[.int .i64 kind, .int .i64 size, .map (some bm)] #[.int .i64 (o.id : Int), .bool o.own, .int .i64 o.op, .string o.evr]) (by kernel_rfl) ⟨HI.out.1.blk, HI.out.2.1, fun _ => (Below.refl _ _).drew⟩ (fun hS => ?_)
  refine wpAnyS_take (i := 0) (fun w' => True) (v := .pointer (some ⟨x, 0, none⟩)) rfl (by kernel_rfl) (by kernel_rfl) (by kernel_rfl) (fun _ _ _ h => h) (fun _ _ _ _ => trivial) (SI.io (by decide)) (by kernel_rfl) hS (fun w' hSw => ?_) (by rfl) (fun hS => ?_)
  · go_simp
  try simp only [List.getElem_toArray, List.getElem_cons_zero, List.getElem_cons_succ, Act.put, List.setIfInBounds_toArray, List.set_cons_zero, List.set_cons_succ]
  refine wpAnyS_take (i := 1) (fun w' => True) (v := .pointer (some ⟨x, 0, none⟩)) rfl (by kernel_rfl) (by kernel_rfl) (by kernel_rfl) (fun _ _ _ h => h) (fun _ _ _ _ => trivial) (SI.io (by decide)) (by kernel_rfl) hS (fun w' hSw => ?_) (by rfl) (fun hS => ?_)
  · go_simp
  try simp only [List.getElem_toArray, List.getElem_cons_zero, List.getElem_cons_succ, Act.put, List.setIfInBounds_toArray, List.set_cons_zero, List.set_cons_succ]
  refine wpAnyS_take (i := 2) (fun w' => True) (v := .pointer (some ⟨x, 2, none⟩)) rfl (by kernel_rfl) (by kernel_rfl) (by kernel_rfl) (fun _ _ _ h => h) (fun _ _ _ _ => trivial) (SI.io (by decide)) (by kernel_rfl) hS (fun w' hSw => ?_) (by rfl) (fun hS => ?_)
  · go_simp
  try simp only [List.getElem_toArray, List.getElem_cons_zero, List.getElem_cons_succ, Act.put, List.setIfInBounds_toArray, List.set_cons_zero, List.set_cons_succ]
  refine wpAnyS_take (i := 3) (fun w' => w'.cell? ⟨x, 2, none⟩ = some (.map (some bm))) (v := .map (some bm)) rfl (by kernel_rfl) (by kernel_rfl) (by kernel_rfl) (fun _ _ _ h => h) (fun l w hw hS => hS.1.cell 2) (SI.io (by decide)) (by kernel_rfl) hS (fun w' hSw => ?_) (by rfl) (fun hS => ?_)
  · go_simp
  try simp only [List.getElem_toArray, List.getElem_cons_zero, List.getElem_cons_succ, Act.put, List.setIfInBounds_toArray, List.set_cons_zero, List.set_cons_succ]
  refine wpAnyS_take (i := 4) (fun w' => True) (v := .string nm) rfl (by kernel_rfl) (by kernel_rfl) (by kernel_rfl) (fun _ _ _ h => h) (fun _ _ _ _ => trivial) (SI.io (by decide)) (by kernel_rfl) hS (fun w' hSw => ?_) (by rfl) (fun hS => ?_)
  · go_simp
  try simp only [List.getElem_toArray, List.getElem_cons_zero, List.getElem_cons_succ, Act.put, List.setIfInBounds_toArray, List.set_cons_zero, List.set_cons_succ]
  refine wpAnyS_take (i := 5) (fun w' => True) (v := .pointer (some ⟨x, 0, none⟩)) rfl (by kernel_rfl) (by kernel_rfl) (by kernel_rfl) (fun _ _ _ h => h) (fun _ _ _ _ => trivial) (SI.io (by decide)) (by kernel_rfl) hS (fun w' hSw => ?_) (by rfl) (fun hS => ?_)
  · go_simp
  try simp only [List.getElem_toArray, List.getElem_cons_zero, List.getElem_cons_succ, Act.put, List.setIfInBounds_toArray, List.set_cons_zero, List.set_cons_succ]
  refine wpAnyS_take (i := 6) (fun w' => True) (v := .pointer (some ⟨x, 0, none⟩)) rfl (by kernel_rfl) (by kernel_rfl) (by kernel_rfl) (fun _ _ _ h => h) (fun _ _ _ _ => trivial) (SI.io (by decide)) (by kernel_rfl) hS (fun w' hSw => ?_) (by rfl) (fun hS => ?_)
  · go_simp
  try simp only [List.getElem_toArray, List.getElem_cons_zero, List.getElem_cons_succ, Act.put, List.setIfInBounds_toArray, List.set_cons_zero, List.set_cons_succ]
  refine wpAnyS_take (i := 7) (fun w' => True) (v := .pointer (some ⟨x, 2, none⟩)) rfl (by kernel_rfl) (by kernel_rfl) (by kernel_rfl) (fun _ _ _ h => h) (fun _ _ _ _ => trivial) (SI.io (by decide)) (by kernel_rfl) hS (fun w' hSw => ?_) (by rfl) (fun hS => ?_)
  · go_simp
  try simp only [List.getElem_toArray, List.getElem_cons_zero, List.getElem_cons_succ, Act.put, List.setIfInBounds_toArray, List.set_cons_zero, List.set_cons_succ]
  refine wpAnyS_take (i := 8) (fun w' => w'.cell? ⟨x, 2, none⟩ = some (.map (some bm))) (v := .map (some bm)) rfl (by kernel_rfl) (by kernel_rfl) (by kernel_rfl) (fun _ _ _ h => h) (fun l w hw hS => hS.1.cell 2) (SI.io (by decide)) (by kernel_rfl) hS (fun w' hSw => ?_) (by rfl) (fun hS => ?_)
  · go_simp
  try simp only [List.getElem_toArray, List.getElem_cons_zero, List.getElem_cons_succ, Act.put, List.setIfInBounds_toArray, List.set_cons_zero, List.set_cons_succ]
  refine wpAnyS_take (i := 9) (fun w' => True) (v := .string nm) rfl (by kernel_rfl) (by kernel_rfl) (by kernel_rfl) (fun _ _ _ h => h) (fun _ _ _ _ => trivial) (SI.io (by decide)) (by kernel_rfl) hS (fun w' hSw => ?_) (by rfl) (fun hS => ?_)
  · go_simp
  try simp only [List.getElem_toArray, List.getElem_cons_zero, List.getElem_cons_succ, Act.put, List.setIfInBounds_toArray, List.set_cons_zero, List.set_cons_succ]
  refine wpAnyS_take (i := 10) (fun w' => Below w1.heap.size w1 w') (v := .slice Am M cm) rfl (by kernel_rfl) (by kernel_rfl) (by kernel_rfl) (fun _ _ _ h => h) (fun l w hw hS => hS.2.2 (hw 13 (by kernel_rfl))) (SI.io (by decide)) (by kernel_rfl) hS (fun w' hSw => ?_) (by rfl) (fun hS => ?_)
  · have hlk := HLk.out w' hSw
    clear hSw
    go_simp
  try simp only [List.getElem_toArray, List.getElem_cons_zero, List.getElem_cons_succ, Act.put, List.setIfInBounds_toArray, List.set_cons_zero, List.set_cons_succ]
  refine wpAnyS_take (i := 11) (fun w' => Blk w' w.heap.size 104 #[.int .i64 (o.id : Int), .bool o.own, .int .i64 o.op, .string o.evr]) (v := .agg #[.int .i64 (o.id : Int), .bool o.own, .int .i64 o.op, .string o.evr]) rfl (by kernel_rfl) (by kernel_rfl) (by kernel_rfl) (fun _ _ _ h => h) (fun l w hw hS => hS.2.1) (SI.io (by decide)) (by kernel_rfl) hS (fun w' hSw => ?_) (by rfl) (fun hS => ?_)
  · have q0 := hSw.cell 0
    have q1 := hSw.cell 1
    have q2 := hSw.cell 2
    have q3 := hSw.cell 3
    simp at q0 q1 q2 q3
    clear hSw
    go_simp
  try simp only [List.getElem_toArray, List.getElem_cons_zero, List.getElem_cons_succ, Act.put, List.setIfInBounds_toArray, List.set_cons_zero, List.set_cons_succ]
  have hba : Below w1.heap.size w1 (w1.drew.alloc (.cells #[.int .i64 (o.id : Int), .bool o.own, .int .i64 o.op, .string o.evr] 104)) := (Below.refl _ _).drew.alloc (Nat.le_refl _) _
  have HBA := Lib.hid hba
  have HP6 := Lib.hid (HI.out.1.below hba)
  have HK6 := Lib.hid (HI.out.2.1.below hba HI.out.2.1.lt)
  have hrow := HP6.out.map.rows nm
  rw [← HMM.out.1, HMM.out.2.1] at hrow
  have HRow := Lib.hid hrow
  clear hba hrow
  refine wpAnyS_one (i := 12) (by kernel_rfl) rfl (fun K7 hK7 => ?_)
  go_simp
  refine hK7.out _ _ ⟨HP6.out.blk, HK6.out, fun _ => HBA.out⟩ (fun hS => ?_)
  clear hK7 K7
  try simp only [List.getElem_toArray, List.getElem_cons_zero, List.getElem_cons_succ, Act.put, List.setIfInBounds_toArray, List.set_cons_zero, List.set_cons_succ]
  refine wpAnyS_one (i := 13) (by kernel_rfl) rfl (fun K7 hK7 => ?_)
  obtain ⟨i0, z0, hi0, hz0, hz1, hz2, hz3⟩ := HIO.out
  refine step_append_at rfl (.tmp 16) (.tmp 18) 153 rfl base 104 i0 z0 4 40 Tryz.underlying153 hi0 hz0 hz2 hz3 hz1 (by decide) (.slice Am M cm) M (cellsO (offs nm os)) rfl HRow.out ⟨w1.heap.size, 0, none⟩ 1 1 [.int .i64 (o.id : Int), .bool o.own, .int .i64 o.op, .string o.evr] rfl rfl (cells_new w1.drew #[.int .i64 (o.id : Int), .bool o.own, .int .i64 o.op, .string o.evr] _) (by intro u hu; simp at hu; rcases hu with rfl | rfl | rfl | rfl <;> rfl) (by unfold maxLen; omega) (by omega) (by have h1 := HI.out.1.gfar; have h2 := HI.out.1.blk.lt; show base ≤ _; simp; omega) ?_
  intro v4 w4 hown4 hg4 hat4
  obtain ⟨w6, f2, hrun, hPG, htG, hoG⟩ := IdxSt.put HP6.out nm o HSZ.out (by have := HOS.out; unfold maxLen; omega) (v' := v4) (by rw [HMM.out.2.1]; exact hg4) (by rw [← HMM.out.1]; exact hown4) (by rw [HMM.out.2.1]; exact hat4)
  have hmo : ∀ k, (Value.slice Am M cm).ownBlock = some k → O k := fun k hk => (HP6.out.mine k).2 (.inr (.inr ⟨nm, by rw [HMM.out.2.1]; exact hk⟩))
  have htM : TurnedP O (w1.drew.alloc (.cells #[.int .i64 (o.id : Int), .bool o.own, .int .i64 o.op, .string o.evr] 104)) w4 := (TurnedP.refl _ _).grown hg4 fun k _ hk => hmo k hk
  have htM1 : TurnedP (fun k => (Value.slice Am M cm).ownBlock = some k) (w1.drew.alloc (.cells #[.int .i64 (o.id : Int), .bool o.own, .int .i64 o.op, .string o.evr] 104)) w4 := (TurnedP.refl _ _).grown hg4 fun k _ hk => hk
  have hg4' := HP6.out.blk.turnedP htM1 (by rw [← HMM.out.2.1]; exact own_kind (HP6.out.map.rows nm) HP6.out.blk (by decide))
  have hk4' := HK6.out.turnedP htM HBO.out
  have hk6' := HK6.out.turnedP htG HBO.out
  have HV : Hid (AddedO w base x O kind size os nm o bm (.returned (.tuple #[])) w6) :=
    ⟨rfl, f2, _, hPG, ((TurnedP.of_below HB0.out O).trans ((TurnedP.of_below HBA.out O).trans htG (fun _ _ h => h)) (fun _ _ h => h)), fun j hj => (hoG j hj).imp id fun h => by
      have h1 := HB0.out.size
      have h2 := HBA.out.size
      omega⟩
  have HX := Lib.hid hPG.blk
  clear htM htM1 htG hoG hPG hmo hown4 hg4 hat4
  refine hK7.out _ _ ⟨hg4', hk4', fun h => by cases h⟩ (fun hS => ?_)
  clear hK7 K7 hg4' hk4'
  try simp only [List.getElem_toArray, List.getElem_cons_zero, List.getElem_cons_succ, Act.put, List.setIfInBounds_toArray, List.set_cons_zero, List.set_cons_succ]
  refine wpAnyS_one (i := 14) (by kernel_rfl) rfl (fun K8 hK8 => ?_)
  refine step_mapUpdate_run rfl (.tmp 9) (.tmp 10) (.tmp 19) 99 rfl rfl rfl rfl hrun ?_
  refine hK8.out _ _ ⟨HX.out, hk6', fun h => by cases h⟩ (fun hS => ?_)
  clear hK8 K8 hk6' hrun
  try simp only [List.getElem_toArray, List.getElem_cons_zero, List.getElem_cons_succ, Act.put, List.setIfInBounds_toArray, List.set_cons_zero, List.set_cons_succ]
  refine wpAnyS_done (by kernel_rfl) ?_ _
  clear hS
  go_end0
  exact HV.out
end Go.Proofs.YtpmfmkpfjomgnaaGreatDoor

/- The index of a pool: New. -/
namespace Go.Proofs.YtpmfmkpfjomgnaaGreatDoor
set_option linter.unusedSimpArgs false
set_option linter.unusedVariables false
open Go.RowKit

def offersD (id : Nat) (ds : List Dep) : List (ByteArray × Offer) := ds.map fun d => (d.name, ⟨id, false, d.op, d.evr⟩)
def offersF (id : Nat) (fl : List ByteArray) : List (ByteArray × Offer) := fl.map fun s => (s, ⟨id, false, 0, ⟨#[]⟩⟩)
/-- What package number id has. -/
def offersP (id : Nat) (p : Pkg) : List (ByteArray × Offer) := [(p.name, ⟨id, true, 2, p.evr⟩)] ++ offersD id (p.ls 0) ++ offersF id p.files
def offersN (n : Nat) : List Pkg → List (ByteArray × Offer)
  | [] => []
  | p :: r => offersP n p ++ offersN (n + 1) r
theorem offersN_snoc (p : Pkg) : ∀ (l : List Pkg) (n : Nat), offersN n (l ++ [p]) = offersN n l ++ offersP (n + l.length) p
  | [], n => by simp [offersN]
  | q :: r, n => by
    show offersP n q ++ offersN (n + 1) (r ++ [p]) = _
    rw [offersN_snoc p r (n + 1)]
    simp [offersN, Nat.add_assoc, Nat.add_comm 1]
theorem offersD_take {id : Nat} {ds : List Dep} {j : Nat} {d : Dep} (h : ds[j]? = some d) : offersD id (ds.take (j + 1)) = offersD id (ds.take j) ++ [(d.name, ⟨id, false, d.op, d.evr⟩)] := by
  unfold offersD
  rw [List.take_add_one, h]; simp
theorem offersF_take {id : Nat} {fl : List ByteArray} {j : Nat} {s : ByteArray} (h : fl[j]? = some s) : offersF id (fl.take (j + 1)) = offersF id (fl.take j) ++ [(s, ⟨id, false, 0, ⟨#[]⟩⟩)] := by
  unfold offersF
  rw [List.take_add_one, h]; simp
theorem offersN_len : ∀ (l : List Pkg) (n : Nat), (∀ p ∈ l, (p.ls 0).length ≤ 16 ∧ p.files.length ≤ 16) → (offersN n l).length ≤ 33 * l.length
  | [], _, _ => Nat.le_refl _
  | p :: r, n, h => by
    have h1 := offersN_len r (n + 1) fun q hq => h q (by simp [hq])
    have h2 := h p (by simp)
    show (offersP n p ++ offersN (n + 1) r).length ≤ _
    simp [offersP, offersD, offersF] at h1 h2 ⊢
    omega
/-- While a package's offers are put in: the index, the package, its box bk. -/
structure NSt (w wx : World) (x : Nat) (O : Nat → Prop) (kind size : Int) (os : List (ByteArray × Offer)) (bm : Nat) (f : ByteArray → Value) (p : Pkg) (ss : Nat → Value) (fs : Value) (S T : Nat → Prop) (bk : Nat) : Prop where
  idx : IdxSt wx w.heap.size x O kind size os bm f
  apart : ∀ j, O j → ¬ S j ∧ ¬ T j ∧ j ≠ bk
  lt : ∀ j, S j ∨ T j ∨ j = bk → j < wx.heap.size
  below : Below w.heap.size w wx
  pkg : PkgAt wx S T p ss fs
  box : Blk wx bk 44 (rowP p ss fs)
section
variable {w wx w' : World} {x bm bk : Nat} {O S T : Nat → Prop} {kind size : Int} {os : List (ByteArray × Offer)} {f : ByteArray → Value} {p : Pkg} {ss : Nat → Value} {fs : Value}
theorem NSt.later (h : NSt w wx x O kind size os bm f p ss fs S T bk) (hb : Below wx.heap.size wx w') : NSt w w' x O kind size os bm f p ss fs S T bk :=
  ⟨h.idx.below hb, h.apart, fun j hj => Nat.lt_of_lt_of_le (h.lt j hj) hb.size, h.below.trans (hb.mono h.below.size), h.pkg.below hb, h.box.below hb h.box.lt⟩
theorem NSt.next (h : NSt w wx x O kind size os bm f p ss fs S T bk) {nm : ByteArray} {o : Offer} {e : Ending} (ha : AddedO wx w.heap.size x O kind size os nm o bm e w') :
    e = .returned (.tuple #[]) ∧ ∃ f' O', NSt w w' x O' kind size (os ++ [(nm, o)]) bm f' p ss fs S T bk := by
  obtain ⟨rfl, f', O', hi, ht, hO⟩ := ha
  have hS : StayS S wx w' := fun b hb hl => ht.block b hl fun ho => (h.apart b ho).1 hb
  have hT : StayS T wx w' := fun b hb hl => ht.block b hl fun ho => (h.apart b ho).2.1 hb
  refine ⟨rfl, f', O', hi, fun j hj => ?_, fun j hj => Nat.lt_of_lt_of_le (h.lt j hj) ht.size, h.below.trans (ht.below (fun j _ hj => (h.idx.O_lt hj).1) h.below.size), h.pkg.stay (fun _ h => h) (fun _ h => h) hS hT, h.box.turnedP ht fun ho => (h.apart bk ho).2.2 rfl⟩
  rcases hO j hj with h1 | h1
  · exact h.apart j h1
  · exact ⟨fun h2 => by have := h.lt j (.inl h2); omega, fun h2 => by have := h.lt j (.inr (.inl h2)); omega, fun h2 => by have := h.lt j (.inr (.inr h2)); omega⟩
end
section
variable {w : World} {base g : Nat} {O S T : Nat → Prop} {kind : Int} {reps : List Rep} {ks : List Kep}
set_option maxRecDepth 100000 in
theorem kind_any (h : PoolAt w base g O S T kind reps ks) : Calls Tryz.prog 51 #[.pointer (some ⟨g, 0, none⟩)] w fun e w' => e = .returned (.int .i64 kind) ∧ w = w' := by
  obtain ⟨vr, vp, bm, f, h⟩ := h
  have k0 := h.blk.cell 0
  simp at k0
  clear h
  go_enter Tryz.func51, Tryz.ntmps51
  go_wp2_with fail
  go_ret
  exact ⟨rfl, rfl⟩
/-- What is asked of the packages that a pool holds. -/
structure Held (ks : List Kep) : Prop where
  many : ks.length ≤ 200
  few : ∀ k ∈ ks, (k.p.ls 0).length ≤ 16 ∧ k.p.files.length ≤ 16
  small : ∀ k ∈ ks, PkgSmall k.p
def IdxAt (w w' : World) (x : Nat) (kind : Int) (ks : List Kep) : Prop := Below w.heap.size w w' ∧ ∃ O bm f, IdxSt w' w.heap.size x O kind (ks.length : Int) (offersN 0 (ks.map Kep.p)) bm f
def IdxMade (w : World) (kind : Int) (ks : List Kep) (e : Ending) (w' : World) : Prop := ∃ x, e = .returned (.pointer (some ⟨x, 0, none⟩)) ∧ IdxAt w w' x kind ks
set_option maxHeartbeats 8000000 in
set_option maxRecDepth 100000 in
theorem newIdx_any (h : PoolAt w base g O S T kind reps ks) (hH : Held ks) : Calls Tryz.prog 27 #[.pointer (some ⟨g, 0, none⟩)] w (IdxMade w kind ks) := by
  have CK := Lib.hid (kind_any h)
  have CL := Lib.hid (len_any h)
  have HP := Lib.hid h
  have HH := Lib.hid hH
  have hks := hH.many
  have HM := mkMap 99 w
  have H0 : Hid (∃ O bm f, IdxSt ((w.alloc (.map #[] 0)).alloc (.cells #[.int .i64 kind, .int .i64 (ks.length : Int), .map (some w.heap.size)] 101)) w.heap.size (w.heap.size + 1) O kind (ks.length : Int) (offersN 0 ((ks.take 0).map Kep.p)) bm f ∧ Below w.heap.size w ((w.alloc (.map #[] 0)).alloc (.cells #[.int .i64 kind, .int .i64 (ks.length : Int), .map (some w.heap.size)] 101))) := by
    refine ⟨IdxO (w.heap.size + 1) w.heap.size (fun _ => .slice none 0 0), w.heap.size, (fun _ => .slice none 0 0), ⟨Blk.new' (by simp), (MapR.made w 104 4).turned (TurnedP.of_below ((Below.refl _ _).alloc (Nat.le_refl _) _) fun _ => False) (fun _ _ h => h.elim), by omega, fun _ => Iff.rfl⟩, ((Below.refl _ _).alloc (Nat.le_refl _) _).alloc (by simp) _⟩
  clear h hH
  go_enter Tryz.func27, Tryz.ntmps27
  go_wp2_with fail
  refine CK.out.mono ?_
  rintro e w1 ⟨rfl, rfl⟩
  go_wp2_with fail
  refine CL.out.mono ?_
  rintro e w1 ⟨rfl, rfl⟩
  clear CK CL
  go_upto_region 4 with fail
  generalize (w.alloc (.map #[] 0)).alloc (.cells #[.int .i64 kind, .int .i64 (ks.length : Int), .map (some w.heap.size)] 101) = w2 at H0 ⊢
  generalize w.heap.size + 1 = x at *
  have hx := H0.out
  obtain ⟨O0, bm0, f0, hI0, _⟩ := hx
  have k1 := hI0.blk.cell 1
  simp at k1
  clear hI0 HM
  go_wp2_with fail
  clear k1
  go_loopw [25] (fun v wx => ∃ i : Nat, i ≤ ks.length ∧ v = .int .i64 (i : Int) ∧ Hid (∃ O bm f, IdxSt wx w.heap.size x O kind (ks.length : Int) (offersN 0 ((ks.take i).map Kep.p)) bm f ∧ Below w.heap.size w wx)) (fun v _ => ks.length - (intOf v).toNat)
  case atStart => exact ⟨0, Nat.zero_le _, rfl, H0⟩
  case round =>
    clear H0
    obtain ⟨i, hi, rfl, HB⟩ := hrel
    by_cases hlt : i < ks.length
    · obtain ⟨k, hk⟩ : ∃ k, ks[i]? = some k := ⟨_, List.getElem?_eq_getElem hlt⟩
      have hm := List.mem_of_getElem? hk
      have hsm := HH.out.small k hm
      have hfw := HH.out.few k hm
      obtain ⟨O1, bm, f1, hI, hb⟩ := HB.out
      have CP := Lib.hid (package_any (HP.out.below (hb.mono (Nat.le_refl _))) i k hk hsm)
      have hol : (offersN 0 ((ks.take i).map Kep.p)).length ≤ 6600 := by
        have h1 := offersN_len ((ks.take i).map Kep.p) 0 (fun q hq => by
          obtain ⟨y, hy, rfl⟩ := List.mem_map.1 hq
          exact HH.out.few y (List.mem_of_mem_take hy))
        have h2 : ((ks.take i).map Kep.p).length ≤ 200 := by simp; omega
        omega
      have HSn : Hid (offersN 0 ((ks.take (i + 1)).map Kep.p) = offersN 0 ((ks.take i).map Kep.p) ++ offersP i k.p) := by
        show _ = _
        rw [List.take_add_one, hk, List.map_append]
        have := offersN_snoc k.p ((ks.take i).map Kep.p) 0
        rw [show 0 + ((ks.take i).map Kep.p).length = i by simp; omega] at this
        exact this
      generalize offersN 0 ((ks.take i).map Kep.p) = os at *
      have hns : k.p.name.size ≤ maxLen := by have h' : k.p.name.size ≤ 281474976710656 := hsm.txt 0; unfold maxLen; omega
      have HDs : Hid (∀ d ∈ k.p.ls 0, d.name.size ≤ maxLen) := fun d hd => by have := (small_parts ((hsm.dep 0 (by omega)).2 d hd).1).1; unfold maxLen; omega
      have HFs : Hid (∀ t ∈ k.p.files, t.size ≤ maxLen) := fun t ht => by have := hsm.files.1 t ht; unfold maxLen; omega
      have HIb := Lib.hid (And.intro hI hb)
      obtain ⟨hfd, hff⟩ := hfw
      clear hk hm hsm HB hI hb
      generalize k.p = p at *
      go_wp2_with fail
      refine CP.out.mono ?_
      rintro e w6 ⟨hb6, ss, fs, S1, T1, rfl, hP6, hC6, hCT6, hS6, hT6⟩
      obtain ⟨w7, hw7⟩ : ∃ w7, w7 = w6.alloc (.cells (rowP p ss fs) 44) := ⟨_, rfl⟩
      have hb7 : Below w6.heap.size w6 w7 := by rw [hw7]; exact (Below.refl _ _).alloc (Nat.le_refl _) _
      have hz7 : w7.heap.size = w6.heap.size + 1 := by rw [hw7]; simp
      have HN7 : Hid (NSt w w7 x O1 kind (ks.length : Int) os bm f1 p ss fs S1 T1 w6.heap.size) := by
        obtain ⟨hI, hb⟩ := HIb.out
        have h17 := hb6.trans (hb7.mono hb6.size)
        have hsz := hb6.size
        refine ⟨hI.below h17, fun j hj => ?_, fun j hj => ?_, hb.trans (h17.mono hb.size), hP6.below hb7, by rw [hw7]; exact Blk.new _ _ _⟩
        · have := (hI.O_lt hj).2
          exact ⟨fun h => by have := hS6 j h; omega, fun h => by have := hT6 j h; omega, by omega⟩
        · rcases hj with hj | hj | rfl
          · obtain ⟨cs, hc⟩ := hC6 j hj; have := hc.lt; omega
          · obtain ⟨cs, hc⟩ := hCT6 j hj; have := hc.lt; omega
          · omega
      obtain ⟨B0, m0, s0, hl1, hl2, -, -⟩ := hP6.lists 0 (by omega)
      obtain ⟨B1, m1, s1, -⟩ := hP6.lists 1 (by omega)
      obtain ⟨B2, m2, s2, -⟩ := hP6.lists 2 (by omega)
      obtain ⟨B3, m3, s3, -⟩ := hP6.lists 3 (by omega)
      obtain ⟨B4, m4, s4, -⟩ := hP6.lists 4 (by omega)
      obtain ⟨B5, m5, s5, -⟩ := hP6.lists 5 (by omega)
      obtain ⟨B6, m6, s6, -⟩ := hP6.lists 6 (by omega)
      obtain ⟨B7, m7, s7, hf1, hf2, -, -⟩ := hP6.files
      have HS0 := Lib.hid s0
      have HS7 := Lib.hid s7
      have HW7 : Hid (w7 = w6.alloc (.cells #[.string p.name, .string p.evr, .string p.arch, .string p.vendor, .slice B0 (p.ls 0).length m0, .slice B1 (p.ls 1).length m1, .slice B2 (p.ls 2).length m2, .slice B3 (p.ls 3).length m3, .slice B4 (p.ls 4).length m4, .slice B5 (p.ls 5).length m5, .slice B6 (p.ls 6).length m6, .slice B7 p.files.length m7] 44)) := by
        show w7 = _
        rw [hw7]; unfold rowP; rw [s0, s1, s2, s3, s4, s5, s6, s7]
      unfold rowP
      rw [s0, s1, s2, s3, s4, s5, s6, s7]
      have k0 := HN7.out.box.cell 0
      have k1 := HN7.out.box.cell 1
      unfold rowP at k0 k1
      simp at k0 k1
      have CA := Lib.hid (addO_any HN7.out.idx p.name ⟨i, true, 2, p.evr⟩ hns (by omega))
      unfold rowO at CA
      unfold maxLen at hl2 hf2
      have hz67 : w6.heap.size < w7.heap.size := by omega
      clear s0 s1 s2 s3 s4 s5 s6 s7 hb6 hP6 hC6 hCT6 hS6 hT6 hw7 hb7 hz7 CP HIb
      go_upto_region 8 with fail
      rw [← HW7.out]
      clear HW7
      go_wp2_with fail
      refine CA.out.mono ?_
      rintro e w8 ha
      obtain ⟨rfl, f2, O2, hN8⟩ := HN7.out.next ha
      have hz68 : w6.heap.size < w8.heap.size := hN8.lt _ (.inr (.inr rfl))
      have k4 := hN8.box.cell 4
      unfold rowP at k4
      simp at k4
      rw [HS0.out] at k4
      have HN8 : Hid (∃ O f, NSt w w8 x O kind (ks.length : Int) (os ++ [(p.name, ⟨i, true, 2, p.evr⟩)] ++ offersD i ((p.ls 0).take 0)) bm f p ss fs S1 T1 w6.heap.size) := ⟨O2, f2, by simpa [offersD] using hN8⟩
      clear HN7 CA ha hN8 k0 k1
      go_wp2_with fail
      clear k4
      go_loopw [46] (fun v wx => ∃ j : Nat, j ≤ (p.ls 0).length ∧ v = .int .i64 (j : Int) ∧ Hid (∃ O f, NSt w wx x O kind (ks.length : Int) (os ++ [(p.name, ⟨i, true, 2, p.evr⟩)] ++ offersD i ((p.ls 0).take j)) bm f p ss fs S1 T1 w6.heap.size)) (fun v _ => (p.ls 0).length - (intOf v).toNat)
      case atStart => exact ⟨0, Nat.zero_le _, rfl, HN8⟩
      case round =>
        clear HN8
        obtain ⟨j, hj, rfl, HNj⟩ := hrel
        obtain ⟨O3, f3, hN⟩ := HNj.out
        by_cases hltj : j < (p.ls 0).length
        · obtain ⟨d, hd⟩ : ∃ d, (p.ls 0)[j]? = some d := ⟨_, List.getElem?_eq_getElem hltj⟩
          have hmd := List.mem_of_getElem? hd
          have hds := HDs.out d hmd
          obtain ⟨A', c', hs', -, -, -, hA⟩ := hN.pkg.lists 0 (by omega)
          rw [HS0.out] at hs'
          injection hs' with g1 g2 g3
          subst g1; subst g3
          obtain ⟨b', o', t, hA', hSb, hCd, hLa⟩ := hA j d hd
          obtain ⟨At, ct, rfl, _, _⟩ := hLa.form_
          subst hA'
          obtain ⟨e0, e1, e2, e3, e4⟩ := hCd
          obtain ⟨wA, hwA⟩ : ∃ wA, wA = wr.alloc (.cells (rowD d (.slice At d.args.length ct)) 50) := ⟨_, rfl⟩
          have KA : Blk wA wr.heap.size 50 (rowD d (.slice At d.args.length ct)) := by rw [hwA]; exact Blk.new _ _ _
          have hNA := hN.later (by rw [hwA]; exact (Below.refl _ _).alloc (Nat.le_refl _) _ : Below wr.heap.size wr wA)
          have q1 := KA.cell 1
          have q2 := KA.cell 2
          have q3 := KA.cell 3
          unfold rowD at q1 q2 q3 hwA
          simp at q1 q2 q3
          have HTk := Lib.hid (offersD_take (id := i) hd)
          have hol2 : (offersD i ((p.ls 0).take j)).length ≤ 16 := by unfold offersD; simp; omega
          have CA := Lib.hid (addO_any hNA.idx d.name ⟨i, false, d.op, d.evr⟩ hds (by simp; omega))
          unfold rowO at CA
          have HNA := Lib.hid hNA
          clear hd hmd hds hA hSb hLa hN hNA KA HNj g2 hol2
          go_upto_region 12 with fail
          rw [← hwA]
          clear e0 e1 e2 e3 e4 hwA
          go_wp2_with fail
          refine CA.out.mono ?_
          rintro e w9 ha
          obtain ⟨rfl, f4, O4, hN9⟩ := HNA.out.next ha
          have HN9 : Hid (∃ O f, NSt w w9 x O kind (ks.length : Int) (os ++ [(p.name, ⟨i, true, 2, p.evr⟩)] ++ offersD i ((p.ls 0).take (j + 1))) bm f p ss fs S1 T1 w6.heap.size) := ⟨O4, f4, by rw [HTk.out, ← List.append_assoc]; exact hN9⟩
          clear HNA CA ha hN9 q1 q2 q3 HTk
          go_wp2_with fail
          go_roundw
          case rel => exact ⟨j + 1, by omega, by go_num, HN9⟩
          case measure => simp [intOf]; omega
        · have r11 := hN.box.cell 11
          unfold rowP at r11
          simp at r11
          rw [HS7.out] at r11
          have hz6 : w6.heap.size < wr.heap.size := hN.lt _ (.inr (.inr rfl))
          have HM0 : Hid (∃ O f, NSt w wr x O kind (ks.length : Int) (os ++ [(p.name, ⟨i, true, 2, p.evr⟩)] ++ offersD i (p.ls 0) ++ offersF i (p.files.take 0)) bm f p ss fs S1 T1 w6.heap.size) := ⟨O3, f3, by
            rw [List.take_of_length_le (by omega)] at hN
            simpa [offersF] using hN⟩
          have hol2 : (offersD i (p.ls 0)).length ≤ 16 := by unfold offersD; simp; omega
          clear hN HNj
          go_wp2_with fail
          clear r11 hltj
          go_loopw [64] (fun v wx => ∃ j : Nat, j ≤ p.files.length ∧ v = .int .i64 (j : Int) ∧ Hid (∃ O f, NSt w wx x O kind (ks.length : Int) (os ++ [(p.name, ⟨i, true, 2, p.evr⟩)] ++ offersD i (p.ls 0) ++ offersF i (p.files.take j)) bm f p ss fs S1 T1 w6.heap.size)) (fun v _ => p.files.length - (intOf v).toNat)
          case atStart => exact ⟨0, Nat.zero_le _, rfl, HM0⟩
          case round =>
            clear HM0
            obtain ⟨j, hj, rfl, HNj⟩ := hrel
            obtain ⟨O3, f3, hN⟩ := HNj.out
            by_cases hltj : j < p.files.length
            · obtain ⟨d, hd⟩ : ∃ d, p.files[j]? = some d := ⟨_, List.getElem?_eq_getElem hltj⟩
              have hmd := List.mem_of_getElem? hd
              have hds := HFs.out d hmd
              obtain ⟨A', c', hs', -, -, -, hA⟩ := hN.pkg.files
              rw [HS7.out] at hs'
              injection hs' with g1 g2 g3
              subst g1; subst g3
              obtain ⟨b', o', hA', hSb, hCd⟩ := hA j d hd
              subst hA'
              have HTk := Lib.hid (offersF_take (id := i) hd)
              have hol3 : (offersF i (p.files.take j)).length ≤ 16 := by unfold offersF; simp; omega
              have CA := Lib.hid (addO_any hN.idx d ⟨i, false, 0, ⟨#[]⟩⟩ hds (by simp; omega))
              unfold rowO at CA
              have HNA := Lib.hid hN
              clear hd hmd hds hA hSb hN HNj g2 hol3
              go_wp2_with fail
              refine CA.out.mono ?_
              rintro e w9 ha
              obtain ⟨rfl, f4, O4, hN9⟩ := HNA.out.next ha
              have HN9 : Hid (∃ O f, NSt w w9 x O kind (ks.length : Int) (os ++ [(p.name, ⟨i, true, 2, p.evr⟩)] ++ offersD i (p.ls 0) ++ offersF i (p.files.take (j + 1))) bm f p ss fs S1 T1 w6.heap.size) := ⟨O4, f4, by rw [HTk.out, ← List.append_assoc]; exact hN9⟩
              clear HNA CA ha hN9 hCd HTk
              go_wp2_with fail
              go_roundw
              case rel => exact ⟨j + 1, by omega, by go_num, HN9⟩
              case measure => simp [intOf]; omega
            · have HV : Hid (∃ O bm f, IdxSt wr w.heap.size x O kind (ks.length : Int) (offersN 0 ((ks.take (i + 1)).map Kep.p)) bm f ∧ Below w.heap.size w wr) := ⟨O3, bm, f3, by
                have h1 := hN.idx
                rw [List.take_of_length_le (by omega)] at h1
                rw [HSn.out]
                unfold offersP
                rw [← List.append_assoc, ← List.append_assoc]
                exact h1, hN.below⟩
              clear hN HNj HSn
              go_wp2_with fail
              go_roundw
              case rel => exact ⟨i + 1, by omega, by go_num, HV⟩
              case measure => simp [intOf]; omega
    · obtain rfl : i = ks.length := by omega
      have HV : Hid (IdxMade w kind ks (.returned (.pointer (some ⟨x, 0, none⟩))) wr) := by
        obtain ⟨O1, bm, f1, hI, hb⟩ := HB.out
        rw [List.take_of_length_le (Nat.le_refl _)] at hI
        exact ⟨x, rfl, hb, O1, bm, f1, hI⟩
      clear HB
      go_wp2_with fail
      go_ret
      exact HV.out
end
end Go.Proofs.YtpmfmkpfjomgnaaGreatDoor

/- Two versions' parts: splitBoth. -/
namespace Go.Proofs.YtpmfmkpfjomgnaaGreatDoor
set_option linter.unusedSimpArgs false
set_option linter.unusedVariables false
open Go.RowKit

def kindV (kind : Int) : Bool := decide (kind = 1 ∨ kind = 2)
def opB (op : Int) : Bool := decide (0 ≤ op ∧ op ≤ 7)
set_option maxRecDepth 100000 in
theorem isKind_any (k : Int) (w : World) : Calls Tryz.prog 159 #[.int .i64 k] w fun e w' => e = .returned (.bool (kindV k)) ∧ w = w' := by
  have HK := Lib.hid (show kindV k = decide (k = 1 ∨ k = 2) from rfl)
  generalize kindV k = b at *
  by_cases h1 : k = 1
  · subst h1
    go_enter Tryz.func159, Tryz.ntmps159
    go_wp2_with fail
    go_ret
    exact ⟨ret_bool (by rw [HK.out]; rfl), rfl⟩
  · have t1 : (k == 1) = false := by simpa using h1
    by_cases h2 : k = 2
    · subst h2
      clear h1 t1
      go_enter Tryz.func159, Tryz.ntmps159
      go_wp2_with fail
      go_ret
      exact ⟨ret_bool (by rw [HK.out]; rfl), rfl⟩
    · have t2 : (k == 2) = false := by simpa using h2
      have HF := Lib.hid (show decide (k = 1 ∨ k = 2) = false by simp [h1, h2])
      clear h1 h2
      go_enter Tryz.func159, Tryz.ntmps159
      go_wp2_with fail
      go_ret
      exact ⟨ret_bool (by rw [HK.out, HF.out]), rfl⟩
set_option maxRecDepth 100000 in
theorem isOp_any (k : Int) (w : World) : Calls Tryz.prog 160 #[.int .i64 k] w fun e w' => e = .returned (.bool (opB k)) ∧ w = w' := by
  have HK := Lib.hid (show opB k = (decide (0 ≤ k) && decide (k ≤ 7)) by unfold opB; rw [Bool.eq_iff_iff]; simp)
  generalize opB k = b at *
  go_enter Tryz.func160, Tryz.ntmps160
  go_wp2_with fail
  all_goals
    go_ret
    refine ⟨ret_bool ?_, rfl⟩
    rw [HK.out, Bool.eq_iff_iff]
    simp <;> omega

def bothErr (kind : Int) (A B : Option Parts) : Int := if kindV kind then (if A.isSome && B.isSome then 0 else 30) else 1
def BothPost (w0 : World) (kind : Int) (A B : Option Parts) (e : Ending) (w : World) : Prop :=
  e = .returned (.tuple #[evrV (if bothErr kind A B = 0 then A else none), evrV (if bothErr kind A B = 0 then B else none), .int .i64 (bothErr kind A B)]) ∧ Below w0.heap.size w0 w
theorem BothPost.bad {w0 w : World} {kind x : Int} {A B : Option Parts} (h : bothErr kind A B = x) (hx : x ≠ 0) (hb : Below w0.heap.size w0 w) : BothPost w0 kind A B (.returned (.tuple #[.agg #[.string ⟨#[]⟩, .string ⟨#[]⟩, .string ⟨#[]⟩], .agg #[.string ⟨#[]⟩, .string ⟨#[]⟩, .string ⟨#[]⟩], .int .i64 x])) w := by
  unfold BothPost
  rw [h, if_neg hx, if_neg hx]
  exact ⟨rfl, hb⟩
theorem BothPost.good {w0 w : World} {kind : Int} {p q : Parts} (h : kindV kind = true) (hb : Below w0.heap.size w0 w) : BothPost w0 kind (some p) (some q) (.returned (.tuple #[evrV (some p), evrV (some q), .int .i64 0])) w := by
  unfold BothPost bothErr
  rw [if_pos h]
  exact ⟨rfl, hb⟩
theorem evr_agg (o : Option Parts) : ∃ e v r : ByteArray, evrV o = .agg #[.string e, .string v, .string r] := by
  cases o with
  | none => exact ⟨_, _, _, rfl⟩
  | some p => exact ⟨_, _, _, rfl⟩

set_option maxHeartbeats 4000000 in
set_option maxRecDepth 100000 in
theorem both_any (kind : Int) (a b : ByteArray) (w0 : World) : Calls Tryz.prog 161 #[.int .i64 kind, .string a, .string b] w0 (BothPost w0 kind (parse a.data.toList) (parse b.data.toList)) := by
  have CK := Lib.hid (fun w => isKind_any kind w)
  have CA := Lib.hid (fun w => split_any a w)
  have CB := Lib.hid (fun w => split_any b w)
  unfold SplitPost at CA CB
  generalize parse a.data.toList = A at *
  generalize parse b.data.toList = B at *
  cases hk : kindV kind with
  | false =>
    have HE := Lib.hid (show bothErr kind A B = 1 by unfold bothErr; rw [hk]; rfl)
    rw [hk] at CK
    clear hk CA CB
    go_enter Tryz.func161, Tryz.ntmps161
    go_wp2_with fail
    refine (CK.out _).mono ?_
    rintro e' w1 ⟨rfl, rfl⟩
    go_wp2_with fail
    refine bodyPost_ret (v := .tuple #[.agg #[.string ⟨#[]⟩, .string ⟨#[]⟩, .string ⟨#[]⟩], .agg #[.string ⟨#[]⟩, .string ⟨#[]⟩, .string ⟨#[]⟩], .int .i64 1]) (by simp [results, Tryz.results161, go_sem]) rfl (BothPost.bad HE.out (by decide) ?_)
    exact ((Below.refl _ _).alloc (Nat.le_refl _) _).alloc (by simp) _
  | true =>
    rw [hk] at CK
    have HK := Lib.hid hk
    clear hk
    obtain ⟨ea, va, ra, hA⟩ := evr_agg A
    obtain ⟨eb, vb, rb, hB⟩ := evr_agg B
    rw [hA] at CA
    rw [hB] at CB
    have HA := Lib.hid hA
    have HB := Lib.hid hB
    obtain ⟨sa, hsa⟩ : ∃ sa, sa = A.isSome := ⟨_, rfl⟩
    obtain ⟨sb, hsb⟩ : ∃ sb, sb = B.isSome := ⟨_, rfl⟩
    have HSA := Lib.hid hsa
    have HSB := Lib.hid hsb
    rw [← hsa] at CA
    rw [← hsb] at CB
    clear hA hB hsa hsb
    cases sa <;> cases sb
    all_goals
      go_enter Tryz.func161, Tryz.ntmps161
      go_wp2_with fail
      refine (CK.out _).mono ?_
      rintro e' w1 ⟨rfl, rfl⟩
      go_wp2_with fail
      refine (CA.out _).mono ?_
      rintro e' w2 ⟨rfl, hb2⟩
      have hz2 := hb2.size
      simp only [World.size_alloc] at hz2
      have K1 := Lib.hid (((Blk.new w0 143 #[Value.string ⟨#[]⟩, .string ⟨#[]⟩, .string ⟨#[]⟩]).alloc (.cells #[Value.string ⟨#[]⟩, .string ⟨#[]⟩, .string ⟨#[]⟩] 143)).below hb2 (by simp; omega))
      have K2 := Lib.hid ((Blk.new' (w := w0.alloc (.cells #[Value.string ⟨#[]⟩, .string ⟨#[]⟩, .string ⟨#[]⟩] 143)) (g := w0.heap.size + 1) (t := 143) (cs := #[Value.string ⟨#[]⟩, .string ⟨#[]⟩, .string ⟨#[]⟩]) (by simp)).below hb2 (by simp))
      have HB2 : Hid (Below w0.heap.size w0 w2) := (((Below.refl _ _).alloc (Nat.le_refl _) _).alloc (by simp) _).trans (hb2.mono (by simp; omega))
      clear hb2
      go_wp2_with fail
      refine (CB.out _).mono ?_
      rintro e' w3 ⟨rfl, hb3⟩
      have hz3 := hb3.size
      simp only [World.size_alloc] at hz3
      have K1 := Lib.hid ((K1.out.alloc (.cells #[Value.string ea, .string va, .string ra] 143)).below hb3 (by simp; omega))
      have K2 := Lib.hid ((K2.out.alloc (.cells #[Value.string ea, .string va, .string ra] 143)).below hb3 (by simp; omega))
      have K3 := Lib.hid ((Blk.new w2 143 #[Value.string ea, .string va, .string ra]).below hb3 (by simp))
      have HB3 : Hid (Below w0.heap.size w0 w3) := (HB2.out.alloc (by omega) _).trans (hb3.mono (by simp; omega))
      clear hb3 CA CB
      have c10 := K1.out.cell 0
      have c11 := K1.out.cell 1
      have c12 := K1.out.cell 2
      have c20 := K2.out.cell 0
      have c21 := K2.out.cell 1
      have c22 := K2.out.cell 2
      have c30 := K3.out.cell 0
      have c31 := K3.out.cell 1
      have c32 := K3.out.cell 2
      have f10 := K1.out.free 0
      have f11 := K1.out.free 1
      have f12 := K1.out.free 2
      have f20 := K2.out.free 0
      have f21 := K2.out.free 1
      have f22 := K2.out.free 2
      have n1 : w0.heap.size < w3.heap.size := by omega
      have n2 : w0.heap.size + 1 < w3.heap.size := by omega
      have n3 : w2.heap.size < w3.heap.size := by omega
      have n4 : w0.heap.size ≠ w2.heap.size := by omega
      have n5 : w0.heap.size + 1 ≠ w2.heap.size := by omega
      have n6 : w0.heap.size ≠ w3.heap.size := by omega
      have n7 : w0.heap.size + 1 ≠ w3.heap.size := by omega
      go_wp2_with fail
    · have HE := Lib.hid (show bothErr kind A B = 30 by unfold bothErr; rw [HK.out, ← HSA.out, ← HSB.out]; rfl)
      refine bodyPost_ret (v := .tuple #[.agg #[.string ⟨#[]⟩, .string ⟨#[]⟩, .string ⟨#[]⟩], .agg #[.string ⟨#[]⟩, .string ⟨#[]⟩, .string ⟨#[]⟩], .int .i64 30]) (by simp [results, Tryz.results161, go_sem, *]) rfl (BothPost.bad HE.out (by decide) ?_)
      repeat (first | with_reducible exact HB3.out | with_reducible refine Below.setCell ?_ (by simp) _ | with_reducible refine Below.alloc ?_ (by simp; omega) _ | with_reducible refine Below.drew ?_)
    · have HE := Lib.hid (show bothErr kind A B = 30 by unfold bothErr; rw [HK.out, ← HSA.out, ← HSB.out]; rfl)
      refine bodyPost_ret (v := .tuple #[.agg #[.string ⟨#[]⟩, .string ⟨#[]⟩, .string ⟨#[]⟩], .agg #[.string ⟨#[]⟩, .string ⟨#[]⟩, .string ⟨#[]⟩], .int .i64 30]) (by simp [results, Tryz.results161, go_sem, *]) rfl (BothPost.bad HE.out (by decide) ?_)
      repeat (first | with_reducible exact HB3.out | with_reducible refine Below.setCell ?_ (by simp) _ | with_reducible refine Below.alloc ?_ (by simp; omega) _ | with_reducible refine Below.drew ?_)
    · have HE := Lib.hid (show bothErr kind A B = 30 by unfold bothErr; rw [HK.out, ← HSA.out, ← HSB.out]; rfl)
      refine bodyPost_ret (v := .tuple #[.agg #[.string ⟨#[]⟩, .string ⟨#[]⟩, .string ⟨#[]⟩], .agg #[.string ⟨#[]⟩, .string ⟨#[]⟩, .string ⟨#[]⟩], .int .i64 30]) (by simp [results, Tryz.results161, go_sem, *]) rfl (BothPost.bad HE.out (by decide) ?_)
      repeat (first | with_reducible exact HB3.out | with_reducible refine Below.setCell ?_ (by simp) _ | with_reducible refine Below.alloc ?_ (by simp; omega) _ | with_reducible refine Below.drew ?_)
    · go_region
      go_wp2_with fail
      refine bodyPost_ret (v := .tuple #[.agg #[.string ea, .string va, .string ra], .agg #[.string eb, .string vb, .string rb], .int .i64 0]) (by simp [results, Tryz.results161, go_sem, *]) rfl ?_
      rw [← HA.out, ← HB.out]
      cases A with
      | none => exact absurd HSA.out (by simp)
      | some p => cases B with
        | none => exact absurd HSB.out (by simp)
        | some q =>
          refine BothPost.good HK.out ?_
          repeat (first | with_reducible exact HB3.out | with_reducible refine Below.setCell ?_ (by simp) _ | with_reducible refine Below.alloc ?_ (by simp; omega) _ | with_reducible refine Below.drew ?_)
end Go.Proofs.YtpmfmkpfjomgnaaGreatDoor

/- What Debian says of two texts: compareDeb. -/
namespace Go.Proofs.YtpmfmkpfjomgnaaGreatDoor
set_option linter.unusedSimpArgs false
set_option linter.unusedVariables false
open Go.RowKit

def lenAt (w : World) (p : Addr) : Nat := match w.cell? p with | some (.string s) => s.size | _ => 0
theorem lenAt_of {w : World} {p : Addr} {s : ByteArray} (h : w.cell? p = some (.string s)) : lenAt w p = s.size := by unfold lenAt; rw [h]

/-- The two texts' rest in memory, which compare as the whole did. -/
def TwoD (w0 : World) (a0 b0 : ByteArray) (w : World) : Prop :=
  ∃ a b : ByteArray, Blk w w0.heap.size 9 #[.string a] ∧ Blk w (w0.heap.size + 1) 9 #[.string b] ∧ a.size ≤ maxLen ∧ b.size ≤ maxLen ∧ cmpDeb a.data.toList b.data.toList = cmpDeb a0.data.toList b0.data.toList ∧ Below w0.heap.size w0 w
def JD (w0 : World) (a0 b0 : ByteArray) (act : Act) (w : World) : Prop :=
  TwoD w0 a0 b0 w ∧ ∃ u4 u6 u7 u8 u9 u10 u11 u12 u13 u14 u15 u16 u17 u18 u19 u20 u21 u22 u23 u24 u25 u26 u27 u28 u29 u30 u31 u32 u33 u34 u35 u36 u37 u38 u39 u40 u41 u42 u43 u44 u45 u46 u47 u48 u49 u50 u51 u52 u53 u54 : Value, act = { tmps := #[.string a0, .string b0, .pointer (some ⟨w0.heap.size, 0, none⟩), .pointer (some ⟨w0.heap.size + 1, 0, none⟩), u4, .func (.func 231) #[] #[.pointer (some ⟨w0.heap.size, 0, none⟩), .pointer (some ⟨w0.heap.size + 1, 0, none⟩)], u6, u7, u8, u9, u10, u11, u12, u13, u14, u15, u16, u17, u18, u19, u20, u21, u22, u23, u24, u25, u26, u27, u28, u29, u30, u31, u32, u33, u34, u35, u36, u37, u38, u39, u40, u41, u42, u43, u44, u45, u46, u47, u48, u49, u50, u51, u52, u53, u54], defers := [] }
def PostD (w0 : World) (a0 b0 : ByteArray) (e : Ending) (w : World) : Prop := e = .returned (.int .i64 (cmpDeb a0.data.toList b0.data.toList)) ∧ Below w0.heap.size w0 w

set_option maxHeartbeats 4000000 in
set_option maxRecDepth 100000 in
theorem deb_any (a0 b0 : ByteArray) (ha0 : a0.size ≤ maxLen) (hb0 : b0.size ≤ maxLen) (w0 : World) :
    Calls Tryz.prog 216 #[.string a0, .string b0] w0 (PostD w0 a0 b0) := by
  go_enter Tryz.func216, Tryz.ntmps216
  go_wp2_with fail
  refine wp_scope_label 0 (JD w0 a0 b0) (fun _ w => lenAt w ⟨w0.heap.size, 0, none⟩ + lenAt w ⟨w0.heap.size + 1, 0, none⟩) rfl ?pass ?first
  case first =>
    intro H
    have HH := Lib.hid H
    clear H
    go_wp2_with fail
    go_step3
    rename_i K hK
    have B0 := (Blk.new w0 9 #[.string a0]).alloc (.cells #[.string b0] 9)
    have B1 := Blk.new' (w := w0.alloc (.cells #[.string a0] 9)) (g := w0.heap.size + 1) (t := 9) (cs := #[.string b0]) (by simp)
    refine hK _ _ (HH.out _ _ ⟨⟨a0, b0, B0, B1, ha0, hb0, rfl, ((Below.refl _ _).alloc (Nat.le_refl _) _).alloc (by simp) _⟩, ?_⟩)
    exact ⟨_, _, _, _, _, _, _, _, _, _, _, _, _, _, _, _, _, _, _, _, _, _, _, _, _, _, _, _, _, _, _, _, _, _, _, _, _, _, _, _, _, _, _, _, _, _, _, _, _, _, rfl⟩
  case pass =>
    rintro act w ⟨⟨a, b, hA, hB, ha, hb, hc, hbel⟩, u4, u6, u7, u8, u9, u10, u11, u12, u13, u14, u15, u16, u17, u18, u19, u20, u21, u22, u23, u24, u25, u26, u27, u28, u29, u30, u31, u32, u33, u34, u35, u36, u37, u38, u39, u40, u41, u42, u43, u44, u45, u46, u47, u48, u49, u50, u51, u52, u53, u54, rfl⟩
    have HA := Lib.hid hA
    have HB := Lib.hid hB
    have hlt := hB.lt
    have c0 : w.cell? ⟨w0.heap.size, 0, none⟩ = some (.string a) := hA.cell 0
    have c1 : w.cell? ⟨w0.heap.size + 1, 0, none⟩ = some (.string b) := hB.cell 0
    have CR := Lib.hid (restD_any w0.heap.size (w0.heap.size + 1) a b w c0 c1)
    have HC := Lib.hid hc
    have HBEL := Lib.hid hbel
    have LA := Lib.hid (lenAt_of c0)
    have LB := Lib.hid (lenAt_of c1)
    have hsz := hbel.size
    clear hA hB hc hbel
    unfold maxLen at ha hb
    have mono : ∀ (w1 : World), Below w.heap.size w w1 → Below w0.heap.size w0 w1 := fun _ h => HBEL.out.trans (h.mono (by omega))
    have HM := Lib.hid mono
    clear mono
    by_cases hr : rankD a.data.toList = rankD b.data.toList
    · by_cases h0 : rankD a.data.toList = 0
      · skip
        have hrb : rankD b.data.toList = 0 := hr ▸ h0
        rw [h0, hrb] at CR
        have na : (a.data.toList.takeWhile isDg).length ≤ a.size := by rw [← size_len]; exact while_le _
        have nb : (b.data.toList.takeWhile isDg).length ≤ b.size := by rw [← size_len]; exact while_le _
        have DA := Lib.hid (drop_of_while (p := isDg) a.data.toList)
        have DB := Lib.hid (drop_of_while (p := isDg) b.data.toList)
        have EA : Hid ((a.extract 0 (a.data.toList.takeWhile isDg).length).data.toList = numP a.data.toList) := (bl_upto _ _).trans (take_of_while _).symm
        have EB : Hid ((b.extract 0 (b.data.toList.takeWhile isDg).length).data.toList = numP b.data.toList) := (bl_upto _ _).trans (take_of_while _).symm
        have SA := deb_less h0
        have SB := deb_less hrb
        have HS := Lib.hid (And.intro SA SB)
        have CN := Lib.hid (fun w => num_any (a.extract 0 (a.data.toList.takeWhile isDg).length) (b.extract 0 (b.data.toList.takeWhile isDg).length) (by simp; unfold maxLen; omega) (by simp; unfold maxLen; omega) w)
        rw [EA.out, EB.out] at CN
        have RUNA := Lib.hid (fun w => run_any isDigit_any (enters_of Tryz.func204 (by kernel_rfl) rfl) a (by unfold maxLen; omega) w)
        have RUNB := Lib.hid (fun w => run_any isDigit_any (enters_of Tryz.func204 (by kernel_rfl) rfl) b (by unfold maxLen; omega) w)
        have RS := Lib.hid (fun (s : ByteArray) (h : s.size ≤ maxLen) w => run_any isDigit_any (enters_of Tryz.func204 (by kernel_rfl) rfl) s h w)
        have ma : a.size ≤ maxLen := by unfold maxLen; omega
        have mb : b.size ≤ maxLen := by unfold maxLen; omega
        have HNE := Lib.hid (fun h => HC.out.symm.trans (deb_num h0 hrb h))
        have HNX := Lib.hid (fun h => HC.out.symm.trans (deb_next h0 hrb h))
        generalize cmpNum (numP a.data.toList) (numP b.data.toList) = c at *
        clear SA SB hr h0 hrb c0 c1 RUNA RUNB EA EB
        go_wp2_with fail
        refine CR.out.mono ?_
        rintro e w1 ⟨rfl, hb1⟩
        have HA1 := Lib.hid (HA.out.below hb1 (by omega))
        have HB1 := Lib.hid (HB.out.below hb1 (by omega))
        have HW1 := Lib.hid (HM.out _ hb1)
        have c0 : w1.cell? ⟨w0.heap.size, 0, none⟩ = some (.string a) := HA1.out.cell 0
        have c1 : w1.cell? ⟨w0.heap.size + 1, 0, none⟩ = some (.string b) := HB1.out.cell 0
        clear hb1
        go_wp2_with fail
        go_quiet ((go_at_call 201; exact (RS.out _ (by assumption) _).mono fun _ _ h => ⟨h.1, _, h.2.symm⟩))
        generalize (a.data.toList.takeWhile isDg).length = n at *
        generalize (b.data.toList.takeWhile isDg).length = m at *
        have hlt1 : w0.heap.size + 1 < (w1.drewN nq).heap.size := HB1.out.lt
        have HA2 : Hid (Blk (w1.drewN nq) w0.heap.size 9 #[.string a]) := HA1.out
        have HB2 : Hid (Blk (w1.drewN nq) (w0.heap.size + 1) 9 #[.string b]) := HB1.out
        have HW2 : Hid (Below w0.heap.size w0 (w1.drewN nq)) := below_drewN' HW1.out _
        clear HA1 HB1 HW1 c0 c1
        generalize w1.drewN nq = w2 at *
        have c0 : w2.cell? ⟨w0.heap.size, 0, none⟩ = some (.string a) := HA2.out.cell 0
        have c1 : w2.cell? ⟨w0.heap.size + 1, 0, none⟩ = some (.string b) := HB2.out.cell 0
        clear RS ma mb
        go_wp2_with fail
        refine wp_region_still_tail 6 (by kernel_rfl) (by kernel_rfl) ?_
        simp only [List.take_succ_cons, List.take_zero, List.drop_succ_cons, List.drop_zero]
        still_step
        still_step
        still_step
        still_step
        still_step
        still_step
        refine wpStill_nil ?_
        go_wp2_with fail
        refine (CN.out _).mono ?_
        rintro e w3 ⟨rfl, hb3⟩
        have HA3 := Lib.hid ((show Blk w2.drew w0.heap.size 9 #[.string a] from HA2.out).below hb3 (by simpa using Nat.lt_of_succ_lt hlt1))
        have HB3 := Lib.hid ((show Blk w2.drew (w0.heap.size + 1) 9 #[.string b] from HB2.out).below hb3 (by simpa using hlt1))
        have HW3 : Hid (Below w0.heap.size w0 w3) := HW2.out.drew.trans (hb3.mono (by simp; omega))
        clear hb3 HA2 HB2 HW2 c0 c1
        have c0 : w3.cell? ⟨w0.heap.size, 0, none⟩ = some (.string a) := HA3.out.cell 0
        have c1 : w3.cell? ⟨w0.heap.size + 1, 0, none⟩ = some (.string b) := HB3.out.cell 0
        have f0 := HA3.out.free 0
        have f1 := HB3.out.free 0
        clear hlt1
        by_cases h0 : c = 0
        · subst h0
          have HX := Lib.hid (HNX.out rfl)
          clear HNE HNX
          have pa : (n : Int) ≤ (a.size : Int) := by omega
          have pb : (m : Int) ≤ (b.size : Int) := by omega
          go_wp2_with fail
          refine wp_region_S (Till [(6, ⟨w0.heap.size, 0, none⟩, .string a), (7, ⟨w0.heap.size + 1, 0, none⟩, .string b)]) (by kernel_rfl) (Till.two c0 c1) (fun hS => ?_)
          refine wpAnyS_take (i := 0) (fun w' => w'.cell? ⟨w0.heap.size, 0, none⟩ = some (.string a)) (v := .string a) rfl (by kernel_rfl) (by kernel_rfl) (by kernel_rfl) (fun _ _ _ h => h) (fun l w hw hS => hS.out (k := 6) (by simp) (hw 6 (by kernel_rfl))) (Till.io rfl) (by kernel_rfl) hS (fun w' hSw => ?_) (by rfl) (fun hS => ?_)
          · go_simp
          try simp only [Act.put, List.setIfInBounds_toArray, List.set_cons_zero, List.set_cons_succ]
          refine wpAnyS_take (i := 3) (fun w' => w'.cell? ⟨w0.heap.size + 1, 0, none⟩ = some (.string b)) (v := .string b) rfl (by kernel_rfl) (by kernel_rfl) (by kernel_rfl) (fun _ _ _ h => h) (fun l w hw hS => hS.out (k := 7) (by simp) (hw 7 (by kernel_rfl))) (Till.io rfl) (by kernel_rfl) hS (fun w' hSw => ?_) (by rfl) (fun hS => ?_)
          · go_simp
          try simp only [Act.put, List.setIfInBounds_toArray, List.set_cons_zero, List.set_cons_succ]
          refine wpAnyS_take (i := 1) (fun _ => True) (v := .int .i64 n) rfl (by kernel_rfl) (by kernel_rfl) (by kernel_rfl) (fun _ _ _ h => h) (fun _ _ _ _ => trivial) (Till.io rfl) (by kernel_rfl) hS (fun w' hSw => ?_) (by rfl) (fun hS => ?_)
          · go_simp
          try simp only [Act.put, List.setIfInBounds_toArray, List.set_cons_zero, List.set_cons_succ]
          refine wpAnyS_take (i := 4) (fun _ => True) (v := .int .i64 m) rfl (by kernel_rfl) (by kernel_rfl) (by kernel_rfl) (fun _ _ _ h => h) (fun _ _ _ _ => trivial) (Till.io rfl) (by kernel_rfl) hS (fun w' hSw => ?_) (by rfl) (fun hS => ?_)
          · go_simp
          try simp only [Act.put, List.setIfInBounds_toArray, List.set_cons_zero, List.set_cons_succ]
          refine wpAnyS_take (i := 2) (fun _ => True) (v := .string (a.extract n a.size)) rfl (by kernel_rfl) (by kernel_rfl) (by kernel_rfl) (fun _ _ _ h => h) (fun _ _ _ _ => trivial) (Till.io rfl) (by kernel_rfl) hS (fun w' hSw => ?_) (by rfl) (fun hS => ?_)
          · go_simp
          try simp only [Act.put, List.setIfInBounds_toArray, List.set_cons_zero, List.set_cons_succ]
          refine wpAnyS_take (i := 5) (fun _ => True) (v := .string (b.extract m b.size)) rfl (by kernel_rfl) (by kernel_rfl) (by kernel_rfl) (fun _ _ _ h => h) (fun _ _ _ _ => trivial) (Till.io rfl) (by kernel_rfl) hS (fun w' hSw => ?_) (by rfl) (fun hS => ?_)
          · go_simp
          try simp only [Act.put, List.setIfInBounds_toArray, List.set_cons_zero, List.set_cons_succ]
          refine wpAnyS_one (i := 6) (by kernel_rfl) rfl (fun K hK => ?_)
          go_simp
          refine hK.out _ _ (hS.store1 (of_decide_eq_true (by kernel_rfl)) (by decide) (World.cell?_setCell_far _ _ _ _ (by simp))) (fun hS => ?_)
          clear hK K
          try simp only [Act.put, List.setIfInBounds_toArray, List.set_cons_zero, List.set_cons_succ]
          refine wpAnyS_one (i := 7) (by kernel_rfl) rfl (fun K hK => ?_)
          go_simp
          refine hK.out _ _ (Till.store2 (by kernel_rfl) (of_decide_eq_true (by kernel_rfl))) (fun hS => ?_)
          clear hK K
          try simp only [Act.put, List.setIfInBounds_toArray, List.set_cons_zero, List.set_cons_succ]
          refine wpAnyS_done (by kernel_rfl) ?_ _
          clear hS
          have BA : Blk ((w3.setCell ⟨w0.heap.size, 0, none⟩ (.string (a.extract n a.size))).setCell ⟨w0.heap.size + 1, 0, none⟩ (.string (b.extract m b.size))) w0.heap.size 9 #[.string (a.extract n a.size)] := (HA3.out.set_ 0 _).far (by simp) _
          have BB : Blk ((w3.setCell ⟨w0.heap.size, 0, none⟩ (.string (a.extract n a.size))).setCell ⟨w0.heap.size + 1, 0, none⟩ (.string (b.extract m b.size))) (w0.heap.size + 1) 9 #[.string (b.extract m b.size)] := (HB3.out.far (by simp) _).set_ 0 _
          have HT : Hid (Below w0.heap.size w0 ((w3.setCell ⟨w0.heap.size, 0, none⟩ (.string (a.extract n a.size))).setCell ⟨w0.heap.size + 1, 0, none⟩ (.string (b.extract m b.size)))) := (HW3.out.setCell (by simp) _).setCell (by simp) _
          generalize ((w3.setCell ⟨w0.heap.size, 0, none⟩ (.string (a.extract n a.size))).setCell ⟨w0.heap.size + 1, 0, none⟩ (.string (b.extract m b.size))) = w4 at *
          have LA2 := Lib.hid (lenAt_of (BA.cell 0))
          have LB2 := Lib.hid (lenAt_of (BB.cell 0))
          have XA : Hid ((a.extract n a.size).data.toList = a.data.toList.dropWhile isDg) := (bl_from _ _).trans DA.out.symm
          have XB : Hid ((b.extract m b.size).data.toList = b.data.toList.dropWhile isDg) := (bl_from _ _).trans DB.out.symm
          have HS2 : Hid (((a.extract n a.size).size ≠ 0 → (a.extract n a.size).size < a.size) ∧ ((b.extract m b.size).size ≠ 0 → (b.extract m b.size).size < b.size)) := by
            have h := HS.out
            rw [← XA.out, ← XB.out, size_len, size_len, size_len, size_len] at h
            exact ⟨fun h1 => h.1 (fun e => h1 (by rw [← size_len, e]; rfl)), fun h1 => h.2 (fun e => h1 (by rw [← size_len, e]; rfl))⟩
          have SZA : (a.extract n a.size).size ≤ a.size := by simp
          have SZB : (b.extract m b.size).size ≤ b.size := by simp
          rw [← XA.out, ← XB.out] at HX
          clear c0 c1 f0 f1 HA3 HB3 HW3 DA DB XA XB HS pa pb CR CN
          generalize a.extract n a.size = a' at *
          generalize b.extract m b.size = b' at *
          have c0 : w4.cell? ⟨w0.heap.size, 0, none⟩ = some (.string a') := BA.cell 0
          have c1 : w4.cell? ⟨w0.heap.size + 1, 0, none⟩ = some (.string b') := BB.cell 0
          have BA := Lib.hid BA
          have BB := Lib.hid BB
          by_cases z1 : a'.size = 0
          · obtain rfl := empty_of z1
            by_cases z2 : b'.size = 0
            · obtain rfl := empty_of z2
              clear z1 z2 SZA SZB
              go_wp2_with fail
              simp only [Exit.jump]
              go_ret
              exact ⟨by rw [HX.out]; rfl, HT.out.drew⟩
            · have he := toList_cons (s := b') (by omega)
              have he2 : b'.toList ≠ [] := by intro h; rw [h] at he; cases he
              have LT := HS2.out.2 z2
              clear z1 z2 HS2
              have SZA : (0 : Nat) ≤ a.size := Nat.zero_le _
              go_wp2_with fail
              go_step3
              refine ⟨rfl, ⟨⟨_, _, BA.out, BB.out, ?_, ?_, ?_, HT.out.drew⟩, _, _, _, _, _, _, _, _, _, _, _, _, _, _, _, _, _, _, _, _, _, _, _, _, _, _, _, _, _, _, _, _, _, _, _, _, _, _, _, _, _, _, _, _, _, _, _, _, _, _, rfl⟩, ?_⟩
              · exact Nat.zero_le _
              · unfold maxLen; omega
              · exact HX.out.symm
              · show lenAt w4 _ + lenAt w4 _ < _
                rw [LA.out, LB.out, LA2.out, LB2.out]
                have z : (⟨#[]⟩ : ByteArray).size = 0 := rfl
                omega
          · have he := toList_cons (s := a') (by omega)
            have he2 : a'.toList ≠ [] := by intro h; rw [h] at he; cases he
            have LT := HS2.out.1 z1
            clear z1 HS2
            go_wp2_with fail
            go_step3
            refine ⟨rfl, ⟨⟨_, _, BA.out, BB.out, ?_, ?_, ?_, HT.out.drew⟩, _, _, _, _, _, _, _, _, _, _, _, _, _, _, _, _, _, _, _, _, _, _, _, _, _, _, _, _, _, _, _, _, _, _, _, _, _, _, _, _, _, _, _, _, _, _, _, _, _, _, rfl⟩, ?_⟩
            · unfold maxLen; omega
            · unfold maxLen; omega
            · exact HX.out.symm
            · show lenAt w4 _ + lenAt w4 _ < _
              rw [LA.out, LB.out, LA2.out, LB2.out]; omega
        · have t1 : (c == 0) = false := by simpa using h0
          have t2 : (c != 0) = true := by simpa using h0
          have HX := Lib.hid (HNE.out h0)
          clear HNE HNX h0 c0 c1 f0 f1
          go_wp2_with fail
          simp only [Exit.jump]
          go_ret
          exact ⟨by rw [HX.out]; rfl, HW3.out⟩
      · obtain ⟨e1, e2, e3⟩ := deb_tail hr h0
        rw [← hr] at CR
        have HT0 := Lib.hid (HC.out.symm.trans e1)
        have hpa : 0 < a.size := by rw [← size_len]; exact List.length_pos_iff.2 e2
        have hpb : 0 < b.size := by rw [← size_len]; exact List.length_pos_iff.2 e3
        have ia : (1 : Int) ≤ (a.size : Int) := by omega
        have ib : (1 : Int) ≤ (b.size : Int) := by omega
        have t0 : (rankD a.data.toList == 0) = false := by simpa using h0
        have t1 : (rankD a.data.toList != 0) = true := by simpa using h0
        clear hr h0 e1 e2 e3
        generalize rankD a.data.toList = ra at *
        clear c0 c1
        go_wp2_with fail
        refine CR.out.mono ?_
        rintro e w1 ⟨rfl, hb1⟩
        have HA1 := Lib.hid (HA.out.below hb1 (by omega))
        have HB1 := Lib.hid (HB.out.below hb1 (by omega))
        have HW1 := Lib.hid (HM.out _ hb1)
        have c0 : w1.cell? ⟨w0.heap.size, 0, none⟩ = some (.string a) := HA1.out.cell 0
        have c1 : w1.cell? ⟨w0.heap.size + 1, 0, none⟩ = some (.string b) := HB1.out.cell 0
        have f0 := HA1.out.free 0
        have f1 := HB1.out.free 0
        clear hb1
        go_wp2_with fail
        refine wp_region_S (Till [(4, ⟨w0.heap.size, 0, none⟩, .string a), (5, ⟨w0.heap.size + 1, 0, none⟩, .string b)]) (by kernel_rfl) (Till.two c0 c1) (fun hS => ?_)
        refine wpAnyS_take (i := 0) (fun w' => w'.cell? ⟨w0.heap.size, 0, none⟩ = some (.string a)) (v := .string a) rfl (by kernel_rfl) (by kernel_rfl) (by kernel_rfl) (fun _ _ _ h => h) (fun l w hw hS => hS.out (k := 4) (by simp) (hw 4 (by kernel_rfl))) (Till.io rfl) (by kernel_rfl) hS (fun w' hSw => ?_) (by rfl) (fun hS => ?_)
        · go_simp
        try simp only [Act.put, List.setIfInBounds_toArray, List.set_cons_zero, List.set_cons_succ]
        refine wpAnyS_take (i := 2) (fun w' => w'.cell? ⟨w0.heap.size + 1, 0, none⟩ = some (.string b)) (v := .string b) rfl (by kernel_rfl) (by kernel_rfl) (by kernel_rfl) (fun _ _ _ h => h) (fun l w hw hS => hS.out (k := 5) (by simp) (hw 5 (by kernel_rfl))) (Till.io rfl) (by kernel_rfl) hS (fun w' hSw => ?_) (by rfl) (fun hS => ?_)
        · go_simp
        try simp only [Act.put, List.setIfInBounds_toArray, List.set_cons_zero, List.set_cons_succ]
        refine wpAnyS_take (i := 1) (fun _ => True) (v := .string (a.extract 1 a.size)) rfl (by kernel_rfl) (by kernel_rfl) (by kernel_rfl) (fun _ _ _ h => h) (fun _ _ _ _ => trivial) (Till.io rfl) (by kernel_rfl) hS (fun w' hSw => ?_) (by rfl) (fun hS => ?_)
        · go_simp
        try simp only [Act.put, List.setIfInBounds_toArray, List.set_cons_zero, List.set_cons_succ]
        refine wpAnyS_take (i := 3) (fun _ => True) (v := .string (b.extract 1 b.size)) rfl (by kernel_rfl) (by kernel_rfl) (by kernel_rfl) (fun _ _ _ h => h) (fun _ _ _ _ => trivial) (Till.io rfl) (by kernel_rfl) hS (fun w' hSw => ?_) (by rfl) (fun hS => ?_)
        · go_simp
        try simp only [Act.put, List.setIfInBounds_toArray, List.set_cons_zero, List.set_cons_succ]
        refine wpAnyS_one (i := 4) (by kernel_rfl) rfl (fun K hK => ?_)
        go_simp
        refine hK.out _ _ (hS.store1 (of_decide_eq_true (by kernel_rfl)) (by decide) (World.cell?_setCell_far _ _ _ _ (by simp))) (fun hS => ?_)
        clear hK K
        try simp only [Act.put, List.setIfInBounds_toArray, List.set_cons_zero, List.set_cons_succ]
        refine wpAnyS_one (i := 5) (by kernel_rfl) rfl (fun K hK => ?_)
        go_simp
        refine hK.out _ _ (Till.store2 (by kernel_rfl) (of_decide_eq_true (by kernel_rfl))) (fun hS => ?_)
        clear hK K
        try simp only [Act.put, List.setIfInBounds_toArray, List.set_cons_zero, List.set_cons_succ]
        refine wpAnyS_done (by kernel_rfl) ?_ _
        clear hS
        have BA : Blk ((w1.setCell ⟨w0.heap.size, 0, none⟩ (.string (a.extract 1 a.size))).setCell ⟨w0.heap.size + 1, 0, none⟩ (.string (b.extract 1 b.size))) w0.heap.size 9 #[.string (a.extract 1 a.size)] := (HA1.out.set_ 0 _).far (by simp) _
        have BB : Blk ((w1.setCell ⟨w0.heap.size, 0, none⟩ (.string (a.extract 1 a.size))).setCell ⟨w0.heap.size + 1, 0, none⟩ (.string (b.extract 1 b.size))) (w0.heap.size + 1) 9 #[.string (b.extract 1 b.size)] := (HB1.out.far (by simp) _).set_ 0 _
        have HT : Hid (Below w0.heap.size w0 ((w1.setCell ⟨w0.heap.size, 0, none⟩ (.string (a.extract 1 a.size))).setCell ⟨w0.heap.size + 1, 0, none⟩ (.string (b.extract 1 b.size)))) := (HW1.out.setCell (by simp) _).setCell (by simp) _
        generalize ((w1.setCell ⟨w0.heap.size, 0, none⟩ (.string (a.extract 1 a.size))).setCell ⟨w0.heap.size + 1, 0, none⟩ (.string (b.extract 1 b.size))) = w2 at *
        have LA2 := Lib.hid (lenAt_of (BA.cell 0))
        have LB2 := Lib.hid (lenAt_of (BB.cell 0))
        clear c0 c1 f0 f1
        go_wp2_with fail
        go_step3
        refine ⟨rfl, ⟨⟨_, _, BA, BB, ?_, ?_, ?_, HT.out.drew⟩, _, _, _, _, _, _, _, _, _, _, _, _, _, _, _, _, _, _, _, _, _, _, _, _, _, _, _, _, _, _, _, _, _, _, _, _, _, _, _, _, _, _, _, _, _, _, _, _, _, _, rfl⟩, ?_⟩
        · simp; unfold maxLen; omega
        · simp; unfold maxLen; omega
        · rw [bl_from, bl_from, List.drop_one, List.drop_one]; exact HT0.out.symm
        · show lenAt w2 _ + lenAt w2 _ < _
          rw [LA.out, LB.out, LA2.out, LB2.out]; simp; omega
    · have HR := Lib.hid (HC.out.symm.trans (deb_ne hr))
      have t1 : (rankD a.data.toList == rankD b.data.toList) = false := by simpa using hr
      have t2 : (rankD a.data.toList != rankD b.data.toList) = true := by simpa using hr
      clear hr HC
      generalize rankD a.data.toList = ra at *
      generalize rankD b.data.toList = rb at *
      have CI := Lib.hid (fun w => Tryz.cmp_Compare_int ra rb w)
      clear c0 c1
      go_wp2_with fail
      refine CR.out.mono ?_
      rintro e w1 ⟨rfl, hb1⟩
      have HB1 := Lib.hid hb1
      clear hb1
      go_wp2_with fail
      refine (CI.out _).mono ?_
      rintro e w2 ⟨rfl, rfl⟩
      go_wp2_with fail
      simp only [Exit.jump]
      go_ret
      exact ⟨by rw [HR.out]; rfl, HM.out _ HB1.out⟩
end Go.Proofs.YtpmfmkpfjomgnaaGreatDoor
