/- The document's own pool as it lies in memory. The document's own Add. New, Len, Kind, Package, Named, Text. Both pools of a list of repositories: the project's own and the document's. -/
import Derived.Test.YtpmfmkpfjomgnaaGreatDoorZak
import Derived.Test.YtpmfmkpfjomgnaaGreatDoorZan
import Derived.Test.YtpmfmkpfjomgnaaGreatDoorZai
/- The document's own pool as it lies in memory. -/
namespace Go.Proofs.YtpmfmkpfjomgnaaGreatDoor
set_option linter.unusedSimpArgs false
set_option linter.unusedVariables false
open Go.RowKit

structure RRow where
  rep : Rep
  pk : Value
def rowQ (r : RRow) : Array Value := #[.string r.rep.name, .int .i64 r.rep.prio, .bool r.rep.inst, r.pk]
def cellsQ (l : List RRow) : List Value := l.flatMap fun r => (rowQ r).toList
theorem cellsQ_append (a b : List RRow) : cellsQ (a ++ b) = cellsQ a ++ cellsQ b := by simp [cellsQ]
theorem cellsQ_at {l : List RRow} {k : Nat} {x : RRow} (h : l[k]? = some x) : (cellsQ l)[k * 4]? = some (.string x.rep.name) ∧ (cellsQ l)[k * 4 + 1]? = some (.int .i64 x.rep.prio) ∧ (cellsQ l)[k * 4 + 2]? = some (.bool x.rep.inst) ∧ (cellsQ l)[k * 4 + 3]? = some x.pk := by
  induction l generalizing k with
  | nil => cases h
  | cons y r ih =>
    cases k with
    | zero => injection h with h; subst h; exact ⟨rfl, rfl, rfl, rfl⟩
    | succ k =>
      have := ih (k := k) (by simpa using h)
      have e : ∀ i, (cellsQ (y :: r))[(k + 1) * 4 + i]? = (cellsQ r)[k * 4 + i]? := fun i => by
        show ([_, _, _, _] ++ cellsQ r)[(k + 1) * 4 + i]? = _
        rw [List.getElem?_append_right (by simp; omega)]
        congr 1
        simp; omega
      have e0 := e 0
      simp only [Nat.add_zero] at e0
      rw [e0, e 1, e 2, e 3]
      exact this
def cellsA (l : List (Nat × Nat)) : List Value := l.flatMap fun r => [.int .i64 ((r.1 : Nat) : Int), .int .i64 ((r.2 : Nat) : Int)]
theorem cellsA_append (a b : List (Nat × Nat)) : cellsA (a ++ b) = cellsA a ++ cellsA b := by simp [cellsA]

/-- The pool that stands in block m: its rows vr and va; RO: the blocks that are its own. -/
structure PoolR (w : World) (base m : Nat) (RO : Nat → Prop) (kind : Int) (rs : List RRow) (na : List (Nat × Nat)) (vr va : Value) : Prop where
  blk : Blk w m 68 #[.int .i64 kind, vr, va]
  repo : w.ownsRow base 33 4 vr rs.length (cellsQ rs)
  ats : w.ownsRow base 91 2 va na.length (cellsA na)
  gfar : base ≤ m
  mine : ∀ k, RO k ↔ k = m ∨ vr.ownBlock = some k ∨ va.ownBlock = some k
def RPoolAt (w : World) (base m : Nat) (RO : Nat → Prop) (kind : Int) (rs : List RRow) (na : List (Nat × Nat)) : Prop := ∃ vr va, PoolR w base m RO kind rs na vr va
def RPoolO (m : Nat) (vr va : Value) (k : Nat) : Prop := k = m ∨ vr.ownBlock = some k ∨ va.ownBlock = some k
section
variable {w w' : World} {base m : Nat} {RO : Nat → Prop} {kind : Int} {rs : List RRow} {na : List (Nat × Nat)} {vr va : Value}
theorem PoolR.O_lt (h : PoolR w base m RO kind rs na vr va) {k : Nat} (hk : RO k) : base ≤ k ∧ k < w.heap.size := by
  rcases (h.mine k).1 hk with rfl | hk | hk
  · exact ⟨h.gfar, h.blk.lt⟩
  · exact h.repo.lt k hk
  · exact h.ats.lt k hk
theorem PoolR.turned {Q : Nat → Prop} (h : PoolR w base m RO kind rs na vr va) (ht : TurnedP Q w w') (hQ : ∀ k, Q k → ¬ RO k) : PoolR w' base m RO kind rs na vr va := by
  have hn : ∀ k, RO k → ¬ Q k := fun k hk hq => hQ k hq hk
  exact ⟨h.blk.turnedP ht (hn m ((h.mine m).2 (.inl rfl))), own_turnedP h.repo ht fun k hk => hn k ((h.mine k).2 (.inr (.inl hk))), own_turnedP h.ats ht fun k hk => hn k ((h.mine k).2 (.inr (.inr hk))), h.gfar, h.mine⟩
theorem PoolR.below (h : PoolR w base m RO kind rs na vr va) (hb : Below w.heap.size w w') : PoolR w' base m RO kind rs na vr va :=
  h.turned (TurnedP.of_below hb fun _ => False) fun k hk => hk.elim
theorem RPoolAt.turned {Q : Nat → Prop} (h : RPoolAt w base m RO kind rs na) (ht : TurnedP Q w w') (hQ : ∀ k, Q k → ¬ RO k) : RPoolAt w' base m RO kind rs na := by
  obtain ⟨vr, va, h⟩ := h
  exact ⟨vr, va, h.turned ht hQ⟩
theorem RPoolAt.below (h : RPoolAt w base m RO kind rs na) (hb : Below w.heap.size w w') : RPoolAt w' base m RO kind rs na := by
  obtain ⟨vr, va, h⟩ := h
  exact ⟨vr, va, h.below hb⟩
/-- A place more. -/
theorem PoolR.putAt (h : PoolR w base m RO kind rs na vr va) (x : Nat × Nat) {w1 : World} {va' : Value}
    (hg : w.grownBy w1 va.ownBlock) (hown : w1.ownsRow base 91 2 va' (na.length + 1) (cellsA na ++ [.int .i64 ((x.1 : Nat) : Int), .int .i64 ((x.2 : Nat) : Int)])) (hat : va'.ownBlock = va.ownBlock ∨ va'.ownBlock = some w.heap.size) :
    PoolR (w1.setCell ⟨m, 2, none⟩ va') base m (RPoolO m vr va') kind rs (na ++ [x]) vr va' ∧ TurnedP RO w (w1.setCell ⟨m, 2, none⟩ va') ∧ ∀ k, RPoolO m vr va' k → RO k ∨ w.heap.size ≤ k := by
  have htQ : TurnedP (fun k => k = m ∨ va.ownBlock = some k) w (w1.setCell ⟨m, 2, none⟩ va') := ((TurnedP.refl _ w).grown hg fun k _ e => .inr e).setCell (fun _ => .inl rfl) _
  have ht1 : TurnedP (fun k => va.ownBlock = some k) w w1 := (TurnedP.refl _ w).grown hg fun k _ e => e
  have hb1 : Blk w1 m 68 #[.int .i64 kind, vr, va] := h.blk.turnedP ht1 (own_kind h.ats h.blk (by decide))
  have hvr : va'.ownBlock ≠ some m := fun e => by
    rcases hat with h1 | h1
    · rw [e] at h1; exact own_kind h.ats h.blk (by decide) h1.symm
    · rw [e] at h1; injection h1 with h1; have := h.blk.lt; omega
  refine ⟨⟨hb1.set_ 2 va', own_turnedP h.repo htQ fun k hk hm => ?_, ?_, h.gfar, fun k => Iff.rfl⟩, htQ.more fun k _ hk => ?_, fun k hk => ?_⟩
  · rcases hm with rfl | hm
    · exact own_kind h.repo h.blk (by decide) hk
    · exact own_kinds h.repo h.ats (by decide) hk hm
  · rw [cellsA_append, List.length_append]
    exact own_setCell (p := ⟨m, 2, none⟩) hown hvr _
  · rcases hk with rfl | hk
    · exact (h.mine k).2 (.inl rfl)
    · exact (h.mine k).2 (.inr (.inr hk))
  · rcases hk with hk | hk | hk
    · exact .inl ((h.mine k).2 (.inl hk))
    · exact .inl ((h.mine k).2 (.inr (.inl hk)))
    · rcases hat with e | e
      · rw [hk] at e; exact .inl ((h.mine k).2 (.inr (.inr e.symm)))
      · rw [hk] at e; injection e with e; exact .inr (by omega)
/-- A repository more. -/
theorem PoolR.putRepo (h : PoolR w base m RO kind rs na vr va) (r : RRow) {w1 : World} {vr' : Value}
    (hg : w.grownBy w1 vr.ownBlock) (hown : w1.ownsRow base 33 4 vr' (rs.length + 1) (cellsQ rs ++ (rowQ r).toList)) (hat : vr'.ownBlock = vr.ownBlock ∨ vr'.ownBlock = some w.heap.size) :
    PoolR (w1.setCell ⟨m, 1, none⟩ vr') base m (RPoolO m vr' va) kind (rs ++ [r]) na vr' va ∧ TurnedP RO w (w1.setCell ⟨m, 1, none⟩ vr') ∧ ∀ k, RPoolO m vr' va k → RO k ∨ w.heap.size ≤ k := by
  have htQ : TurnedP (fun k => k = m ∨ vr.ownBlock = some k) w (w1.setCell ⟨m, 1, none⟩ vr') := ((TurnedP.refl _ w).grown hg fun k _ e => .inr e).setCell (fun _ => .inl rfl) _
  have ht1 : TurnedP (fun k => vr.ownBlock = some k) w w1 := (TurnedP.refl _ w).grown hg fun k _ e => e
  have hb1 : Blk w1 m 68 #[.int .i64 kind, vr, va] := h.blk.turnedP ht1 (own_kind h.repo h.blk (by decide))
  have hvr : vr'.ownBlock ≠ some m := fun e => by
    rcases hat with h1 | h1
    · rw [e] at h1; exact own_kind h.repo h.blk (by decide) h1.symm
    · rw [e] at h1; injection h1 with h1; have := h.blk.lt; omega
  refine ⟨⟨hb1.set_ 1 vr', ?_, own_turnedP h.ats htQ fun k hk hm => ?_, h.gfar, fun k => Iff.rfl⟩, htQ.more fun k _ hk => ?_, fun k hk => ?_⟩
  · rw [cellsQ_append, List.length_append]
    have : cellsQ [r] = (rowQ r).toList := by simp [cellsQ]
    rw [this]
    exact own_setCell (p := ⟨m, 1, none⟩) hown hvr _
  · rcases hm with rfl | hm
    · exact own_kind h.ats h.blk (by decide) hk
    · exact own_kinds h.ats h.repo (by decide) hk hm
  · rcases hk with rfl | hk
    · exact (h.mine k).2 (.inl rfl)
    · exact (h.mine k).2 (.inr (.inl hk))
  · rcases hk with hk | hk | hk
    · exact .inl ((h.mine k).2 (.inl hk))
    · rcases hat with e | e
      · rw [hk] at e; exact .inl ((h.mine k).2 (.inr (.inl e.symm)))
      · rw [hk] at e; injection e with e; exact .inr (by omega)
    · exact .inl ((h.mine k).2 (.inr (.inr hk)))
end
/-- The document's answer to what is added: which error of the first package that has one. -/
def badN : List Pkg → Int
  | [] => 0
  | p :: r => if chkR p ≠ 0 then chkR p else badN r
def refAddN (rs : List RRow) (nks : Nat) (nm : ByteArray) (inst : Bool) (ps : List Pkg) : Int :=
  if addHead (rs.map RRow.rep) nks nm inst ps.length ≠ 0 then addHead (rs.map RRow.rep) nks nm inst ps.length else badN ps
theorem badN_ok : ∀ (ps : List Pkg), (∀ q ∈ ps, chkR q = 0) → badN ps = 0
  | [], _ => rfl
  | p :: r, h => by
    unfold badN
    rw [if_neg (by rw [h p (by simp)]; simp)]
    exact badN_ok r fun q hq => h q (by simp [hq])
theorem badN_at : ∀ (ps : List Pkg) (k : Nat) (p : Pkg), ps[k]? = some p → chkR p ≠ 0 → (∀ q ∈ ps.take k, chkR q = 0) → badN ps = chkR p
  | [], _, _, h, _, _ => by cases h
  | q :: r, 0, p, h, hp, _ => by
    injection h with h
    subst h
    unfold badN
    rw [if_pos hp]
  | q :: r, k + 1, p, h, hp, ha => by
    unfold badN
    rw [if_neg (by rw [ha q (by simp)]; simp)]
    exact badN_at r k p (by simpa using h) hp fun x hx => ha x (by simp [hx])
/-- What Add does. -/
def RAdded (w : World) (base m : Nat) (RO : Nat → Prop) (kind : Int) (rs : List RRow) (na : List (Nat × Nat)) (nm : ByteArray) (prio : Int) (inst : Bool) (pk : Value) (ps : List Pkg) (e : Ending) (w' : World) : Prop :=
  e = .returned (.int .i64 (refAddN rs na.length nm inst ps)) ∧ TurnedP RO w w' ∧
    (refAddN rs na.length nm inst ps ≠ 0 → RPoolAt w' base m RO kind rs na) ∧
    (refAddN rs na.length nm inst ps = 0 → ∃ RO', RPoolAt w' base m RO' kind (rs ++ [⟨⟨nm, prio, inst⟩, pk⟩]) (na ++ (List.range ps.length).map fun k => (rs.length, k)) ∧ ∀ j, RO' j → RO j ∨ w.heap.size ≤ j)
/-- While places are laid. -/
structure AddL (w1 wx : World) (bk base m : Nat) (RO : Nat → Prop) (kind : Int) (rs : List RRow) (na' : List (Nat × Nat)) (vr : Value) (row : Array Value) (va : Value) (RO' : Nat → Prop) : Prop where
  st : PoolR wx base m RO' kind rs na' vr va
  turned : TurnedP RO w1 wx
  own : ∀ j, RO' j → RO j ∨ w1.heap.size ≤ j
  box : Blk wx bk 33 row
theorem AddL.next {w1 wx wy wz : World} {bk base m : Nat} {RO RO' RO2 : Nat → Prop} {kind : Int} {rs : List RRow} {na' na2 : List (Nat × Nat)} {vr va va2 : Value} {row : Array Value}
    (h : AddL w1 wx bk base m RO kind rs na' vr row va RO') (hb : Below wx.heap.size wx wy) (hs : PoolR wz base m RO2 kind rs na2 vr va2) (ht : TurnedP RO' wy wz) (hok : ∀ j, RO2 j → RO' j ∨ wy.heap.size ≤ j)
    (hk : Blk wy bk 33 row) (hn : ¬ RO' bk) : AddL w1 wz bk base m RO kind rs na2 vr row va2 RO2 := by
  have h1 := h.turned.size
  have h2 := hb.size
  refine ⟨hs, (h.turned.below_ hb).trans ht fun i hi ho => ?_, fun j hj => ?_, hk.turnedP ht hn⟩
  · rcases h.own i ho with h | h
    · exact h
    · omega
  · rcases hok j hj with h3 | h3
    · exact h.own j h3
    · exact .inr (by omega)
/-- While something is put behind others (number m), and its row is stored (number n). -/
def SR (m n : Nat) (w5 : World) (g bk : Nat) (rg rk : Array Value) (l : Array Bool) (w' : World) : Prop := (l.getD n true = false → Blk w' g 68 rg) ∧ Blk w' bk 33 rk ∧ (l.getD m true = false → Below w5.heap.size w5 w')
theorem SR.io {m n : Nat} {w5 : World} {g bk i : Nat} {rg rk : Array Value} (h : i ≠ m ∧ i ≠ n) (l : Array Bool) (w : World) : SR m n w5 g bk rg rk (l.setIfInBounds i true) w ↔ SR m n w5 g bk rg rk l w := by
  unfold SR
  rw [getD_set_ne true h.1, getD_set_ne true h.2]
theorem info_pair : ∃ i z, Tryz.prog.info? 91 = some i ∧ i.zero = some z ∧ z.cells.size = 2 ∧ i.size = 2 ∧ i.bytes = 16 := by
  have h : (Tryz.prog.info? 91).map (fun i => (i.zero.map fun z => z.cells.size, i.size, i.bytes)) = some (some 2, 2, 16) := by kernel_rfl
  obtain ⟨i, hi, h2⟩ := Option.map_eq_some_iff.1 h
  simp only [Prod.mk.injEq] at h2
  obtain ⟨z, hz, h3⟩ := Option.map_eq_some_iff.1 h2.1
  exact ⟨i, z, hi, hz, h3, h2.2.1, h2.2.2⟩
end Go.Proofs.YtpmfmkpfjomgnaaGreatDoor

/- The document's own Add. -/
namespace Go.Proofs.YtpmfmkpfjomgnaaGreatDoor
set_option linter.unusedSimpArgs false
set_option linter.unusedVariables false
open Go.RowKit

theorem RAdded.bad {w w' : World} {base m : Nat} {RO : Nat → Prop} {kind : Int} {rs : List RRow} {na : List (Nat × Nat)} {nm : ByteArray} {prio : Int} {inst : Bool} {pk : Value} {ps : List Pkg} {n : Int} {vr va : Value} (h : PoolR w' base m RO kind rs na vr va) (hb : Below w.heap.size w w') (hn : refAddN rs na.length nm inst ps = n) (h0 : n ≠ 0) :
    RAdded w base m RO kind rs na nm prio inst pk ps (.returned (.int .i64 n)) w' :=
  ⟨by rw [hn], TurnedP.of_below hb RO, fun _ => ⟨_, _, h⟩, fun e => absurd (hn.symm.trans e) h0⟩
theorem alls_snocR {l : List Pkg} {k : Nat} {p : Pkg} (h : ∀ q ∈ l.take k, chkR q = 0) (hp : l[k]? = some p) (h0 : chkR p = 0) : ∀ q ∈ l.take (k + 1), chkR q = 0 := fun x hx => by
  rw [List.take_add_one, hp] at hx
  rcases List.mem_append.1 hx with h1 | h1
  · exact h x h1
  · have : x = p := by simpa using h1
    rw [this]; exact h0
theorem refAdd_head {rs : List RRow} {nks : Nat} {nm : ByteArray} {inst : Bool} {ps : List Pkg} {n : Int} (h : addHead (rs.map RRow.rep) nks nm inst ps.length = n) (h0 : n ≠ 0) : refAddN rs nks nm inst ps = n := by
  unfold refAddN
  rw [if_pos (by rw [h]; exact h0), h]
theorem refAdd_rest {rs : List RRow} {nks : Nat} {nm : ByteArray} {inst : Bool} {ps : List Pkg} (h : addHead (rs.map RRow.rep) nks nm inst ps.length = 0) : refAddN rs nks nm inst ps = badN ps := by
  unfold refAddN
  rw [if_neg (by rw [h]; simp)]
set_option maxHeartbeats 8000000 in
set_option maxRecDepth 100000 in
theorem refAdd_any {w : World} {base m : Nat} {RO : Nat → Prop} {kind : Int} {rs : List RRow} {na : List (Nat × Nat)} {vr va : Value} (h : PoolR w base m RO kind rs na vr va)
    (nm : ByteArray) (prio : Int) (inst : Bool) (A : Option Addr) (l : List PkE) (c : Nat) (S0 T0 U0 : Nat → Prop) (hA : PacksAt w S0 T0 U0 l A) (hc : l.length ≤ c ∧ c ≤ maxLen) (hlen : l.length ≤ 140737488355328) (hna : na.length ≤ 200) (hrs : rs.length ≤ 8)
    (hnm : nm.size ≤ maxLen) (hsm : ∀ e ∈ l, RefSmall e.p) :
    Calls Tryz.prog 18 #[.pointer (some ⟨m, 0, none⟩), .agg #[.string nm, .int .i64 prio, .bool inst, .slice A l.length c]] w (RAdded w base m RO kind rs na nm prio inst (.slice A l.length c) (l.map PkE.p)) := by
  obtain ⟨hc1, hc2⟩ := hc
  unfold maxLen at hc2
  obtain ⟨w1, hw1⟩ : ∃ w1, w1 = w.alloc (.cells #[.string nm, .int .i64 prio, .bool inst, .slice A l.length c] 33) := ⟨_, rfl⟩
  have hb0 : Below w.heap.size w w1 := by rw [hw1]; exact (Below.refl _ _).alloc (Nat.le_refl _) _
  have K0 : Blk w1 w.heap.size 33 #[.string nm, .int .i64 prio, .bool inst, .slice A l.length c] := by rw [hw1]; exact Blk.new _ _ _
  have hz1 : w1.heap.size = w.heap.size + 1 := by rw [hw1]; simp
  obtain ⟨Ar, cr, hvr, _, hcr2⟩ := own_form' h.repo
  obtain ⟨Aa, ca, hva, _, hca2⟩ := own_form' h.ats
  subst hvr
  subst hva
  unfold maxLen at hcr2 hca2
  have CN := Lib.hid (refNameD_any nm hnm w1)
  have HF : Hid (∀ wx, Below w1.heap.size w1 wx → Blk wx w.heap.size 33 #[.string nm, .int .i64 prio, .bool inst, .slice A l.length c] ∧ PoolR wx base m RO kind rs na (.slice Ar rs.length cr) (.slice Aa na.length ca) ∧ PacksAt wx S0 T0 U0 l A ∧ Below w.heap.size w wx) := fun wx hb => by
    have h1 := hb0.trans (hb.mono hb0.size)
    exact ⟨K0.below hb K0.lt, h.below h1, hA.below h1, h1⟩
  have HB0 := Lib.hid hb0
  have HSM := Lib.hid hsm
  have HOB0 : Hid (¬ RO w.heap.size) := fun ho => by have := (h.O_lt ho).2; omega
  have HZ1 := Lib.hid hz1
  have k0 := K0.cell 0
  simp at k0
  have HLm : Hid ((l.map PkE.p).length = l.length) := by show _ = _; simp
  have hrl : (rs.map RRow.rep).length = rs.length := by simp
  have HRL := Lib.hid hrl
  clear hb0 K0 hA h hsm hz1 hrl
  go_enter Tryz.func18, Tryz.ntmps18
  go_upto_region 1 with fail
  rw [← hw1]
  clear hw1
  cases hname : nameB nm.data.toList with
  | false =>
    have HV : Hid (RAdded w base m RO kind rs na nm prio inst (.slice A l.length c) (l.map PkE.p) (.returned (.int .i64 66)) w1) := by
      obtain ⟨_, hP, _, hB⟩ := HF.out w1 (Below.refl _ _)
      exact RAdded.bad hP hB (refAdd_head (by unfold addHead; rw [if_pos (.inl hname)]) (by decide)) (by decide)
    rw [hname] at CN
    clear hname HF HSM
    go_wp2_with fail
    refine CN.out.mono ?_
    rintro e w2 ⟨rfl, rfl⟩
    go_wp2_with fail
    go_ret
    exact HV.out
  | true =>
  rw [hname] at CN
  have HN := Lib.hid hname
  clear hname
  go_wp2_with fail
  refine CN.out.mono ?_
  rintro e w1x ⟨rfl, rfl⟩
  clear CN k0
  go_wp2_with fail
  go_loopw [6] (fun v wx => ∃ k : Nat, k ≤ rs.length ∧ v = .int .i64 (k : Int) ∧ Hid (∀ r ∈ rs.take k, ¬ r.rep.name = nm) ∧ Hid (Below w1.heap.size w1 wx)) (fun v _ => rs.length - (intOf v).toNat)
  case atStart => exact ⟨0, Nat.zero_le _, rfl, (show ∀ r ∈ rs.take 0, ¬ r.rep.name = nm from by simp), (show Below w1.heap.size w1 w1 from Below.refl _ _)⟩
  case round =>
    obtain ⟨k, hk, rfl, hok, hb⟩ := hrel
    obtain ⟨Kr, hPr, hAr, hBr⟩ := HF.out wr hb.out
    have g1 := hPr.blk.cell 1
    have b0 := Kr.cell 0
    simp at g1 b0
    by_cases hlt : k < rs.length
    · obtain ⟨r, hr⟩ : ∃ r, rs[k]? = some r := ⟨_, List.getElem?_eq_getElem hlt⟩
      obtain ⟨q0, -, -, -⟩ := cellsQ_at hr
      obtain ⟨b, rfl, c0⟩ := own_ats hPr.repo q0
      have HBr := Lib.hid hBr
      have HPr := Lib.hid hPr
      clear Kr hPr hAr hBr q0
      by_cases hnn : r.rep.name = nm
      · have HV : Hid (∀ n, RAdded w base m RO kind rs na nm prio inst (.slice A l.length c) (l.map PkE.p) (.returned (.int .i64 66)) (wr.drewN n)) := fun n => by
          refine RAdded.bad (HPr.out.below (below_drewN' (Below.refl _ _) n)) (below_drewN' HBr.out n) (refAdd_head (n := 66) ?_ (by decide)) (by decide)
          unfold addHead
          exact if_pos (.inr (by rw [List.any_map]; exact List.any_eq_true.2 ⟨r, List.mem_of_getElem? hr, decide_eq_true hnn⟩))
        have t1 := str_yes hnn
        clear hnn hok hr
        go_upto_region 7 with fail
        go_quiet (fail)
        go_wp2_with fail
        go_ret
        exact HV.out _
      · have HOK : Hid (∀ r ∈ rs.take (k + 1), ¬ r.rep.name = nm) := fun x hx => by
          rw [List.take_add_one, hr] at hx
          rcases List.mem_append.1 hx with h1 | h1
          · exact hok.out x h1
          · have : x = r := by simpa using h1
            rw [this]; exact hnn
        have HBX : Hid (∀ n, Below w1.heap.size w1 (wr.drewN n)) := fun n => below_drewN' hb.out n
        have t1 := str_ne hnn
        clear hnn hok hr
        go_upto_region 7 with fail
        go_quiet (fail)
        go_wp2_with fail
        go_roundw
        case rel => exact ⟨k + 1, by omega, by go_num, HOK, HBX.out _⟩
        case measure => simp [intOf]; omega
    · have HNm : Hid (¬ (nameB nm.data.toList = false ∨ (rs.map RRow.rep).any (fun r => decide (r.name = nm)) = true)) := by
        rintro (h1 | h1)
        · rw [HN.out] at h1; cases h1
        · rw [List.any_map] at h1
          obtain ⟨x, hx, hxx⟩ := List.any_eq_true.1 h1
          exact hok.out x (by rw [List.take_of_length_le (by omega)]; exact hx) (of_decide_eq_true hxx)
      clear Kr hPr hAr hBr hok b0 HN
      go_wp2_with fail
      clear g1 hlt hk
      go_loopw [7] (fun v wx => ∃ k : Nat, k ≤ rs.length ∧ v = .int .i64 (k : Int) ∧ Hid (inst = true → ∀ r ∈ rs.take k, r.rep.inst = false) ∧ Hid (Below w1.heap.size w1 wx)) (fun v _ => rs.length - (intOf v).toNat)
      case atStart => exact ⟨0, Nat.zero_le _, rfl, (show inst = true → ∀ r ∈ rs.take 0, r.rep.inst = false from by simp), hb⟩
      case round =>
        clear hb
        obtain ⟨k, hk, rfl, hok, hb⟩ := hrel
        obtain ⟨Kr, hPr, hAr, hBr⟩ := HF.out wr hb.out
        have g1 := hPr.blk.cell 1
        have g2 := hPr.blk.cell 2
        have b2 := Kr.cell 2
        have b3 := Kr.cell 3
        simp at g1 g2 b2 b3
        by_cases hlt : k < rs.length
        · obtain ⟨r, hr⟩ : ∃ r, rs[k]? = some r := ⟨_, List.getElem?_eq_getElem hlt⟩
          obtain ⟨-, -, q2, -⟩ := cellsQ_at hr
          obtain ⟨b, rfl, c2⟩ := own_ats hPr.repo q2
          have HBr := Lib.hid hBr
          have HPr := Lib.hid hPr
          clear Kr hPr hAr hBr q2 g2 b3
          cases inst with
          | false =>
            have HOK : Hid (false = true → ∀ r ∈ rs.take (k + 1), r.rep.inst = false) := fun h => by cases h
            clear hok hr c2
            go_wp2_with fail
            go_roundw
            case rel => exact ⟨k + 1, by omega, by go_num, HOK, hb⟩
            case measure => simp [intOf]; omega
          | true =>
            cases hri : r.rep.inst with
            | true =>
              have HV : Hid (RAdded w base m RO kind rs na nm prio true (.slice A l.length c) (l.map PkE.p) (.returned (.int .i64 67)) wr) := by
                refine RAdded.bad HPr.out HBr.out (refAdd_head (n := 67) ?_ (by decide)) (by decide)
                unfold addHead
                rw [if_neg HNm.out]
                exact if_pos ⟨rfl, by rw [List.any_map]; exact List.any_eq_true.2 ⟨r, List.mem_of_getElem? hr, hri⟩⟩
              rw [hri] at c2
              clear hok hr hri
              go_wp2_with fail
              go_ret
              exact HV.out
            | false =>
              have HOK : Hid (true = true → ∀ r ∈ rs.take (k + 1), r.rep.inst = false) := fun h x hx => by
                rw [List.take_add_one, hr] at hx
                rcases List.mem_append.1 hx with h1 | h1
                · exact hok.out h x h1
                · have : x = r := by simpa using h1
                  rw [this]; exact hri
              rw [hri] at c2
              clear hok hr hri
              go_wp2_with fail
              go_roundw
              case rel => exact ⟨k + 1, by omega, by go_num, Lib.hid (fun _ => HOK.out rfl), hb⟩
              case measure => simp [intOf]; omega
        · have HNi : Hid (¬ (inst = true ∧ (rs.map RRow.rep).any Rep.inst = true)) := by
            rintro ⟨h0, h1⟩
            rw [List.any_map] at h1
            obtain ⟨x, hx, hxx⟩ := List.any_eq_true.1 h1
            have := hok.out h0 x (by rw [List.take_of_length_le (by omega)]; exact hx)
            rw [Function.comp] at hxx
            rw [this] at hxx; cases hxx
          have HBr := Lib.hid hBr
          have HPr := Lib.hid hPr
          clear Kr hPr hAr hBr hok b2
          go_upto_region 14 with fail
          clear hlt hk
          by_cases h8 : 8 ≤ rs.length
          · have HV : Hid (∀ n, RAdded w base m RO kind rs na nm prio inst (.slice A l.length c) (l.map PkE.p) (.returned (.int .i64 68)) (wr.drewN n)) := fun n => by
              refine RAdded.bad (HPr.out.below (below_drewN' (Below.refl _ _) n)) (below_drewN' HBr.out n) (refAdd_head (n := 68) ?_ (by decide)) (by decide)
              unfold addHead
              rw [if_neg HNm.out, if_neg HNi.out, if_pos (.inl (by rw [HRL.out]; exact h8))]
            have t8 : (8 : Int) ≤ (rs.length : Int) := by omega
            clear h8
            go_quiet (fail)
            go_wp2_with fail
            go_ret
            exact HV.out _
          have t8 : ¬ (8 : Int) ≤ (rs.length : Int) := by omega
          have e1 : IntKind.i64.wrap ((na.length : Int) + (l.length : Int)) = (na.length : Int) + (l.length : Int) := IntWalk.i64_in _ (by omega)
          have e2 : (0 : Int) ≤ (na.length : Int) + (l.length : Int) := by omega
          by_cases h200 : 200 < na.length + l.length
          · have HV : Hid (∀ n, RAdded w base m RO kind rs na nm prio inst (.slice A l.length c) (l.map PkE.p) (.returned (.int .i64 68)) (wr.drewN n)) := fun n => by
              refine RAdded.bad (HPr.out.below (below_drewN' (Below.refl _ _) n)) (below_drewN' HBr.out n) (refAdd_head (n := 68) ?_ (by decide)) (by decide)
              unfold addHead
              rw [if_neg HNm.out, if_neg HNi.out, if_pos (.inr (by rw [HLm.out]; exact h200))]
            have t2 : (200 : Int) < (na.length : Int) + (l.length : Int) := by omega
            clear h8 h200
            go_quiet (fail)
            go_wp2_with fail
            go_ret
            exact HV.out _
          have t2 : ¬ (200 : Int) < (na.length : Int) + (l.length : Int) := by omega
          have HAD : Hid (refAddN rs na.length nm inst (l.map PkE.p) = badN (l.map PkE.p)) := refAdd_rest (by
            unfold addHead
            rw [if_neg HNm.out, if_neg HNi.out, if_neg (by rw [HRL.out, HLm.out]; omega)])
          have hl200 : l.length ≤ 200 := by omega
          clear h8 h200 HNm HNi HRL HPr HBr
          go_quiet (fail)
          have HB5 : Hid (Below w1.heap.size w1 (wr.drewN nq)) := below_drewN' hb.out _
          have k5 : (wr.drewN nq).cell? ⟨w.heap.size, 3, none⟩ = some (.slice A l.length c) := b3
          clear g1 g2 t8 e1 e2 t2 b3 hb
          generalize wr.drewN nq = w5 at *
          go_wp2_with fail
          clear k5
          go_loopw [8] (fun v wx => ∃ k : Nat, k ≤ l.length ∧ v = .int .i64 (k : Int) ∧ Hid (∀ q ∈ (l.map PkE.p).take k, chkR q = 0) ∧ Hid (Below w1.heap.size w1 wx)) (fun v _ => l.length - (intOf v).toNat)
          case atStart => exact ⟨0, Nat.zero_le _, rfl, (show ∀ q ∈ (l.map PkE.p).take 0, chkR q = 0 from by simp), HB5⟩
          case round =>
            clear HB5
            obtain ⟨k, hk, rfl, hok, hb⟩ := hrel
            obtain ⟨K5, hP5, hA5, hB5⟩ := HF.out wr hb.out
            have b3 := K5.cell 3
            simp at b3
            by_cases hlt : k < l.length
            · obtain ⟨e, he⟩ : ∃ e, l[k]? = some e := ⟨_, List.getElem?_eq_getElem hlt⟩
              obtain ⟨b, o, rfl, hU, hcs, hP⟩ := hA5 k e he
              have C := Lib.hid (refCheckP_any e.p e.ss e.fs S0 T0 wr hP (HSM.out e (List.mem_of_getElem? he)))
              have HE2 : Hid ((l.map PkE.p)[k]? = some e.p) := by show _ = _; rw [List.getElem?_map, he]; rfl
              obtain ⟨B0, m0, s0, _⟩ := hP.lists 0 (by omega)
              obtain ⟨B1, m1, s1, _⟩ := hP.lists 1 (by omega)
              obtain ⟨B2, m2, s2, _⟩ := hP.lists 2 (by omega)
              obtain ⟨B3, m3, s3, _⟩ := hP.lists 3 (by omega)
              obtain ⟨B4, m4, s4, _⟩ := hP.lists 4 (by omega)
              obtain ⟨B5, m5, s5, _⟩ := hP.lists 5 (by omega)
              obtain ⟨B6, m6, s6, _⟩ := hP.lists 6 (by omega)
              obtain ⟨B7, m7, s7, _⟩ := hP.files
              have q0 : wr.cell? ⟨b, o + k * 12, none⟩ = some (.string e.p.name) := hcs 0 (by omega)
              have q1 : wr.cell? ⟨b, o + k * 12 + 1, none⟩ = some (.string e.p.evr) := hcs 1 (by omega)
              have q2 : wr.cell? ⟨b, o + k * 12 + 2, none⟩ = some (.string e.p.arch) := hcs 2 (by omega)
              have q3 : wr.cell? ⟨b, o + k * 12 + 3, none⟩ = some (.string e.p.vendor) := hcs 3 (by omega)
              have q4 : wr.cell? ⟨b, o + k * 12 + 4, none⟩ = some (e.ss 0) := hcs 4 (by omega)
              have q5 : wr.cell? ⟨b, o + k * 12 + 5, none⟩ = some (e.ss 1) := hcs 5 (by omega)
              have q6 : wr.cell? ⟨b, o + k * 12 + 6, none⟩ = some (e.ss 2) := hcs 6 (by omega)
              have q7 : wr.cell? ⟨b, o + k * 12 + 7, none⟩ = some (e.ss 3) := hcs 7 (by omega)
              have q8 : wr.cell? ⟨b, o + k * 12 + 8, none⟩ = some (e.ss 4) := hcs 8 (by omega)
              have q9 : wr.cell? ⟨b, o + k * 12 + 9, none⟩ = some (e.ss 5) := hcs 9 (by omega)
              have q10 : wr.cell? ⟨b, o + k * 12 + 10, none⟩ = some (e.ss 6) := hcs 10 (by omega)
              have q11 : wr.cell? ⟨b, o + k * 12 + 11, none⟩ = some (e.fs) := hcs 11 (by omega)
              unfold rowP at C
              rw [s0, s1, s2, s3, s4, s5, s6, s7] at C
              rw [s0] at q4
              rw [s1] at q5
              rw [s2] at q6
              rw [s3] at q7
              rw [s4] at q8
              rw [s5] at q9
              rw [s6] at q10
              rw [s7] at q11
              clear s0 s1 s2 s3 s4 s5 s6 s7 hcs hP hU K5 hP5 hA5 hB5 he
              go_wp2_with fail
              refine C.out.mono ?_
              rintro e' w6 ⟨rfl, hb6⟩
              have HB6 : Hid (Below w1.heap.size w1 w6) := hb.out.trans (hb6.mono hb.out.size)
              clear hb6 C q0 q1 q2 q3 q4 q5 q6 q7 q8 q9 q10 q11 b3
              have HXN : Hid (chkR e.p = 0 → ∀ q ∈ (l.map PkE.p).take (k + 1), chkR q = 0) := fun h => alls_snocR hok.out HE2.out h
              have HXB : Hid (chkR e.p ≠ 0 → RAdded w base m RO kind rs na nm prio inst (.slice (some ⟨b, o, none⟩) l.length c) (l.map PkE.p) (.returned (.int .i64 (chkR e.p))) w6) := fun h => by
                obtain ⟨_, hP6, _, hB6⟩ := HF.out w6 HB6.out
                exact RAdded.bad hP6 hB6 (HAD.out.trans (badN_at _ k e.p HE2.out h hok.out)) h
              generalize chkR e.p = n at HXN HXB ⊢
              clear hok HE2
              by_cases hz : n = 0
              · have HN := Lib.hid (HXN.out hz)
                have z1 : (n == 0) = true := by simp [hz]
                have z2 : (n != 0) = false := by simp [hz]
                clear hz HXN HXB
                go_wp2_with fail
                go_roundw
                case rel => exact ⟨k + 1, by omega, by go_num, HN, HB6⟩
                case measure => simp [intOf]; omega
              · have HV := Lib.hid (HXB.out hz)
                have z1 : (n == 0) = false := by simp [hz]
                have z2 : (n != 0) = true := by simp [hz]
                clear hz HXN HXB
                go_wp2_with fail
                go_ret
                exact HV.out
            · have HZ : Hid (refAddN rs na.length nm inst (l.map PkE.p) = 0) := HAD.out.trans (badN_ok _ fun q hq => hok.out q (by rw [List.take_of_length_le (by rw [HLm.out]; omega)]; exact hq))
              have HS0 : Hid (AddL w1 wr w.heap.size base m RO kind rs na (.slice Ar rs.length cr) #[.string nm, .int .i64 prio, .bool inst, .slice A l.length c] (.slice Aa na.length ca) RO) := ⟨hP5, TurnedP.of_below hb.out RO, fun j hj => .inl hj, K5⟩
              clear K5 hP5 hA5 hB5 hok hb HSM HAD HF
              go_wp2_with fail
              clear b3 hlt hk
              go_loopw [10] (fun v wx => ∃ k : Nat, k ≤ l.length ∧ v = .int .i64 (k : Int) ∧ ∃ na' va RO', Hid (na' = na ++ (List.range k).map fun i => (rs.length, i)) ∧ Hid (AddL w1 wx w.heap.size base m RO kind rs na' (.slice Ar rs.length cr) #[.string nm, .int .i64 prio, .bool inst, .slice A l.length c] va RO')) (fun v _ => l.length - (intOf v).toNat)
              case atStart => exact ⟨0, Nat.zero_le _, rfl, na, _, _, (show na = na ++ (List.range 0).map (fun i => (rs.length, i)) by simp), HS0⟩
              case round =>
                clear HS0
                obtain ⟨k, hk, rfl, na', va, RO', HNa, HS⟩ := hrel
                have b3 := HS.out.box.cell 3
                have g1 := HS.out.st.blk.cell 1
                simp at b3 g1
                have HOB : Hid (¬ RO' w.heap.size) := fun ho => by
                  rcases HS.out.own _ ho with h1 | h1
                  · exact HOB0.out h1
                  · have := HZ1.out; omega
                by_cases hlt : k < l.length
                · obtain ⟨Aa', ca', hva', _, hcb⟩ := own_form' HS.out.st.ats
                  subst hva'
                  unfold maxLen at hcb
                  obtain ⟨N, hN⟩ : ∃ N, N = na'.length := ⟨_, rfl⟩
                  rw [← hN] at HS
                  have HN := Lib.hid hN
                  have hNle : N ≤ 400 := by rw [hN, HNa.out]; simp; omega
                  have HNX : Hid (na' ++ [(rs.length, k)] = na ++ (List.range (k + 1)).map fun i => (rs.length, i)) := by
                    show _ = _
                    rw [HNa.out, List.range_succ, List.map_append, List.append_assoc]; rfl
                  have HIP := Lib.hid info_pair
                  clear hN
                  go_upto_region 25 with fail
                  clear b3 g1
                  rename_i K hK
                  refine wp_region_S (SR 13 16 wr m w.heap.size #[.int .i64 kind, .slice Ar rs.length cr, .slice Aa' N ca'] #[.string nm, .int .i64 prio, .bool inst, .slice A l.length c]) (by kernel_rfl) ⟨fun _ => HS.out.st.blk, HS.out.box, fun _ => (Below.refl _ _).drew⟩ (fun hS => ?_)
                  refine wpAnyS_take (i := 0) (fun w' => True) (v := .pointer (some ⟨m, 0, none⟩)) rfl (by kernel_rfl) (by kernel_rfl) (by kernel_rfl) (fun _ _ _ h => h) (fun _ _ _ _ => trivial) (SR.io (by decide)) (by kernel_rfl) hS (fun w' hSw => ?_) (by rfl) (fun hS => ?_)
                  · go_simp
                  try simp only [List.getElem_toArray, List.getElem_cons_zero, List.getElem_cons_succ, Act.put, List.setIfInBounds_toArray, List.set_cons_zero, List.set_cons_succ]
                  refine wpAnyS_take (i := 1) (fun w' => True) (v := .pointer (some ⟨m, 0, none⟩)) rfl (by kernel_rfl) (by kernel_rfl) (by kernel_rfl) (fun _ _ _ h => h) (fun _ _ _ _ => trivial) (SR.io (by decide)) (by kernel_rfl) hS (fun w' hSw => ?_) (by rfl) (fun hS => ?_)
                  · go_simp
                  try simp only [List.getElem_toArray, List.getElem_cons_zero, List.getElem_cons_succ, Act.put, List.setIfInBounds_toArray, List.set_cons_zero, List.set_cons_succ]
                  refine wpAnyS_take (i := 2) (fun w' => True) (v := .pointer (some ⟨m, 0, none⟩)) rfl (by kernel_rfl) (by kernel_rfl) (by kernel_rfl) (fun _ _ _ h => h) (fun _ _ _ _ => trivial) (SR.io (by decide)) (by kernel_rfl) hS (fun w' hSw => ?_) (by rfl) (fun hS => ?_)
                  · go_simp
                  try simp only [List.getElem_toArray, List.getElem_cons_zero, List.getElem_cons_succ, Act.put, List.setIfInBounds_toArray, List.set_cons_zero, List.set_cons_succ]
                  refine wpAnyS_take (i := 3) (fun w' => True) (v := .pointer (some ⟨m, 2, none⟩)) rfl (by kernel_rfl) (by kernel_rfl) (by kernel_rfl) (fun _ _ _ h => h) (fun _ _ _ _ => trivial) (SR.io (by decide)) (by kernel_rfl) hS (fun w' hSw => ?_) (by rfl) (fun hS => ?_)
                  · go_simp
                  try simp only [List.getElem_toArray, List.getElem_cons_zero, List.getElem_cons_succ, Act.put, List.setIfInBounds_toArray, List.set_cons_zero, List.set_cons_succ]
                  refine wpAnyS_take (i := 4) (fun w' => w'.cell? ⟨m, 2, none⟩ = some (.slice Aa' N ca')) (v := .slice Aa' N ca') rfl (by kernel_rfl) (by kernel_rfl) (by kernel_rfl) (fun _ _ _ h => h) (fun l w hw hS => (hS.1 (hw 16 (by kernel_rfl))).cell 2) (SR.io (by decide)) (by kernel_rfl) hS (fun w' hSw => ?_) (by rfl) (fun hS => ?_)
                  · go_simp
                  try simp only [List.getElem_toArray, List.getElem_cons_zero, List.getElem_cons_succ, Act.put, List.setIfInBounds_toArray, List.set_cons_zero, List.set_cons_succ]
                  refine wpAnyS_take (i := 5) (fun w' => True) (v := .pointer (some ⟨m, 0, none⟩)) rfl (by kernel_rfl) (by kernel_rfl) (by kernel_rfl) (fun _ _ _ h => h) (fun _ _ _ _ => trivial) (SR.io (by decide)) (by kernel_rfl) hS (fun w' hSw => ?_) (by rfl) (fun hS => ?_)
                  · go_simp
                  try simp only [List.getElem_toArray, List.getElem_cons_zero, List.getElem_cons_succ, Act.put, List.setIfInBounds_toArray, List.set_cons_zero, List.set_cons_succ]
                  refine wpAnyS_take (i := 6) (fun w' => True) (v := .pointer (some ⟨m, 0, none⟩)) rfl (by kernel_rfl) (by kernel_rfl) (by kernel_rfl) (fun _ _ _ h => h) (fun _ _ _ _ => trivial) (SR.io (by decide)) (by kernel_rfl) hS (fun w' hSw => ?_) (by rfl) (fun hS => ?_)
                  · go_simp
                  try simp only [List.getElem_toArray, List.getElem_cons_zero, List.getElem_cons_succ, Act.put, List.setIfInBounds_toArray, List.set_cons_zero, List.set_cons_succ]
                  refine wpAnyS_take (i := 7) (fun w' => True) (v := .pointer (some ⟨m, 1, none⟩)) rfl (by kernel_rfl) (by kernel_rfl) (by kernel_rfl) (fun _ _ _ h => h) (fun _ _ _ _ => trivial) (SR.io (by decide)) (by kernel_rfl) hS (fun w' hSw => ?_) (by rfl) (fun hS => ?_)
                  · go_simp
                  try simp only [List.getElem_toArray, List.getElem_cons_zero, List.getElem_cons_succ, Act.put, List.setIfInBounds_toArray, List.set_cons_zero, List.set_cons_succ]
                  refine wpAnyS_take (i := 8) (fun w' => w'.cell? ⟨m, 1, none⟩ = some (.slice Ar rs.length cr)) (v := .slice Ar rs.length cr) rfl (by kernel_rfl) (by kernel_rfl) (by kernel_rfl) (fun _ _ _ h => h) (fun l w hw hS => (hS.1 (hw 16 (by kernel_rfl))).cell 1) (SR.io (by decide)) (by kernel_rfl) hS (fun w' hSw => ?_) (by rfl) (fun hS => ?_)
                  · go_simp
                  try simp only [List.getElem_toArray, List.getElem_cons_zero, List.getElem_cons_succ, Act.put, List.setIfInBounds_toArray, List.set_cons_zero, List.set_cons_succ]
                  refine wpAnyS_take (i := 9) (fun w' => True) (v := .int .i64 ((rs.length : Nat) : Int)) rfl (by kernel_rfl) (by kernel_rfl) (by kernel_rfl) (fun _ _ _ h => h) (fun _ _ _ _ => trivial) (SR.io (by decide)) (by kernel_rfl) hS (fun w' hSw => ?_) (by rfl) (fun hS => ?_)
                  · go_simp
                  try simp only [List.getElem_toArray, List.getElem_cons_zero, List.getElem_cons_succ, Act.put, List.setIfInBounds_toArray, List.set_cons_zero, List.set_cons_succ]
                  refine wpAnyS_take (i := 10) (fun w' => True) (v := .int .i64 (k : Int)) rfl (by kernel_rfl) (by kernel_rfl) (by kernel_rfl) (fun _ _ _ h => h) (fun _ _ _ _ => trivial) (SR.io (by decide)) (by kernel_rfl) hS (fun w' hSw => ?_) (by rfl) (fun hS => ?_)
                  · go_simp
                  try simp only [List.getElem_toArray, List.getElem_cons_zero, List.getElem_cons_succ, Act.put, List.setIfInBounds_toArray, List.set_cons_zero, List.set_cons_succ]
                  refine wpAnyS_one (i := 11) (by kernel_rfl) rfl (fun K7 hK7 => ?_)
                  go_simp
                  refine hK7.out _ _ ⟨hS.1, hS.2.1, hS.2.2⟩ (fun hS => ?_)
                  clear hK7 K7
                  try simp only [List.getElem_toArray, List.getElem_cons_zero, List.getElem_cons_succ, Act.put, List.setIfInBounds_toArray, List.set_cons_zero, List.set_cons_succ]
                  have hba : Below wr.heap.size wr (wr.drew.alloc (.cells #[.int .i64 ((rs.length : Nat) : Int), .int .i64 (k : Int)] 91)) := (Below.refl _ _).drew.alloc (Nat.le_refl _) _
                  have HBA := Lib.hid hba
                  have HP6 := Lib.hid (HS.out.st.below hba)
                  have HK6 := Lib.hid (HS.out.box.below hba HS.out.box.lt)
                  clear hba
                  refine wpAnyS_one (i := 12) (by kernel_rfl) rfl (fun K7 hK7 => ?_)
                  go_simp
                  refine hK7.out _ _ ⟨fun _ => HP6.out.blk, HK6.out, fun _ => HBA.out⟩ (fun hS => ?_)
                  clear hK7 K7
                  try simp only [List.getElem_toArray, List.getElem_cons_zero, List.getElem_cons_succ, Act.put, List.setIfInBounds_toArray, List.set_cons_zero, List.set_cons_succ]
                  refine wpAnyS_one (i := 13) (by kernel_rfl) rfl (fun K7 hK7 => ?_)
                  have HATS : Hid ((wr.drew.alloc (.cells #[.int .i64 ((rs.length : Nat) : Int), .int .i64 (k : Int)] 91)).ownsRow base 91 2 (.slice Aa' N ca') N (cellsA na')) := by
                    have h := HP6.out.ats
                    rw [← HN.out] at h
                    exact h
                  obtain ⟨i0, z0, hi0, hz0, hz1, hz2, hz3⟩ := HIP.out
                  refine step_append_at rfl (.tmp 102) (.tmp 110) 66 rfl base 91 i0 z0 2 16 Tryz.underlying66 hi0 hz0 hz2 hz3 hz1 (by decide) (.slice Aa' N ca') N (cellsA na') rfl HATS.out ⟨wr.heap.size, 0, none⟩ 1 1 [.int .i64 ((rs.length : Nat) : Int), .int .i64 (k : Int)] rfl rfl (cells_new wr.drew #[.int .i64 ((rs.length : Nat) : Int), .int .i64 (k : Int)] _) (by intro u hu; simp at hu; rcases hu with rfl | rfl <;> rfl) (by unfold maxLen; omega) (by omega) (by have h1 := HS.out.st.gfar; have h2 := HS.out.st.blk.lt; show base ≤ _; simp; omega) ?_
                  intro v4 w4 hown4 hg4 hat4
                  obtain ⟨A4, c4, rfl, _, _⟩ := own_form' hown4
                  obtain ⟨hPk, htk, hok⟩ := PoolR.putAt HP6.out (rs.length, k) hg4 (by rw [← HN.out]; exact hown4) hat4
                  have htM1 : TurnedP (fun j => (Value.slice Aa' N ca').ownBlock = some j) (wr.drew.alloc (.cells #[.int .i64 ((rs.length : Nat) : Int), .int .i64 (k : Int)] 91)) w4 := (TurnedP.refl _ _).grown hg4 fun _ _ hk => hk
                  have hg4' := HP6.out.blk.turnedP htM1 (own_kind HP6.out.ats HP6.out.blk (by decide))
                  have hk4' := HK6.out.turnedP htM1 (fun h => HOB.out ((HS.out.st.mine _).2 (.inr (.inr h))))
                  have HV : Hid (AddL w1 (w4.setCell ⟨m, 2, none⟩ (.slice A4 (N + 1) c4)) w.heap.size base m RO kind rs (na' ++ [(rs.length, k)]) (.slice Ar rs.length cr) #[.string nm, .int .i64 prio, .bool inst, .slice A l.length c] (.slice A4 (N + 1) c4) (RPoolO m (.slice Ar rs.length cr) (.slice A4 (N + 1) c4))) := AddL.next HS.out HBA.out hPk htk hok HK6.out HOB.out
                  clear hPk htk hok hown4 hg4 hat4 htM1
                  refine hK7.out _ _ ⟨fun _ => hg4', hk4', fun h => by cases h⟩ (fun hS => ?_)
                  clear hK7 K7 hk4'
                  try simp only [List.getElem_toArray, List.getElem_cons_zero, List.getElem_cons_succ, Act.put, List.setIfInBounds_toArray, List.set_cons_zero, List.set_cons_succ]
                  refine wpAnyS_one (i := 14) (by kernel_rfl) rfl (fun K8 hK8 => ?_)
                  go_simp
                  refine hK8.out _ _ ⟨hS.1, hS.2.1, fun h => by cases h⟩ (fun hS => ?_)
                  clear hK8 K8
                  try simp only [List.getElem_toArray, List.getElem_cons_zero, List.getElem_cons_succ, Act.put, List.setIfInBounds_toArray, List.set_cons_zero, List.set_cons_succ]
                  refine wpAnyS_one (i := 15) (by kernel_rfl) rfl (fun K8 hK8 => ?_)
                  go_simp
                  refine hK8.out _ _ ⟨hS.1, hS.2.1, fun h => by cases h⟩ (fun hS => ?_)
                  clear hK8 K8
                  try simp only [List.getElem_toArray, List.getElem_cons_zero, List.getElem_cons_succ, Act.put, List.setIfInBounds_toArray, List.set_cons_zero, List.set_cons_succ]
                  have x2 := hg4'.cell 2
                  have y2 := hg4'.free 2
                  simp at x2
                  clear hg4'
                  refine wpAnyS_one (i := 16) (by kernel_rfl) rfl (fun K8 hK8 => ?_)
                  go_simp
                  refine hK8.out _ _ ⟨(fun h => by cases h), HV.out.box, fun h => by cases h⟩ (fun hS => ?_)
                  clear hK8 K8 x2 y2
                  try simp only [List.getElem_toArray, List.getElem_cons_zero, List.getElem_cons_succ, Act.put, List.setIfInBounds_toArray, List.set_cons_zero, List.set_cons_succ]
                  refine wpAnyS_done (by kernel_rfl) ?_ _
                  clear hS
                  refine hK _ _ ?_
                  clear hK K
                  generalize w4.setCell ⟨m, 2, none⟩ (.slice A4 (N + 1) c4) = w9 at HV ⊢
                  go_wp2_with fail
                  go_roundw
                  case rel => exact ⟨k + 1, by omega, by go_num, _, _, _, HNX, HV⟩
                  case measure => simp [intOf]; omega
                · have HNX : Hid (na' = na ++ (List.range k).map fun i => (rs.length, i)) := HNa
                  have HIR := Lib.hid info_repo
                  clear HNa
                  go_upto_region 26 with fail
                  clear b3 g1
                  rename_i K hK
                  refine wp_region_S (SR 7 10 wr m w.heap.size #[.int .i64 kind, .slice Ar rs.length cr, va] #[.string nm, .int .i64 prio, .bool inst, .slice A l.length c]) (by kernel_rfl) ⟨fun _ => HS.out.st.blk, HS.out.box, fun _ => (Below.refl _ _).drew⟩ (fun hS => ?_)
                  refine wpAnyS_take (i := 0) (fun w' => True) (v := .pointer (some ⟨m, 0, none⟩)) rfl (by kernel_rfl) (by kernel_rfl) (by kernel_rfl) (fun _ _ _ h => h) (fun _ _ _ _ => trivial) (SR.io (by decide)) (by kernel_rfl) hS (fun w' hSw => ?_) (by rfl) (fun hS => ?_)
                  · go_simp
                  try simp only [List.getElem_toArray, List.getElem_cons_zero, List.getElem_cons_succ, Act.put, List.setIfInBounds_toArray, List.set_cons_zero, List.set_cons_succ]
                  refine wpAnyS_take (i := 1) (fun w' => True) (v := .pointer (some ⟨m, 0, none⟩)) rfl (by kernel_rfl) (by kernel_rfl) (by kernel_rfl) (fun _ _ _ h => h) (fun _ _ _ _ => trivial) (SR.io (by decide)) (by kernel_rfl) hS (fun w' hSw => ?_) (by rfl) (fun hS => ?_)
                  · go_simp
                  try simp only [List.getElem_toArray, List.getElem_cons_zero, List.getElem_cons_succ, Act.put, List.setIfInBounds_toArray, List.set_cons_zero, List.set_cons_succ]
                  refine wpAnyS_take (i := 2) (fun w' => True) (v := .pointer (some ⟨m, 0, none⟩)) rfl (by kernel_rfl) (by kernel_rfl) (by kernel_rfl) (fun _ _ _ h => h) (fun _ _ _ _ => trivial) (SR.io (by decide)) (by kernel_rfl) hS (fun w' hSw => ?_) (by rfl) (fun hS => ?_)
                  · go_simp
                  try simp only [List.getElem_toArray, List.getElem_cons_zero, List.getElem_cons_succ, Act.put, List.setIfInBounds_toArray, List.set_cons_zero, List.set_cons_succ]
                  refine wpAnyS_take (i := 3) (fun w' => True) (v := .pointer (some ⟨m, 1, none⟩)) rfl (by kernel_rfl) (by kernel_rfl) (by kernel_rfl) (fun _ _ _ h => h) (fun _ _ _ _ => trivial) (SR.io (by decide)) (by kernel_rfl) hS (fun w' hSw => ?_) (by rfl) (fun hS => ?_)
                  · go_simp
                  try simp only [List.getElem_toArray, List.getElem_cons_zero, List.getElem_cons_succ, Act.put, List.setIfInBounds_toArray, List.set_cons_zero, List.set_cons_succ]
                  refine wpAnyS_take (i := 4) (fun w' => w'.cell? ⟨m, 1, none⟩ = some (.slice Ar rs.length cr)) (v := .slice Ar rs.length cr) rfl (by kernel_rfl) (by kernel_rfl) (by kernel_rfl) (fun _ _ _ h => h) (fun l w hw hS => (hS.1 (hw 10 (by kernel_rfl))).cell 1) (SR.io (by decide)) (by kernel_rfl) hS (fun w' hSw => ?_) (by rfl) (fun hS => ?_)
                  · go_simp
                  try simp only [List.getElem_toArray, List.getElem_cons_zero, List.getElem_cons_succ, Act.put, List.setIfInBounds_toArray, List.set_cons_zero, List.set_cons_succ]
                  refine wpAnyS_take (i := 5) (fun w' => Blk w' w.heap.size 33 #[.string nm, .int .i64 prio, .bool inst, .slice A l.length c]) (v := .agg #[.string nm, .int .i64 prio, .bool inst, .slice A l.length c]) rfl (by kernel_rfl) (by kernel_rfl) (by kernel_rfl) (fun _ _ _ h => h) (fun l w hw hS => hS.2.1) (SR.io (by decide)) (by kernel_rfl) hS (fun w' hSw => ?_) (by rfl) (fun hS => ?_)
                  · have q0 := hSw.cell 0
                    have q1 := hSw.cell 1
                    have q2 := hSw.cell 2
                    have q3 := hSw.cell 3
                    simp at q0 q1 q2 q3
                    clear hSw
                    go_simp
                  try simp only [List.getElem_toArray, List.getElem_cons_zero, List.getElem_cons_succ, Act.put, List.setIfInBounds_toArray, List.set_cons_zero, List.set_cons_succ]
                  have hba : Below wr.heap.size wr (wr.drew.alloc (.cells #[.string nm, .int .i64 prio, .bool inst, .slice A l.length c] 33)) := (Below.refl _ _).drew.alloc (Nat.le_refl _) _
                  have HBA := Lib.hid hba
                  have HP6 := Lib.hid (HS.out.st.below hba)
                  have HK6 := Lib.hid (HS.out.box.below hba HS.out.box.lt)
                  clear hba
                  refine wpAnyS_one (i := 6) (by kernel_rfl) rfl (fun K7 hK7 => ?_)
                  go_simp
                  refine hK7.out _ _ ⟨fun _ => HP6.out.blk, HK6.out, fun _ => HBA.out⟩ (fun hS => ?_)
                  clear hK7 K7
                  try simp only [List.getElem_toArray, List.getElem_cons_zero, List.getElem_cons_succ, Act.put, List.setIfInBounds_toArray, List.set_cons_zero, List.set_cons_succ]
                  refine wpAnyS_one (i := 7) (by kernel_rfl) rfl (fun K7 hK7 => ?_)
                  obtain ⟨i0, z0, hi0, hz0, hz1, hz2, hz3⟩ := HIR.out
                  refine step_append_at rfl (.tmp 118) (.tmp 120) 22 rfl base 33 i0 z0 4 56 Tryz.underlying22 hi0 hz0 hz2 hz3 hz1 (by decide) (.slice Ar rs.length cr) rs.length (cellsQ rs) rfl HP6.out.repo ⟨wr.heap.size, 0, none⟩ 1 1 [.string nm, .int .i64 prio, .bool inst, .slice A l.length c] rfl rfl (cells_new wr.drew #[.string nm, .int .i64 prio, .bool inst, .slice A l.length c] _) (by intro u hu; simp at hu; rcases hu with rfl | rfl | rfl | rfl <;> rfl) (by unfold maxLen; omega) (by omega) (by have h1 := HS.out.st.gfar; have h2 := HS.out.st.blk.lt; show base ≤ _; simp; omega) ?_
                  intro v4 w4 hown4 hg4 hat4
                  obtain ⟨A4, c4, rfl, _, _⟩ := own_form' hown4
                  obtain ⟨hPk, htk, hok⟩ := PoolR.putRepo HP6.out ⟨⟨nm, prio, inst⟩, .slice A l.length c⟩ hg4 hown4 hat4
                  have htM1 : TurnedP (fun j => (Value.slice Ar rs.length cr).ownBlock = some j) (wr.drew.alloc (.cells #[.string nm, .int .i64 prio, .bool inst, .slice A l.length c] 33)) w4 := (TurnedP.refl _ _).grown hg4 fun _ _ hk => hk
                  have hg4' := HP6.out.blk.turnedP htM1 (own_kind HP6.out.repo HP6.out.blk (by decide))
                  have hk4' := HK6.out.turnedP htM1 (fun h => HOB.out ((HS.out.st.mine _).2 (.inr (.inl h))))
                  have hk4x := HK6.out.turnedP htk HOB.out
                  have HV : Hid (RAdded w base m RO kind rs na nm prio inst (.slice A l.length c) (l.map PkE.p) (.returned (.int .i64 0)) (w4.setCell ⟨m, 1, none⟩ (.slice A4 (rs.length + 1) c4))) := by
                    have hsz1 : w.heap.size ≤ w1.heap.size := HB0.out.size
                    have hszr : w1.heap.size ≤ wr.heap.size := HS.out.turned.size
                    have hszb : wr.heap.size ≤ (wr.drew.alloc (.cells #[.string nm, .int .i64 prio, .bool inst, .slice A l.length c] 33)).heap.size := HBA.out.size
                    refine ⟨by rw [HZ.out], ((TurnedP.of_below HB0.out RO).trans ((HS.out.turned.below_ HBA.out).trans htk (fun q hq h => (HS.out.own q h).resolve_right (by omega))) (fun _ _ h => h)), fun h => absurd HZ.out h, fun _ => ⟨RPoolO m (.slice A4 (rs.length + 1) c4) va, ⟨.slice A4 (rs.length + 1) c4, va, ?_⟩, fun j hj => ?_⟩⟩
                    · have h := HNX.out
                      rw [show (l.map PkE.p).length = k by rw [List.length_map]; omega, ← h]
                      exact hPk
                    · rcases hok j hj with h | h
                      · rcases HS.out.own j h with h | h
                        · exact .inl h
                        · exact .inr (by omega)
                      · exact .inr (by omega)
                  clear hPk htk hok hown4 hg4 hat4 htM1
                  refine hK7.out _ _ ⟨fun _ => hg4', hk4', fun h => by cases h⟩ (fun hS => ?_)
                  clear hK7 K7 hk4'
                  try simp only [List.getElem_toArray, List.getElem_cons_zero, List.getElem_cons_succ, Act.put, List.setIfInBounds_toArray, List.set_cons_zero, List.set_cons_succ]
                  refine wpAnyS_one (i := 8) (by kernel_rfl) rfl (fun K8 hK8 => ?_)
                  go_simp
                  refine hK8.out _ _ ⟨hS.1, hS.2.1, fun h => by cases h⟩ (fun hS => ?_)
                  clear hK8 K8
                  try simp only [List.getElem_toArray, List.getElem_cons_zero, List.getElem_cons_succ, Act.put, List.setIfInBounds_toArray, List.set_cons_zero, List.set_cons_succ]
                  refine wpAnyS_one (i := 9) (by kernel_rfl) rfl (fun K8 hK8 => ?_)
                  go_simp
                  refine hK8.out _ _ ⟨hS.1, hS.2.1, fun h => by cases h⟩ (fun hS => ?_)
                  clear hK8 K8
                  try simp only [List.getElem_toArray, List.getElem_cons_zero, List.getElem_cons_succ, Act.put, List.setIfInBounds_toArray, List.set_cons_zero, List.set_cons_succ]
                  have x2 := hg4'.cell 1
                  have y2 := hg4'.free 1
                  simp at x2
                  clear hg4'
                  refine wpAnyS_one (i := 10) (by kernel_rfl) rfl (fun K8 hK8 => ?_)
                  go_simp
                  refine hK8.out _ _ ⟨(fun h => by cases h), hk4x, fun h => by cases h⟩ (fun hS => ?_)
                  clear hK8 K8 x2 y2
                  try simp only [List.getElem_toArray, List.getElem_cons_zero, List.getElem_cons_succ, Act.put, List.setIfInBounds_toArray, List.set_cons_zero, List.set_cons_succ]
                  refine wpAnyS_done (by kernel_rfl) ?_ _
                  clear hS
                  refine hK _ _ ?_
                  clear hK K
                  generalize w4.setCell ⟨m, 1, none⟩ (.slice A4 (rs.length + 1) c4) = w9 at HV ⊢
                  go_wp2_with fail
                  go_ret
                  exact HV.out
end Go.Proofs.YtpmfmkpfjomgnaaGreatDoor

/- New, Len, Kind, Package, Named, Text. -/
namespace Go.Proofs.YtpmfmkpfjomgnaaGreatDoor
set_option linter.unusedSimpArgs false
set_option linter.unusedVariables false
open Go.RowKit

theorem mkMap (t : TypeId) (w : World) : (Instr.makeMap t none).run Tryz.prog w = .ok (.map (some w.heap.size)) (w.alloc (.map #[] 0)) := by
  simp [Instr.makeMap, Result.andThen]
/-- A new pool. -/
def NewPool (w : World) (kind : Int) (e : Ending) (w' : World) : Prop := Below w.heap.size w w' ∧ ∃ g O, e = .returned (.tuple #[.pointer (some ⟨g, 0, none⟩), .int .i64 0]) ∧ PoolAt w' w.heap.size g O (fun _ => False) (fun _ => False) kind [] []
set_option maxHeartbeats 1000000 in
set_option maxRecDepth 100000 in
theorem new_any (kind : Int) (hk : kind = 1 ∨ kind = 2) (w : World) : Calls Tryz.prog 14 #[.int .i64 kind] w (NewPool w kind) := by
  have HM := mkMap 80 w
  have HP : Hid (NewPool w kind (.returned (.tuple #[.pointer (some ⟨w.heap.size + 1, 0, none⟩), .int .i64 0])) ((w.alloc (.map #[] 0)).alloc (.cells #[.int .i64 kind, .slice none 0 0, .slice none 0 0, .map (some w.heap.size)] 83))) := by
    refine ⟨((Below.refl _ _).alloc (Nat.le_refl _) _).alloc (by simp) _, w.heap.size + 1, PoolO (w.heap.size + 1) (.slice none 0 0) (.slice none 0 0) w.heap.size (fun _ => .slice none 0 0), rfl, _, _, _, (fun _ => .slice none 0 0), ⟨Blk.new' (by simp), World.ownsRow_nil _ _ _ _, World.ownsRow_nil _ _ _ _, (fun k hk => by cases hk), (fun b hb => hb.elim), (fun b hb => hb.elim), ?_, by omega, fun k => Iff.rfl⟩⟩
    exact (MapR.made w 3 1).turned (TurnedP.of_below ((Below.refl _ _).alloc (Nat.le_refl _) _) fun _ => False) fun _ _ h => h.elim
  rcases hk with rfl | rfl
  all_goals
    go_enter Tryz.func14, Tryz.ntmps14
    go_wp2_with fail
    go_ret2
    exact HP.out
section
variable {w : World} {base g : Nat} {O S T : Nat → Prop} {kind : Int} {reps : List Rep} {ks : List Kep}
set_option maxRecDepth 100000 in
theorem len_any (h : PoolAt w base g O S T kind reps ks) : Calls Tryz.prog 42 #[.pointer (some ⟨g, 0, none⟩)] w fun e w' => e = .returned (.int .i64 (ks.length : Int)) ∧ w = w' := by
  obtain ⟨vr, vp, bm, f, h⟩ := h
  obtain ⟨A, c, rfl, h1, h2⟩ := own_form' h.pack
  have k2 := h.blk.cell 2
  simp at k2
  clear h h1 h2
  go_enter Tryz.func42, Tryz.ntmps42
  go_wp2_with fail
  go_ret
  exact ⟨rfl, rfl⟩
/-- New numbers that read as these. -/
def NumsAt (w0 w' : World) (ns : List Nat) (v : Value) : Prop := w'.ownsRow w0.heap.size 3 1 v ns.length (numV ns)
def NumsNew (w : World) (ns : List Nat) (e : Ending) (w' : World) : Prop := Below w.heap.size w w' ∧ ∃ v', e = .returned v' ∧ NumsAt w w' ns v'
set_option maxHeartbeats 1000000 in
set_option maxRecDepth 100000 in
theorem cloneInts_any {w : World} {base : Nat} {v : Value} {ns : List Nat} (h : w.ownsRow base 3 1 v ns.length (numV ns)) (hn : ns.length ≤ 1000000) :
    Calls Tryz.prog 55 #[v] w (NumsNew w ns) := by
  rcases own_handle h with ⟨rfl, h0⟩ | ⟨b, c, rfl⟩
  · obtain rfl := List.eq_nil_of_length_eq_zero h0
    have qn := nil_none 39 3 Tryz.underlying39 0 0 w
    have HP : Hid (NumsNew w [] (.returned (.slice none 0 0)) w) := ⟨Below.refl _ _, _, rfl, World.ownsRow_nil _ _ _ _⟩
    clear h h0 hn
    go_enter Tryz.func55, Tryz.ntmps55
    go_wp2_with fail
    go_ret
    exact HP.out
  · have qn := nil_some 39 3 Tryz.underlying39 ⟨b, 0, none⟩ ns.length c w
    have HH := Lib.hid h
    have HI := Lib.hid info_int5
    have HO : Hid ((w.alloc (.cells #[] 3)).ownsRow w.heap.size 3 1 (.slice (some ⟨w.heap.size, 0, none⟩) 0 0) 0 []) :=
      ⟨rfl, .inr ⟨w.heap.size, 0, #[], rfl, Nat.le_refl _, Blk.new _ _ _, Nat.le_refl _, by simp [maxLen], rfl, rfl⟩⟩
    have HCl : Hid (∀ j u, (numV ns)[j]? = some u → (w.alloc (.cells #[] 3)).cell? ((⟨b, 0, none⟩ : Addr).add j) = some u) := fun j u hu => by
      obtain ⟨b', e, hc⟩ := own_ats h hu
      injection e with e
      injection e with e
      subst e
      have e2 : (⟨b, 0, none⟩ : Addr).add j = ⟨b, j, none⟩ := by unfold Addr.add; split <;> simp_all
      rw [e2]
      have hba : Below w.heap.size w (w.alloc (.cells #[] 3)) := (Below.refl _ _).alloc (Nat.le_refl _) _
      exact (World.cell?_of_block (hba.block b (cell_lt hc))).trans hc
    have HB : Hid (Below w.heap.size w (w.alloc (.cells #[] 3))) := (Below.refl _ _).alloc (Nat.le_refl _) _
    have HL : Hid ((numV ns).length = ns.length * 1) := by show _ = _; simp [numV]
    have HO1 : Hid (∀ u ∈ numV ns, u.oneCell' = true) := fun u hu => by
      obtain ⟨x, _, rfl⟩ := List.mem_map.1 hu
      rfl
    clear h
    go_enter Tryz.func55, Tryz.ntmps55
    obtain ⟨i0, z0, hi0, hz0, hz1, hz2, hz3⟩ := HI.out
    have HI' := Lib.hid (And.intro hi0 (And.intro hz0 (And.intro hz1 (And.intro hz2 hz3))))
    clear hi0 hz0 hz1 hz2 hz3 HI
    go_wp2_with (at_builtin; refine wpList_append_own_at _ rfl (.tmp 5) (.tmp 6) 39 rfl w.heap.size 3 i0 z0 1 8 Tryz.underlying39 HI'.out.1 HI'.out.2.1 HI'.out.2.2.2.1 HI'.out.2.2.2.2 HI'.out.2.2.1 (by decide) (.slice (some ⟨w.heap.size, 0, none⟩) 0 0) 0 [] rfl HO.out ⟨b, 0, none⟩ ns.length c (numV ns) rfl HL.out HCl.out HO1.out (by unfold maxLen; omega) (by omega) (by simp) ?_; intro v' w' hown' hg' _ _)
    have HP : Hid (NumsNew w ns (.returned v') w') := by
      refine ⟨HB.out.grown hg' HB.out.size (fun k hk => ?_), v', rfl, ?_⟩
      · simp [Value.ownBlock] at hk; omega
      · have h := hown'
        rw [Nat.zero_add, List.nil_append] at h
        exact h
    clear hown' hg' HB HO HCl HL HO1 HI' HH
    go_wp2_with fail
    go_ret
    exact HP.out
end
end Go.Proofs.YtpmfmkpfjomgnaaGreatDoor

/- Both pools of a list of repositories: the project's own and the document's. -/
namespace Go.Proofs.YtpmfmkpfjomgnaaGreatDoor
set_option linter.unusedSimpArgs false
set_option linter.unusedVariables false
open Go.RowKit

/-- A repository as it is handed in. -/
structure RepE where
  rep : Rep
  ps : List PkE
def ReposAt (w : World) (V S T U : Nat → Prop) (l : List RepE) (A : Option Addr) : Prop :=
  ∀ i e, l[i]? = some e → ∃ b o Ap cp, A = some ⟨b, o, none⟩ ∧ V b ∧ w.cell? ⟨b, o + i * 4, none⟩ = some (.string e.rep.name) ∧ w.cell? ⟨b, o + i * 4 + 1, none⟩ = some (.int .i64 e.rep.prio) ∧ w.cell? ⟨b, o + i * 4 + 2, none⟩ = some (.bool e.rep.inst) ∧ w.cell? ⟨b, o + i * 4 + 3, none⟩ = some (.slice Ap e.ps.length cp) ∧ e.ps.length ≤ cp ∧ cp ≤ maxLen ∧ PacksAt w S T U e.ps Ap
def pksOf (l : List RepE) : List Pkg := l.flatMap fun e => e.ps.map PkE.p
theorem pksOf_take {l : List RepE} {k : Nat} {e : RepE} (h : l[k]? = some e) : pksOf (l.take (k + 1)) = pksOf (l.take k) ++ e.ps.map PkE.p := by
  rw [List.take_add_one, h]; simp [pksOf]
/-- What is asked of a dependency is what the document says of it. -/
def QC (d : Dep) (n : Int) : Prop := n = checkN d
/-- Repositories that both pools take. -/
structure GoodRepos (l : List RepE) : Prop where
  head : ∀ k e, l[k]? = some e → addHead ((l.take k).map RepE.rep) (pksOf (l.take k)).length e.rep.name e.rep.inst e.ps.length = 0
  chk : ∀ e ∈ l, ∀ x ∈ e.ps, chkR x.p = 0 ∧ ∀ n, ChkR QC x.p n → n = 0
  name : ∀ e ∈ l, e.rep.name.size ≤ 281474976710656
  small : ∀ e ∈ l, ∀ x ∈ e.ps, PkgSmall x.p
theorem refSmall_of {p : Pkg} (h : PkgSmall p) : RefSmall p := by
  have h0 := h.txt 0
  have h1 := h.txt 1
  have h2 := h.txt 2
  have h3 := h.txt 3
  refine ⟨?_, ?_, ?_, ?_, fun s hs => ?_, fun i hi d hd => (h.dep i hi).2 d hd⟩
  · unfold maxLen; have : p.name.size ≤ 281474976710656 := h0; omega
  · unfold maxLen; have : p.evr.size ≤ 281474976710656 := h1; omega
  · unfold maxLen; have : p.arch.size ≤ 281474976710656 := h2; omega
  · unfold maxLen; have : p.vendor.size ≤ 281474976710656 := h3; omega
  · have := h.files.1 s hs; unfold maxLen; omega
theorem addHead_ok {reps : List Rep} {nks m : Nat} {nm : ByteArray} {inst : Bool} (h : addHead reps nks nm inst m = 0) : reps.length < 8 ∧ nks + m ≤ 200 := by
  unfold addHead at h
  split at h
  · cases h
  · split at h
    · cases h
    · split at h
      · cases h
      · omega
/-- Both pools, k repositories laid. -/
structure Both2 (w wx : World) (g m : Nat) (kind : Int) (l : List RepE) (k : Nat) (O S T RO : Nat → Prop) (ks : List Kep) (rs : List RRow) (na : List (Nat × Nat)) : Prop where
  pool : PoolAt wx w.heap.size g O S T kind ((l.take k).map RepE.rep) ks
  pkgs : ks.map Kep.p = pksOf (l.take k)
  ref : RPoolAt wx w.heap.size m RO kind rs na
  reps : rs.map RRow.rep = (l.take k).map RepE.rep
  nums : na.length = ks.length
  apart : ∀ j, RO j → ¬ O j ∧ ¬ S j ∧ ¬ T j
  below : Below w.heap.size w wx
def BothAt (w wx : World) (g m : Nat) (kind : Int) (l : List RepE) (k : Nat) : Prop := ∃ O S T RO ks rs na, Both2 w wx g m kind l k O S T RO ks rs na
def PoolsPost (w : World) (kind : Int) (l : List RepE) (e : Ending) (w' : World) : Prop :=
  ∃ g m, e = .returned (.tuple #[.pointer (some ⟨g, 0, none⟩), .pointer (some ⟨m, 0, none⟩)]) ∧ BothAt w w' g m kind l l.length
theorem PoolAt.lt {w : World} {base g : Nat} {O S T : Nat → Prop} {kind : Int} {reps : List Rep} {ks : List Kep} (h : PoolAt w base g O S T kind reps ks) {j : Nat} (hj : O j ∨ S j ∨ T j) : j < w.heap.size := by
  obtain ⟨vr, vp, bm, f, h⟩ := h
  rcases hj with hj | hj | hj
  · exact (h.O_lt hj).2
  · obtain ⟨cs, hc⟩ := h.clean j hj; exact hc.lt
  · obtain ⟨cs, hc⟩ := h.cleanT j hj; exact hc.lt
theorem PoolAt.ge {w : World} {base g : Nat} {O S T : Nat → Prop} {kind : Int} {reps : List Rep} {ks : List Kep} (h : PoolAt w base g O S T kind reps ks) {j : Nat} (hj : O j) : base ≤ j := by
  obtain ⟨vr, vp, bm, f, h⟩ := h
  exact (h.O_lt hj).1
theorem RPoolAt.lt {w : World} {base m : Nat} {RO : Nat → Prop} {kind : Int} {rs : List RRow} {na : List (Nat × Nat)} (h : RPoolAt w base m RO kind rs na) {j : Nat} (hj : RO j) : base ≤ j ∧ j < w.heap.size := by
  obtain ⟨vr, va, h⟩ := h
  exact h.O_lt hj
/-- The project's own answer, and that nothing else has turned. -/
theorem Both2.first {w wx w2 : World} {g m k : Nat} {kind : Int} {l : List RepE} {e : RepE} {O S T RO : Nat → Prop} {ks : List Kep} {rs : List RRow} {na : List (Nat × Nat)} {ea : Ending}
    (h : Both2 w wx g m kind l k O S T RO ks rs na) (he : l[k]? = some e) (hg : GoodRepos l)
    (h2 : Added QC wx w.heap.size g O S T kind ((l.take k).map RepE.rep) ks e.rep.name e.rep.prio e.rep.inst (e.ps.map PkE.p) ea w2) :
    ea = .returned (.int .i64 0) ∧ Below w.heap.size w w2 ∧ RPoolAt w2 w.heap.size m RO kind rs na := by
  obtain ⟨n, hn, rfl, ht, -, hok⟩ := h2
  have hm := List.mem_of_getElem? he
  have hnk : ks.length = (pksOf (l.take k)).length := by rw [← h.pkgs]; simp
  have hh := hg.head k e he
  obtain rfl : n = 0 := by
    rcases hn with ⟨h0, _⟩ | ⟨_, ⟨h0, _⟩ | ⟨h0, i, p, hp, hc, _⟩⟩
    · rw [hnk, List.length_map] at h0; exact absurd hh h0
    · exact h0
    · have := List.mem_of_getElem? hp
      obtain ⟨x, hx, rfl⟩ := List.mem_map.1 this
      exact (hg.chk e hm x hx).2 n hc
  exact ⟨rfl, h.below.trans (ht.below (fun j _ hj => h.pool.ge hj) h.below.size), h.ref.turned ht fun j hj hr => (h.apart j hr).1 hj⟩
/-- One repository more is in both. -/
theorem Both2.next {w wx w2 w3 : World} {g m k : Nat} {kind : Int} {l : List RepE} {e : RepE} {O S T RO : Nat → Prop} {ks : List Kep} {rs : List RRow} {na : List (Nat × Nat)} {pk : Value} {ea eb : Ending}
    (h : Both2 w wx g m kind l k O S T RO ks rs na) (he : l[k]? = some e) (hg : GoodRepos l)
    (h2 : Added QC wx w.heap.size g O S T kind ((l.take k).map RepE.rep) ks e.rep.name e.rep.prio e.rep.inst (e.ps.map PkE.p) ea w2)
    (h3 : RAdded w2 w.heap.size m RO kind rs na e.rep.name e.rep.prio e.rep.inst pk (e.ps.map PkE.p) eb w3) :
    ea = .returned (.int .i64 0) ∧ eb = .returned (.int .i64 0) ∧ Below w.heap.size w w2 ∧ Below w.heap.size w w3 ∧ BothAt w w3 g m kind l (k + 1) := by
  obtain ⟨n, hn, rfl, ht, -, hok⟩ := h2
  obtain ⟨rfl, ht3, -, hok3⟩ := h3
  have hm := List.mem_of_getElem? he
  have hnk : ks.length = (pksOf (l.take k)).length := by rw [← h.pkgs]; simp
  have hh := hg.head k e he
  obtain rfl : n = 0 := by
    rcases hn with ⟨h0, _⟩ | ⟨_, ⟨h0, _⟩ | ⟨h0, i, p, hp, hc, _⟩⟩
    · rw [hnk, List.length_map] at h0; exact absurd hh h0
    · exact h0
    · have := List.mem_of_getElem? hp
      obtain ⟨x, hx, rfl⟩ := List.mem_map.1 this
      exact (hg.chk e hm x hx).2 n hc
  have hz : refAddN rs na.length e.rep.name e.rep.inst (e.ps.map PkE.p) = 0 := by
    rw [refAdd_rest (by rw [h.reps, h.nums, hnk, List.length_map]; exact hh)]
    exact badN_ok _ fun q hq => by
      obtain ⟨x, hx, rfl⟩ := List.mem_map.1 hq
      exact (hg.chk e hm x hx).1
  rw [hz] at hok3 ⊢
  obtain ⟨O', S', T', new, hP, hnew, hrep, hO', hS', hT'⟩ := hok rfl
  obtain ⟨RO', hR, hRO'⟩ := hok3 rfl
  have hlt : ∀ j, RO j → j < wx.heap.size := fun j hj => (h.ref.lt hj).2
  have hs2 : wx.heap.size ≤ w2.heap.size := ht.size
  have hap : ∀ j, RO j → ¬ O' j ∧ ¬ S' j ∧ ¬ T' j := fun j hj => by
    obtain ⟨a1, a2, a3⟩ := h.apart j hj
    have := hlt j hj
    refine ⟨fun h => ?_, fun h => ?_, fun h => ?_⟩
    · rcases hO' j h with h | h
      · exact a1 h
      · omega
    · rcases hS' j h with h | h
      · exact a2 h
      · omega
    · rcases hT' j h with h | h
      · exact a3 h
      · omega
  have hb2 : Below w.heap.size w w2 := h.below.trans (ht.below (fun j _ hj => h.pool.ge hj) h.below.size)
  have hR2 : ∀ j, RO j → w.heap.size ≤ j := fun j hj => (h.ref.lt hj).1
  have hb3 : Below w.heap.size w w3 := hb2.trans (ht3.below (fun j _ hj => hR2 j hj) hb2.size)
  refine ⟨rfl, rfl, hb2, hb3, O', S', T', RO', ks ++ new, _, _, ⟨?_, ?_, hR, ?_, ?_, fun j hj => ?_, hb3⟩⟩
  · rw [List.take_add_one, he, List.map_append]
    exact hP.turned ht3 hap
  · rw [pksOf_take he, List.map_append, h.pkgs, hnew]
  · rw [List.take_add_one, he, List.map_append, List.map_append, h.reps]; rfl
  · have : new.length = e.ps.length := by have := congrArg List.length hnew; simpa using this
    simp [h.nums, this]
  · rcases hRO' j hj with h1 | h1
    · exact hap j h1
    · have hl := fun (x : O' j ∨ S' j ∨ T' j) => hP.lt x
      exact ⟨fun h => by have := hl (.inl h); omega, fun h => by have := hl (.inr (.inl h)); omega, fun h => by have := hl (.inr (.inr h)); omega⟩
/-- The cells of one repository. -/
def SP (b o : Nat) (x0 x1 x2 x3 : Value) (_ : Array Bool) (w' : World) : Prop :=
  w'.cell? ⟨b, o, none⟩ = some x0 ∧ w'.cell? ⟨b, o + 1, none⟩ = some x1 ∧ w'.cell? ⟨b, o + 2, none⟩ = some x2 ∧ w'.cell? ⟨b, o + 3, none⟩ = some x3
theorem SP.io {b o i : Nat} {x0 x1 x2 x3 : Value} (h : i ≠ 100) (l : Array Bool) (w : World) : SP b o x0 x1 x2 x3 (l.setIfInBounds i true) w ↔ SP b o x0 x1 x2 x3 l w := Iff.rfl
theorem Both2.later {w wx w' : World} {g m k : Nat} {kind : Int} {l : List RepE} {O S T RO : Nat → Prop} {ks : List Kep} {rs : List RRow} {na : List (Nat × Nat)}
    (h : Both2 w wx g m kind l k O S T RO ks rs na) (hb : Below wx.heap.size wx w') : Both2 w w' g m kind l k O S T RO ks rs na :=
  ⟨h.pool.below hb, h.pkgs, h.ref.below hb, h.reps, h.nums, h.apart, h.below.trans (hb.mono h.below.size)⟩
theorem ReposAt.later {w w' : World} {V S T U : Nat → Prop} {l : List RepE} {A : Option Addr} (h : ReposAt w V S T U l A) (hb : Below w.heap.size w w') : ReposAt w' V S T U l A := fun i e he => by
  obtain ⟨b, o, Ap, cp, h1, h2, c0, c1, c2, c3, h3, h4, h5⟩ := h i e he
  have hbl := hb.block b (cell_lt c0)
  exact ⟨b, o, Ap, cp, h1, h2, (World.cell?_of_block hbl).trans c0, (World.cell?_of_block hbl).trans c1, (World.cell?_of_block hbl).trans c2, (World.cell?_of_block hbl).trans c3, h3, h4, h5.below hb⟩
theorem checks_of {w : World} {S : Nat → Prop} {p : Pkg} (hC : CleanS w S) (hT : Tabs w) (hs : PkgSmall p) : ChecksAt QC S p w := fun i hi d hd t w' hb hL =>
  (depCheck_any d t S w' hL (hC.stay (StayS.below' hb)) (hT.below hb hT.two) ((hs.dep i hi).2 d hd).2).mono fun e w2 ⟨h1, h2⟩ => ⟨⟨_, rfl, h1⟩, h2⟩
def NewRef (w : World) (kind : Int) (e : Ending) (w' : World) : Prop := Below w.heap.size w w' ∧ ∃ m RO, e = .returned (.tuple #[.pointer (some ⟨m, 0, none⟩), .int .i64 0]) ∧ RPoolAt w' w.heap.size m RO kind [] []
set_option maxHeartbeats 1000000 in
set_option maxRecDepth 100000 in
theorem refNew_any (kind : Int) (hk : kind = 1 ∨ kind = 2) (w : World) : Calls Tryz.prog 15 #[.int .i64 kind] w (NewRef w kind) := by
  have HP : Hid (NewRef w kind (.returned (.tuple #[.pointer (some ⟨w.heap.size, 0, none⟩), .int .i64 0])) (w.alloc (.cells #[.int .i64 kind, .slice none 0 0, .slice none 0 0] 68))) :=
    ⟨(Below.refl _ _).alloc (Nat.le_refl _) _, w.heap.size, RPoolO w.heap.size (.slice none 0 0) (.slice none 0 0), rfl, _, _, ⟨Blk.new _ _ _, World.ownsRow_nil _ _ _ _, World.ownsRow_nil _ _ _ _, Nat.le_refl _, fun _ => Iff.rfl⟩⟩
  rcases hk with rfl | rfl
  all_goals
    go_enter Tryz.func15, Tryz.ntmps15
    go_wp2_with fail
    go_ret2
    exact HP.out
theorem RPoolAt.base {w : World} {base base' m : Nat} {RO : Nat → Prop} {kind : Int} (h : RPoolAt w base' m RO kind [] []) (hb : base ≤ base') : RPoolAt w base m RO kind [] [] := by
  obtain ⟨vr, va, h⟩ := h
  exact ⟨vr, va, h.blk, own_base' h.repo hb, own_base' h.ats hb, Nat.le_trans hb h.gfar, h.mine⟩
end Go.Proofs.YtpmfmkpfjomgnaaGreatDoor
