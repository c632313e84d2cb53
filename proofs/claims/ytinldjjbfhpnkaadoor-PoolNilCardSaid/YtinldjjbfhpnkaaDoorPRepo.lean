/- A pool's repositories: whether one of them is so. -/
import Derived.Test.YtinldjjbfhpnkaaDoorPKept
import Derived.Test.YtinldjjbfhpnkaaDoorPCheck
import Derived.Test.YtinldjjbfhpnkaaDoorMapR
namespace Go.Proofs.YtinldjjbfhpnkaaDoor
set_option linter.unusedSimpArgs false
set_option linter.unusedVariables false
open Go.RowKit

structure Rep where
  name : ByteArray
  prio : Int
  inst : Bool
/-- A repository as a pool keeps it. -/
def rowR (r : Rep) : Array Value := #[.string r.name, .int .i64 r.prio, .bool r.inst, .slice none 0 0]
def cells4 (l : List Rep) : List Value := l.flatMap fun r => [.string r.name, .int .i64 r.prio, .bool r.inst, .slice none 0 0]
theorem cells4_append (a b : List Rep) : cells4 (a ++ b) = cells4 a ++ cells4 b := by simp [cells4]
theorem cells4_len (l : List Rep) : (cells4 l).length = l.length * 4 := by
  induction l with
  | nil => rfl
  | cons x r ih => show ([_, _, _, _] ++ cells4 r).length = _; rw [List.length_append, ih]; simp; omega
theorem cells4_at {l : List Rep} {k : Nat} {x : Rep} (h : l[k]? = some x) : (cells4 l)[k * 4]? = some (.string x.name) ∧ (cells4 l)[k * 4 + 1]? = some (.int .i64 x.prio) ∧ (cells4 l)[k * 4 + 2]? = some (.bool x.inst) ∧ (cells4 l)[k * 4 + 3]? = some (.slice none 0 0) := by
  induction l generalizing k with
  | nil => cases h
  | cons y r ih =>
    cases k with
    | zero => injection h with h; subst h; exact ⟨rfl, rfl, rfl, rfl⟩
    | succ k =>
      have := ih (k := k) (by simpa using h)
      have e : ∀ i, (cells4 (y :: r))[(k + 1) * 4 + i]? = (cells4 r)[k * 4 + i]? := fun i => by
        show ([_, _, _, _] ++ cells4 r)[(k + 1) * 4 + i]? = _
        rw [List.getElem?_append_right (by simp; omega)]
        congr 1
        simp; omega
      have e0 := e 0
      simp only [Nat.add_zero] at e0
      rw [e0, e 1, e 2, e 3]
      exact this
theorem cells4_one (l : List Rep) : ∀ u ∈ cells4 l, u.oneCell' = true := by
  intro u hu
  obtain ⟨x, hx, hu⟩ := List.mem_flatMap.1 hu
  simp at hu
  rcases hu with rfl | rfl | rfl | rfl <;> rfl

/-- What is asked of a repository. -/
def AskRep (f : FuncId) (cap : Array Value) (p : Rep → Bool) (w0 : World) : Prop :=
  ∀ (r : Rep) (w : World), Below w0.heap.size w0 w → Calls Tryd.prog f (#[.agg (rowR r)] ++ cap) w fun e w' => e = .returned (.bool (p r)) ∧ Below w.heap.size w w'
set_option maxHeartbeats 2000000 in
set_option maxRecDepth 100000 in
theorem repIndex_any (f : FuncId) (cap : Array Value) (ef : ∀ args w, (callFunc f args).run Tryd.prog w = .ok (.enter f args) w) (p : Rep → Bool) (rs : List Rep) (A : Option Addr) (c : Nat) (base : Nat) (w0 : World) (hA : w0.ownsRow base 34 4 (.slice A rs.length c) rs.length (cells4 rs)) (hc : c ≤ maxLen)
    (hp : AskRep f cap p w0) :
    Calls Tryd.prog 89 #[.slice A rs.length c, .func (.func f) #[] cap] w0 fun e w' => IdxPost rs (fun r b => b = p r) e ∧ Below w0.heap.size w0 w' := by
  unfold maxLen at hc
  have hl : rs.length ≤ c := by
    rcases hA.2 with ⟨h, h2⟩ | ⟨g, cp, cur, h, _, _, h1, _⟩
    · injection h with _ h3 h4; omega
    · injection h with _ h3 h4; omega
  have HA := Lib.hid hA
  have HPr := Lib.hid hp
  clear hA hp
  go_enter Tryd.func89, Tryd.ntmps89
  go_wp2_with fail
  go_loopw [8] (fun i wx => ∃ k : Nat, k ≤ rs.length ∧ i = .int .i64 (k : Int) ∧ Hid (∀ a ∈ rs.take k, p a = false) ∧ Hid (Below w0.heap.size w0 wx)) (fun i _ => rs.length - (intOf i).toNat)
  case atStart => exact ⟨0, Nat.zero_le _, rfl, show ∀ a ∈ rs.take 0, p a = false from by simp, Below.refl _ _⟩
  case round =>
    obtain ⟨k, hk, rfl, hall, hb⟩ := hrel
    by_cases hlt : k < rs.length
    · obtain ⟨q0, q1, q2, q3⟩ := cells4_at (List.getElem?_eq_getElem hlt)
      obtain ⟨b, rfl, k0⟩ := own_ats HA.out q0
      obtain ⟨_, e1, k1⟩ := own_ats HA.out q1
      obtain ⟨_, e2, k2⟩ := own_ats HA.out q2
      obtain ⟨_, e3, k3⟩ := own_ats HA.out q3
      injection e1 with e1; injection e1 with e1; subst e1
      injection e2 with e2; injection e2 with e2; subst e2
      injection e3 with e3; injection e3 with e3; subst e3
      have hbl := hb.out.block b (cell_lt k0)
      have c0 := (World.cell?_of_block hbl).trans k0
      have c1 := (World.cell?_of_block hbl).trans k1
      have c2 := (World.cell?_of_block hbl).trans k2
      have c3 := (World.cell?_of_block hbl).trans k3
      have C := Lib.hid (HPr.out rs[k] wr hb.out)
      unfold rowR at C
      have hz := hb.out.size
      clear q0 q1 q2 q3 k0 k1 k2 k3 hbl
      go_wp2_with fail
      refine C.out.mono ?_
      rintro e w1 ⟨rfl, hb1⟩
      have HB : Hid (Below w0.heap.size w0 w1) := hb.out.trans (hb1.mono hz)
      clear hb1 hb C c0 c1 c2 c3
      cases hv : p rs[k] with
      | false =>
        have HN : Hid (∀ a ∈ rs.take (k + 1), p a = false) := alls_snoc hall.out (List.getElem?_eq_getElem hlt) hv
        clear hall hv
        go_wp2_with fail
        go_roundw
        case rel => exact ⟨k + 1, by omega, by go_num, HN, HB⟩
        case measure => simp [intOf]; omega
      | true =>
        have HN : Hid (Anys rs (fun r b => b = p r) true) := .inl ⟨rfl, rs[k], List.getElem_mem hlt, hv.symm⟩
        clear hall hv
        go_wp2_with fail
        go_ret
        exact ⟨⟨k, true, by simp, HN.out, rfl⟩, HB.out⟩
    · have HN : Hid (Anys rs (fun r b => b = p r) false) := .inr ⟨rfl, by
        have := hall.out
        rw [List.take_of_length_le (by omega)] at this
        exact fun a ha => (this a ha).symm⟩
      clear hall
      go_wp2_with fail
      go_ret
      exact ⟨⟨-1, false, by decide, HN.out, rfl⟩, hb.out⟩
set_option maxHeartbeats 1000000 in
set_option maxRecDepth 100000 in
theorem repContains_any (f : FuncId) (cap : Array Value) (ef : ∀ args w, (callFunc f args).run Tryd.prog w = .ok (.enter f args) w) (p : Rep → Bool) (rs : List Rep) (A : Option Addr) (c : Nat) (base : Nat) (w0 : World) (hA : w0.ownsRow base 34 4 (.slice A rs.length c) rs.length (cells4 rs)) (hc : c ≤ maxLen)
    (hp : AskRep f cap p w0) :
    Calls Tryd.prog 80 #[.slice A rs.length c, .func (.func f) #[] cap] w0 fun e w' => e = .returned (.bool (rs.any p)) ∧ Below w0.heap.size w0 w' := by
  have C := Lib.hid (repIndex_any f cap ef p rs A c base w0 hA hc hp)
  clear hA hp
  go_enter Tryd.func80, Tryd.ntmps80
  go_wp2_with fail
  refine C.out.mono ?_
  rintro e w1 ⟨⟨n, b, hn, ha, rfl⟩, hb1⟩
  have HB := Lib.hid hb1
  have HN := Lib.hid (hn.trans (ha.det (fun _ _ h => h)))
  clear hb1 hn C ha
  go_wp2_with fail
  go_ret
  exact ⟨ret_bool HN.out, HB.out⟩
set_option maxHeartbeats 1000000 in
set_option maxRecDepth 100000 in
/-- .. it has that name. -/
theorem askName (g : Nat) (w0 : World) (nm : ByteArray) (x1 x2 x3 : Value) (t : TypeId) (hK : Blk w0 g t #[.string nm, x1, x2, x3]) : AskRep 60 #[.pointer (some ⟨g, 0, none⟩)] (fun r => decide (r.name = nm)) w0 := by
  intro r w hb
  have k0 := (hK.below hb hK.lt).cell 0
  simp at k0
  have HB : Hid (Below w.heap.size w (w.alloc (.cells (rowR r) 34))) := (Below.refl _ _).alloc (Nat.le_refl _) _
  have hz := (hK.below hb hK.lt).lt
  clear hK hb
  unfold rowR at HB ⊢
  show Calls Tryd.prog _ #[.agg #[.string r.name, .int .i64 r.prio, .bool r.inst, .slice none 0 0], .pointer (some ⟨g, 0, none⟩)] w fun e w' => e = .returned (.bool (decide (r.name = nm))) ∧ Below w.heap.size w w'
  obtain ⟨x, hx⟩ : ∃ x, x = decide (r.name = nm) := ⟨_, rfl⟩
  rw [← hx]
  have HX := Lib.hid hx
  clear hx
  by_cases h : r.name = nm
  · have HV : Hid (x = true) := HX.out.trans (decide_eq_true h)
    have t1 := str_yes h
    clear HX h
    go_enter Tryd.func60, Tryd.ntmps60
    go_wp2_with fail
    go_ret
    exact ⟨by rw [HV.out]; rfl, HB.out⟩
  · have HV : Hid (x = false) := HX.out.trans (decide_eq_false h)
    have t1 := str_ne h
    clear HX h
    go_enter Tryd.func60, Tryd.ntmps60
    go_wp2_with fail
    go_ret
    exact ⟨by rw [HV.out]; rfl, HB.out⟩
set_option maxHeartbeats 1000000 in
set_option maxRecDepth 100000 in
/-- .. it is the installed one. -/
theorem askInst (w0 : World) : AskRep 61 #[] Rep.inst w0 := by
  intro r w hb
  have HB : Hid (Below w.heap.size w (w.alloc (.cells (rowR r) 34))) := (Below.refl _ _).alloc (Nat.le_refl _) _
  clear hb
  unfold rowR at HB ⊢
  show Calls Tryd.prog _ #[.agg #[.string r.name, .int .i64 r.prio, .bool r.inst, .slice none 0 0]] w fun e w' => e = .returned (.bool r.inst) ∧ Below w.heap.size w w'
  go_enter Tryd.func61, Tryd.ntmps61
  go_wp2_with fail
  go_ret
  exact ⟨rfl, HB.out⟩
end Go.Proofs.YtinldjjbfhpnkaaDoor
