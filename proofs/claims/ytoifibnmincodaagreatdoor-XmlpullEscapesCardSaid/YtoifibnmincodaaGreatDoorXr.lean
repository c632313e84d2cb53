/- A reader in memory; what takes from it. -/
import Derived.Test.YtoifibnmincodaaGreatDoorXp
namespace Go.Proofs.YtoifibnmincodaaGreatDoor
set_option linter.unusedSimpArgs false
set_option linter.unusedVariables false
open Go.RowKit

def RdB (w : World) (g : Nat) (r : Bs) (v1 v2 v3 v4 : Value) : Prop := Blk w g 76 #[.string (mkS r), v1, v2, v3, v4]
/-- A call took from the reader at g what res tells, or gave up. -/
def Ate {α : Type} (w : World) (g : Nat) (v1 v2 v3 v4 : Value) (res : RR α) (enc : α → Value) (e : Ending) (w' : World) : Prop :=
  Turned [g] w w' ∧ ∃ r', RdB w' g r' v1 v2 v3 v4 ∧ ((∃ a, res = .ok (a, r') ∧ e = .returned (enc a)) ∨ ∃ k, res = .error k ∧ e = gaveUp k)
theorem Ate.ok {α : Type} {w w' : World} {g : Nat} {v1 v2 v3 v4 : Value} {res : RR α} {enc : α → Value} {e : Ending} {x : α × Bs} (h : Ate w g v1 v2 v3 v4 res enc e w') (hx : res = .ok x) : Turned [g] w w' ∧ RdB w' g x.2 v1 v2 v3 v4 ∧ e = .returned (enc x.1) := by
  obtain ⟨ht, r', hr, ⟨a, ha, he⟩ | ⟨k, hk, he⟩⟩ := h
  · rw [hx] at ha; injection ha with ha; subst ha; exact ⟨ht, hr, he⟩
  · rw [hx] at hk; cases hk
theorem Ate.no {α : Type} {w w' : World} {g : Nat} {v1 v2 v3 v4 : Value} {res : RR α} {enc : α → Value} {e : Ending} {k : Int} (h : Ate w g v1 v2 v3 v4 res enc e w') (hx : res = .error k) : Turned [g] w w' ∧ (∃ r', RdB w' g r' v1 v2 v3 v4) ∧ e = gaveUp k := by
  obtain ⟨ht, r', hr, ⟨a, ha, he⟩ | ⟨k, hk, he⟩⟩ := h
  · rw [hx] at ha; cases ha
  · rw [hx] at hk; injection hk with hk; subst hk; exact ⟨ht, ⟨r', hr⟩, he⟩
theorem Ate.mkOk {α : Type} {w w' : World} {g : Nat} {v1 v2 v3 v4 : Value} {res : RR α} {enc : α → Value} {a : α} {r : Bs} (ht : Turned [g] w w') (hr : RdB w' g r v1 v2 v3 v4) (hx : res = .ok (a, r)) : Ate w g v1 v2 v3 v4 res enc (.returned (enc a)) w' := ⟨ht, r, hr, .inl ⟨a, hx, rfl⟩⟩
theorem Ate.mkNo {α : Type} {w w' : World} {g : Nat} {v1 v2 v3 v4 : Value} {res : RR α} {enc : α → Value} {k : Int} {r : Bs} (ht : Turned [g] w w') (hr : RdB w' g r v1 v2 v3 v4) (hx : res = .error k) : Ate w g v1 v2 v3 v4 res enc (gaveUp k) w' := ⟨ht, r, hr, .inr ⟨k, hx, rfl⟩⟩
theorem frG (w : World) (g : Nat) : Fresh w [g] [g] := Fresh.refl _ _

section
variable {w : World} {g : Nat} {r : Bs} {v1 v2 v3 v4 : Value}
theorem RdB.set_ (h : RdB w g r v1 v2 v3 v4) (r' : Bs) : RdB (w.setCell ⟨g, 0, none⟩ (.string (mkS r'))) g r' v1 v2 v3 v4 := Blk.set_ h 0 (.string (mkS r'))
theorem RdB.below {w' : World} (h : RdB w g r v1 v2 v3 v4) (hb : Below w.heap.size w w') : RdB w' g r v1 v2 v3 v4 := Blk.below h hb (Blk.lt h)
set_option maxHeartbeats 400000 in
set_option maxRecDepth 100000 in
theorem takes_any (h : RdB w g r v1 v2 v3 v4) (p : Bs) :
    Calls Tryz.prog 42 #[.pointer (some ⟨g, 0, none⟩), .string (mkS p)] w fun e w' => e = .returned (.bool (Lib.hasPrefix r p)) ∧ Turned [g] w w' ∧ RdB w' g (Lib.trimPrefix r p) v1 v2 v3 v4 := by
  have C := Lib.hid (fun w => Tryz.strings_CutPrefix (mkS r) (mkS p) w)
  rw [show (mkS r).data.toList = r from rfl, show (mkS p).data.toList = p from rfl] at C
  have HV : Hid (Turned [g] w (w.setCell ⟨g, 0, none⟩ (.string (mkS (Lib.trimPrefix r p)))) ∧ RdB (w.setCell ⟨g, 0, none⟩ (.string (mkS (Lib.trimPrefix r p)))) g (Lib.trimPrefix r p) v1 v2 v3 v4) := ⟨(Turned.refl _ _).setCell (.inl (by simp)) _, h.set_ _⟩
  have c0 := Blk.cell h 0
  have f0 := Blk.free h 0
  simp at c0
  clear h
  unfold mkS at *
  generalize Lib.trimPrefix r p = q at *
  generalize Lib.hasPrefix r p = b at *
  go_enter Tryz.func42, Tryz.ntmps42
  go_wp2_with fail
  refine (C.out _).mono ?_
  rintro e w1 ⟨rfl, rfl⟩
  go_wp2_with fail
  go_ret
  exact ⟨rfl, HV.out⟩
def uV (_ : Unit) : Value := .tuple #[]
def sV (l : Bs) : Value := .string (mkS l)
set_option maxHeartbeats 400000 in
set_option maxRecDepth 100000 in
theorem want_any (h : RdB w g r v1 v2 v3 v4) (p : Bs) :
    Calls Tryz.prog 44 #[.pointer (some ⟨g, 0, none⟩), .string (mkS p)] w (Ate w g v1 v2 v3 v4 (wantR p r) uV) := by
  have C := Lib.hid (takes_any h p)
  clear h
  have CY := Lib.hid (must_yes 100)
  have CX := Lib.hid (must_no 100)
  have HE : Hid (wantR p r = if Lib.hasPrefix r p = true then .ok ((), Lib.trimPrefix r p) else .error 100) := rfl
  generalize wantR p r = res at *
  generalize Lib.trimPrefix r p = q at *
  generalize Lib.hasPrefix r p = b at *
  cases b with
  | true =>
    go_enter Tryz.func44, Tryz.ntmps44
    go_wp2_with fail
    refine C.out.mono ?_
    rintro e w1 ⟨rfl, ht, hr⟩
    have HT := Lib.hid ht
    have HR := Lib.hid hr
    clear ht hr C
    go_wp2_with fail
    refine (CY.out _).mono ?_
    rintro e w2 ⟨rfl, rfl⟩
    go_wp2_with fail
    go_end0
    exact Ate.mkOk HT.out HR.out HE.out
  | false =>
    go_enter Tryz.func44, Tryz.ntmps44
    go_wp2_with fail
    refine C.out.mono ?_
    rintro e w1 ⟨rfl, ht, hr⟩
    have HT := Lib.hid ht
    have HR := Lib.hid hr
    clear ht hr C
    go_wp2_with fail
    refine (CX.out _).mono ?_
    rintro e w2 ⟨rfl, rfl⟩
    unfold gaveUp
    go_wp2_with fail
    exact ⟨rfl, Ate.mkNo HT.out HR.out HE.out⟩
theorem mkS_size (l : Bs) : (mkS l).size = l.length := rfl
theorem mkS_take (l : Bs) (n : Nat) : (mkS l).extract 0 n = mkS (l.take n) := s_ext (by rw [bl_upto, mkS_list, mkS_list])
theorem mkS_drop (l : Bs) (n : Nat) : (mkS l).extract n (mkS l).size = mkS (l.drop n) := s_ext (by rw [bl_from, mkS_list, mkS_list])
theorem all_while {p : UInt8 → Bool} {l : Bs} : decide ((l.takeWhile p).length = l.length) = l.all p := by
  induction l with
  | nil => rfl
  | cons b l ih =>
    rw [List.takeWhile_cons, List.all_cons]
    cases hb : p b with
    | true => simp only [if_true, List.length_cons, Bool.true_and]; rw [← ih]; simp
    | false => simp
set_option maxHeartbeats 1000000 in
set_option maxRecDepth 100000 in
theorem take_any (h : RdB w g r v1 v2 v3 v4) (n : Nat) (hn : n ≤ r.length) (hr : r.length ≤ 40000) :
    Calls Tryz.prog 93 #[.pointer (some ⟨g, 0, none⟩), .int .i64 (n : Int)] w (Ate w g v1 v2 v3 v4 (takeR n r) sV) := by
  have C := Lib.hid (fun w => span_may (mkS (r.take n)) (by rw [mkS_size]; unfold maxLen; simp; omega) w)
  have CY := Lib.hid (must_yes 100)
  have CX := Lib.hid (must_no 100)
  have HE : Hid (takeR n r = if (r.take n).all xMay = true then .ok (r.take n, r.drop n) else .error 100) := rfl
  have hlen : (r.take n).length = n := by simp; omega
  have hall : decide (((r.take n).takeWhile xMay).length = n) = (r.take n).all xMay := by rw [← all_while, hlen]
  rw [mkS_list] at C
  have HV : Hid (Turned [g] w (w.setCell ⟨g, 0, none⟩ (.string (mkS (r.drop n)))) ∧ RdB (w.setCell ⟨g, 0, none⟩ (.string (mkS (r.drop n)))) g (r.drop n) v1 v2 v3 v4) := ⟨(Turned.refl _ _).setCell (.inl (by simp)) _, h.set_ _⟩
  have HR := Lib.hid h
  have c0 := Blk.cell h 0
  have f0 := Blk.free h 0
  simp at c0
  have e1 := mkS_take r n
  have e2 := mkS_drop r n
  have hs : (mkS r).size = r.length := rfl
  rw [hs] at e2
  have hz : (mkS r).size ≤ 40000 := by rw [hs]; exact hr
  have hnz : n ≤ (mkS r).size := by rw [hs]; exact hn
  rw [← hs] at e2
  generalize takeR n r = res at *
  clear h hlen hs hr hn
  generalize (r.take n).all xMay = b at *
  generalize ((r.take n).takeWhile xMay).length = m at *
  obtain ⟨T, hT⟩ : ∃ T, T = mkS (r.take n) := ⟨_, rfl⟩
  rw [← hT] at C e1
  have HT := Lib.hid hT
  clear hT
  generalize mkS (r.drop n) = D at *
  generalize mkS r = S at *
  cases b with
  | true =>
    have hm : m = n := by simpa using hall
    subst hm
    clear hall
    go_enter Tryz.func93, Tryz.ntmps93
    go_wp2_with fail
    refine (C.out _).mono ?_
    rintro e w1 ⟨rfl, rfl⟩
    go_wp2_with fail
    refine (CY.out _).mono ?_
    rintro e w2 ⟨rfl, rfl⟩
    go_wp2_with fail
    go_ret
    rw [HT.out]
    exact Ate.mkOk (a := List.take m r) HV.out.1 HV.out.2 (by have := HE.out; simpa using this)
  | false =>
    have hm : ¬ m = n := by simpa using hall
    have hb : ((m : Int) == (n : Int)) = false := by simp; omega
    clear hall hm
    go_enter Tryz.func93, Tryz.ntmps93
    go_wp2_with fail
    refine (C.out _).mono ?_
    rintro e w1 ⟨rfl, rfl⟩
    go_wp2_with fail
    refine (CX.out _).mono ?_
    rintro e w2 ⟨rfl, rfl⟩
    unfold gaveUp
    go_wp2_with fail
    exact ⟨rfl, Ate.mkNo (Turned.refl _ _) HR.out (by have := HE.out; simpa using this)⟩
end
end Go.Proofs.YtoifibnmincodaaGreatDoor
