/- What the document says of XML's pieces, as functions of lists of bytes. The kinds of bytes, how many stand at a text's beginning; what must be. A reader in memory; what takes from it. What stands ahead of a mark; layout; a name. Where the first of some bytes stands in a text of any bytes: the library's own search among bytes below 128. Where the first of some bytes below 128 stands in a text of any bytes. -/
import Derived.Test.YtljldbdjkjllhaaGreatDoorWab
import Derived.Lib.IndexMore
import Derived.Lib.RuneBytes
import Derived.Lib.Strings
import Derived.Lib.Small
import Derived.Test.YtljldbdjkjllhaaGreatDoorWaa
import Derived.Laws.RangeAny
import Derived.Laws.Runes
import Derived.Deep.LoopGhost
import Derived.WalkMore
/- What the document says of XML's pieces, as functions of lists of bytes. -/
namespace Go.Proofs.YtljldbdjkjllhaaGreatDoor
set_option linter.unusedSimpArgs false
set_option linter.unusedVariables false
open Go.RowKit

abbrev Bs := List UInt8
abbrev RR (α : Type) := Except Int (α × Bs)
def xLay (c : UInt8) : Bool := c == 9 || c == 10 || c == 13 || c == 32
def xMay (c : UInt8) : Bool := decide (32 ≤ c.toNat) || xLay c
def xFirst (c : UInt8) : Bool := (decide (97 ≤ c.toNat) && decide (c.toNat ≤ 122)) || (decide (65 ≤ c.toNat) && decide (c.toNat ≤ 90)) || decide (c.toNat = 95)
def xOf (c : UInt8) : Bool := xFirst c || (decide (48 ≤ c.toNat) && decide (c.toNat ≤ 57)) || decide (c.toNat = 46) || decide (c.toNat = 58) || decide (c.toNat = 45)
def takeR (n : Nat) (l : Bs) : RR Bs := if (l.take n).all xMay = true then .ok (l.take n, l.drop n) else .error 100
def wantR (p l : Bs) : RR Unit := if Lib.hasPrefix l p = true then .ok ((), Lib.trimPrefix l p) else .error 100
def plainN (stops l : Bs) : Nat := (l.takeWhile fun b => !stops.contains b).length
def plainR (stops l : Bs) : RR Bs := takeR (plainN stops l) l
def upToR (mark l : Bs) : RR Bs := if 0 ≤ Lib.index l mark then (takeR (Lib.index l mark).toNat l).bind fun x => (wantR mark x.2).map fun y => (x.1, y.2) else .error 100
def nameN (l : Bs) : Nat := match l with
  | [] => 0
  | c :: r => if xFirst c = true then ((c :: r).takeWhile xOf).length else 0
def nameR (l : Bs) : RR Bs := if 0 < nameN l ∧ nameN l ≤ 60 then takeR (nameN l) l else .error 100
def digX (c : UInt8) : Nat := if 48 ≤ c.toNat ∧ c.toNat ≤ 57 then c.toNat - 48 else if 97 ≤ (c ||| 32).toNat ∧ (c ||| 32).toNat ≤ 122 then (c ||| 32).toNat - 87 else 99
def numX (base : Nat) : Nat → Bs → Option Nat
  | acc, [] => some acc
  | acc, c :: r => if digX c < base then numX base (acc * base + digX c) r else none
def uintX (base : Nat) (d : Bs) : Option Nat := if d = [] then none else numX base 0 d
def standsX (n : Nat) : Bool := Lib.validRune (n : Int) && (decide (32 ≤ n) || xLay n.toUInt8)
def numR (base most : Nat) (d : Bs) : Option Nat := if most < d.length then none else match uintX base d with
  | none => none
  | some n => if standsX n = true then some n else none
def ents : List (Bs × UInt8) := [([108, 116], 60), ([103, 116], 62), ([97, 109, 112], 38), ([113, 117, 111, 116], 34), ([97, 112, 111, 115], 39)]
def charH (nm : Bs) : Option Nat :=
  if Lib.hasPrefix nm [35, 120] = true then numR 16 6 (Lib.trimPrefix nm [35, 120])
  else if Lib.hasPrefix nm [35] = true then numR 10 7 (Lib.trimPrefix nm [35]) else none
def charR (nm : Bs) : Option Nat := match ents.find? (fun e => decide (e.1 = nm)) with
  | some e => some e.2.toNat
  | none => charH nm
def entityR (l : Bs) : RR Nat := if (Lib.cut l [59]).2.2 = true then match charR (Lib.cut l [59]).1 with
    | some c => .ok (c, (Lib.cut l [59]).2.1)
    | none => .error 103
  else .error 103
def cdataB : Bs := [60, 33, 91, 67, 68, 65, 84, 65, 91]
def runR : Nat → Bs → Bs → RR Bs
  | 0, _, _ => .error 100
  | k + 1, out, l => (plainR [60, 38] l).bind fun x =>
    if Lib.hasPrefix x.2 [38] = true then (entityR (Lib.trimPrefix x.2 [38])).bind fun y => runR k (out ++ x.1 ++ Lib.encodeRune (y.1 : Int)) y.2
    else if Lib.hasPrefix x.2 cdataB = true then (upToR [93, 93, 62] (Lib.trimPrefix x.2 cdataB)).bind fun y => runR k (out ++ x.1 ++ y.1) y.2
    else if Lib.hasPrefix x.2 [60, 33, 45, 45] = true then (upToR [45, 45] (Lib.trimPrefix x.2 [60, 33, 45, 45])).bind fun y => (wantR [62] y.2).bind fun z => runR k (out ++ x.1) z.2
    else if Lib.hasPrefix x.2 [60, 63] = true then (nameR (Lib.trimPrefix x.2 [60, 63])).bind fun y => (upToR [63, 62] y.2).bind fun z => runR k (out ++ x.1) z.2
    else if Lib.hasPrefix x.2 [60, 33] = true then .error 100 else .ok (out ++ x.1, x.2)
/-- A piece; a reader. -/
structure Pc where
  kind : Int
  name : Bs
  attrs : List (Bs × Bs)
  text : Bs
structure XS where
  rest : Bs
  opn : List Bs
  begun : Bool
  short : Bool
/-! What is left is no more than there was. -/
theorem takeR_len {n : Nat} {l : Bs} {x : Bs × Bs} (h : takeR n l = .ok x) : x.2.length = l.length - n ∧ x.1 = l.take n ∧ x.2 = l.drop n := by
  unfold takeR at h
  split at h
  · injection h with h; subst h; exact ⟨by simp, rfl, rfl⟩
  · cases h
theorem trim_len (l p : Bs) : (Lib.trimPrefix l p).length ≤ l.length := by
  unfold Lib.trimPrefix; split
  · simp
  · exact Nat.le_refl _
theorem trim_lt {l p : Bs} (h : Lib.hasPrefix l p = true) (hp : 0 < p.length) : (Lib.trimPrefix l p).length < l.length := by
  unfold Lib.trimPrefix
  rw [if_pos h]
  unfold Lib.hasPrefix at h
  have := (List.isPrefixOf_iff_prefix.1 h).length_le
  simp; omega
theorem wantR_len {p l : Bs} {x : Unit × Bs} (h : wantR p l = .ok x) : x.2.length ≤ l.length ∧ x.2 = Lib.trimPrefix l p ∧ Lib.hasPrefix l p = true := by
  unfold wantR at h
  split at h
  · rename_i hp; injection h with h; subst h; exact ⟨trim_len _ _, rfl, hp⟩
  · cases h
theorem bind_ok {α β : Type} {e : Except Int α} {f : α → Except Int β} {y : β} (h : e.bind f = .ok y) : ∃ x, e = .ok x ∧ f x = .ok y := by
  cases e with
  | error k => cases h
  | ok x => exact ⟨x, rfl, h⟩
theorem map_ok {α β : Type} {e : Except Int α} {f : α → β} {y : β} (h : e.map f = .ok y) : ∃ x, e = .ok x ∧ f x = y := by
  cases e with
  | error k => cases h
  | ok x => injection h with h; exact ⟨x, rfl, h⟩
theorem upToR_len {p l : Bs} {x : Bs × Bs} (h : upToR p l = .ok x) : x.2.length ≤ l.length := by
  unfold upToR at h
  split at h
  · obtain ⟨y, hy, h⟩ := bind_ok h
    obtain ⟨z, hz, h⟩ := map_ok h
    subst h
    have := (takeR_len hy).1
    have := (wantR_len hz).1
    show z.2.length ≤ _; omega
  · cases h
theorem nameR_len {l : Bs} {x : Bs × Bs} (h : nameR l = .ok x) : x.2.length < l.length := by
  unfold nameR at h
  split at h
  · rename_i hn
    have h1 := (takeR_len h).1
    cases l with
    | nil => simp [nameN] at hn
    | cons c r => simp only [List.length_cons] at *; omega
  · cases h
theorem cut_len (l : Bs) : (Lib.cut l [59]).2.1.length ≤ l.length := by
  unfold Lib.cut
  split
  · show (l.drop _).length ≤ _; simp
  · exact Nat.zero_le _
theorem entityR_len {l : Bs} {x : Nat × Bs} (h : entityR l = .ok x) : x.2.length ≤ l.length := by
  unfold entityR at h
  split at h
  · split at h
    · injection h with h; subst h; exact cut_len l
    · cases h
  · cases h
end Go.Proofs.YtljldbdjkjllhaaGreatDoor

/- The kinds of bytes, how many stand at a text's beginning; what must be. -/
namespace Go.Proofs.YtljldbdjkjllhaaGreatDoor
set_option linter.unusedSimpArgs false
set_option linter.unusedVariables false
open Go.RowKit

/-- What gives up with an error. -/
def gaveUp (n : Int) : Ending := .panicked [{ v := .iface 25 (.int .i64 n), recovered := false }]
set_option maxRecDepth 100000 in
theorem must_yes (n : Int) (w : World) : Calls Tryz.prog 87 #[.bool true, .int .i64 n] w fun e w' => e = .returned (.tuple #[]) ∧ w = w' := by
  go_enter Tryz.func87, Tryz.ntmps87
  go_wp2_with fail
  go_end0
  exact ⟨rfl, rfl⟩
set_option maxRecDepth 100000 in
theorem must_no (n : Int) (w : World) : Calls Tryz.prog 87 #[.bool false, .int .i64 n] w fun e w' => e = gaveUp n ∧ w = w' := by
  go_enter Tryz.func87, Tryz.ntmps87
  go_wp2_with fail
  exact ⟨rfl, ⟨rfl, rfl⟩⟩
theorem lay_ix : ∀ c : UInt8, decide ((0 : Int) ≤ Lib.indexByte [9, 10, 13, 32] c) = xLay c := by
  have h : ∀ n : Fin 256, decide ((0 : Int) ≤ Lib.indexByte [9, 10, 13, 32] (UInt8.ofNat n.1)) = xLay (UInt8.ofNat n.1) := by decide +kernel
  intro c
  have := h ⟨c.toNat, c.toNat_lt⟩
  simpa using this
set_option maxRecDepth 100000 in
theorem isLayout_any : IsPred 212 xLay := by
  intro c w
  have C := Lib.hid (Tryz.strings_IndexByte ⟨#[9, 10, 13, 32]⟩ (c.toNat : Int) w)
  have h := Lib.hid (lay_ix c)
  have e : ((c.toNat : Int).toNat.toUInt8) = c := by simp
  rw [e] at C
  clear e
  go_enter Tryz.func212, Tryz.ntmps212
  go_wp2_with fail
  refine C.out.mono ?_
  rintro e w' ⟨rfl, rfl⟩
  go_wp2_with fail
  go_ret
  refine ⟨ret_bool ?_, rfl⟩
  rw [← h.out]
theorem mayI (c : UInt8) : xMay c = (decide ((32 : Int) ≤ (c.toNat : Int)) || xLay c) := by
  unfold xMay
  generalize xLay c = d
  rw [Bool.eq_iff_iff]
  cases d <;> simp <;> omega
set_option maxRecDepth 100000 in
theorem mayStand_any : IsPred 243 xMay := by
  intro c w
  have C := Lib.hid (isLayout_any c)
  have h := Lib.hid (mayI c)
  by_cases hc : (32 : Int) ≤ (c.toNat : Int)
  · have hd : decide ((32 : Int) ≤ (c.toNat : Int)) = true := decide_eq_true hc
    go_enter Tryz.func243, Tryz.ntmps243
    go_wp2_with fail
    go_ret
    refine ⟨ret_bool ?_, rfl⟩
    rw [h.out]; simp; omega
  · have hd : decide ((32 : Int) ≤ (c.toNat : Int)) = false := decide_eq_false hc
    go_enter Tryz.func243, Tryz.ntmps243
    go_wp2_with fail
    refine (C.out _).mono ?_
    rintro e w' ⟨rfl, rfl⟩
    go_wp2_with fail
    go_ret
    refine ⟨ret_bool ?_, rfl⟩
    rw [h.out]; simp; omega
theorem firstI (c : UInt8) : xFirst c = (decide ((97 : Int) ≤ (c.toNat : Int)) && decide ((c.toNat : Int) ≤ 122) || decide ((65 : Int) ≤ (c.toNat : Int)) && decide ((c.toNat : Int) ≤ 90) || decide ((c.toNat : Int) = 95)) := by
  unfold xFirst
  rw [Bool.eq_iff_iff]; simp; omega
set_option maxRecDepth 100000 in
theorem isFirst_any : IsPred 208 xFirst := by
  intro c w
  have h := Lib.hid (firstI c)
  go_enter Tryz.func208, Tryz.ntmps208
  go_wp2_with fail
  all_goals
    go_ret
    refine ⟨ret_bool ?_, rfl⟩
    rw [h.out, Bool.eq_iff_iff]
    simp <;> omega
theorem ofI (c : UInt8) : xOf c = (xFirst c || decide ((48 : Int) ≤ (c.toNat : Int)) && decide ((c.toNat : Int) ≤ 57) || decide ((c.toNat : Int) = 46) || decide ((c.toNat : Int) = 58) || decide ((c.toNat : Int) = 45)) := by
  unfold xOf
  generalize xFirst c = d
  rw [Bool.eq_iff_iff]
  cases d <;> simp <;> omega
set_option maxRecDepth 100000 in
theorem isOfName_any : IsPred 210 xOf := by
  intro c w
  have C := Lib.hid (isFirst_any c)
  have h := Lib.hid (ofI c)
  generalize xFirst c = d at *
  cases d
  all_goals
    go_enter Tryz.func210, Tryz.ntmps210
    go_wp2_with fail
    refine (C.out _).mono ?_
    rintro e w' ⟨rfl, rfl⟩
    go_wp2_with fail
  all_goals
    go_ret
    refine ⟨ret_bool ?_, rfl⟩
    rw [h.out, Bool.eq_iff_iff]
    simp <;> omega
set_option maxHeartbeats 400000 in
set_option maxRecDepth 100000 in
theorem span_any {f : FuncId} {p : UInt8 → Bool} (hp : IsPred f p) (ef : ∀ args w, (callFunc f args).run Tryz.prog w = .ok (.enter f args) w) (s : ByteArray) (hs : s.size ≤ maxLen) (w : World) :
    Calls Tryz.prog 209 #[.string s, .func (.func f) #[] #[]] w fun e w' => e = .returned (.int .i64 ((s.data.toList.takeWhile p).length : Nat)) ∧ w = w' := by
  unfold maxLen at hs
  have HP := Lib.hid hp
  clear hp
  go_enter Tryz.func209, Tryz.ntmps209
  go_wp2_with fail
  go_loop [5] (fun n => ∃ k : Nat, k ≤ s.size ∧ n = .int .i64 (k : Int) ∧ Hid ((s.data.toList.take k).all p = true)) (fun n => s.size - (intOf n).toNat)
  case atStart => exact ⟨0, Nat.zero_le _, rfl, show ((s.data.toList.take 0).all p = true) from rfl⟩
  case round =>
    obtain ⟨k, hk, rfl, hall⟩ := hrel
    by_cases hlt : k < s.size
    · have C := Lib.hid (HP.out s[k])
      cases hpk : p s[k] with
      | true =>
        have HN := Lib.hid (all_snoc hall.out (byte_at hlt) hpk)
        rw [hpk] at C
        clear hpk
        go_wp2_with fail
        refine (C.out _).mono ?_
        rintro e w' ⟨rfl, rfl⟩
        go_wp2_with fail
        go_round
        case rel => exact ⟨k + 1, by omega, by go_num, HN.out⟩
        case measure => simp [intOf]; omega
      | false =>
        have HN := Lib.hid (while_is hall.out (by simpa using hk) (fun c hc => by rw [byte_at hlt] at hc; injection hc with hc; rw [← hc]; exact hpk))
        rw [hpk] at C
        clear hpk
        go_wp2_with fail
        refine (C.out _).mono ?_
        rintro e w' ⟨rfl, rfl⟩
        go_wp2_with fail
        go_ret
        rw [← HN.out]
        exact ⟨rfl, rfl⟩
    · have HN := Lib.hid (while_is hall.out (by simpa using hk) (fun c hc => by have := (List.getElem?_eq_some_iff.1 hc).1; simp at this; exact absurd this hlt))
      go_wp2_with fail
      go_ret
      rw [← HN.out]
      exact ⟨rfl, rfl⟩
theorem enter_may : ∀ args w, (callFunc 243 args).run Tryz.prog w = .ok (.enter 243 args) w := enters_of Tryz.func243 (by kernel_rfl) rfl
theorem enter_of : ∀ args w, (callFunc 210 args).run Tryz.prog w = .ok (.enter 210 args) w := enters_of Tryz.func210 (by kernel_rfl) rfl
theorem span_may (s : ByteArray) (hs : s.size ≤ maxLen) (w : World) : Calls Tryz.prog 209 #[.string s, .func (.func 243) #[] #[]] w fun e w' => e = .returned (.int .i64 ((s.data.toList.takeWhile xMay).length : Nat)) ∧ w = w' := span_any mayStand_any enter_may s hs w
theorem span_of (s : ByteArray) (hs : s.size ≤ maxLen) (w : World) : Calls Tryz.prog 209 #[.string s, .func (.func 210) #[] #[]] w fun e w' => e = .returned (.int .i64 ((s.data.toList.takeWhile xOf).length : Nat)) ∧ w = w' := span_any isOfName_any enter_of s hs w
end Go.Proofs.YtljldbdjkjllhaaGreatDoor

/- A reader in memory; what takes from it. -/
namespace Go.Proofs.YtljldbdjkjllhaaGreatDoor
set_option linter.unusedSimpArgs false
set_option linter.unusedVariables false
open Go.RowKit

def RdB (w : World) (g : Nat) (r : Bs) (v1 v2 v3 v4 : Value) : Prop := Blk w g 98 #[.string (mkS r), v1, v2, v3, v4]
/-- A call took from the reader at g what res tells, or gave up. -/
def Ate {α : Type} (w : World) (g : Nat) (v1 v2 v3 v4 : Value) (res : RR α) (enc : α → Value) (e : Ending) (w' : World) : Prop :=
  Turned [g] w w' ∧ ∃ r', RdB w' g r' v1 v2 v3 v4 ∧ ((∃ a, res = .ok (a, r') ∧ e = .returned (enc a)) ∨ ∃ k, res = .error k ∧ e = gaveUp k)
theorem Ate.ok {α : Type} {w w' : World} {g : Nat} {v1 v2 v3 v4 : Value} {res : RR α} {enc : α → Value} {e : Ending} {x : α × Bs} (h : Ate w g v1 v2 v3 v4 res enc e w') (hx : res = .ok x) : Turned [g] w w' ∧ RdB w' g x.2 v1 v2 v3 v4 ∧ e = .returned (enc x.1) := by
  obtain ⟨ht, r', hr, ⟨a, ha, he⟩ | ⟨k, hk, he⟩⟩ := h
  · rw [hx] at ha; injection ha with ha; subst ha; exact ⟨ht, hr, he⟩
  · rw [hx] at hk; cases hk
theorem Ate.no {α : Type} {w w' : World} {g : Nat} {v1 v2 v3 v4 : Value} {res : RR α} {enc : α → Value} {e : Ending} {k : Int} (h : Ate w g v1 v2 v3 v4 res enc e w') (hx : res = .error k) : Turned [g] w w' ∧ (∃ r', RdB w' g r' v1 v2 v3 v4) ∧ e = gaveUp k := by
  obtain ⟨ht, r', hr, ⟨a, ha, he⟩ | ⟨k, hk, he⟩⟩ := h
  · rw [hx] at ha; cases ha
  · rw [hx] at hk; injection hk with hk; subst hk; exact ⟨ht, ⟨r', hr⟩, he⟩
theorem Ate.mkOk {α : Type} {w w' : World} {g : Nat} {v1 v2 v3 v4 : Value} {res : RR α} {enc : α → Value} {a : α} {r : Bs} (ht : Turned [g] w w') (hr : RdB w' g r v1 v2 v3 v4) (hx : res = .ok (a, r)) : Ate w g v1 v2 v3 v4 res enc (.returned (enc a)) w' := ⟨ht, r, hr, .inl ⟨a, hx, rfl⟩⟩
theorem Ate.mkNo {α : Type} {w w' : World} {g : Nat} {v1 v2 v3 v4 : Value} {res : RR α} {enc : α → Value} {k : Int} {r : Bs} (ht : Turned [g] w w') (hr : RdB w' g r v1 v2 v3 v4) (hx : res = .error k) : Ate w g v1 v2 v3 v4 res enc (gaveUp k) w' := ⟨ht, r, hr, .inr ⟨k, hx, rfl⟩⟩
theorem frG (w : World) (g : Nat) : Fresh w [g] [g] := Fresh.refl _ _

section
variable {w : World} {g : Nat} {r : Bs} {v1 v2 v3 v4 : Value}
theorem RdB.set_ (h : RdB w g r v1 v2 v3 v4) (r' : Bs) : RdB (w.setCell ⟨g, 0, none⟩ (.string (mkS r'))) g r' v1 v2 v3 v4 := Blk.set_ h 0 (.string (mkS r'))
theorem RdB.below {w' : World} (h : RdB w g r v1 v2 v3 v4) (hb : Below w.heap.size w w') : RdB w' g r v1 v2 v3 v4 := Blk.below h hb (Blk.lt h)
set_option maxHeartbeats 400000 in
set_option maxRecDepth 100000 in
theorem takes_any (h : RdB w g r v1 v2 v3 v4) (p : Bs) :
    Calls Tryz.prog 88 #[.pointer (some ⟨g, 0, none⟩), .string (mkS p)] w fun e w' => e = .returned (.bool (Lib.hasPrefix r p)) ∧ Turned [g] w w' ∧ RdB w' g (Lib.trimPrefix r p) v1 v2 v3 v4 := by
  have C := Lib.hid (fun w => Tryz.strings_CutPrefix (mkS r) (mkS p) w)
  rw [show (mkS r).data.toList = r from rfl, show (mkS p).data.toList = p from rfl] at C
  have HV : Hid (Turned [g] w (w.setCell ⟨g, 0, none⟩ (.string (mkS (Lib.trimPrefix r p)))) ∧ RdB (w.setCell ⟨g, 0, none⟩ (.string (mkS (Lib.trimPrefix r p)))) g (Lib.trimPrefix r p) v1 v2 v3 v4) := ⟨(Turned.refl _ _).setCell (.inl (by simp)) _, h.set_ _⟩
  have c0 := Blk.cell h 0
  have f0 := Blk.free h 0
  simp at c0
  clear h
  unfold mkS at *
  generalize Lib.trimPrefix r p = q at *
  generalize Lib.hasPrefix r p = b at *
  go_enter Tryz.func88, Tryz.ntmps88
  go_wp2_with fail
  refine (C.out _).mono ?_
  rintro e w1 ⟨rfl, rfl⟩
  go_wp2_with fail
  go_ret
  exact ⟨rfl, HV.out⟩
def uV (_ : Unit) : Value := .tuple #[]
def sV (l : Bs) : Value := .string (mkS l)
set_option maxHeartbeats 400000 in
set_option maxRecDepth 100000 in
theorem want_any (h : RdB w g r v1 v2 v3 v4) (p : Bs) :
    Calls Tryz.prog 90 #[.pointer (some ⟨g, 0, none⟩), .string (mkS p)] w (Ate w g v1 v2 v3 v4 (wantR p r) uV) := by
  have C := Lib.hid (takes_any h p)
  clear h
  have CY := Lib.hid (must_yes 100)
  have CX := Lib.hid (must_no 100)
  have HE : Hid (wantR p r = if Lib.hasPrefix r p = true then .ok ((), Lib.trimPrefix r p) else .error 100) := rfl
  generalize wantR p r = res at *
  generalize Lib.trimPrefix r p = q at *
  generalize Lib.hasPrefix r p = b at *
  cases b with
  | true =>
    go_enter Tryz.func90, Tryz.ntmps90
    go_wp2_with fail
    refine C.out.mono ?_
    rintro e w1 ⟨rfl, ht, hr⟩
    have HT := Lib.hid ht
    have HR := Lib.hid hr
    clear ht hr C
    go_wp2_with fail
    refine (CY.out _).mono ?_
    rintro e w2 ⟨rfl, rfl⟩
    go_wp2_with fail
    go_end0
    exact Ate.mkOk HT.out HR.out HE.out
  | false =>
    go_enter Tryz.func90, Tryz.ntmps90
    go_wp2_with fail
    refine C.out.mono ?_
    rintro e w1 ⟨rfl, ht, hr⟩
    have HT := Lib.hid ht
    have HR := Lib.hid hr
    clear ht hr C
    go_wp2_with fail
    refine (CX.out _).mono ?_
    rintro e w2 ⟨rfl, rfl⟩
    unfold gaveUp
    go_wp2_with fail
    exact ⟨rfl, Ate.mkNo HT.out HR.out HE.out⟩
theorem mkS_size (l : Bs) : (mkS l).size = l.length := rfl
theorem mkS_take (l : Bs) (n : Nat) : (mkS l).extract 0 n = mkS (l.take n) := s_ext (by rw [bl_upto, mkS_list, mkS_list])
theorem mkS_drop (l : Bs) (n : Nat) : (mkS l).extract n (mkS l).size = mkS (l.drop n) := s_ext (by rw [bl_from, mkS_list, mkS_list])
theorem all_while {p : UInt8 → Bool} {l : Bs} : decide ((l.takeWhile p).length = l.length) = l.all p := by
  induction l with
  | nil => rfl
  | cons b l ih =>
    rw [List.takeWhile_cons, List.all_cons]
    cases hb : p b with
    | true => simp only [if_true, List.length_cons, Bool.true_and]; rw [← ih]; simp
    | false => simp
set_option maxHeartbeats 1000000 in
set_option maxRecDepth 100000 in
theorem take_any (h : RdB w g r v1 v2 v3 v4) (n : Nat) (hn : n ≤ r.length) (hr : r.length ≤ 40000) :
    Calls Tryz.prog 204 #[.pointer (some ⟨g, 0, none⟩), .int .i64 (n : Int)] w (Ate w g v1 v2 v3 v4 (takeR n r) sV) := by
  have C := Lib.hid (fun w => span_may (mkS (r.take n)) (by rw [mkS_size]; unfold maxLen; simp; omega) w)
  have CY := Lib.hid (must_yes 100)
  have CX := Lib.hid (must_no 100)
  have HE : Hid (takeR n r = if (r.take n).all xMay = true then .ok (r.take n, r.drop n) else .error 100) := rfl
  have hlen : (r.take n).length = n := by simp; omega
  have hall : decide (((r.take n).takeWhile xMay).length = n) = (r.take n).all xMay := by rw [← all_while, hlen]
  rw [mkS_list] at C
  have HV : Hid (Turned [g] w (w.setCell ⟨g, 0, none⟩ (.string (mkS (r.drop n)))) ∧ RdB (w.setCell ⟨g, 0, none⟩ (.string (mkS (r.drop n)))) g (r.drop n) v1 v2 v3 v4) := ⟨(Turned.refl _ _).setCell (.inl (by simp)) _, h.set_ _⟩
  have HR := Lib.hid h
  have c0 := Blk.cell h 0
  have f0 := Blk.free h 0
  simp at c0
  have e1 := mkS_take r n
  have e2 := mkS_drop r n
  have hs : (mkS r).size = r.length := rfl
  rw [hs] at e2
  have hz : (mkS r).size ≤ 40000 := by rw [hs]; exact hr
  have hnz : n ≤ (mkS r).size := by rw [hs]; exact hn
  rw [← hs] at e2
  generalize takeR n r = res at *
  clear h hlen hs hr hn
  generalize (r.take n).all xMay = b at *
  generalize ((r.take n).takeWhile xMay).length = m at *
  obtain ⟨T, hT⟩ : ∃ T, T = mkS (r.take n) := ⟨_, rfl⟩
  rw [← hT] at C e1
  have HT := Lib.hid hT
  clear hT
  generalize mkS (r.drop n) = D at *
  generalize mkS r = S at *
  cases b with
  | true =>
    have hm : m = n := by simpa using hall
    subst hm
    clear hall
    go_enter Tryz.func204, Tryz.ntmps204
    go_wp2_with fail
    refine (C.out _).mono ?_
    rintro e w1 ⟨rfl, rfl⟩
    go_wp2_with fail
    refine (CY.out _).mono ?_
    rintro e w2 ⟨rfl, rfl⟩
    go_wp2_with fail
    go_ret
    rw [HT.out]
    exact Ate.mkOk (a := List.take m r) HV.out.1 HV.out.2 (by have := HE.out; simpa using this)
  | false =>
    have hm : ¬ m = n := by simpa using hall
    have hb : ((m : Int) == (n : Int)) = false := by simp; omega
    clear hall hm
    go_enter Tryz.func204, Tryz.ntmps204
    go_wp2_with fail
    refine (C.out _).mono ?_
    rintro e w1 ⟨rfl, rfl⟩
    go_wp2_with fail
    refine (CX.out _).mono ?_
    rintro e w2 ⟨rfl, rfl⟩
    unfold gaveUp
    go_wp2_with fail
    exact ⟨rfl, Ate.mkNo (Turned.refl _ _) HR.out (by have := HE.out; simpa using this)⟩
end
end Go.Proofs.YtljldbdjkjllhaaGreatDoor

/- What stands ahead of a mark; layout; a name. -/
namespace Go.Proofs.YtljldbdjkjllhaaGreatDoor
set_option linter.unusedSimpArgs false
set_option linter.unusedVariables false
open Go.RowKit

/-- What is kept at package level. -/
structure XEnv (B : Nat) (w : World) : Prop where
  max : ∃ m, w.cell? ⟨5, 0, none⟩ = some (.int .i64 m)
  ents : ∃ t, Blk w 0 t #[.string (mkS [108, 116]), .int .u8 60, .string (mkS [103, 116]), .int .u8 62, .string (mkS [97, 109, 112]), .int .u8 38, .string (mkS [113, 117, 111, 116]), .int .u8 34, .string (mkS [97, 112, 111, 115]), .int .u8 39]
  err : ∃ ev, w.cell? ⟨12, 0, none⟩ = some ev ∧ (ev = .nilIface ∨ ∃ te pe, ev = .iface te pe)
  lt : 5 < B ∧ 0 < B ∧ 12 < B
  size : B ≤ w.heap.size
theorem XEnv.turned {B : Nat} {w w' : World} {F : List Nat} (h : XEnv B w) (ht : Turned F w w') (hF : ∀ k ∈ F, B ≤ k) : XEnv B w' := by
  obtain ⟨h1, ⟨t, h2⟩, ⟨ev, h3, h4⟩, ⟨l1, l2, l3⟩, hz⟩ := h
  have hb : ∀ k, k < B → w'.heap[k]? = w.heap[k]? := fun k hk => ht.block k (by omega) (fun hm => by have := hF k hm; omega)
  refine ⟨?_, ⟨t, (hb _ l2).trans h2⟩, ⟨ev, (World.cell?_of_block (a := ⟨12, 0, none⟩) (hb _ l3)).trans h3, h4⟩, ⟨l1, l2, l3⟩, Nat.le_trans hz ht.size⟩
  obtain ⟨m, h1⟩ := h1
  exact ⟨m, (World.cell?_of_block (a := ⟨5, 0, none⟩) (hb _ l1)).trans h1⟩
theorem XEnv.below {B : Nat} {w w' : World} (h : XEnv B w) (hb : Below w.heap.size w w') : XEnv B w' := h.turned (Turned.of_below hb []) (fun k hk => by cases hk)
theorem XEnv.one {B g : Nat} {w w' : World} (h : XEnv B w) (ht : Turned [g] w w') (hg : B ≤ g) : XEnv B w' := h.turned ht (fun k hk => by simp at hk; omega)

section
variable {w : World} {B g : Nat} {r : Bs} {v1 v2 v3 v4 : Value}
set_option maxHeartbeats 1000000 in
set_option maxRecDepth 100000 in
theorem upTo_any (h : RdB w g r v1 v2 v3 v4) (hE : XEnv B w) (hr : r.length ≤ 40000) (p : Bs) :
    Calls Tryz.prog 157 #[.pointer (some ⟨g, 0, none⟩), .string (mkS p)] w (Ate w g v1 v2 v3 v4 (upToR p r) sV) := by
  obtain ⟨m, hm⟩ := hE.max
  have C := Lib.hid (Tryz.strings_Index (mkS r) (mkS p) m w (by rw [mkS_size]; omega) hm)
  rw [show (mkS r).data.toList = r from rfl, show (mkS p).data.toList = p from rfl] at C
  have HR := Lib.hid h
  have CY := Lib.hid (must_yes 100)
  have CX := Lib.hid (must_no 100)
  have CT := Lib.hid (fun n hn => take_any h n hn hr)
  have CW := Lib.hid (fun w' r' (h' : RdB w' g r' v1 v2 v3 v4) => want_any h' p)
  have c0 := Blk.cell h 0
  simp at c0
  have hix : Lib.index r p = -1 ∨ ∃ i : Nat, Lib.index r p = i ∧ i + (mkS p).size ≤ (mkS r).size := Lib.indexB_cases (mkS r) (mkS p)
  have HE : Hid (upToR p r = if 0 ≤ Lib.index r p then (takeR (Lib.index r p).toNat r).bind fun x => (wantR p x.2).map fun y => (x.1, y.2) else .error 100) := rfl
  clear hm hE h
  generalize upToR p r = res at *
  rcases hix with hix | ⟨n, hix, hn⟩
  · have hc : ¬ (0 : Int) ≤ Lib.index r p := by rw [hix]; omega
    rw [if_neg hc] at HE
    rw [hix] at C
    clear hix hc
    go_enter Tryz.func157, Tryz.ntmps157
    go_wp2_with fail
    refine C.out.mono ?_
    rintro e w1 ⟨rfl, rfl⟩
    go_wp2_with fail
    refine (CX.out _).mono ?_
    rintro e w2 ⟨rfl, rfl⟩
    unfold gaveUp
    go_wp2_with fail
    exact ⟨rfl, Ate.mkNo (Turned.refl _ _) HR.out HE.out⟩
  · have hc : (0 : Int) ≤ Lib.index r p := by rw [hix]; omega
    rw [if_pos hc, hix, Int.toNat_natCast] at HE
    rw [hix] at C
    rw [mkS_size, mkS_size] at hn
    have CT1 := Lib.hid (CT.out n (by omega))
    clear hix hc CT hn CX
    cases hT : takeR n r with
    | error k =>
      rw [hT] at HE
      have HT := Lib.hid hT
      clear hT
      go_enter Tryz.func157, Tryz.ntmps157
      go_wp2_with fail
      refine C.out.mono ?_
      rintro e w1 ⟨rfl, rfl⟩
      go_wp2_with fail
      refine (CY.out _).mono ?_
      rintro e w2 ⟨rfl, rfl⟩
      go_wp2_with fail
      refine CT1.out.mono ?_
      intro e w3 ha
      obtain ⟨h1, ⟨r', h2⟩, rfl⟩ := ha.no HT.out
      have H1 := Lib.hid h1
      have H2 := Lib.hid h2
      clear ha h1 h2
      unfold gaveUp
      go_wp2_with fail
      exact ⟨rfl, Ate.mkNo H1.out H2.out HE.out⟩
    | ok x =>
      obtain ⟨t, r1⟩ := x
      rw [hT] at HE
      have HT := Lib.hid hT
      clear hT
      cases hW : wantR p r1 with
      | error k =>
        have HW := Lib.hid hW
        have HE2 : Hid (res = .error k) := by show res = _; rw [HE.out]; show ((wantR p r1).map _ : RR Bs) = _; rw [hW]; rfl
        clear hW HE
        go_enter Tryz.func157, Tryz.ntmps157
        go_wp2_with fail
        refine C.out.mono ?_
        rintro e w1 ⟨rfl, rfl⟩
        go_wp2_with fail
        refine (CY.out _).mono ?_
        rintro e w2 ⟨rfl, rfl⟩
        go_wp2_with fail
        refine CT1.out.mono ?_
        intro e w3 ha
        obtain ⟨h1, h2, rfl⟩ := ha.ok HT.out
        have H1 := Lib.hid h1
        have CW1 := Lib.hid (CW.out _ _ h2)
        clear ha h1 h2
        unfold sV
        go_wp2_with fail
        refine CW1.out.mono ?_
        intro e w4 ha
        obtain ⟨h1, ⟨r', h2⟩, rfl⟩ := ha.no HW.out
        have H3 := Lib.hid (H1.out.trans h1 (frG _ _))
        have H4 := Lib.hid h2
        clear ha h1 h2
        unfold gaveUp
        go_wp2_with fail
        exact ⟨rfl, Ate.mkNo H3.out H4.out HE2.out⟩
      | ok y =>
        obtain ⟨u, r2⟩ := y
        have HW := Lib.hid hW
        have HE2 : Hid (res = .ok (t, r2)) := by show res = _; rw [HE.out]; show ((wantR p r1).map _ : RR Bs) = _; rw [hW]; rfl
        clear hW HE
        go_enter Tryz.func157, Tryz.ntmps157
        go_wp2_with fail
        refine C.out.mono ?_
        rintro e w1 ⟨rfl, rfl⟩
        go_wp2_with fail
        refine (CY.out _).mono ?_
        rintro e w2 ⟨rfl, rfl⟩
        go_wp2_with fail
        refine CT1.out.mono ?_
        intro e w3 ha
        obtain ⟨h1, h2, rfl⟩ := ha.ok HT.out
        have H1 := Lib.hid h1
        have CW1 := Lib.hid (CW.out _ _ h2)
        clear ha h1 h2
        unfold sV
        go_wp2_with fail
        refine CW1.out.mono ?_
        intro e w4 ha
        obtain ⟨h1, h2, rfl⟩ := ha.ok HW.out
        have H3 := Lib.hid (H1.out.trans h1 (frG _ _))
        have H4 := Lib.hid h2
        clear ha h1 h2
        unfold uV
        go_wp2_with fail
        go_ret
        exact Ate.mkOk H3.out H4.out HE2.out
theorem isEmpty_mkS (l : Bs) : (mkS l).toList.isEmpty = l.isEmpty := by rw [ByteArray.toList_eq]; rfl
end
end Go.Proofs.YtljldbdjkjllhaaGreatDoor

/- Where the first of some bytes stands in a text of any bytes: the library's own search among bytes below 128. -/
namespace Go.Proofs.YtljldbdjkjllhaaGreatDoor
set_option linter.unusedSimpArgs false
set_option linter.unusedVariables false
open Go.RowKit

/-- Bytes below 128, two or three of them. -/
structure Seps (cs : Bs) : Prop where
  low : ∀ c ∈ cs, c.toNat < 128
  two : 2 ≤ cs.length
  few : cs.length ≤ 8
theorem Seps.at_ {cs : Bs} (h : Seps cs) {k : Nat} (hk : k < (mkS cs).size) : ((mkS cs)[k]'hk).toNat < 128 := by
  have h1 := byte_at hk
  exact h.low _ (List.mem_of_getElem? h1)
set_option maxHeartbeats 1000000 in
set_option maxRecDepth 1000000 in
theorem rune_error {cs : Bs} (hs : Seps cs) (w : World) :
    Calls Tryz.prog 168 #[.string (mkS cs), .int .i32 65533] w fun e w' => e = .returned (.int .i64 (-1)) ∧ Below w.heap.size w w' := by
  have HS := Lib.hid hs
  have h2 := hs.two
  have h8 := hs.few
  have hz : (mkS cs).size = cs.length := rfl
  rw [← hz] at h2 h8
  clear hs hz
  obtain ⟨S, hS⟩ : ∃ S, S = mkS cs := ⟨_, rfl⟩
  have HL : Hid (∀ k (hk : k < S.size), (S[k]'hk).toNat < 128) := by intro k hk; subst hS; exact HS.out.at_ hk
  rw [← hS] at h2 h8 ⊢
  clear hS
  go_enter Tryz.func168, Tryz.ntmps168
  go_wp2_with fail
  go_loopg [5, 6] S.size (fun g _ _ wx => ∃ i : Nat, i + g = S.size ∧ wx = w.iter S i)
  case atStart => exact ⟨0, by omega, rfl⟩
  case round =>
    obtain ⟨i, hi, rfl⟩ := hrel
    by_cases hlt : i < S.size
    · have n1 := fun ty => run_next_ascii (P := Tryz.prog) w S i ty hlt (HL.out i hlt)
      have t0 : (((S[i]'hlt).toNat : Int) == 65533) = false := by have := HL.out i hlt; simp; omega
      go_wp2_with fail
      go_roundg (gk - 1)
      case measure => omega
      case rel => exact ⟨i + 1, by omega, rfl⟩
    · have n2 := fun ty => run_next_end (P := Tryz.prog) w S i ty hlt
      go_wp2_with fail
      go_ret
      exact ⟨rfl, (Below.refl _ _).alloc (Nat.le_refl _) _⟩
set_option maxHeartbeats 1000000 in
set_option maxRecDepth 1000000 in
theorem rune_bad (cs : Bs) (r : Int) (h : 128 ≤ r) (h2 : r ≤ 2147483647) (he : r ≠ 65533) (hv : Lib.validRune r = false) (w : World) :
    Calls Tryz.prog 168 #[.string (mkS cs), .int .i32 r] w fun e w' => e = .returned (.int .i64 (-1)) ∧ Below w.heap.size w w' := by
  have t0 : (r == 65533) = false := by simpa using he
  have C := Lib.hid (fun w => Tryz.utf8_ValidRune r w)
  rw [hv] at C
  clear he hv
  go_enter Tryz.func168, Tryz.ntmps168
  go_wp2_with fail
  refine (C.out _).mono ?_
  rintro e w1 ⟨rfl, rfl⟩
  go_wp2_with fail
  go_ret
  exact ⟨rfl, Below.refl _ _⟩
theorem ixb_none {l : Bs} {c : UInt8} (h : ∀ x ∈ l, x ≠ c) : Lib.indexByte l c = -1 := by
  induction l with
  | nil => rfl
  | cons b r ih =>
    unfold Lib.indexByte
    have h1 := h b (by simp)
    have h2 := ih fun x hx => h x (by simp [hx])
    simp [h1, h2]
set_option maxHeartbeats 1000000 in
set_option maxRecDepth 1000000 in
theorem rune_high {cs : Bs} (hs : Seps cs) (r : Int) (h : 128 ≤ r) (h2 : r ≤ 2147483647) (he : r ≠ 65533) (hv : Lib.validRune r = true) (w : World) :
    Calls Tryz.prog 168 #[.string (mkS cs), .int .i32 r] w fun e w' => e = .returned (.int .i64 (-1)) ∧ Below w.heap.size w w' := by
  have t0 : (r == 65533) = false := by simpa using he
  have C := Lib.hid (fun w => Tryz.utf8_ValidRune r w)
  rw [hv] at C
  obtain ⟨f1, f2, f3⟩ := encode_facts r (by rw [validRune_eq]; exact hv) h
  obtain ⟨rs, hrs⟩ : ∃ rs, Utf8.encode r = rs := ⟨_, rfl⟩
  have hcv : ∀ w, (convert 21 9 (.int .i32 r)).run Tryz.prog w = .ok (.string rs) w := fun w => by
    rw [← hrs]; exact run_convert_int_string w _ _ _ _ (by kernel_rfl) Tryz.underlying9
  rw [hrs] at f1 f2 f3
  obtain ⟨k, hk⟩ : ∃ k, rs.size = k + 1 := ⟨rs.size - 1, by omega⟩
  have hb : k < rs.size := by omega
  have hx : 128 ≤ (rs[k]'hb).toNat := by
    have := f3 (by omega)
    have e : rs.size - 1 = k := by omega
    simpa [e] using this
  have hsz : (rs.size : Int) - 1 = (k : Int) := by omega
  obtain ⟨S, hS⟩ : ∃ S, S = mkS cs := ⟨_, rfl⟩
  have HL : Hid (∀ x ∈ S.data.toList, x.toNat < 128) := by intro x hx; subst hS; exact hs.low x hx
  have hS8 : S.size ≤ 8 := by subst hS; exact hs.few
  rw [← hS]
  clear hrs he hv f3 hS hs
  have hk2 : k ≤ 3 := by omega
  have hk1 : 1 ≤ k := by omega
  clear f1 f2 hk
  by_cases h3 : k < S.size
  · have t1 : (((S[k]'h3).toNat : Int) != ((rs[k]'hb).toNat : Int)) = true := by
      have := HL.out _ (List.mem_of_getElem? (byte_at h3))
      simp; omega
    have CI := Lib.hid (fun (p : ByteArray) (hp : ∀ x ∈ p.data.toList, x ∈ S.data.toList) w => by
      have := Tryz.strings_IndexByte p ((rs[k]'hb).toNat : Int) w
      rw [ixb_none (fun x hxm e => by
        have h1 := HL.out x (hp x hxm)
        have : x.toNat = (rs[k]'hb).toNat := by rw [e]; simp
        omega)] at this
      exact this)
    have CI1 := Lib.hid (CI.out (S.extract (k + 1) S.size) (fun x hx => mem_extract hx))
    clear CI
    go_enter Tryz.func168, Tryz.ntmps168
    go_wp2_with fail
    refine (C.out _).mono ?_
    rintro e w1 ⟨rfl, rfl⟩
    go_wp2_with fail
    go_step3
    go_wp2_with fail
    go_loop [9] (fun i => i = .int .i64 (k : Int)) (fun _ => 0)
    case atStart => rfl
    case round =>
      obtain rfl := hrel
      go_wp2_with fail
      go_step3
      go_wp2_with fail
      go_quiet (fail)
      go_wp2_with fail
      go_quiet ((go_at_call 55; exact (CI1.out _).mono fun _ _ ⟨h1, h2⟩ => ⟨h1, _, h2⟩))
      go_wp2_with fail
      rw [Exit.noGoto_ret]
      simp (config := { zetaDelta := true }) only [Exit.inBlock, Exit.then, Exit.noGoto]
      go_ret
      exact ⟨rfl, ⟨rfl, rfl, rfl, Nat.le_refl _, fun _ _ => rfl⟩⟩
  · have h3z : ¬ (k : Int) < (S.size : Int) := by omega
    go_enter Tryz.func168, Tryz.ntmps168
    go_wp2_with fail
    refine (C.out _).mono ?_
    rintro e w1 ⟨rfl, rfl⟩
    go_wp2_with fail
    go_step3
    go_wp2_with fail
    go_loop [9] (fun i => i = .int .i64 (k : Int)) (fun _ => 0)
    case atStart => rfl
    case round =>
      obtain rfl := hrel
      go_wp2_with fail
      go_ret
      exact ⟨rfl, Below.refl _ _⟩
end Go.Proofs.YtljldbdjkjllhaaGreatDoor

/- Where the first of some bytes below 128 stands in a text of any bytes. -/
namespace Go.Proofs.YtljldbdjkjllhaaGreatDoor
set_option linter.unusedSimpArgs false
set_option linter.unusedVariables false
open Go.RowKit

def nos (cs : Bs) (c : UInt8) : Bool := !cs.contains c
/-- Where the first of them stands; -1: nowhere. -/
def anyAt (cs l : Bs) : Int := if plainN cs l < l.length then (plainN cs l : Int) else -1
theorem plainN_nos (cs l : Bs) : plainN cs l = (l.takeWhile (nos cs)).length := rfl
theorem anyAt_hit {cs l : Bs} {k : Nat} {c : UInt8} (h : (l.take k).all (nos cs) = true) (hc : l[k]? = some c) (hs : cs.contains c = true) : anyAt cs l = k := by
  have hk := (List.getElem?_eq_some_iff.1 hc).1
  have := while_is h (Nat.le_of_lt hk) (fun d hd => by rw [hc] at hd; injection hd with hd; subst hd; show (!cs.contains _) = false; rw [hs]; rfl)
  unfold anyAt
  rw [plainN_nos, ← this, if_pos hk]
theorem anyAt_none {cs l : Bs} (h : l.all (nos cs) = true) : anyAt cs l = -1 := by
  have := while_is (l := l) (k := l.length) (by rw [List.take_length]; exact h) (Nat.le_refl _) (fun d hd => by simp at hd)
  unfold anyAt
  rw [plainN_nos, ← this, if_neg (Nat.lt_irrefl _)]
theorem zeroSet (w : World) : (zeroValue 147).run Tryz.prog w = .ok (.agg (Array.replicate 256 (.bool false))) w := by
  have h : (Tryz.prog.info? 147).map (fun i => (i.zero, i.size)) = some (some (.agg (Array.replicate 256 (.bool false))), 256) := by kernel_rfl
  exact (zero_of_info h).1 w
set_option maxHeartbeats 8000000 in
set_option maxRecDepth 1000000 in
theorem indexAny_long {cs : Bs} (hse : Seps cs) (s : ByteArray) (h8 : 8 < s.size) (hs : s.size ≤ maxLen) (w : World) :
    Calls Tryz.prog 102 #[.string s, .string (mkS cs)] w fun e w' => e = .returned (.int .i64 (anyAt cs s.data.toList)) ∧ Below w.heap.size w w' := by
  unfold maxLen at hs
  have hcz : (mkS cs).size ≤ 8 := hse.few
  have hemp : (mkS cs).toList.isEmpty = false := by rw [toList_cons (by have := hse.two; show 0 < cs.length; omega)]
  have hone : (((mkS cs).size : Int) == 1) = false := by have := hse.two; have e : (mkS cs).size = cs.length := rfl; simp; omega
  have CM := Lib.hid (fun w => Tryz.strings_makeASCIISet zeroSet (mkS cs) w (by omega) (fun j b hb => hse.low b (List.mem_of_getElem? hb)))
  have CU := Lib.hid (fun n w => Tryz.strings_shouldUseASCIISet n w)
  obtain ⟨CS, hCS⟩ : ∃ CS, CS = Lib.setCells cs := ⟨_, rfl⟩
  have S1 := Lib.hid (show CS.size = 256 from hCS ▸ Lib.setCells_size _)
  have S2 := Lib.hid (show CS.all (·.oneCell') = true from hCS ▸ Lib.setCells_one _)
  have S3 : Hid (∀ x : UInt8, CS[x.toNat]? = some (.bool (cs.contains x))) := fun x => by
    rw [hCS, Lib.setCells_at]
  rw [mkS_list, ← hCS] at CM
  clear hCS
  have h8z : decide ((8 : Int) < (s.size : Int)) = true := decide_eq_true (by omega)
  have hsc : (storeCells ⟨w.heap.size + 1, 0, none⟩ CS.toList 0).run Tryz.prog ((w.alloc (.cells CS 147)).alloc (.cells (Array.replicate 256 (.bool false)) 147)) = .ok () ((w.alloc (.cells CS 147)).alloc (.cells CS 147)) := by
    have := run_storeCells_new (P := Tryz.prog) (w.alloc (.cells CS 147)) 147 (Array.replicate 256 (.bool false)) CS (by rw [S1.out]; kernel_rfl) (by rw [S1.out, Array.size_replicate]) S2.out
    simpa using this
  generalize mkS cs = SC at *
  have hzs := zeroSet
  go_enter Tryz.func102, Tryz.ntmps102
  go_wp2_with (first
    | (go_at_call 169; refine (CU.out _ _).mono ?_; rintro e w' ⟨rfl, hw⟩; rw [hw, h8z])
    | (go_at_call 96; refine (CM.out _).mono ?_; rintro e w' ⟨rfl, hw⟩; rw [hw]))
  have CC := Lib.hid (fun b x v w hc => Tryz.asciiSet_contains b x v w hc)
  clear hsc CM CU hzs
  have HB : Hid (Below w.heap.size w ((w.alloc (.cells CS 147)).alloc (.cells CS 147))) := ((Below.refl _ _).alloc (Nat.le_refl _) _).alloc (by simp) _
  have HC : Hid (∀ x : UInt8, ((w.alloc (.cells CS 147)).alloc (.cells CS 147)).cell? ⟨w.heap.size + 1, x.toNat, none⟩ = some (.bool (cs.contains x))) := fun x => by
    rw [(Blk.new' (w := w.alloc (.cells CS 147)) (g := w.heap.size + 1) (t := 147) (cs := CS) (by simp)).cell]
    exact S3.out x
  obtain ⟨bg, hbg⟩ : ∃ bg, bg = w.heap.size + 1 := ⟨_, rfl⟩
  rw [← hbg] at HC
  simp only [← hbg]
  clear hbg
  generalize ((w.alloc (.cells CS 147)).alloc (.cells CS 147)) = w1 at *
  go_loop [8] (fun i => ∃ k : Nat, k ≤ s.size ∧ i = .int .i64 (k : Int) ∧ Hid ((s.data.toList.take k).all (nos cs) = true)) (fun i => s.size - (intOf i).toNat)
  case atStart => exact ⟨0, Nat.zero_le _, rfl, show (s.data.toList.take 0).all (nos cs) = true from rfl⟩
  case round =>
    obtain ⟨k, hk, rfl, hall⟩ := hrel
    by_cases hlt : k < s.size
    · have HX := Lib.hid (byte_at hlt)
      have HC1 := Lib.hid (HC.out s[k])
      have HY := Lib.hid (fun (h : cs.contains s[k] = false) => all_snoc hall.out HX.out (show nos cs s[k] = true by unfold nos; rw [h]; rfl))
      have HN := Lib.hid (fun (h : cs.contains s[k] = true) => anyAt_hit hall.out HX.out h)
      have hlt' : (k : Int) < (s.size : Int) := by omega
      clear hall
      generalize cs.contains s[k] = m at *
      cases m
      all_goals
        go_wp2_with fail
        refine (CC.out _ _ _ _ HC1.out).mono ?_
        rintro e w2 ⟨rfl, rfl⟩
        go_wp2_with fail
      · go_round
        case rel => exact ⟨k + 1, by omega, by go_num, HY.out (by simp)⟩
        case measure => simp [intOf]; omega
      · go_ret
        exact ⟨by rw [HN.out (by simp)]; rfl, HB.out⟩
    · have HM := Lib.hid (anyAt_none (l := s.data.toList) (by
        have := hall.out
        rwa [List.take_of_length_le (by rw [size_len]; omega)] at this))
      have hlt' : ¬ (k : Int) < (s.size : Int) := by omega
      go_wp2_with fail
      go_ret
      exact ⟨by rw [HM.out]; rfl, HB.out⟩

/-- A byte that is none of them; what is told of a rune. -/
theorem ixb_some {l : Bs} {c : UInt8} (h : l.contains c = true) : 0 ≤ Lib.indexByte l c := by
  induction l with
  | nil => cases h
  | cons b r ih =>
    unfold Lib.indexByte
    by_cases hb : b = c
    · simp [hb]
    · have h2 : r.contains c = true := by
        rw [List.contains_cons] at h
        have : (c == b) = false := beq_eq_false_iff_ne.2 (Ne.symm hb)
        rw [this, Bool.false_or] at h
        exact h
      have := ih h2
      simp [hb]
      split <;> omega
def runeAt (cs : Bs) (c : Int) : Int := if c < 128 then Lib.indexByte cs c.toNat.toUInt8 else -1
theorem rune_any {cs : Bs} (hs : Seps cs) (c : Int) (h0 : 0 ≤ c) (h2 : c ≤ 2147483647) (w : World) :
    Calls Tryz.prog 168 #[.string (mkS cs), .int .i32 c] w fun e w' => e = .returned (.int .i64 (runeAt cs c)) ∧ Below w.heap.size w w' := by
  by_cases h : c < 128
  · refine (Tryz.strings_IndexRune_ascii (mkS cs) c w h0 h).mono ?_
    rintro e w' ⟨rfl, rfl⟩
    refine ⟨?_, Below.refl _ _⟩
    unfold runeAt
    rw [if_pos h]
    rfl
  · have e : runeAt cs c = -1 := by
      unfold runeAt; rw [if_neg (by omega)]
    rw [e]
    by_cases he : c = 65533
    · subst he; exact rune_error hs w
    · cases hv : Lib.validRune c with
      | true => exact rune_high hs c (by omega) h2 he hv w
      | false => exact rune_bad cs c (by omega) h2 he hv w
theorem nos_high {cs : Bs} (hs : Seps cs) {b : UInt8} (h : 128 ≤ b.toNat) : nos cs b = true := by
  unfold nos
  cases hc : cs.contains b with
  | false => rfl
  | true =>
    have := hs.low b (by simpa using hc)
    omega
theorem get_list {s : ByteArray} {j : Nat} {b : UInt8} (h : s.data.toList[j]? = some b) : s.get! j = b := by
  have hj : j < s.size := by rw [← size_len]; exact (List.getElem?_eq_some_iff.1 h).1
  have e := get_at s j hj
  rw [Nat.add_zero] at e
  rw [e]
  have := byte_at hj
  rw [h] at this
  injection this with this
  exact this.symm
theorem decode_wide {cs : Bs} (hse : Seps cs) (s : ByteArray) (pos : Nat) (h : pos < s.size) (ha : 128 ≤ (s[pos]'h).toNat) :
    pos + (Utf8.decode s pos).2 ≤ s.size ∧ ∀ j b, pos ≤ j → j < pos + (Utf8.decode s pos).2 → s.data.toList[j]? = some b → nos cs b = true := by
  have hn : ¬ (s[pos]'h).toNat < 128 := by omega
  have h0 : ∀ b, s.data.toList[pos]? = some b → nos cs b = true := fun b hb => by
    rw [byte_at h] at hb; injection hb with hb; exact nos_high hse (by rw [← hb]; exact ha)
  have hc : ∀ k, (decide (pos + k < s.size) && (s.get! (pos + k)).toNat / 64 == 2) = true → pos + k < s.size ∧ ∀ b, s.data.toList[pos + k]? = some b → nos cs b = true := fun k hk => by
    simp only [Bool.and_eq_true, decide_eq_true_eq, beq_iff_eq] at hk
    refine ⟨hk.1, fun b hb => ?_⟩
    rw [get_list hb] at hk
    exact nos_high hse (by omega)
  have one : pos + 1 ≤ s.size ∧ ∀ j b, pos ≤ j → j < pos + 1 → s.data.toList[j]? = some b → nos cs b = true :=
    ⟨h, fun j b h1 h2 hb => h0 b (by rwa [show j = pos by omega] at hb)⟩
  simp only [Utf8.decode, get_at s pos h, hn, if_false]
  split
  · rename_i h1
    rw [Bool.and_eq_true] at h1
    have c1 := hc 1 h1.2
    split
    · refine ⟨by show pos + 2 ≤ _; omega, fun j b g1 g2 hb => ?_⟩
      have g2 : j < pos + 2 := g2
      rcases (by omega : j = pos ∨ j = pos + 1) with rfl | rfl
      · exact h0 b hb
      · exact c1.2 b hb
    · exact one
  · split
    · rename_i h1
      obtain ⟨h1, k2⟩ := Bool.and_eq_true_iff.1 h1
      obtain ⟨h1, k1⟩ := Bool.and_eq_true_iff.1 h1
      have c1 := hc 1 k1
      have c2 := hc 2 k2
      split
      · refine ⟨by show pos + 3 ≤ _; omega, fun j b g1 g2 hb => ?_⟩
        have g2 : j < pos + 3 := g2
        rcases (by omega : j = pos ∨ j = pos + 1 ∨ j = pos + 2) with rfl | rfl | rfl
        · exact h0 b hb
        · exact c1.2 b hb
        · exact c2.2 b hb
      · exact one
    · split
      · rename_i h1
        obtain ⟨h1, k3⟩ := Bool.and_eq_true_iff.1 h1
        obtain ⟨h1, k2⟩ := Bool.and_eq_true_iff.1 h1
        obtain ⟨h1, k1⟩ := Bool.and_eq_true_iff.1 h1
        have c1 := hc 1 k1
        have c2 := hc 2 k2
        have c3 := hc 3 k3
        split
        · refine ⟨by show pos + 4 ≤ _; omega, fun j b g1 g2 hb => ?_⟩
          have g2 : j < pos + 4 := g2
          rcases (by omega : j = pos ∨ j = pos + 1 ∨ j = pos + 2 ∨ j = pos + 3) with rfl | rfl | rfl | rfl
          · exact h0 b hb
          · exact c1.2 b hb
          · exact c2.2 b hb
          · exact c3.2 b hb
        · exact one
      · exact one
theorem all_more {cs : Bs} {l : List UInt8} {k n : Nat} (h : (l.take k).all (nos cs) = true) (hm : ∀ j b, k ≤ j → j < k + n → l[j]? = some b → nos cs b = true) : (l.take (k + n)).all (nos cs) = true := by
  induction n with
  | zero => exact h
  | succ n ih =>
    have := ih fun j b h1 h2 => hm j b h1 (by omega)
    rw [← Nat.add_assoc, List.take_add_one, List.all_append, this]
    cases hx : l[k + n]? with
    | none => rfl
    | some b => simp [hm (k + n) b (by omega) (by omega) hx]

/-- A world with an iterator of a text, at a place of it. -/
def Iter (w : World) (b : Nat) (s : ByteArray) (pos : Nat) : Prop := w.heap[b]? = some (.stringIter s pos)
def setIter (w : World) (b : Nat) (s : ByteArray) (pos : Nat) : World := { w with heap := w.heap.setIfInBounds b (.stringIter s pos) }
theorem next_at {P : Program} {w : World} {b : Nat} {s : ByteArray} {pos : Nat} (hi : Iter w b s pos) (ty : TypeId) (h : pos < s.size) :
    (Instr.next (.pointer (some ⟨b, 0, none⟩)) true ty).run P w = .ok (.tuple #[.bool true, .int .i64 pos, .int .i32 (Utf8.decode s pos).1]) (setIter w b s (pos + (Utf8.decode s pos).2)) := by
  have hi' : w.heap[b]? = some (.stringIter s pos) := hi
  simp only [Instr.next, getObj, setObj, Sem.run_bind, Sem.run, hi', Result.andThen, h, if_true]
  simp [goInt, setIter]
theorem next_end {P : Program} {w : World} {b : Nat} {s : ByteArray} {pos : Nat} (hi : Iter w b s pos) (ty : TypeId) (h : ¬ pos < s.size) :
    (Instr.next (.pointer (some ⟨b, 0, none⟩)) true ty).run P w = .ok (.tuple #[.bool false]) w := by
  have hi' : w.heap[b]? = some (.stringIter s pos) := hi
  simp [Instr.next, getObj, Sem.run, hi', h]
theorem iter_set {w : World} {b : Nat} {s : ByteArray} {pos : Nat} (hi : Iter w b s pos) (p' : Nat) : Iter (setIter w b s p') b s p' := by
  have hb := (Array.getElem?_eq_some_iff.1 hi).1
  unfold Iter setIter
  simp [hb]
theorem below_set {B : Nat} {w0 w : World} {b : Nat} {s : ByteArray} {pos : Nat} (h : Below B w0 w) (hb : B ≤ b) : Below B w0 (setIter w b s pos) :=
  ⟨h.os, h.tape, h.output, by simpa [setIter] using h.size, fun k hk => by
    have : (setIter w b s pos).heap[k]? = w.heap[k]? := by
      unfold setIter
      simp only
      rw [Array.getElem?_setIfInBounds_ne (by omega)]
    rw [this]; exact h.block k hk⟩
theorem iter_below {w w' : World} {b : Nat} {s : ByteArray} {pos : Nat} (hi : Iter w b s pos) (h : Below w.heap.size w w') : Iter w' b s pos :=
  (h.block b (Array.getElem?_eq_some_iff.1 hi).1).trans hi

theorem decode_one {cs : Bs} (hse : Seps cs) (s : ByteArray) (i : Nat) (h : i < s.size) (hall : (s.data.toList.take i).all (nos cs) = true) :
    ∃ c n, Utf8.decode s i = (c, n) ∧ 1 ≤ n ∧ c ≤ 2147483647 ∧ ((0 ≤ runeAt cs (c : Int) ∧ anyAt cs s.data.toList = i) ∨ (runeAt cs (c : Int) = -1 ∧ (s.data.toList.take (i + n)).all (nos cs) = true ∧ i + n ≤ s.size)) := by
  by_cases ha : (s[i]'h).toNat < 128
  · refine ⟨_, _, decode_ascii s i h ha, Nat.le_refl _, by omega, ?_⟩
    have hx := byte_at h
    have hr : runeAt cs (((s[i]'h).toNat : Nat) : Int) = Lib.indexByte cs (s[i]'h) := by
      unfold runeAt
      rw [if_pos (by omega)]
      congr 1
      simp
    rw [hr]
    by_cases hs : cs.contains (s[i]'h) = true
    · left
      exact ⟨ixb_some hs, anyAt_hit hall hx hs⟩
    · right
      have hs : cs.contains (s[i]'h) = false := by simpa using hs
      refine ⟨ixb_none fun x hxm e => ?_, all_snoc hall hx (by unfold nos; rw [hs]; rfl), h⟩
      subst e
      have : cs.contains (s[i]'h) = true := by simpa using hxm
      rw [this] at hs; cases hs
  · have ha : 128 ≤ (s[i]'h).toNat := by omega
    obtain ⟨h1, h2⟩ := decode_high s i h ha
    obtain ⟨h3, h4⟩ := decode_wide hse s i h ha
    refine ⟨(Utf8.decode s i).1, (Utf8.decode s i).2, rfl, h2, decode_le s i, .inr ⟨?_, all_more hall h4, h3⟩⟩
    unfold runeAt
    rw [if_neg (by omega)]
set_option maxHeartbeats 8000000 in
set_option maxRecDepth 1000000 in
theorem indexAny_short {cs : Bs} (hse : Seps cs) (s : ByteArray) (h8 : s.size ≤ 8) (w : World) :
    Calls Tryz.prog 102 #[.string s, .string (mkS cs)] w fun e w' => e = .returned (.int .i64 (anyAt cs s.data.toList)) ∧ Below w.heap.size w w' := by
  have CU := Lib.hid (fun n w => Tryz.strings_shouldUseASCIISet n w)
  have CR := Lib.hid (fun c h0 h1 w => rune_any hse c h0 h1 w)
  have h8z : decide ((8 : Int) < (s.size : Int)) = false := decide_eq_false (by omega)
  have hemp : (mkS cs).toList.isEmpty = false := by rw [toList_cons (by have := hse.two; show 0 < cs.length; omega)]
  have hone : (((mkS cs).size : Int) == 1) = false := by have := hse.two; have e : (mkS cs).size = cs.length := rfl; simp; omega
  have HSE := Lib.hid hse
  clear hse
  generalize mkS cs = SC at *
  go_enter Tryz.func102, Tryz.ntmps102
  go_wp2_with (go_at_call 169; refine (CU.out _ _).mono ?_; rintro e w' ⟨rfl, hw⟩; rw [hw, h8z])
  have HB0 : Hid (Below w.heap.size w (w.iter s 0)) := (Below.refl _ _).alloc (Nat.le_refl _) _
  have HI0 : Hid (Iter (w.iter s 0) w.heap.size s 0) := World.iter_heap w s 0
  obtain ⟨bi, hbi⟩ : ∃ bi, bi = w.heap.size := ⟨_, rfl⟩
  have HBI := Lib.hid hbi
  rw [← hbi] at HI0
  simp only [← hbi]
  clear hbi
  generalize w.iter s 0 = w1 at *
  go_loopg [9, 10] s.size (fun g _ _ wx => ∃ i : Nat, i + g = s.size ∧ Iter wx bi s i ∧ Below w.heap.size w wx ∧ Hid ((s.data.toList.take i).all (nos cs) = true))
  case atStart => exact ⟨0, by omega, HI0.out, HB0.out, show (s.data.toList.take 0).all (nos cs) = true from rfl⟩
  case round =>
    obtain ⟨i, hig, hit, hbe, hall⟩ := hrel
    have HIT := Lib.hid hit
    have HBE := Lib.hid hbe
    clear hit hbe
    by_cases hlt : i < s.size
    · have hnx := fun ty => next_at (P := Tryz.prog) HIT.out ty hlt
      have HX := Lib.hid (byte_at hlt)
      obtain ⟨c, n, hcn, hn1, hc2, hor⟩ := decode_one HSE.out s i hlt hall.out
      rw [hcn] at hnx
      have HST := Lib.hid (iter_set HIT.out (i + n))
      have HSB := Lib.hid (below_set (b := bi) (s := s) (pos := i + n) HBE.out (by rw [HBI.out]; exact Nat.le_refl _))
      have HC1 := Lib.hid (CR.out (c : Int) (by omega) (by omega))
      clear hcn hall
      generalize setIter _ _ _ _ = w2 at *
      rcases hor with ⟨hr, hsep⟩ | ⟨hr, hmore, hle⟩
      · have HN := Lib.hid hsep
        clear hsep
        generalize runeAt cs (c : Int) = x at *
        go_wp2_with fail
        refine (HC1.out _).mono ?_
        rintro e w3 ⟨rfl, hb3⟩
        go_wp2_with fail
        go_ret
        exact ⟨by rw [HN.out]; rfl, HSB.out.trans (hb3.mono HSB.out.size)⟩
      · have HM := Lib.hid hmore
        rw [hr] at HC1
        clear hmore hr
        go_wp2_with fail
        refine (HC1.out _).mono ?_
        rintro e w3 ⟨rfl, hb3⟩
        have HB3 := Lib.hid hb3
        clear hb3
        go_wp2_with fail
        go_roundg (gk - n)
        case measure => omega
        case rel => exact ⟨i + n, by omega, iter_below HST.out HB3.out, HSB.out.trans (HB3.out.mono HSB.out.size), HM.out⟩
    · have hnx := fun ty => next_end (P := Tryz.prog) HIT.out ty hlt
      have HM := Lib.hid (anyAt_none (l := s.data.toList) (by
        have := hall.out
        rwa [List.take_of_length_le (by rw [size_len]; omega)] at this))
      go_wp2_with fail
      go_ret
      exact ⟨by rw [HM.out]; rfl, HBE.out⟩
theorem indexAny_any {cs : Bs} (hse : Seps cs) (s : ByteArray) (hs : s.size ≤ maxLen) (w : World) :
    Calls Tryz.prog 102 #[.string s, .string (mkS cs)] w fun e w' => e = .returned (.int .i64 (anyAt cs s.data.toList)) ∧ Below w.heap.size w w' := by
  by_cases h : s.size ≤ 8
  · exact indexAny_short hse s h w
  · exact indexAny_long hse s (by omega) hs w
end Go.Proofs.YtljldbdjkjllhaaGreatDoor
