/- What the document says of XML's pieces, as functions of lists of bytes. The kinds of bytes, how many stand at a text's beginning; what must be. A reader in memory; what takes from it. What stands ahead of a mark; layout; a name. A numeral is read. What strconv.ParseUint answers; a character by its number. Where the first of some bytes stands in a text of any bytes: the library's own search among bytes below 128. -/
import Derived.Test.YtljldbdjkjllhaaGreatDoorZaa
import Derived.Lib.IndexMore
import Derived.Lib.RuneBytes
import Derived.Lib.Strings
import Derived.Lib.Small
import Derived.Test.YtljldbdjkjllhaaGreatDoorZab
import Derived.Lib.ConvBytes
import Derived.Lib.ParseIntBMem
import Derived.Laws.Strings3
import Derived.Laws.Closers25
import Derived.Laws.Closers25b
import Derived.BigCall
import Derived.BigGuard
import Derived.Lib.Walk
import Derived.Laws.RangeAny
import Derived.Laws.Runes
import Derived.Deep.LoopGhost
import Derived.WalkMore
/- What the document says of XML's pieces, as functions of lists of bytes. -/
namespace Go.Proofs.YtljldbdjkjllhaaGreatDoor
set_option linter.unusedSimpArgs false
set_option linter.unusedVariables false
open Go.RowKit

abbrev Bs := List UInt8
abbrev RR (α : Type) := Except Int (α × Bs)
def xLay (c : UInt8) : Bool := c == 9 || c == 10 || c == 13 || c == 32
def xMay (c : UInt8) : Bool := decide (32 ≤ c.toNat) || xLay c
def xFirst (c : UInt8) : Bool := (decide (97 ≤ c.toNat) && decide (c.toNat ≤ 122)) || (decide (65 ≤ c.toNat) && decide (c.toNat ≤ 90)) || decide (c.toNat = 95)
def xOf (c : UInt8) : Bool := xFirst c || (decide (48 ≤ c.toNat) && decide (c.toNat ≤ 57)) || decide (c.toNat = 46) || decide (c.toNat = 58) || decide (c.toNat = 45)
def takeR (n : Nat) (l : Bs) : RR Bs := if (l.take n).all xMay = true then .ok (l.take n, l.drop n) else .error 100
def wantR (p l : Bs) : RR Unit := if Lib.hasPrefix l p = true then .ok ((), Lib.trimPrefix l p) else .error 100
def plainN (stops l : Bs) : Nat := (l.takeWhile fun b => !stops.contains b).length
def plainR (stops l : Bs) : RR Bs := takeR (plainN stops l) l
def upToR (mark l : Bs) : RR Bs := if 0 ≤ Lib.index l mark then (takeR (Lib.index l mark).toNat l).bind fun x => (wantR mark x.2).map fun y => (x.1, y.2) else .error 100
def layoutR (l : Bs) : RR Bool := (takeR (l.takeWhile xLay).length l).map fun x => (!x.1.isEmpty, x.2)
def nameN (l : Bs) : Nat := match l with
  | [] => 0
  | c :: r => if xFirst c = true then ((c :: r).takeWhile xOf).length else 0
def nameR (l : Bs) : RR Bs := if 0 < nameN l ∧ nameN l ≤ 60 then takeR (nameN l) l else .error 100
def digX (c : UInt8) : Nat := if 48 ≤ c.toNat ∧ c.toNat ≤ 57 then c.toNat - 48 else if 97 ≤ (c ||| 32).toNat ∧ (c ||| 32).toNat ≤ 122 then (c ||| 32).toNat - 87 else 99
def numX (base : Nat) : Nat → Bs → Option Nat
  | acc, [] => some acc
  | acc, c :: r => if digX c < base then numX base (acc * base + digX c) r else none
def uintX (base : Nat) (d : Bs) : Option Nat := if d = [] then none else numX base 0 d
def standsX (n : Nat) : Bool := Lib.validRune (n : Int) && (decide (32 ≤ n) || xLay n.toUInt8)
def numR (base most : Nat) (d : Bs) : Option Nat := if most < d.length then none else match uintX base d with
  | none => none
  | some n => if standsX n = true then some n else none
def ents : List (Bs × UInt8) := [([108, 116], 60), ([103, 116], 62), ([97, 109, 112], 38), ([113, 117, 111, 116], 34), ([97, 112, 111, 115], 39)]
def charH (nm : Bs) : Option Nat :=
  if Lib.hasPrefix nm [35, 120] = true then numR 16 6 (Lib.trimPrefix nm [35, 120])
  else if Lib.hasPrefix nm [35] = true then numR 10 7 (Lib.trimPrefix nm [35]) else none
def charR (nm : Bs) : Option Nat := match ents.find? (fun e => decide (e.1 = nm)) with
  | some e => some e.2.toNat
  | none => charH nm
def entityR (l : Bs) : RR Nat := if (Lib.cut l [59]).2.2 = true then match charR (Lib.cut l [59]).1 with
    | some c => .ok (c, (Lib.cut l [59]).2.1)
    | none => .error 103
  else .error 103
def cdataB : Bs := [60, 33, 91, 67, 68, 65, 84, 65, 91]
def runR : Nat → Bs → Bs → RR Bs
  | 0, _, _ => .error 100
  | k + 1, out, l => (plainR [60, 38] l).bind fun x =>
    if Lib.hasPrefix x.2 [38] = true then (entityR (Lib.trimPrefix x.2 [38])).bind fun y => runR k (out ++ x.1 ++ Lib.encodeRune (y.1 : Int)) y.2
    else if Lib.hasPrefix x.2 cdataB = true then (upToR [93, 93, 62] (Lib.trimPrefix x.2 cdataB)).bind fun y => runR k (out ++ x.1 ++ y.1) y.2
    else if Lib.hasPrefix x.2 [60, 33, 45, 45] = true then (upToR [45, 45] (Lib.trimPrefix x.2 [60, 33, 45, 45])).bind fun y => (wantR [62] y.2).bind fun z => runR k (out ++ x.1) z.2
    else if Lib.hasPrefix x.2 [60, 63] = true then (nameR (Lib.trimPrefix x.2 [60, 63])).bind fun y => (upToR [63, 62] y.2).bind fun z => runR k (out ++ x.1) z.2
    else if Lib.hasPrefix x.2 [60, 33] = true then .error 100 else .ok (out ++ x.1, x.2)
def valueR (q : Bs) : Nat → Bs → Bs → RR Bs
  | 0, _, _ => .error 100
  | k + 1, out, l => (plainR ([60, 38] ++ q) l).bind fun x =>
    if Lib.hasPrefix x.2 [38] = true then (entityR (Lib.trimPrefix x.2 [38])).bind fun y => valueR q k (out ++ x.1 ++ Lib.encodeRune (y.1 : Int)) y.2
    else (wantR q x.2).map fun y => (out ++ x.1, y.2)
def valueQ (q l : Bs) : RR Bs := valueR q (l.length + 1) [] l
def attrR (others : List (Bs × Bs)) (l : Bs) : RR (Bs × Bs) := (nameR l).bind fun n =>
  if others.length < 16 then
    if others.any (fun a => decide (a.1 = n.1)) = true then .error 100 else
    (layoutR n.2).bind fun a => (wantR [61] a.2).bind fun b => (layoutR b.2).bind fun c =>
      if Lib.hasPrefix c.2 [39] = true then (valueQ [39] (Lib.trimPrefix c.2 [39])).map fun v => ((n.1, v.1), v.2)
      else (wantR [34] c.2).bind fun d => (valueQ [34] d.2).map fun v => ((n.1, v.1), v.2)
  else .error 104
def attrsR : Nat → List (Bs × Bs) → Bs → RR (List (Bs × Bs) × Bool)
  | 0, _, _ => .error 100
  | k + 1, al, l => (layoutR l).bind fun a =>
    if Lib.hasPrefix a.2 [62] = true then .ok ((al, false), Lib.trimPrefix a.2 [62])
    else if Lib.hasPrefix a.2 [47, 62] = true then .ok ((al, true), Lib.trimPrefix a.2 [47, 62])
    else if a.1 = true then (attrR al a.2).bind fun x => attrsR k (al ++ [x.1]) x.2 else .error 100
/-- A piece; a reader. -/
structure Pc where
  kind : Int
  name : Bs
  attrs : List (Bs × Bs)
  text : Bs
structure XS where
  rest : Bs
  opn : List Bs
  begun : Bool
  short : Bool
def startR (s : XS) : Except Int (Pc × XS) := (nameR s.rest).bind fun n =>
  if s.opn.length < 16 then
    if 0 < s.opn.length ∨ s.begun = false then (attrsR (n.2.length + 1) [] n.2).map fun a => (⟨1, n.1, a.1.1, []⟩, ⟨a.2, s.opn ++ [n.1], true, a.1.2⟩)
    else .error 100
  else .error 102
def leaveR (s : XS) : Pc × XS := (⟨2, s.opn.getLastD [], [], []⟩, { s with opn := s.opn.dropLast })
def endR (s : XS) : Except Int (Pc × XS) := (nameR s.rest).bind fun n => (layoutR n.2).bind fun a => (wantR [62] a.2).bind fun b =>
  if s.opn.getLast? = some n.1 then .ok (leaveR { s with rest := b.2 }) else .error 101
def nextR (s : XS) : Except Int (Pc × XS) :=
  if s.short = true then .ok (leaveR { s with short := false }) else
  (runR (s.rest.length + 1) [] s.rest).bind fun x =>
    if 0 < s.opn.length then
      if x.1 ≠ [] then .ok (⟨3, [], [], x.1⟩, { s with rest := x.2 })
      else if x.2 = [] then .error 100
      else if Lib.hasPrefix x.2 [60, 47] = true then endR { s with rest := Lib.trimPrefix x.2 [60, 47] }
      else (wantR [60] x.2).bind fun y => startR { s with rest := y.2 }
    else if x.1.all xLay = true then
      if x.2 = [] then if s.begun = true then .ok (⟨4, [], [], []⟩, { s with rest := [] }) else .error 100
      else if Lib.hasPrefix x.2 [60, 47] = true then endR { s with rest := Lib.trimPrefix x.2 [60, 47] }
      else (wantR [60] x.2).bind fun y => startR { s with rest := y.2 }
    else .error 100

/-! What is left is no more than there was. -/
theorem takeR_len {n : Nat} {l : Bs} {x : Bs × Bs} (h : takeR n l = .ok x) : x.2.length = l.length - n ∧ x.1 = l.take n ∧ x.2 = l.drop n := by
  unfold takeR at h
  split at h
  · injection h with h; subst h; exact ⟨by simp, rfl, rfl⟩
  · cases h
theorem trim_len (l p : Bs) : (Lib.trimPrefix l p).length ≤ l.length := by
  unfold Lib.trimPrefix; split
  · simp
  · exact Nat.le_refl _
theorem trim_lt {l p : Bs} (h : Lib.hasPrefix l p = true) (hp : 0 < p.length) : (Lib.trimPrefix l p).length < l.length := by
  unfold Lib.trimPrefix
  rw [if_pos h]
  unfold Lib.hasPrefix at h
  have := (List.isPrefixOf_iff_prefix.1 h).length_le
  simp; omega
theorem wantR_len {p l : Bs} {x : Unit × Bs} (h : wantR p l = .ok x) : x.2.length ≤ l.length ∧ x.2 = Lib.trimPrefix l p ∧ Lib.hasPrefix l p = true := by
  unfold wantR at h
  split at h
  · rename_i hp; injection h with h; subst h; exact ⟨trim_len _ _, rfl, hp⟩
  · cases h
theorem bind_ok {α β : Type} {e : Except Int α} {f : α → Except Int β} {y : β} (h : e.bind f = .ok y) : ∃ x, e = .ok x ∧ f x = .ok y := by
  cases e with
  | error k => cases h
  | ok x => exact ⟨x, rfl, h⟩
theorem map_ok {α β : Type} {e : Except Int α} {f : α → β} {y : β} (h : e.map f = .ok y) : ∃ x, e = .ok x ∧ f x = y := by
  cases e with
  | error k => cases h
  | ok x => injection h with h; exact ⟨x, rfl, h⟩
theorem upToR_len {p l : Bs} {x : Bs × Bs} (h : upToR p l = .ok x) : x.2.length ≤ l.length := by
  unfold upToR at h
  split at h
  · obtain ⟨y, hy, h⟩ := bind_ok h
    obtain ⟨z, hz, h⟩ := map_ok h
    subst h
    have := (takeR_len hy).1
    have := (wantR_len hz).1
    show z.2.length ≤ _; omega
  · cases h
theorem layoutR_len {l : Bs} {x : Bool × Bs} (h : layoutR l = .ok x) : x.2.length ≤ l.length := by
  unfold layoutR at h
  obtain ⟨y, hy, h⟩ := map_ok h
  subst h
  have := (takeR_len hy).1
  show y.2.length ≤ _; omega
theorem nameR_len {l : Bs} {x : Bs × Bs} (h : nameR l = .ok x) : x.2.length < l.length := by
  unfold nameR at h
  split at h
  · rename_i hn
    have h1 := (takeR_len h).1
    cases l with
    | nil => simp [nameN] at hn
    | cons c r => simp only [List.length_cons] at *; omega
  · cases h
theorem cut_len (l : Bs) : (Lib.cut l [59]).2.1.length ≤ l.length := by
  unfold Lib.cut
  split
  · show (l.drop _).length ≤ _; simp
  · exact Nat.zero_le _
theorem entityR_len {l : Bs} {x : Nat × Bs} (h : entityR l = .ok x) : x.2.length ≤ l.length := by
  unfold entityR at h
  split at h
  · split at h
    · injection h with h; subst h; exact cut_len l
    · cases h
  · cases h
theorem plainR_len {p l : Bs} {x : Bs × Bs} (h : plainR p l = .ok x) : x.2.length ≤ l.length := by
  have := (takeR_len h).1; omega
theorem runR_len : ∀ (k : Nat) {out l : Bs} {x : Bs × Bs}, runR k out l = .ok x → x.2.length ≤ l.length
  | 0, _, _, _, h => by cases h
  | k + 1, out, l, x, h => by
    unfold runR at h
    obtain ⟨y, hy, h⟩ := bind_ok h
    have h0 := plainR_len hy
    split at h
    · rename_i hp
      obtain ⟨z, hz, h⟩ := bind_ok h
      have := entityR_len hz; have := trim_len y.2 [38]; have := runR_len k h; omega
    · split at h
      · obtain ⟨z, hz, h⟩ := bind_ok h
        have := upToR_len hz; have := trim_len y.2 cdataB; have := runR_len k h; omega
      · split at h
        · obtain ⟨z, hz, h⟩ := bind_ok h
          obtain ⟨u, hu, h⟩ := bind_ok h
          have := upToR_len hz; have := trim_len y.2 [60, 33, 45, 45]; have := (wantR_len hu).1; have := runR_len k h; omega
        · split at h
          · obtain ⟨z, hz, h⟩ := bind_ok h
            obtain ⟨u, hu, h⟩ := bind_ok h
            have := upToR_len hu; have := trim_len y.2 [60, 63]; have := nameR_len hz; have := runR_len k h; omega
          · split at h
            · cases h
            · injection h with h; subst h; exact h0
theorem valueR_len {q : Bs} : ∀ (k : Nat) {out l : Bs} {x : Bs × Bs}, valueR q k out l = .ok x → x.2.length ≤ l.length
  | 0, _, _, _, h => by cases h
  | k + 1, out, l, x, h => by
    unfold valueR at h
    obtain ⟨y, hy, h⟩ := bind_ok h
    have h0 := plainR_len hy
    split at h
    · rename_i hp
      obtain ⟨z, hz, h⟩ := bind_ok h
      have := entityR_len hz; have := trim_len y.2 [38]; have := valueR_len k h; omega
    · obtain ⟨z, hz, h⟩ := map_ok h
      subst h
      have := (wantR_len hz).1
      show z.2.length ≤ _; omega
theorem attrR_len {o : List (Bs × Bs)} {l : Bs} {x : (Bs × Bs) × Bs} (h : attrR o l = .ok x) : x.2.length < l.length := by
  unfold attrR at h
  obtain ⟨n, hn, h⟩ := bind_ok h
  have h0 := nameR_len hn
  split at h
  · split at h
    · cases h
    · obtain ⟨a, ha, h⟩ := bind_ok h
      obtain ⟨b, hb, h⟩ := bind_ok h
      obtain ⟨c, hc, h⟩ := bind_ok h
      have := layoutR_len ha; have := (wantR_len hb).1; have := layoutR_len hc
      split at h
      · obtain ⟨v, hv, h⟩ := map_ok h
        subst h
        have := valueR_len _ hv; have := trim_len c.2 [39]
        show v.2.length < _; omega
      · obtain ⟨d, hd, h⟩ := bind_ok h
        obtain ⟨v, hv, h⟩ := map_ok h
        subst h
        have := valueR_len _ hv; have := (wantR_len hd).1
        show v.2.length < _; omega
  · cases h
end Go.Proofs.YtljldbdjkjllhaaGreatDoor

/- The kinds of bytes, how many stand at a text's beginning; what must be. -/
namespace Go.Proofs.YtljldbdjkjllhaaGreatDoor
set_option linter.unusedSimpArgs false
set_option linter.unusedVariables false
open Go.RowKit

/-- What gives up with an error. -/
def gaveUp (n : Int) : Ending := .panicked [{ v := .iface 25 (.int .i64 n), recovered := false }]
set_option maxRecDepth 100000 in
theorem must_yes (n : Int) (w : World) : Calls Tryz.prog 87 #[.bool true, .int .i64 n] w fun e w' => e = .returned (.tuple #[]) ∧ w = w' := by
  go_enter Tryz.func87, Tryz.ntmps87
  go_wp2_with fail
  go_end0
  exact ⟨rfl, rfl⟩
set_option maxRecDepth 100000 in
theorem must_no (n : Int) (w : World) : Calls Tryz.prog 87 #[.bool false, .int .i64 n] w fun e w' => e = gaveUp n ∧ w = w' := by
  go_enter Tryz.func87, Tryz.ntmps87
  go_wp2_with fail
  exact ⟨rfl, ⟨rfl, rfl⟩⟩
theorem lay_ix : ∀ c : UInt8, decide ((0 : Int) ≤ Lib.indexByte [9, 10, 13, 32] c) = xLay c := by
  have h : ∀ n : Fin 256, decide ((0 : Int) ≤ Lib.indexByte [9, 10, 13, 32] (UInt8.ofNat n.1)) = xLay (UInt8.ofNat n.1) := by decide +kernel
  intro c
  have := h ⟨c.toNat, c.toNat_lt⟩
  simpa using this
set_option maxRecDepth 100000 in
theorem isLayout_any : IsPred 212 xLay := by
  intro c w
  have C := Lib.hid (Tryz.strings_IndexByte ⟨#[9, 10, 13, 32]⟩ (c.toNat : Int) w)
  have h := Lib.hid (lay_ix c)
  have e : ((c.toNat : Int).toNat.toUInt8) = c := by simp
  rw [e] at C
  clear e
  go_enter Tryz.func212, Tryz.ntmps212
  go_wp2_with fail
  refine C.out.mono ?_
  rintro e w' ⟨rfl, rfl⟩
  go_wp2_with fail
  go_ret
  refine ⟨ret_bool ?_, rfl⟩
  rw [← h.out]
theorem mayI (c : UInt8) : xMay c = (decide ((32 : Int) ≤ (c.toNat : Int)) || xLay c) := by
  unfold xMay
  generalize xLay c = d
  rw [Bool.eq_iff_iff]
  cases d <;> simp <;> omega
set_option maxRecDepth 100000 in
theorem mayStand_any : IsPred 243 xMay := by
  intro c w
  have C := Lib.hid (isLayout_any c)
  have h := Lib.hid (mayI c)
  by_cases hc : (32 : Int) ≤ (c.toNat : Int)
  · have hd : decide ((32 : Int) ≤ (c.toNat : Int)) = true := decide_eq_true hc
    go_enter Tryz.func243, Tryz.ntmps243
    go_wp2_with fail
    go_ret
    refine ⟨ret_bool ?_, rfl⟩
    rw [h.out]; simp; omega
  · have hd : decide ((32 : Int) ≤ (c.toNat : Int)) = false := decide_eq_false hc
    go_enter Tryz.func243, Tryz.ntmps243
    go_wp2_with fail
    refine (C.out _).mono ?_
    rintro e w' ⟨rfl, rfl⟩
    go_wp2_with fail
    go_ret
    refine ⟨ret_bool ?_, rfl⟩
    rw [h.out]; simp; omega
theorem firstI (c : UInt8) : xFirst c = (decide ((97 : Int) ≤ (c.toNat : Int)) && decide ((c.toNat : Int) ≤ 122) || decide ((65 : Int) ≤ (c.toNat : Int)) && decide ((c.toNat : Int) ≤ 90) || decide ((c.toNat : Int) = 95)) := by
  unfold xFirst
  rw [Bool.eq_iff_iff]; simp; omega
set_option maxRecDepth 100000 in
theorem isFirst_any : IsPred 208 xFirst := by
  intro c w
  have h := Lib.hid (firstI c)
  go_enter Tryz.func208, Tryz.ntmps208
  go_wp2_with fail
  all_goals
    go_ret
    refine ⟨ret_bool ?_, rfl⟩
    rw [h.out, Bool.eq_iff_iff]
    simp <;> omega
theorem ofI (c : UInt8) : xOf c = (xFirst c || decide ((48 : Int) ≤ (c.toNat : Int)) && decide ((c.toNat : Int) ≤ 57) || decide ((c.toNat : Int) = 46) || decide ((c.toNat : Int) = 58) || decide ((c.toNat : Int) = 45)) := by
  unfold xOf
  generalize xFirst c = d
  rw [Bool.eq_iff_iff]
  cases d <;> simp <;> omega
set_option maxRecDepth 100000 in
theorem isOfName_any : IsPred 210 xOf := by
  intro c w
  have C := Lib.hid (isFirst_any c)
  have h := Lib.hid (ofI c)
  generalize xFirst c = d at *
  cases d
  all_goals
    go_enter Tryz.func210, Tryz.ntmps210
    go_wp2_with fail
    refine (C.out _).mono ?_
    rintro e w' ⟨rfl, rfl⟩
    go_wp2_with fail
  all_goals
    go_ret
    refine ⟨ret_bool ?_, rfl⟩
    rw [h.out, Bool.eq_iff_iff]
    simp <;> omega
set_option maxHeartbeats 400000 in
set_option maxRecDepth 100000 in
theorem span_any {f : FuncId} {p : UInt8 → Bool} (hp : IsPred f p) (ef : ∀ args w, (callFunc f args).run Tryz.prog w = .ok (.enter f args) w) (s : ByteArray) (hs : s.size ≤ maxLen) (w : World) :
    Calls Tryz.prog 209 #[.string s, .func (.func f) #[] #[]] w fun e w' => e = .returned (.int .i64 ((s.data.toList.takeWhile p).length : Nat)) ∧ w = w' := by
  unfold maxLen at hs
  have HP := Lib.hid hp
  clear hp
  go_enter Tryz.func209, Tryz.ntmps209
  go_wp2_with fail
  go_loop [5] (fun n => ∃ k : Nat, k ≤ s.size ∧ n = .int .i64 (k : Int) ∧ Hid ((s.data.toList.take k).all p = true)) (fun n => s.size - (intOf n).toNat)
  case atStart => exact ⟨0, Nat.zero_le _, rfl, show ((s.data.toList.take 0).all p = true) from rfl⟩
  case round =>
    obtain ⟨k, hk, rfl, hall⟩ := hrel
    by_cases hlt : k < s.size
    · have C := Lib.hid (HP.out s[k])
      cases hpk : p s[k] with
      | true =>
        have HN := Lib.hid (all_snoc hall.out (byte_at hlt) hpk)
        rw [hpk] at C
        clear hpk
        go_wp2_with fail
        refine (C.out _).mono ?_
        rintro e w' ⟨rfl, rfl⟩
        go_wp2_with fail
        go_round
        case rel => exact ⟨k + 1, by omega, by go_num, HN.out⟩
        case measure => simp [intOf]; omega
      | false =>
        have HN := Lib.hid (while_is hall.out (by simpa using hk) (fun c hc => by rw [byte_at hlt] at hc; injection hc with hc; rw [← hc]; exact hpk))
        rw [hpk] at C
        clear hpk
        go_wp2_with fail
        refine (C.out _).mono ?_
        rintro e w' ⟨rfl, rfl⟩
        go_wp2_with fail
        go_ret
        rw [← HN.out]
        exact ⟨rfl, rfl⟩
    · have HN := Lib.hid (while_is hall.out (by simpa using hk) (fun c hc => by have := (List.getElem?_eq_some_iff.1 hc).1; simp at this; exact absurd this hlt))
      go_wp2_with fail
      go_ret
      rw [← HN.out]
      exact ⟨rfl, rfl⟩
theorem enter_may : ∀ args w, (callFunc 243 args).run Tryz.prog w = .ok (.enter 243 args) w := enters_of Tryz.func243 (by kernel_rfl) rfl
theorem enter_lay : ∀ args w, (callFunc 212 args).run Tryz.prog w = .ok (.enter 212 args) w := enters_of Tryz.func212 (by kernel_rfl) rfl
theorem enter_of : ∀ args w, (callFunc 210 args).run Tryz.prog w = .ok (.enter 210 args) w := enters_of Tryz.func210 (by kernel_rfl) rfl
theorem span_may (s : ByteArray) (hs : s.size ≤ maxLen) (w : World) : Calls Tryz.prog 209 #[.string s, .func (.func 243) #[] #[]] w fun e w' => e = .returned (.int .i64 ((s.data.toList.takeWhile xMay).length : Nat)) ∧ w = w' := span_any mayStand_any enter_may s hs w
theorem span_lay (s : ByteArray) (hs : s.size ≤ maxLen) (w : World) : Calls Tryz.prog 209 #[.string s, .func (.func 212) #[] #[]] w fun e w' => e = .returned (.int .i64 ((s.data.toList.takeWhile xLay).length : Nat)) ∧ w = w' := span_any isLayout_any enter_lay s hs w
theorem span_of (s : ByteArray) (hs : s.size ≤ maxLen) (w : World) : Calls Tryz.prog 209 #[.string s, .func (.func 210) #[] #[]] w fun e w' => e = .returned (.int .i64 ((s.data.toList.takeWhile xOf).length : Nat)) ∧ w = w' := span_any isOfName_any enter_of s hs w
end Go.Proofs.YtljldbdjkjllhaaGreatDoor

/- A reader in memory; what takes from it. -/
namespace Go.Proofs.YtljldbdjkjllhaaGreatDoor
set_option linter.unusedSimpArgs false
set_option linter.unusedVariables false
open Go.RowKit

def RdB (w : World) (g : Nat) (r : Bs) (v1 v2 v3 v4 : Value) : Prop := Blk w g 98 #[.string (mkS r), v1, v2, v3, v4]
/-- A call took from the reader at g what res tells, or gave up. -/
def Ate {α : Type} (w : World) (g : Nat) (v1 v2 v3 v4 : Value) (res : RR α) (enc : α → Value) (e : Ending) (w' : World) : Prop :=
  Turned [g] w w' ∧ ∃ r', RdB w' g r' v1 v2 v3 v4 ∧ ((∃ a, res = .ok (a, r') ∧ e = .returned (enc a)) ∨ ∃ k, res = .error k ∧ e = gaveUp k)
theorem Ate.ok {α : Type} {w w' : World} {g : Nat} {v1 v2 v3 v4 : Value} {res : RR α} {enc : α → Value} {e : Ending} {x : α × Bs} (h : Ate w g v1 v2 v3 v4 res enc e w') (hx : res = .ok x) : Turned [g] w w' ∧ RdB w' g x.2 v1 v2 v3 v4 ∧ e = .returned (enc x.1) := by
  obtain ⟨ht, r', hr, ⟨a, ha, he⟩ | ⟨k, hk, he⟩⟩ := h
  · rw [hx] at ha; injection ha with ha; subst ha; exact ⟨ht, hr, he⟩
  · rw [hx] at hk; cases hk
theorem Ate.no {α : Type} {w w' : World} {g : Nat} {v1 v2 v3 v4 : Value} {res : RR α} {enc : α → Value} {e : Ending} {k : Int} (h : Ate w g v1 v2 v3 v4 res enc e w') (hx : res = .error k) : Turned [g] w w' ∧ (∃ r', RdB w' g r' v1 v2 v3 v4) ∧ e = gaveUp k := by
  obtain ⟨ht, r', hr, ⟨a, ha, he⟩ | ⟨k, hk, he⟩⟩ := h
  · rw [hx] at ha; cases ha
  · rw [hx] at hk; injection hk with hk; subst hk; exact ⟨ht, ⟨r', hr⟩, he⟩
theorem Ate.mkOk {α : Type} {w w' : World} {g : Nat} {v1 v2 v3 v4 : Value} {res : RR α} {enc : α → Value} {a : α} {r : Bs} (ht : Turned [g] w w') (hr : RdB w' g r v1 v2 v3 v4) (hx : res = .ok (a, r)) : Ate w g v1 v2 v3 v4 res enc (.returned (enc a)) w' := ⟨ht, r, hr, .inl ⟨a, hx, rfl⟩⟩
theorem Ate.mkNo {α : Type} {w w' : World} {g : Nat} {v1 v2 v3 v4 : Value} {res : RR α} {enc : α → Value} {k : Int} {r : Bs} (ht : Turned [g] w w') (hr : RdB w' g r v1 v2 v3 v4) (hx : res = .error k) : Ate w g v1 v2 v3 v4 res enc (gaveUp k) w' := ⟨ht, r, hr, .inr ⟨k, hx, rfl⟩⟩
theorem frG (w : World) (g : Nat) : Fresh w [g] [g] := Fresh.refl _ _

section
variable {w : World} {g : Nat} {r : Bs} {v1 v2 v3 v4 : Value}
theorem RdB.set_ (h : RdB w g r v1 v2 v3 v4) (r' : Bs) : RdB (w.setCell ⟨g, 0, none⟩ (.string (mkS r'))) g r' v1 v2 v3 v4 := Blk.set_ h 0 (.string (mkS r'))
theorem RdB.below {w' : World} (h : RdB w g r v1 v2 v3 v4) (hb : Below w.heap.size w w') : RdB w' g r v1 v2 v3 v4 := Blk.below h hb (Blk.lt h)
set_option maxHeartbeats 400000 in
set_option maxRecDepth 100000 in
theorem takes_any (h : RdB w g r v1 v2 v3 v4) (p : Bs) :
    Calls Tryz.prog 88 #[.pointer (some ⟨g, 0, none⟩), .string (mkS p)] w fun e w' => e = .returned (.bool (Lib.hasPrefix r p)) ∧ Turned [g] w w' ∧ RdB w' g (Lib.trimPrefix r p) v1 v2 v3 v4 := by
  have C := Lib.hid (fun w => Tryz.strings_CutPrefix (mkS r) (mkS p) w)
  rw [show (mkS r).data.toList = r from rfl, show (mkS p).data.toList = p from rfl] at C
  have HV : Hid (Turned [g] w (w.setCell ⟨g, 0, none⟩ (.string (mkS (Lib.trimPrefix r p)))) ∧ RdB (w.setCell ⟨g, 0, none⟩ (.string (mkS (Lib.trimPrefix r p)))) g (Lib.trimPrefix r p) v1 v2 v3 v4) := ⟨(Turned.refl _ _).setCell (.inl (by simp)) _, h.set_ _⟩
  have c0 := Blk.cell h 0
  have f0 := Blk.free h 0
  simp at c0
  clear h
  unfold mkS at *
  generalize Lib.trimPrefix r p = q at *
  generalize Lib.hasPrefix r p = b at *
  go_enter Tryz.func88, Tryz.ntmps88
  go_wp2_with fail
  refine (C.out _).mono ?_
  rintro e w1 ⟨rfl, rfl⟩
  go_wp2_with fail
  go_ret
  exact ⟨rfl, HV.out⟩
def uV (_ : Unit) : Value := .tuple #[]
def sV (l : Bs) : Value := .string (mkS l)
set_option maxHeartbeats 400000 in
set_option maxRecDepth 100000 in
theorem want_any (h : RdB w g r v1 v2 v3 v4) (p : Bs) :
    Calls Tryz.prog 90 #[.pointer (some ⟨g, 0, none⟩), .string (mkS p)] w (Ate w g v1 v2 v3 v4 (wantR p r) uV) := by
  have C := Lib.hid (takes_any h p)
  clear h
  have CY := Lib.hid (must_yes 100)
  have CX := Lib.hid (must_no 100)
  have HE : Hid (wantR p r = if Lib.hasPrefix r p = true then .ok ((), Lib.trimPrefix r p) else .error 100) := rfl
  generalize wantR p r = res at *
  generalize Lib.trimPrefix r p = q at *
  generalize Lib.hasPrefix r p = b at *
  cases b with
  | true =>
    go_enter Tryz.func90, Tryz.ntmps90
    go_wp2_with fail
    refine C.out.mono ?_
    rintro e w1 ⟨rfl, ht, hr⟩
    have HT := Lib.hid ht
    have HR := Lib.hid hr
    clear ht hr C
    go_wp2_with fail
    refine (CY.out _).mono ?_
    rintro e w2 ⟨rfl, rfl⟩
    go_wp2_with fail
    go_end0
    exact Ate.mkOk HT.out HR.out HE.out
  | false =>
    go_enter Tryz.func90, Tryz.ntmps90
    go_wp2_with fail
    refine C.out.mono ?_
    rintro e w1 ⟨rfl, ht, hr⟩
    have HT := Lib.hid ht
    have HR := Lib.hid hr
    clear ht hr C
    go_wp2_with fail
    refine (CX.out _).mono ?_
    rintro e w2 ⟨rfl, rfl⟩
    unfold gaveUp
    go_wp2_with fail
    exact ⟨rfl, Ate.mkNo HT.out HR.out HE.out⟩
theorem mkS_size (l : Bs) : (mkS l).size = l.length := rfl
theorem mkS_take (l : Bs) (n : Nat) : (mkS l).extract 0 n = mkS (l.take n) := s_ext (by rw [bl_upto, mkS_list, mkS_list])
theorem mkS_drop (l : Bs) (n : Nat) : (mkS l).extract n (mkS l).size = mkS (l.drop n) := s_ext (by rw [bl_from, mkS_list, mkS_list])
theorem all_while {p : UInt8 → Bool} {l : Bs} : decide ((l.takeWhile p).length = l.length) = l.all p := by
  induction l with
  | nil => rfl
  | cons b l ih =>
    rw [List.takeWhile_cons, List.all_cons]
    cases hb : p b with
    | true => simp only [if_true, List.length_cons, Bool.true_and]; rw [← ih]; simp
    | false => simp
set_option maxHeartbeats 1000000 in
set_option maxRecDepth 100000 in
theorem take_any (h : RdB w g r v1 v2 v3 v4) (n : Nat) (hn : n ≤ r.length) (hr : r.length ≤ 40000) :
    Calls Tryz.prog 204 #[.pointer (some ⟨g, 0, none⟩), .int .i64 (n : Int)] w (Ate w g v1 v2 v3 v4 (takeR n r) sV) := by
  have C := Lib.hid (fun w => span_may (mkS (r.take n)) (by rw [mkS_size]; unfold maxLen; simp; omega) w)
  have CY := Lib.hid (must_yes 100)
  have CX := Lib.hid (must_no 100)
  have HE : Hid (takeR n r = if (r.take n).all xMay = true then .ok (r.take n, r.drop n) else .error 100) := rfl
  have hlen : (r.take n).length = n := by simp; omega
  have hall : decide (((r.take n).takeWhile xMay).length = n) = (r.take n).all xMay := by rw [← all_while, hlen]
  rw [mkS_list] at C
  have HV : Hid (Turned [g] w (w.setCell ⟨g, 0, none⟩ (.string (mkS (r.drop n)))) ∧ RdB (w.setCell ⟨g, 0, none⟩ (.string (mkS (r.drop n)))) g (r.drop n) v1 v2 v3 v4) := ⟨(Turned.refl _ _).setCell (.inl (by simp)) _, h.set_ _⟩
  have HR := Lib.hid h
  have c0 := Blk.cell h 0
  have f0 := Blk.free h 0
  simp at c0
  have e1 := mkS_take r n
  have e2 := mkS_drop r n
  have hs : (mkS r).size = r.length := rfl
  rw [hs] at e2
  have hz : (mkS r).size ≤ 40000 := by rw [hs]; exact hr
  have hnz : n ≤ (mkS r).size := by rw [hs]; exact hn
  rw [← hs] at e2
  generalize takeR n r = res at *
  clear h hlen hs hr hn
  generalize (r.take n).all xMay = b at *
  generalize ((r.take n).takeWhile xMay).length = m at *
  obtain ⟨T, hT⟩ : ∃ T, T = mkS (r.take n) := ⟨_, rfl⟩
  rw [← hT] at C e1
  have HT := Lib.hid hT
  clear hT
  generalize mkS (r.drop n) = D at *
  generalize mkS r = S at *
  cases b with
  | true =>
    have hm : m = n := by simpa using hall
    subst hm
    clear hall
    go_enter Tryz.func204, Tryz.ntmps204
    go_wp2_with fail
    refine (C.out _).mono ?_
    rintro e w1 ⟨rfl, rfl⟩
    go_wp2_with fail
    refine (CY.out _).mono ?_
    rintro e w2 ⟨rfl, rfl⟩
    go_wp2_with fail
    go_ret
    rw [HT.out]
    exact Ate.mkOk (a := List.take m r) HV.out.1 HV.out.2 (by have := HE.out; simpa using this)
  | false =>
    have hm : ¬ m = n := by simpa using hall
    have hb : ((m : Int) == (n : Int)) = false := by simp; omega
    clear hall hm
    go_enter Tryz.func204, Tryz.ntmps204
    go_wp2_with fail
    refine (C.out _).mono ?_
    rintro e w1 ⟨rfl, rfl⟩
    go_wp2_with fail
    refine (CX.out _).mono ?_
    rintro e w2 ⟨rfl, rfl⟩
    unfold gaveUp
    go_wp2_with fail
    exact ⟨rfl, Ate.mkNo (Turned.refl _ _) HR.out (by have := HE.out; simpa using this)⟩
end
end Go.Proofs.YtljldbdjkjllhaaGreatDoor

/- What stands ahead of a mark; layout; a name. -/
namespace Go.Proofs.YtljldbdjkjllhaaGreatDoor
set_option linter.unusedSimpArgs false
set_option linter.unusedVariables false
open Go.RowKit

/-- What is kept at package level. -/
structure XEnv (B : Nat) (w : World) : Prop where
  max : ∃ m, w.cell? ⟨5, 0, none⟩ = some (.int .i64 m)
  ents : ∃ t, Blk w 0 t #[.string (mkS [108, 116]), .int .u8 60, .string (mkS [103, 116]), .int .u8 62, .string (mkS [97, 109, 112]), .int .u8 38, .string (mkS [113, 117, 111, 116]), .int .u8 34, .string (mkS [97, 112, 111, 115]), .int .u8 39]
  err : ∃ ev, w.cell? ⟨12, 0, none⟩ = some ev ∧ (ev = .nilIface ∨ ∃ te pe, ev = .iface te pe)
  lt : 5 < B ∧ 0 < B ∧ 12 < B
  size : B ≤ w.heap.size
theorem XEnv.turned {B : Nat} {w w' : World} {F : List Nat} (h : XEnv B w) (ht : Turned F w w') (hF : ∀ k ∈ F, B ≤ k) : XEnv B w' := by
  obtain ⟨h1, ⟨t, h2⟩, ⟨ev, h3, h4⟩, ⟨l1, l2, l3⟩, hz⟩ := h
  have hb : ∀ k, k < B → w'.heap[k]? = w.heap[k]? := fun k hk => ht.block k (by omega) (fun hm => by have := hF k hm; omega)
  refine ⟨?_, ⟨t, (hb _ l2).trans h2⟩, ⟨ev, (World.cell?_of_block (a := ⟨12, 0, none⟩) (hb _ l3)).trans h3, h4⟩, ⟨l1, l2, l3⟩, Nat.le_trans hz ht.size⟩
  obtain ⟨m, h1⟩ := h1
  exact ⟨m, (World.cell?_of_block (a := ⟨5, 0, none⟩) (hb _ l1)).trans h1⟩
theorem XEnv.below {B : Nat} {w w' : World} (h : XEnv B w) (hb : Below w.heap.size w w') : XEnv B w' := h.turned (Turned.of_below hb []) (fun k hk => by cases hk)
theorem XEnv.one {B g : Nat} {w w' : World} (h : XEnv B w) (ht : Turned [g] w w') (hg : B ≤ g) : XEnv B w' := h.turned ht (fun k hk => by simp at hk; omega)

section
variable {w : World} {B g : Nat} {r : Bs} {v1 v2 v3 v4 : Value}
set_option maxHeartbeats 1000000 in
set_option maxRecDepth 100000 in
theorem upTo_any (h : RdB w g r v1 v2 v3 v4) (hE : XEnv B w) (hr : r.length ≤ 40000) (p : Bs) :
    Calls Tryz.prog 157 #[.pointer (some ⟨g, 0, none⟩), .string (mkS p)] w (Ate w g v1 v2 v3 v4 (upToR p r) sV) := by
  obtain ⟨m, hm⟩ := hE.max
  have C := Lib.hid (Tryz.strings_Index (mkS r) (mkS p) m w (by rw [mkS_size]; omega) hm)
  rw [show (mkS r).data.toList = r from rfl, show (mkS p).data.toList = p from rfl] at C
  have HR := Lib.hid h
  have CY := Lib.hid (must_yes 100)
  have CX := Lib.hid (must_no 100)
  have CT := Lib.hid (fun n hn => take_any h n hn hr)
  have CW := Lib.hid (fun w' r' (h' : RdB w' g r' v1 v2 v3 v4) => want_any h' p)
  have c0 := Blk.cell h 0
  simp at c0
  have hix : Lib.index r p = -1 ∨ ∃ i : Nat, Lib.index r p = i ∧ i + (mkS p).size ≤ (mkS r).size := Lib.indexB_cases (mkS r) (mkS p)
  have HE : Hid (upToR p r = if 0 ≤ Lib.index r p then (takeR (Lib.index r p).toNat r).bind fun x => (wantR p x.2).map fun y => (x.1, y.2) else .error 100) := rfl
  clear hm hE h
  generalize upToR p r = res at *
  rcases hix with hix | ⟨n, hix, hn⟩
  · have hc : ¬ (0 : Int) ≤ Lib.index r p := by rw [hix]; omega
    rw [if_neg hc] at HE
    rw [hix] at C
    clear hix hc
    go_enter Tryz.func157, Tryz.ntmps157
    go_wp2_with fail
    refine C.out.mono ?_
    rintro e w1 ⟨rfl, rfl⟩
    go_wp2_with fail
    refine (CX.out _).mono ?_
    rintro e w2 ⟨rfl, rfl⟩
    unfold gaveUp
    go_wp2_with fail
    exact ⟨rfl, Ate.mkNo (Turned.refl _ _) HR.out HE.out⟩
  · have hc : (0 : Int) ≤ Lib.index r p := by rw [hix]; omega
    rw [if_pos hc, hix, Int.toNat_natCast] at HE
    rw [hix] at C
    rw [mkS_size, mkS_size] at hn
    have CT1 := Lib.hid (CT.out n (by omega))
    clear hix hc CT hn CX
    cases hT : takeR n r with
    | error k =>
      rw [hT] at HE
      have HT := Lib.hid hT
      clear hT
      go_enter Tryz.func157, Tryz.ntmps157
      go_wp2_with fail
      refine C.out.mono ?_
      rintro e w1 ⟨rfl, rfl⟩
      go_wp2_with fail
      refine (CY.out _).mono ?_
      rintro e w2 ⟨rfl, rfl⟩
      go_wp2_with fail
      refine CT1.out.mono ?_
      intro e w3 ha
      obtain ⟨h1, ⟨r', h2⟩, rfl⟩ := ha.no HT.out
      have H1 := Lib.hid h1
      have H2 := Lib.hid h2
      clear ha h1 h2
      unfold gaveUp
      go_wp2_with fail
      exact ⟨rfl, Ate.mkNo H1.out H2.out HE.out⟩
    | ok x =>
      obtain ⟨t, r1⟩ := x
      rw [hT] at HE
      have HT := Lib.hid hT
      clear hT
      cases hW : wantR p r1 with
      | error k =>
        have HW := Lib.hid hW
        have HE2 : Hid (res = .error k) := by show res = _; rw [HE.out]; show ((wantR p r1).map _ : RR Bs) = _; rw [hW]; rfl
        clear hW HE
        go_enter Tryz.func157, Tryz.ntmps157
        go_wp2_with fail
        refine C.out.mono ?_
        rintro e w1 ⟨rfl, rfl⟩
        go_wp2_with fail
        refine (CY.out _).mono ?_
        rintro e w2 ⟨rfl, rfl⟩
        go_wp2_with fail
        refine CT1.out.mono ?_
        intro e w3 ha
        obtain ⟨h1, h2, rfl⟩ := ha.ok HT.out
        have H1 := Lib.hid h1
        have CW1 := Lib.hid (CW.out _ _ h2)
        clear ha h1 h2
        unfold sV
        go_wp2_with fail
        refine CW1.out.mono ?_
        intro e w4 ha
        obtain ⟨h1, ⟨r', h2⟩, rfl⟩ := ha.no HW.out
        have H3 := Lib.hid (H1.out.trans h1 (frG _ _))
        have H4 := Lib.hid h2
        clear ha h1 h2
        unfold gaveUp
        go_wp2_with fail
        exact ⟨rfl, Ate.mkNo H3.out H4.out HE2.out⟩
      | ok y =>
        obtain ⟨u, r2⟩ := y
        have HW := Lib.hid hW
        have HE2 : Hid (res = .ok (t, r2)) := by show res = _; rw [HE.out]; show ((wantR p r1).map _ : RR Bs) = _; rw [hW]; rfl
        clear hW HE
        go_enter Tryz.func157, Tryz.ntmps157
        go_wp2_with fail
        refine C.out.mono ?_
        rintro e w1 ⟨rfl, rfl⟩
        go_wp2_with fail
        refine (CY.out _).mono ?_
        rintro e w2 ⟨rfl, rfl⟩
        go_wp2_with fail
        refine CT1.out.mono ?_
        intro e w3 ha
        obtain ⟨h1, h2, rfl⟩ := ha.ok HT.out
        have H1 := Lib.hid h1
        have CW1 := Lib.hid (CW.out _ _ h2)
        clear ha h1 h2
        unfold sV
        go_wp2_with fail
        refine CW1.out.mono ?_
        intro e w4 ha
        obtain ⟨h1, h2, rfl⟩ := ha.ok HW.out
        have H3 := Lib.hid (H1.out.trans h1 (frG _ _))
        have H4 := Lib.hid h2
        clear ha h1 h2
        unfold uV
        go_wp2_with fail
        go_ret
        exact Ate.mkOk H3.out H4.out HE2.out
def bV (b : Bool) : Value := .bool b
theorem isEmpty_mkS (l : Bs) : (mkS l).toList.isEmpty = l.isEmpty := by rw [ByteArray.toList_eq]; rfl
theorem lay_may (l : Bs) : (l.takeWhile xLay).all xMay = true := List.all_eq_true.2 fun c hc => by
  have := List.all_eq_true.1 (while_all (p := xLay) l) c hc
  unfold xMay
  rw [this]; simp
theorem layoutR_ok (l : Bs) : layoutR l = .ok (!(l.takeWhile xLay).isEmpty, l.dropWhile xLay) := by
  unfold layoutR takeR
  rw [← take_of_while, ← drop_of_while, if_pos (lay_may l)]
  rfl
set_option maxHeartbeats 1000000 in
set_option maxRecDepth 100000 in
theorem layout_any (h : RdB w g r v1 v2 v3 v4) (hr : r.length ≤ 40000) :
    Calls Tryz.prog 160 #[.pointer (some ⟨g, 0, none⟩)] w (Ate w g v1 v2 v3 v4 (layoutR r) bV) := by
  have C := Lib.hid (span_lay (mkS r) (by rw [mkS_size]; unfold maxLen; omega) w)
  rw [show (mkS r).data.toList = r from rfl] at C
  have CT := Lib.hid (take_any h (r.takeWhile xLay).length (while_le r) hr)
  have HT : Hid (takeR (r.takeWhile xLay).length r = .ok (r.takeWhile xLay, r.dropWhile xLay)) := by
    show takeR _ _ = _
    unfold takeR
    rw [← take_of_while, ← drop_of_while, if_pos (lay_may r)]
  have HE := Lib.hid (layoutR_ok r)
  have HI := Lib.hid (isEmpty_mkS (r.takeWhile xLay))
  have c0 := Blk.cell h 0
  simp at c0
  clear h
  generalize layoutR r = res at *
  generalize r.dropWhile xLay = D at *
  generalize (r.takeWhile xLay).length = n at *
  generalize r.takeWhile xLay = T at *
  have hb : ∀ b, T.isEmpty = b → (mkS T).toList.isEmpty = b := fun b hb => HI.out.trans hb
  cases hTe : T.isEmpty
  all_goals
    have hq := hb _ hTe
    rw [hTe] at HE
    clear hb hTe
    go_enter Tryz.func160, Tryz.ntmps160
    go_wp2_with fail
    refine C.out.mono ?_
    rintro e w1 ⟨rfl, rfl⟩
    go_wp2_with fail
    refine CT.out.mono ?_
    intro e w3 ha
    obtain ⟨h1, h2, rfl⟩ := ha.ok HT.out
    have H1 := Lib.hid h1
    have H2 := Lib.hid h2
    clear ha h1 h2
    unfold sV
    go_wp2_with fail
    go_ret
    exact Ate.mkOk H1.out H2.out HE.out
end
end Go.Proofs.YtljldbdjkjllhaaGreatDoor

/- A numeral is read. -/
namespace Go.Proofs.YtljldbdjkjllhaaGreatDoor
set_option linter.unusedSimpArgs false
set_option linter.unusedVariables false
open Go.RowKit

theorem lower_or (c : UInt8) : bits .or .u8 (c.toNat : Int) 32 = ((c ||| 32).toNat : Int) := by
  have h : ∀ n : Fin 256, bits .or .u8 ((UInt8.ofNat n.1).toNat : Int) 32 = ((UInt8.ofNat n.1 ||| 32).toNat : Int) := by decide +kernel
  have := h ⟨c.toNat, c.toNat_lt⟩
  simpa using this
def uTup : Option Nat → Value
  | some n => .tuple #[.int .u64 (n : Int), .nilIface]
  | none => .tuple #[.int .u64 0, .iface 257 (.int .i64 2)]
set_option maxHeartbeats 8000000 in
set_option maxRecDepth 1000000 in
theorem pu16_any (t : ByteArray) (hne : t.size ≠ 0) (hmax : t.size ≤ 6) (w : World) :
    Calls Tryz.prog 264 #[.string t, .int .i64 16, .int .i64 32] w fun e w' => e = .returned (uTup (numX 16 0 t.data.toList)) ∧ w' = Lib.bytesWorld w 5 t := by
  have CL := Lib.hid (fun (c : UInt8) w => by
    have := Tryz.internal_strconv_lower (c.toNat : Int) w
    rw [lower_or] at this
    exact this)
  have hemp : t.toList.isEmpty = false := by
    rw [← decide_eq_emptyBytes]
    exact decide_eq_false (fun h => hne (by rw [h]; rfl))
  have hcv := Lib.run_convert_string_bytes (P := Tryz.prog) w 9 46 5 t (u := .string) Tryz.underlying9 Tryz.underlying46 Tryz.underlying5
  have hB : ∀ j, j < t.size → (Lib.bytesWorld w 5 t).cell? ⟨w.heap.size, j, none⟩ = some (.int .u8 (t.data.toList.getD j 0).toNat) := fun j hj => Lib.bytesWorld_cell w 5 t j hj
  obtain ⟨W1, hW1⟩ : ∃ W1, W1 = Lib.bytesWorld w 5 t := ⟨_, rfl⟩
  rw [← hW1] at hcv hB ⊢
  clear hW1
  obtain ⟨bs, hL⟩ : ∃ bs, bs = t.data.toList := ⟨_, rfl⟩
  have hLn : bs.length = t.size := by rw [hL, Lib.size_eq]
  rw [← hL] at hB ⊢
  clear hL
  have hmv : IntKind.u64.wrap (IntKind.u64.wrap 4294967296 - 1) = 4294967295 := by
    rw [IntKind.wrap_u64, IntKind.wrap_u64]
    decide
  go_enter Tryz.func264, Tryz.ntmps264
  go_wp2
  go_loop [12, 13, 101] (fun vu vn vi => ∃ (k acc : Nat) (a : Int), vu = .bool false ∧ vn = .int .u64 a ∧ vi = .int .i64 k ∧ k ≤ t.size ∧ Hid (a = (acc : Int) ∧ acc < 16 ^ k ∧ numX 16 0 bs = numX 16 acc (bs.drop k)))
    (fun _ _ vi => t.size - (intOf vi).toNat)
  case atStart => exact ⟨0, 0, 0, rfl, rfl, rfl, by omega, rfl, by decide, rfl⟩
  case round =>
    obtain ⟨k, acc, a, rfl, rfl, rfl, hk, hh⟩ := hrel
    obtain ⟨ha, hacc, hdec⟩ := hh.out
    clear hh
    have hpow : 16 ^ k ≤ 16777216 := by
      have : 16 ^ k ≤ 16 ^ 6 := Nat.pow_le_pow_right (by decide) (by omega)
      simpa using this
    have hpow2 : 16 ^ (k + 1) = 16 ^ k * 16 := Nat.pow_succ ..
    have a0 : 0 ≤ a := by omega
    have a1 : a ≤ 16777215 := by omega
    by_cases hkn : k < t.size
    · have hc := hB k hkn
      have hdrop : bs.drop k = bs[k]'(by omega) :: bs.drop (k + 1) := List.drop_eq_getElem_cons (by omega)
      have hget : bs.getD k 0 = bs[k]'(by omega) := by simp [List.getD, List.getElem?_eq_getElem (show k < bs.length by omega)]
      rw [hdrop] at hdec
      rw [hget] at hc
      generalize bs[k]'(by omega) = c at hc hdec
      have hc256 : c.toNat < 256 := c.toNat_lt
      clear hB hdrop hget
      have CL1 := Lib.hid (CL.out c)
      have hx256 : (c ||| 32).toNat < 256 := (c ||| 32).toNat_lt
      by_cases hdig : 48 ≤ c.toNat ∧ c.toNat ≤ 57
      · obtain ⟨hd0, hd1⟩ := hdig
        have hF : numX 16 acc (c :: bs.drop (k + 1)) = numX 16 (acc * 16 + (c.toNat - 48)) (bs.drop (k + 1)) := by
          have : digX c = c.toNat - 48 := by unfold digX; rw [if_pos ⟨hd0, hd1⟩]
          rw [numX, this, if_pos (by omega)]
        have HN : Hid (a * 16 + ((c.toNat : Int) - 48) = ((acc * 16 + (c.toNat - 48) : Nat) : Int) ∧ acc * 16 + (c.toNat - 48) < 16 ^ (k + 1) ∧ numX 16 0 bs = numX 16 (acc * 16 + (c.toNat - 48)) (bs.drop (k + 1))) := Lib.hid ⟨by omega, by omega, hdec.trans hF⟩
        clear hacc hF hdec ha hpow hpow2
        go_wp2
        refine ⟨⟨k + 1, acc * 16 + (c.toNat - 48), a * 16 + ((c.toNat : Int) - 48), rfl, (by first | rfl | (congr 1; omega)), (by first | rfl | (congr 1; omega)), by omega, HN⟩, by simp [intOf]; omega⟩
      · by_cases h95 : c = 95
        · subst h95
          have hF : numX 16 acc ((95 : UInt8) :: bs.drop (k + 1)) = none := by rw [numX, if_neg (by decide)]
          rw [hF] at hdec
          have CL2 : Hid (∀ w, Calls Tryz.prog 268 #[.int .u8 95] w fun e w' => e = .returned (.int .u8 127) ∧ w' = w) := CL.out 95
          have hc : W1.cell? ⟨w.heap.size, k, none⟩ = some (.int .u8 95) := hc
          clear hacc hF ha hpow hpow2 CL1 CL hdig hc256 hx256
          go_wp2_with (go_at_call 268; refine (CL2.out _).mono ?_; rintro e w' ⟨rfl, rfl⟩)
          all_goals go_ret2
          all_goals first | exact ⟨rfl, rfl⟩ | exact ⟨by rw [hdec]; rfl, rfl⟩
        · have t95 : ((c.toNat : Int) == 95) = false := by
            have : c.toNat ≠ 95 := fun e => h95 (UInt8.toNat_inj.1 e)
            simp; omega
          by_cases hlet : 97 ≤ (c ||| 32).toNat ∧ (c ||| 32).toNat ≤ 102
          · have hd : digX c = (c ||| 32).toNat - 87 := by unfold digX; rw [if_neg hdig, if_pos (by omega)]
            have hF : numX 16 acc (c :: bs.drop (k + 1)) = numX 16 (acc * 16 + ((c ||| 32).toNat - 87)) (bs.drop (k + 1)) := by rw [numX, hd, if_pos (by omega)]
            generalize (c ||| 32).toNat = x at *
            have HN : Hid (a * 16 + ((x : Int) - 97 + 10) = ((acc * 16 + (x - 87) : Nat) : Int) ∧ acc * 16 + (x - 87) < 16 ^ (k + 1) ∧ numX 16 0 bs = numX 16 (acc * 16 + (x - 87)) (bs.drop (k + 1))) := Lib.hid ⟨by omega, by omega, hdec.trans hF⟩
            obtain ⟨hl0, hl1⟩ := hlet
            rcases (by omega : c.toNat < 48 ∨ 57 < c.toNat) with hcc | hcc
            all_goals
              clear hacc hF hdec ha hpow hpow2 hd hdig h95 CL
              go_wp2_with (go_at_call 268; refine (CL1.out _).mono ?_; rintro e w' ⟨rfl, rfl⟩)
              refine ⟨⟨k + 1, acc * 16 + (x - 87), a * 16 + ((x : Int) - 97 + 10), rfl, (by first | rfl | (congr 1; omega)), (by first | rfl | (congr 1; omega)), by omega, HN⟩, by simp [intOf]; omega⟩
          · have hd : ¬ digX c < 16 := by unfold digX; rw [if_neg hdig]; split <;> omega
            have hF : numX 16 acc (c :: bs.drop (k + 1)) = none := by rw [numX, if_neg hd]
            rw [hF] at hdec
            generalize (c ||| 32).toNat = x at *
            rcases (by omega : x < 97 ∨ (97 ≤ x ∧ 122 < x) ∨ (97 ≤ x ∧ x ≤ 122 ∧ 103 ≤ x)) with hl | hl | hl
            all_goals
              rcases (by omega : c.toNat < 48 ∨ 57 < c.toNat) with hcc | hcc
              all_goals
                clear hacc hF ha hpow hpow2 hd hdig h95 CL hlet
                go_wp2_with (go_at_call 268; refine (CL1.out _).mono ?_; rintro e w' ⟨rfl, rfl⟩)
                all_goals go_ret2
                all_goals first | exact ⟨rfl, rfl⟩ | exact ⟨by rw [hdec]; rfl, rfl⟩
    · have hkk : k = t.size := by omega
      subst hkk
      have hF : numX 16 acc (bs.drop t.size) = some acc := by rw [List.drop_eq_nil_of_le (by omega)]; rfl
      rw [hF] at hdec
      subst ha
      clear hacc hF a0 a1 hpow hpow2
      go_wp2
      go_ret2
      exact ⟨rfl, rfl⟩
end Go.Proofs.YtljldbdjkjllhaaGreatDoor

/- What strconv.ParseUint answers; a character by its number. -/
namespace Go.Proofs.YtljldbdjkjllhaaGreatDoor
set_option linter.unusedSimpArgs false
set_option linter.unusedVariables false
open Go.RowKit

theorem dig10 (c : UInt8) : digX c < 10 ↔ 48 ≤ c.toNat ∧ c.toNat ≤ 57 := by
  unfold digX
  split
  · rename_i h; constructor
    · intro _; exact h
    · intro _; omega
  · rename_i h; constructor
    · intro h2; split at h2 <;> omega
    · intro h2; exact absurd h2 h
theorem num10 : ∀ (l : List UInt8) (acc : Nat), (acc + 1) * 10 ^ l.length ≤ 10000000 → Lib.parseUintM 4294967295 acc l = match numX 10 acc l with
    | some n => .ok n
    | none => .syntax
  | [], acc, h => rfl
  | c :: r, acc, h => by
    have hp : 10 ^ (r.length + 1) = 10 ^ r.length * 10 := Nat.pow_succ ..
    rw [List.length_cons, hp] at h
    have h1 : 0 < 10 ^ r.length := Nat.pow_pos (by decide)
    have h2 : (acc + 1) * 10 ≤ (acc + 1) * (10 ^ r.length * 10) := Nat.mul_le_mul_left _ (by omega)
    by_cases hd : 48 ≤ c.toNat ∧ c.toNat ≤ 57
    · have hdc : digX c = c.toNat - 48 := by unfold digX; rw [if_pos hd]
      have h3 : acc * 10 + (c.toNat - 48) + 1 ≤ (acc + 1) * 10 := by omega
      have h4 : (acc * 10 + (c.toNat - 48) + 1) * 10 ^ r.length ≤ 10000000 := by
        refine Nat.le_trans (Nat.mul_le_mul_right _ h3) ?_
        rw [Nat.mul_assoc, Nat.mul_comm 10]; exact h
      have ih := num10 r (acc * 10 + (c.toNat - 48)) h4
      rw [numX, hdc, if_pos (by omega), ← ih]
      have hcut : ¬ 1844674407370955162 ≤ acc := by omega
      have hov : ¬ 4294967295 < acc * 10 + (c.toNat - 48) := by omega
      simp [Lib.parseUintM, hd.1, hd.2, hcut, hov]
    · rw [numX, if_neg (fun h => hd ((dig10 c).1 h))]
      simp [Lib.parseUintM, hd]
/-- A numeral's base, and how many digits it may have. -/
def BaseX (b : Nat) (t : ByteArray) : Prop := (b = 10 ∧ t.size ≤ 7) ∨ (b = 16 ∧ t.size ≤ 6)
theorem puI_any (b : Nat) (t : ByteArray) (hb : BaseX b t) (w : World) :
    Calls Tryz.prog 264 #[.string t, .int .i64 (b : Int), .int .i64 32] w fun e w' => e = .returned (uTup (uintX b t.data.toList)) ∧ Below w.heap.size w w' := by
  by_cases h0 : t.size = 0
  · have ht := empty_of h0
    subst ht
    refine (Tryz.internal_strconv_ParseUint_empty (b : Int) 32 w).mono ?_
    rintro e w' ⟨rfl, rfl⟩
    exact ⟨rfl, Below.refl _ _⟩
  · have hne : t.data.toList ≠ [] := fun e => h0 (by rw [← size_len, e]; rfl)
    have hu : ∀ b, uintX b t.data.toList = numX b 0 t.data.toList := fun b => by unfold uintX; rw [if_neg hne]
    rcases hb with ⟨rfl, hz⟩ | ⟨rfl, hz⟩
    · refine (Tryz.internal_strconv_ParseUint_10_b32 t h0 (by omega) w).mono ?_
      rintro e w' ⟨rfl, rfl⟩
      refine ⟨?_, Lib.bytesWorld_below _ _ _⟩
      rw [hu, num10 _ 0 (by
        have : 10 ^ t.data.toList.length ≤ 10 ^ 7 := Nat.pow_le_pow_right (by decide) (by rw [size_len]; exact hz)
        rw [Nat.zero_add, Nat.one_mul]; exact this)]
      cases numX 10 0 t.data.toList with
      | none => rfl
      | some n => rfl
    · refine (pu16_any t h0 hz w).mono ?_
      rintro e w' ⟨rfl, rfl⟩
      exact ⟨by rw [hu], Lib.bytesWorld_below _ _ _⟩
/-- What ParseUint answers. -/
def PuEnds (res : Option Nat) (e : Ending) : Prop := match res with
  | some n => e = .returned (.tuple #[.int .u64 (n : Int), .nilIface])
  | none => ∃ N : Nat, e = .returned (.tuple #[.int .u64 0, .iface 259 (.pointer (some ⟨N, 0, none⟩))])
set_option maxHeartbeats 1000000 in
set_option maxRecDepth 100000 in
theorem pu_any (b : Nat) (t : ByteArray) (hb : BaseX b t) {B : Nat} {w : World} (hE : XEnv B w) :
    Calls Tryz.prog 259 #[.string t, .int .i64 (b : Int), .int .i64 32] w fun e w' => PuEnds (uintX b t.data.toList) e ∧ Below w.heap.size w w' := by
  have C := Lib.hid (puI_any b t hb w)
  have hz : t.size ≤ 281474976710656 := by rcases hb with ⟨_, h⟩ | ⟨_, h⟩ <;> omega
  have CE : Hid (∀ w', Below w.heap.size w w' → Calls Tryz.prog 265 #[.string ⟨#[80, 97, 114, 115, 101, 85, 105, 110, 116]⟩, .string t, .int .i64 (b : Int), .int .i64 32, .iface 257 (.int .i64 2)] w' fun e w'' => ∃ N : Nat, e = .returned (.iface 259 (.pointer (some ⟨N, 0, none⟩))) ∧ Below w'.heap.size w' w'') := fun w' hb' => by
    obtain ⟨ev, h1, h2⟩ := (hE.below hb').err
    refine (Tryz.strconv_toError_syntax ⟨#[80, 97, 114, 115, 101, 85, 105, 110, 116]⟩ t (b : Int) 32 ev w' hz h1 h2).mono ?_
    rintro e w2 ⟨N, rfl, -, -, h⟩
    exact ⟨N, rfl, h⟩
  clear hb hE hz
  unfold PuEnds
  generalize uintX b t.data.toList = res at *
  cases res with
  | some n =>
    unfold uTup at C
    go_enter Tryz.func259, Tryz.ntmps259
    go_wp2_with fail
    refine C.out.mono ?_
    rintro e w1 ⟨rfl, hb⟩
    have HB := Lib.hid hb
    clear hb C CE
    go_wp2_with fail
    go_ret2
    exact ⟨rfl, HB.out⟩
  | none =>
    unfold uTup at C
    go_enter Tryz.func259, Tryz.ntmps259
    go_wp2_with fail
    refine C.out.mono ?_
    rintro e w1 ⟨rfl, hb⟩
    have HB := Lib.hid hb
    have CE1 := Lib.hid (CE.out _ hb)
    clear C CE
    go_wp2_with fail
    refine CE1.out.mono ?_
    rintro e w2 ⟨N, rfl, h3⟩
    have HB2 := Lib.hid (HB.out.trans (h3.mono HB.out.size))
    clear h3 CE1
    go_wp2_with fail
    go_ret2
    exact ⟨⟨N, rfl⟩, HB2.out⟩
end Go.Proofs.YtljldbdjkjllhaaGreatDoor

/- Where the first of some bytes stands in a text of any bytes: the library's own search among bytes below 128. -/
namespace Go.Proofs.YtljldbdjkjllhaaGreatDoor
set_option linter.unusedSimpArgs false
set_option linter.unusedVariables false
open Go.RowKit

/-- Bytes below 128, two or three of them. -/
structure Seps (cs : Bs) : Prop where
  low : ∀ c ∈ cs, c.toNat < 128
  two : 2 ≤ cs.length
  few : cs.length ≤ 8
theorem Seps.at_ {cs : Bs} (h : Seps cs) {k : Nat} (hk : k < (mkS cs).size) : ((mkS cs)[k]'hk).toNat < 128 := by
  have h1 := byte_at hk
  exact h.low _ (List.mem_of_getElem? h1)
set_option maxHeartbeats 1000000 in
set_option maxRecDepth 1000000 in
theorem rune_error {cs : Bs} (hs : Seps cs) (w : World) :
    Calls Tryz.prog 168 #[.string (mkS cs), .int .i32 65533] w fun e w' => e = .returned (.int .i64 (-1)) ∧ Below w.heap.size w w' := by
  have HS := Lib.hid hs
  have h2 := hs.two
  have h8 := hs.few
  have hz : (mkS cs).size = cs.length := rfl
  rw [← hz] at h2 h8
  clear hs hz
  obtain ⟨S, hS⟩ : ∃ S, S = mkS cs := ⟨_, rfl⟩
  have HL : Hid (∀ k (hk : k < S.size), (S[k]'hk).toNat < 128) := by intro k hk; subst hS; exact HS.out.at_ hk
  rw [← hS] at h2 h8 ⊢
  clear hS
  go_enter Tryz.func168, Tryz.ntmps168
  go_wp2_with fail
  go_loopg [5, 6] S.size (fun g _ _ wx => ∃ i : Nat, i + g = S.size ∧ wx = w.iter S i)
  case atStart => exact ⟨0, by omega, rfl⟩
  case round =>
    obtain ⟨i, hi, rfl⟩ := hrel
    by_cases hlt : i < S.size
    · have n1 := fun ty => run_next_ascii (P := Tryz.prog) w S i ty hlt (HL.out i hlt)
      have t0 : (((S[i]'hlt).toNat : Int) == 65533) = false := by have := HL.out i hlt; simp; omega
      go_wp2_with fail
      go_roundg (gk - 1)
      case measure => omega
      case rel => exact ⟨i + 1, by omega, rfl⟩
    · have n2 := fun ty => run_next_end (P := Tryz.prog) w S i ty hlt
      go_wp2_with fail
      go_ret
      exact ⟨rfl, (Below.refl _ _).alloc (Nat.le_refl _) _⟩
set_option maxHeartbeats 1000000 in
set_option maxRecDepth 1000000 in
theorem rune_bad (cs : Bs) (r : Int) (h : 128 ≤ r) (h2 : r ≤ 2147483647) (he : r ≠ 65533) (hv : Lib.validRune r = false) (w : World) :
    Calls Tryz.prog 168 #[.string (mkS cs), .int .i32 r] w fun e w' => e = .returned (.int .i64 (-1)) ∧ Below w.heap.size w w' := by
  have t0 : (r == 65533) = false := by simpa using he
  have C := Lib.hid (fun w => Tryz.utf8_ValidRune r w)
  rw [hv] at C
  clear he hv
  go_enter Tryz.func168, Tryz.ntmps168
  go_wp2_with fail
  refine (C.out _).mono ?_
  rintro e w1 ⟨rfl, rfl⟩
  go_wp2_with fail
  go_ret
  exact ⟨rfl, Below.refl _ _⟩
theorem ixb_none {l : Bs} {c : UInt8} (h : ∀ x ∈ l, x ≠ c) : Lib.indexByte l c = -1 := by
  induction l with
  | nil => rfl
  | cons b r ih =>
    unfold Lib.indexByte
    have h1 := h b (by simp)
    have h2 := ih fun x hx => h x (by simp [hx])
    simp [h1, h2]
set_option maxHeartbeats 1000000 in
set_option maxRecDepth 1000000 in
theorem rune_high {cs : Bs} (hs : Seps cs) (r : Int) (h : 128 ≤ r) (h2 : r ≤ 2147483647) (he : r ≠ 65533) (hv : Lib.validRune r = true) (w : World) :
    Calls Tryz.prog 168 #[.string (mkS cs), .int .i32 r] w fun e w' => e = .returned (.int .i64 (-1)) ∧ Below w.heap.size w w' := by
  have t0 : (r == 65533) = false := by simpa using he
  have C := Lib.hid (fun w => Tryz.utf8_ValidRune r w)
  rw [hv] at C
  obtain ⟨f1, f2, f3⟩ := encode_facts r (by rw [validRune_eq]; exact hv) h
  obtain ⟨rs, hrs⟩ : ∃ rs, Utf8.encode r = rs := ⟨_, rfl⟩
  have hcv : ∀ w, (convert 21 9 (.int .i32 r)).run Tryz.prog w = .ok (.string rs) w := fun w => by
    rw [← hrs]; exact run_convert_int_string w _ _ _ _ (by kernel_rfl) Tryz.underlying9
  rw [hrs] at f1 f2 f3
  obtain ⟨k, hk⟩ : ∃ k, rs.size = k + 1 := ⟨rs.size - 1, by omega⟩
  have hb : k < rs.size := by omega
  have hx : 128 ≤ (rs[k]'hb).toNat := by
    have := f3 (by omega)
    have e : rs.size - 1 = k := by omega
    simpa [e] using this
  have hsz : (rs.size : Int) - 1 = (k : Int) := by omega
  obtain ⟨S, hS⟩ : ∃ S, S = mkS cs := ⟨_, rfl⟩
  have HL : Hid (∀ x ∈ S.data.toList, x.toNat < 128) := by intro x hx; subst hS; exact hs.low x hx
  have hS8 : S.size ≤ 8 := by subst hS; exact hs.few
  rw [← hS]
  clear hrs he hv f3 hS hs
  have hk2 : k ≤ 3 := by omega
  have hk1 : 1 ≤ k := by omega
  clear f1 f2 hk
  by_cases h3 : k < S.size
  · have t1 : (((S[k]'h3).toNat : Int) != ((rs[k]'hb).toNat : Int)) = true := by
      have := HL.out _ (List.mem_of_getElem? (byte_at h3))
      simp; omega
    have CI := Lib.hid (fun (p : ByteArray) (hp : ∀ x ∈ p.data.toList, x ∈ S.data.toList) w => by
      have := Tryz.strings_IndexByte p ((rs[k]'hb).toNat : Int) w
      rw [ixb_none (fun x hxm e => by
        have h1 := HL.out x (hp x hxm)
        have : x.toNat = (rs[k]'hb).toNat := by rw [e]; simp
        omega)] at this
      exact this)
    have CI1 := Lib.hid (CI.out (S.extract (k + 1) S.size) (fun x hx => mem_extract hx))
    clear CI
    go_enter Tryz.func168, Tryz.ntmps168
    go_wp2_with fail
    refine (C.out _).mono ?_
    rintro e w1 ⟨rfl, rfl⟩
    go_wp2_with fail
    go_step3
    go_wp2_with fail
    go_loop [9] (fun i => i = .int .i64 (k : Int)) (fun _ => 0)
    case atStart => rfl
    case round =>
      obtain rfl := hrel
      go_wp2_with fail
      go_step3
      go_wp2_with fail
      go_quiet (fail)
      go_wp2_with fail
      go_quiet ((go_at_call 55; exact (CI1.out _).mono fun _ _ ⟨h1, h2⟩ => ⟨h1, _, h2⟩))
      go_wp2_with fail
      rw [Exit.noGoto_ret]
      simp (config := { zetaDelta := true }) only [Exit.inBlock, Exit.then, Exit.noGoto]
      go_ret
      exact ⟨rfl, ⟨rfl, rfl, rfl, Nat.le_refl _, fun _ _ => rfl⟩⟩
  · have h3z : ¬ (k : Int) < (S.size : Int) := by omega
    go_enter Tryz.func168, Tryz.ntmps168
    go_wp2_with fail
    refine (C.out _).mono ?_
    rintro e w1 ⟨rfl, rfl⟩
    go_wp2_with fail
    go_step3
    go_wp2_with fail
    go_loop [9] (fun i => i = .int .i64 (k : Int)) (fun _ => 0)
    case atStart => rfl
    case round =>
      obtain rfl := hrel
      go_wp2_with fail
      go_ret
      exact ⟨rfl, Below.refl _ _⟩
end Go.Proofs.YtljldbdjkjllhaaGreatDoor
