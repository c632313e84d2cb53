/- What the document says of XML's pieces, as functions of lists of bytes. -/
import Derived.Test.YtoifibnmincodaaGreatDoorText
import Derived.Lib.IndexMore
import Derived.Lib.RuneBytes
import Derived.Lib.Strings
import Derived.Lib.Small
namespace Go.Proofs.YtoifibnmincodaaGreatDoor
set_option linter.unusedSimpArgs false
set_option linter.unusedVariables false
open Go.RowKit

abbrev Bs := List UInt8
abbrev RR (α : Type) := Except Int (α × Bs)
def xLay (c : UInt8) : Bool := c == 9 || c == 10 || c == 13 || c == 32
def xMay (c : UInt8) : Bool := decide (32 ≤ c.toNat) || xLay c
def xFirst (c : UInt8) : Bool := (decide (97 ≤ c.toNat) && decide (c.toNat ≤ 122)) || (decide (65 ≤ c.toNat) && decide (c.toNat ≤ 90)) || decide (c.toNat = 95)
def xOf (c : UInt8) : Bool := xFirst c || (decide (48 ≤ c.toNat) && decide (c.toNat ≤ 57)) || decide (c.toNat = 46) || decide (c.toNat = 58) || decide (c.toNat = 45)
def takeR (n : Nat) (l : Bs) : RR Bs := if (l.take n).all xMay = true then .ok (l.take n, l.drop n) else .error 100
def wantR (p l : Bs) : RR Unit := if Lib.hasPrefix l p = true then .ok ((), Lib.trimPrefix l p) else .error 100
def plainN (stops l : Bs) : Nat := (l.takeWhile fun b => !stops.contains b).length
def plainR (stops l : Bs) : RR Bs := takeR (plainN stops l) l
def upToR (mark l : Bs) : RR Bs := if 0 ≤ Lib.index l mark then (takeR (Lib.index l mark).toNat l).bind fun x => (wantR mark x.2).map fun y => (x.1, y.2) else .error 100
def layoutR (l : Bs) : RR Bool := (takeR (l.takeWhile xLay).length l).map fun x => (!x.1.isEmpty, x.2)
def nameN (l : Bs) : Nat := match l with
  | [] => 0
  | c :: r => if xFirst c = true then ((c :: r).takeWhile xOf).length else 0
def nameR (l : Bs) : RR Bs := if 0 < nameN l ∧ nameN l ≤ 60 then takeR (nameN l) l else .error 100
def digX (c : UInt8) : Nat := if 48 ≤ c.toNat ∧ c.toNat ≤ 57 then c.toNat - 48 else if 97 ≤ (c ||| 32).toNat ∧ (c ||| 32).toNat ≤ 122 then (c ||| 32).toNat - 87 else 99
def numX (base : Nat) : Nat → Bs → Option Nat
  | acc, [] => some acc
  | acc, c :: r => if digX c < base then numX base (acc * base + digX c) r else none
def uintX (base : Nat) (d : Bs) : Option Nat := if d = [] then none else numX base 0 d
def standsX (n : Nat) : Bool := Lib.validRune (n : Int) && (decide (32 ≤ n) || xLay n.toUInt8)
def numR (base most : Nat) (d : Bs) : Option Nat := if most < d.length then none else match uintX base d with
  | none => none
  | some n => if standsX n = true then some n else none
def ents : List (Bs × UInt8) := [([108, 116], 60), ([103, 116], 62), ([97, 109, 112], 38), ([113, 117, 111, 116], 34), ([97, 112, 111, 115], 39)]
def charH (nm : Bs) : Option Nat :=
  if Lib.hasPrefix nm [35, 120] = true then numR 16 6 (Lib.trimPrefix nm [35, 120])
  else if Lib.hasPrefix nm [35] = true then numR 10 7 (Lib.trimPrefix nm [35]) else none
def charR (nm : Bs) : Option Nat := match ents.find? (fun e => decide (e.1 = nm)) with
  | some e => some e.2.toNat
  | none => charH nm
def entityR (l : Bs) : RR Nat := if (Lib.cut l [59]).2.2 = true then match charR (Lib.cut l [59]).1 with
    | some c => .ok (c, (Lib.cut l [59]).2.1)
    | none => .error 103
  else .error 103
def cdataB : Bs := [60, 33, 91, 67, 68, 65, 84, 65, 91]
def runR : Nat → Bs → Bs → RR Bs
  | 0, _, _ => .error 100
  | k + 1, out, l => (plainR [60, 38] l).bind fun x =>
    if Lib.hasPrefix x.2 [38] = true then (entityR (Lib.trimPrefix x.2 [38])).bind fun y => runR k (out ++ x.1 ++ Lib.encodeRune (y.1 : Int)) y.2
    else if Lib.hasPrefix x.2 cdataB = true then (upToR [93, 93, 62] (Lib.trimPrefix x.2 cdataB)).bind fun y => runR k (out ++ x.1 ++ y.1) y.2
    else if Lib.hasPrefix x.2 [60, 33, 45, 45] = true then (upToR [45, 45] (Lib.trimPrefix x.2 [60, 33, 45, 45])).bind fun y => (wantR [62] y.2).bind fun z => runR k (out ++ x.1) z.2
    else if Lib.hasPrefix x.2 [60, 63] = true then (nameR (Lib.trimPrefix x.2 [60, 63])).bind fun y => (upToR [63, 62] y.2).bind fun z => runR k (out ++ x.1) z.2
    else if Lib.hasPrefix x.2 [60, 33] = true then .error 100 else .ok (out ++ x.1, x.2)
def valueR (q : Bs) : Nat → Bs → Bs → RR Bs
  | 0, _, _ => .error 100
  | k + 1, out, l => (plainR ([60, 38] ++ q) l).bind fun x =>
    if Lib.hasPrefix x.2 [38] = true then (entityR (Lib.trimPrefix x.2 [38])).bind fun y => valueR q k (out ++ x.1 ++ Lib.encodeRune (y.1 : Int)) y.2
    else (wantR q x.2).map fun y => (out ++ x.1, y.2)
def valueQ (q l : Bs) : RR Bs := valueR q (l.length + 1) [] l
def attrR (others : List (Bs × Bs)) (l : Bs) : RR (Bs × Bs) := (nameR l).bind fun n =>
  if others.length < 16 then
    if others.any (fun a => decide (a.1 = n.1)) = true then .error 100 else
    (layoutR n.2).bind fun a => (wantR [61] a.2).bind fun b => (layoutR b.2).bind fun c =>
      if Lib.hasPrefix c.2 [39] = true then (valueQ [39] (Lib.trimPrefix c.2 [39])).map fun v => ((n.1, v.1), v.2)
      else (wantR [34] c.2).bind fun d => (valueQ [34] d.2).map fun v => ((n.1, v.1), v.2)
  else .error 104
def attrsR : Nat → List (Bs × Bs) → Bs → RR (List (Bs × Bs) × Bool)
  | 0, _, _ => .error 100
  | k + 1, al, l => (layoutR l).bind fun a =>
    if Lib.hasPrefix a.2 [62] = true then .ok ((al, false), Lib.trimPrefix a.2 [62])
    else if Lib.hasPrefix a.2 [47, 62] = true then .ok ((al, true), Lib.trimPrefix a.2 [47, 62])
    else if a.1 = true then (attrR al a.2).bind fun x => attrsR k (al ++ [x.1]) x.2 else .error 100
/-- A piece; a reader. -/
structure Pc where
  kind : Int
  name : Bs
  attrs : List (Bs × Bs)
  text : Bs
structure XS where
  rest : Bs
  opn : List Bs
  begun : Bool
  short : Bool
def startR (s : XS) : Except Int (Pc × XS) := (nameR s.rest).bind fun n =>
  if s.opn.length < 16 then
    if 0 < s.opn.length ∨ s.begun = false then (attrsR (n.2.length + 1) [] n.2).map fun a => (⟨1, n.1, a.1.1, []⟩, ⟨a.2, s.opn ++ [n.1], true, a.1.2⟩)
    else .error 100
  else .error 102
def leaveR (s : XS) : Pc × XS := (⟨2, s.opn.getLastD [], [], []⟩, { s with opn := s.opn.dropLast })
def endR (s : XS) : Except Int (Pc × XS) := (nameR s.rest).bind fun n => (layoutR n.2).bind fun a => (wantR [62] a.2).bind fun b =>
  if s.opn.getLast? = some n.1 then .ok (leaveR { s with rest := b.2 }) else .error 101
def nextR (s : XS) : Except Int (Pc × XS) :=
  if s.short = true then .ok (leaveR { s with short := false }) else
  (runR (s.rest.length + 1) [] s.rest).bind fun x =>
    if 0 < s.opn.length then
      if x.1 ≠ [] then .ok (⟨3, [], [], x.1⟩, { s with rest := x.2 })
      else if x.2 = [] then .error 100
      else if Lib.hasPrefix x.2 [60, 47] = true then endR { s with rest := Lib.trimPrefix x.2 [60, 47] }
      else (wantR [60] x.2).bind fun y => startR { s with rest := y.2 }
    else if x.1.all xLay = true then
      if x.2 = [] then if s.begun = true then .ok (⟨4, [], [], []⟩, { s with rest := [] }) else .error 100
      else if Lib.hasPrefix x.2 [60, 47] = true then endR { s with rest := Lib.trimPrefix x.2 [60, 47] }
      else (wantR [60] x.2).bind fun y => startR { s with rest := y.2 }
    else .error 100

/-! What is left is no more than there was. -/
theorem takeR_len {n : Nat} {l : Bs} {x : Bs × Bs} (h : takeR n l = .ok x) : x.2.length = l.length - n ∧ x.1 = l.take n ∧ x.2 = l.drop n := by
  unfold takeR at h
  split at h
  · injection h with h; subst h; exact ⟨by simp, rfl, rfl⟩
  · cases h
theorem trim_len (l p : Bs) : (Lib.trimPrefix l p).length ≤ l.length := by
  unfold Lib.trimPrefix; split
  · simp
  · exact Nat.le_refl _
theorem trim_lt {l p : Bs} (h : Lib.hasPrefix l p = true) (hp : 0 < p.length) : (Lib.trimPrefix l p).length < l.length := by
  unfold Lib.trimPrefix
  rw [if_pos h]
  unfold Lib.hasPrefix at h
  have := (List.isPrefixOf_iff_prefix.1 h).length_le
  simp; omega
theorem wantR_len {p l : Bs} {x : Unit × Bs} (h : wantR p l = .ok x) : x.2.length ≤ l.length ∧ x.2 = Lib.trimPrefix l p ∧ Lib.hasPrefix l p = true := by
  unfold wantR at h
  split at h
  · rename_i hp; injection h with h; subst h; exact ⟨trim_len _ _, rfl, hp⟩
  · cases h
theorem bind_ok {α β : Type} {e : Except Int α} {f : α → Except Int β} {y : β} (h : e.bind f = .ok y) : ∃ x, e = .ok x ∧ f x = .ok y := by
  cases e with
  | error k => cases h
  | ok x => exact ⟨x, rfl, h⟩
theorem map_ok {α β : Type} {e : Except Int α} {f : α → β} {y : β} (h : e.map f = .ok y) : ∃ x, e = .ok x ∧ f x = y := by
  cases e with
  | error k => cases h
  | ok x => injection h with h; exact ⟨x, rfl, h⟩
theorem upToR_len {p l : Bs} {x : Bs × Bs} (h : upToR p l = .ok x) : x.2.length ≤ l.length := by
  unfold upToR at h
  split at h
  · obtain ⟨y, hy, h⟩ := bind_ok h
    obtain ⟨z, hz, h⟩ := map_ok h
    subst h
    have := (takeR_len hy).1
    have := (wantR_len hz).1
    show z.2.length ≤ _; omega
  · cases h
theorem layoutR_len {l : Bs} {x : Bool × Bs} (h : layoutR l = .ok x) : x.2.length ≤ l.length := by
  unfold layoutR at h
  obtain ⟨y, hy, h⟩ := map_ok h
  subst h
  have := (takeR_len hy).1
  show y.2.length ≤ _; omega
theorem nameR_len {l : Bs} {x : Bs × Bs} (h : nameR l = .ok x) : x.2.length < l.length := by
  unfold nameR at h
  split at h
  · rename_i hn
    have h1 := (takeR_len h).1
    cases l with
    | nil => simp [nameN] at hn
    | cons c r => simp only [List.length_cons] at *; omega
  · cases h
theorem cut_len (l : Bs) : (Lib.cut l [59]).2.1.length ≤ l.length := by
  unfold Lib.cut
  split
  · show (l.drop _).length ≤ _; simp
  · exact Nat.zero_le _
theorem entityR_len {l : Bs} {x : Nat × Bs} (h : entityR l = .ok x) : x.2.length ≤ l.length := by
  unfold entityR at h
  split at h
  · split at h
    · injection h with h; subst h; exact cut_len l
    · cases h
  · cases h
theorem plainR_len {p l : Bs} {x : Bs × Bs} (h : plainR p l = .ok x) : x.2.length ≤ l.length := by
  have := (takeR_len h).1; omega
theorem runR_len : ∀ (k : Nat) {out l : Bs} {x : Bs × Bs}, runR k out l = .ok x → x.2.length ≤ l.length
  | 0, _, _, _, h => by cases h
  | k + 1, out, l, x, h => by
    unfold runR at h
    obtain ⟨y, hy, h⟩ := bind_ok h
    have h0 := plainR_len hy
    split at h
    · rename_i hp
      obtain ⟨z, hz, h⟩ := bind_ok h
      have := entityR_len hz; have := trim_len y.2 [38]; have := runR_len k h; omega
    · split at h
      · obtain ⟨z, hz, h⟩ := bind_ok h
        have := upToR_len hz; have := trim_len y.2 cdataB; have := runR_len k h; omega
      · split at h
        · obtain ⟨z, hz, h⟩ := bind_ok h
          obtain ⟨u, hu, h⟩ := bind_ok h
          have := upToR_len hz; have := trim_len y.2 [60, 33, 45, 45]; have := (wantR_len hu).1; have := runR_len k h; omega
        · split at h
          · obtain ⟨z, hz, h⟩ := bind_ok h
            obtain ⟨u, hu, h⟩ := bind_ok h
            have := upToR_len hu; have := trim_len y.2 [60, 63]; have := nameR_len hz; have := runR_len k h; omega
          · split at h
            · cases h
            · injection h with h; subst h; exact h0
theorem valueR_len {q : Bs} : ∀ (k : Nat) {out l : Bs} {x : Bs × Bs}, valueR q k out l = .ok x → x.2.length ≤ l.length
  | 0, _, _, _, h => by cases h
  | k + 1, out, l, x, h => by
    unfold valueR at h
    obtain ⟨y, hy, h⟩ := bind_ok h
    have h0 := plainR_len hy
    split at h
    · rename_i hp
      obtain ⟨z, hz, h⟩ := bind_ok h
      have := entityR_len hz; have := trim_len y.2 [38]; have := valueR_len k h; omega
    · obtain ⟨z, hz, h⟩ := map_ok h
      subst h
      have := (wantR_len hz).1
      show z.2.length ≤ _; omega
theorem attrR_len {o : List (Bs × Bs)} {l : Bs} {x : (Bs × Bs) × Bs} (h : attrR o l = .ok x) : x.2.length < l.length := by
  unfold attrR at h
  obtain ⟨n, hn, h⟩ := bind_ok h
  have h0 := nameR_len hn
  split at h
  · split at h
    · cases h
    · obtain ⟨a, ha, h⟩ := bind_ok h
      obtain ⟨b, hb, h⟩ := bind_ok h
      obtain ⟨c, hc, h⟩ := bind_ok h
      have := layoutR_len ha; have := (wantR_len hb).1; have := layoutR_len hc
      split at h
      · obtain ⟨v, hv, h⟩ := map_ok h
        subst h
        have := valueR_len _ hv; have := trim_len c.2 [39]
        show v.2.length < _; omega
      · obtain ⟨d, hd, h⟩ := bind_ok h
        obtain ⟨v, hv, h⟩ := map_ok h
        subst h
        have := valueR_len _ hv; have := (wantR_len hd).1
        show v.2.length < _; omega
  · cases h
end Go.Proofs.YtoifibnmincodaaGreatDoor
