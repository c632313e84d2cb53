/- Parts of the proof. -/
import Derived.Test.YtdhgiammfpjniaaGreatDoorZrae
import Derived.Test.YtdhgiammfpjniaaGreatDoorZraa
import Derived.Test.YtdhgiammfpjniaaGreatDoorZrad
import Derived.Shelf.Abstract
import Derived.Test.YtdhgiammfpjniaaGreatDoorZrab
namespace Go.Proofs.YtdhgiammfpjniaaGreatDoor.Ev
set_option linter.unusedSimpArgs false
set_option linter.unusedVariables false
open Go.RowKit
def rowD (d : Dep) (s : Value) : Array Value := #[.int .i64 d.kind, .string d.name, .int .i64 d.op, .string d.evr, s]
def CellsD (w : World) (b o : Nat) (d : Dep) (s : Value) : Prop :=
 w.cell? ⟨b, o, none⟩ = some (.int .i64 d.kind) ∧ w.cell? ⟨b, o + 1, none⟩ = some (.string d.name) ∧ w.cell? ⟨b, o + 2, none⟩ = some (.int .i64 d.op) ∧ w.cell? ⟨b, o + 3, none⟩ = some (.string d.evr) ∧ w.cell? ⟨b, o + 4, none⟩ = some s
mutual
def Lay (w : World) (S : Nat → Prop) : Dep → Value → Prop
 | .mk _ _ _ _ ds, s => ∃ A c, s = .slice A ds.length c ∧ ds.length ≤ c ∧ (c ≤ maxLen ∧ (A = none → c = 0)) ∧ LayA w S ds A 0
def LayA (w : World) (S : Nat → Prop) : List Dep → Option Addr → Nat → Prop
 | [], _, _ => True
 | a :: r, A, i => (∃ b o s, A = some ⟨b, o, none⟩ ∧ S b ∧ CellsD w b (o + i * 5) a s ∧ Lay w S a s) ∧ LayA w S r A (i + 1)
end
def CleanS (w : World) (S : Nat → Prop) : Prop := ∀ b, S b → ∃ cs, Blk w b 39 cs
def StayS (S : Nat → Prop) (w w' : World) : Prop := ∀ b, S b → b < w.heap.size → w'.heap[b]? = w.heap[b]?
theorem CellsD.stay {w w' : World} {b o : Nat} {d : Dep} {s : Value} (h : CellsD w b o d s) (e : w'.heap[b]? = w.heap[b]?) : CellsD w' b o d s := by
 have k : ∀ i, w'.cell? ⟨b, i, none⟩ = w.cell? ⟨b, i, none⟩ := fun i => World.cell?_of_block e
 unfold CellsD at h ⊢
 rw [k, k, k, k, k]
 exact h
theorem CellsD.lt {w : World} {b o : Nat} {d : Dep} {s : Value} (h : CellsD w b o d s) : b < w.heap.size := aeQu h.1
theorem layA_iff {w : World} {S : Nat → Prop} {ds : List Dep} {A : Option Addr} {i : Nat} : LayA w S ds A i ↔ ∀ j a, ds[j]? = some a → ∃ b o s, A = some ⟨b, o, none⟩ ∧ S b ∧ CellsD w b (o + (i + j) * 5) a s ∧ Lay w S a s := by
 induction ds generalizing i with
 | nil => simp [LayA]
 | cons a r ih =>
   simp only [LayA, ih]
   constructor
   ·rintro ⟨h0, h⟩ j x hx
    cases j with
    | zero => simp at hx; subst hx; exact h0
    | succ j =>
      have := h j x (by simpa using hx)
      rwa [show i + 1 + j = i + (j + 1) by omega] at this
   ·intro h
    refine ⟨by simpa using h 0 a rfl, fun j x hx => ?_⟩
    have := h (j + 1) x (by simpa using hx)
    rwa [show i + (j + 1) = i + 1 + j by omega] at this
theorem lay_iff {w : World} {S : Nat → Prop} {d : Dep} {s : Value} : Lay w S d s ↔ ∃ A c, s = .slice A d.args.length c ∧ d.args.length ≤ c ∧ (c ≤ maxLen ∧ (A = none → c = 0)) ∧ ∀ j a, d.args[j]? = some a → ∃ b o t, A = some ⟨b, o, none⟩ ∧ S b ∧ CellsD w b (o + j * 5) a t ∧ Lay w S a t := by
 obtain ⟨k, n, o, e, ds⟩ := d
 simp only [Lay, layA_iff, Dep.args, Nat.zero_add]
theorem Lay.stay {w w' : World} {S S' : Nat → Prop} (hS : ∀ b, S b → S' b) (hw : StayS S w w') (d : Dep) : ∀ s, Lay w S d s → Lay w' S' d s := by
 induction d using Dep.ind with
 | h k n o e ds ih =>
   intro s h
   rw [lay_iff] at h ⊢
   obtain ⟨A, c, h1, h2, h3, h4⟩ := h
   refine ⟨A, c, h1, h2, h3, fun j a ha => ?_⟩
   obtain ⟨b, p, t, e1, e2, e3, e4⟩ := h4 j a ha
   exact ⟨b, p, t, e1, hS b e2, e3.stay (hw b e2 e3.lt), ih a (List.mem_of_getElem? ha) t e4⟩
theorem CleanS.stay {w w' : World} {S : Nat → Prop} (h : CleanS w S) (hw : StayS S w w') : CleanS w' S := fun b hb => by
 obtain ⟨cs, hc⟩ := h b hb
 exact ⟨cs, (hw b hb hc.lt).trans hc⟩
theorem StayS.refl (S : Nat → Prop) (w : World) : StayS S w w := fun _ _ _ => rfl
theorem StayS.turned {S : Nat → Prop} {w w' : World} {F : List Nat} (ht : Turned F w w') (h : ∀ b, S b → b ∉ F) : StayS S w w' := fun b hb hl => ht.block b hl (h b hb)
theorem StayS.below {S : Nat → Prop} {w w' : World} {B : Nat} (hb : Below B w w') (h : ∀ b, S b → b < B) : StayS S w w' := fun b hs _ => hb.block b (h b hs)
theorem StayS.below' {S : Nat → Prop} {w w' : World} (hb : Below w.heap.size w w') : StayS S w w' := fun b _ hl => hb.block b hl
theorem StayS.trans {S : Nat → Prop} {w w' w'' : World} (h : StayS S w w') (k : StayS S w' w'') (hz : w.heap.size ≤ w'.heap.size) : StayS S w w'' := fun b hb hl => (k b hb (by omega)).trans (h b hb hl)
theorem Lay.form_ {w : World} {S : Nat → Prop} {d : Dep} {s : Value} (h : Lay w S d s) : ∃ A c, s = .slice A d.args.length c ∧ d.args.length ≤ c ∧ c ≤ maxLen := by
 rw [lay_iff] at h
 obtain ⟨A, c, h1, h2, h3, _⟩ := h
 exact ⟨A, c, h1, h2, h3.1⟩
theorem Lay.nil_ {w : World} {S : Nat → Prop} {d : Dep} {n c : Nat} (h : Lay w S d (.slice none n c)) : c = 0 ∧ n = 0 ∧ d.args = [] := by
 rw [lay_iff] at h
 obtain ⟨A, c', h1, h2, h3, _⟩ := h
 injection h1 with e1 e2 e3
 have := h3.2 e1.symm
 subst e3
 have h0 : d.args.length = 0 := by omega
 exact ⟨this, by omega, List.eq_nil_of_length_eq_zero h0⟩
def ArgsAt (w : World) (S : Nat → Prop) (ds : List Dep) (A : Option Addr) : Prop := ∀ j a, ds[j]? = some a → ∃ b o t, A = some ⟨b, o, none⟩ ∧ S b ∧ CellsD w b (o + j * 5) a t ∧ Lay w S a t
theorem Lay.args_ {w : World} {S : Nat → Prop} {d : Dep} {s : Value} (h : Lay w S d s) : ∃ A c, s = .slice A d.args.length c ∧ d.args.length ≤ c ∧ c ≤ maxLen ∧ ArgsAt w S d.args A := by
 obtain ⟨A, c, h1, h2, h3, h4⟩ := lay_iff.1 h
 exact ⟨A, c, h1, h2, h3.1, h4⟩
theorem ArgsAt.stay {w w' : World} {S S' : Nat → Prop} {ds : List Dep} {A : Option Addr} (h : ArgsAt w S ds A) (hS : ∀ b, S b → S' b) (hw : StayS S w w') : ArgsAt w' S' ds A := fun j a ha => by
 obtain ⟨b, p, t, e1, e2, e3, e4⟩ := h j a ha
 exact ⟨b, p, t, e1, hS b e2, e3.stay (hw b e2 e3.lt), e4.stay hS hw⟩
theorem Lay.none_ (w : World) (S : Nat → Prop) (k : Int) (n : ByteArray) (o : Int) (e : ByteArray) : Lay w S (.mk k n o e []) (.slice none 0 0) := by
 rw [lay_iff]
 exact ⟨none, 0, rfl, Nat.le_refl _, ⟨by simp [maxLen], fun _ => rfl⟩, fun j a ha => by simp [Dep.args] at ha⟩
mutual
def small : Dep → Prop
 | .mk _ n _ e ds => n.size ≤ 2147483648 ∧ e.size ≤ 2147483648 ∧ aeQz ds
def aeQz : List Dep → Prop
 | [] => True
 | a :: r => small a ∧ aeQz r
end
theorem aoQk {ds : List Dep} (h : aeQz ds) : ∀ a ∈ ds, small a := by
 induction ds with
 | nil => intro a ha; cases ha
 | cons b r ih =>
   simp only [aeQz] at h
   intro a ha
   rcases List.mem_cons.1 ha with rfl | ha
   ·exact h.1
   ·exact ih h.2 a ha
theorem agQ3 {d : Dep} (h : small d) : d.name.size ≤ 2147483648 ∧ d.evr.size ≤ 2147483648 ∧ ∀ a ∈ d.args, small a := by
 obtain ⟨k, n, o, e, ds⟩ := d
 simp only [small] at h
 exact ⟨h.1, h.2.1, aoQk h.2.2⟩
theorem abQ1 (d : Dep) : nodes d = 1 + aaQk d.args := by cases d; rfl
theorem apQb {ds : List Dep} {a : Dep} (h : a ∈ ds) : nodes a ≤ aaQk ds := by
 induction ds with
 | nil => cases h
 | cons b r ih =>
   simp only [aaQk]
   rcases List.mem_cons.1 h with rfl | h
   ·omega
   ·have := ih h; omega
def aiQq (f : FuncId) (p : UInt8 → Bool) : Prop := ∀ (c : UInt8) (w : World), Calls Tryz.prog f #[.int .u8 (c.toNat : Int)] w fun e w' => e = .returned (.bool (p c)) ∧ w = w'
theorem dgI (c : UInt8) : isDg c = (decide ((48 : Int) ≤ (c.toNat : Int)) && decide ((c.toNat : Int) ≤ 57)) := by
 unfold isDg
 rw [Bool.eq_iff_iff]; simp; omega
theorem ltI (c : UInt8) : isLt c = (decide ((97 : Int) ≤ (c.toNat : Int)) && decide ((c.toNat : Int) ≤ 122) || decide ((65 : Int) ≤ (c.toNat : Int)) && decide ((c.toNat : Int) ≤ 90)) := by
 unfold isLt
 rw [Bool.eq_iff_iff]; simp; omega
set_option maxRecDepth 100000 in
theorem aeQq : aiQq 178 isDg := by
 intro c w
 have h := hQQ (dgI c)
 go_enter Tryz.func178, Tryz.ntmps178
 go_wp2_with fail
 all_goals
  go_ret
  refine ⟨aaQj ?_, rfl⟩
  rw [h.out, Bool.eq_iff_iff]
  simp <;> omega
set_option maxRecDepth 100000 in
theorem akQ9 : aiQq 212 isLt := by
 intro c w
 have h := hQQ (ltI c)
 go_enter Tryz.func212, Tryz.ntmps212
 go_wp2_with fail
 all_goals
  go_ret
  refine ⟨aaQj ?_, rfl⟩
  rw [h.out, Bool.eq_iff_iff]
  simp <;> omega
theorem acQ6 {p : UInt8 → Bool} {l : List UInt8} {k : Nat} {c : UInt8} (h : (l.take k).all p = true) (hc : l[k]? = some c) (hp : p c = true) : (l.take (k + 1)).all p = true := by
 rw [List.take_add_one, hc, List.all_append, h]
 simp [hp]
theorem aeQx {p : UInt8 → Bool} {l : List UInt8} {k : Nat} (h : (l.take k).all p = true) (hk : k ≤ l.length) (hc : ∀ c, l[k]? = some c → p c = false) : k = (l.takeWhile p).length := by
 induction l generalizing k with
 | nil => simp at hk; subst hk; rfl
 | cons b l ih =>
   cases k with
   | zero =>
     have := hc b rfl
     simp [this]
   | succ k =>
     simp only [List.take_succ_cons, List.all_cons, Bool.and_eq_true] at h
     rw [List.takeWhile_cons, h.1]
     have := ih h.2 (by simpa using hk) (fun c hcc => hc c (by simpa using hcc))
     simp [← this]
theorem aaQw {s : ByteArray} {k : Nat} (h : k < s.size) : s.data.toList[k]? = some s[k] := by
 have h' : k < s.data.size := h
 rw [Array.getElem?_toList, Array.getElem?_eq_getElem h']
 rfl
set_option maxHeartbeats 400000 in
set_option maxRecDepth 100000 in
theorem afQq {f : FuncId} {p : UInt8 → Bool} (hp : aiQq f p) (ef : ∀ args w, (callFunc f args).run Tryz.prog w = .ok (.enter f args) w) (s : ByteArray) (hs : s.size ≤ maxLen) (w : World) :
 Calls Tryz.prog 176 #[.string s, .func (.func f) #[] #[]] w fun e w' => e = .returned (.int .i64 ((s.data.toList.takeWhile p).length : Nat)) ∧ w = w' := by
 unfold maxLen at hs
 have HP := hQQ hp
 clear hp
 go_enter Tryz.func176, Tryz.ntmps176
 go_wp2_with fail
 go_loop [5] (fun n => ∃ k : Nat, k ≤ s.size ∧ n = .int .i64 (k : Int) ∧ Hid ((s.data.toList.take k).all p = true)) (fun n => s.size - (intOf n).toNat)
 case atStart => exact ⟨0, Nat.zero_le _, rfl, show ((s.data.toList.take 0).all p = true) from rfl⟩
 case round =>
  obtain ⟨k, hk, rfl, hall⟩ := hrel
  by_cases hlt : k < s.size
  ·have C := hQQ (HP.out s[k])
   cases hpk : p s[k] with
   | true =>
     have HN := hQQ (acQ6 hall.out (aaQw hlt) hpk)
     rw [hpk] at C
     clear hpk
     go_wp2_with fail
     refine (C.out _).mono ?_
     rintro e w' ⟨rfl, rfl⟩
     go_wp2_with fail
     go_round
     case rel => exact ⟨k + 1, by omega, by go_num, HN.out⟩
     case measure => simp [intOf]; omega
   | false =>
     have HN := hQQ (aeQx hall.out (by simpa using hk) (fun c hc => by rw [aaQw hlt] at hc; injection hc with hc; rw [← hc]; exact hpk))
     rw [hpk] at C
     clear hpk
     go_wp2_with fail
     refine (C.out _).mono ?_
     rintro e w' ⟨rfl, rfl⟩
     go_wp2_with fail
     go_ret
     rw [← HN.out]
     exact ⟨rfl, rfl⟩
  ·have HN := hQQ (aeQx hall.out (by simpa using hk) (fun c hc => by have := (List.getElem?_eq_some_iff.1 hc).1; simp at this; exact absurd this hlt))
   go_wp2_with fail
   go_ret
   rw [← HN.out]
   exact ⟨rfl, rfl⟩
theorem abQe {s : ByteArray} (h : s.size = 0) : s.data.toList = [] := by
 apply List.eq_nil_of_length_eq_zero
 simpa using h
theorem adQg {s : ByteArray} (h : 0 < s.size) : s.data.toList = s[0] :: s.data.toList.tail := by
 have h0 := aaQw h
 cases hl : s.data.toList with
 | nil => rw [hl] at h0; cases h0
 | cons b r => rw [hl] at h0; simp at h0; rw [← h0]; rfl
theorem aaQd (s : ByteArray) : s.data.toList.length = s.size := by simp
theorem afQa {s : ByteArray} (h : s.size = 0) : s = ⟨#[]⟩ := by
 obtain ⟨⟨l⟩⟩ := s
 have : l = [] := List.eq_nil_of_length_eq_zero h
 rw [this]
theorem abQa {s : ByteArray} (h : 0 < s.size) : s.toList.isEmpty = false := by
 rw [ByteArray.toList_eq, adQg h]; rfl
theorem acQ9 (s : ByteArray) (n : Nat) : (s.extract n s.size).data.toList = s.data.toList.drop n := by
 rw [Lib.extract_data, List.take_of_length_le (by simp)]
theorem acQa (s : ByteArray) (n : Nat) : (s.extract 0 n).data.toList = s.data.toList.take n := by
 rw [Lib.extract_data]; simp
end Go.Proofs.YtdhgiammfpjniaaGreatDoor.Ev

/- The contracts of the library's functions on texts: they stand in the shelf's text. -/

/- (nothing but what stands below it) -/

namespace Go.Proofs.YtdhgiammfpjniaaGreatDoor.Ev
set_option linter.unusedSimpArgs false
set_option linter.unusedVariables false
open Go.RowKit
theorem u8_back (c : UInt8) : ((c.toNat : Int)).toNat.toUInt8 = c := by simp
theorem indexB_ge {l : List UInt8} {c : UInt8} : decide (0 ≤ Lib.indexByte l c) = decide (c ∈ l) := by
 by_cases h : c ∈ l
 ·rw [aeQa h]; simp [h]
 ·rw [anQ0 h]; simp [h]
set_option maxRecDepth 100000 in
theorem aeQ4 : aiQq 177 isMay := by
 intro c w
 have CD := hQQ (aeQq c)
 have CL := hQQ (akQ9 c)
 have CI := hQQ (fun w => Tryz.strings_IndexByte ⟨#[46, 95, 43, 126, 94, 45, 58]⟩ (c.toNat : Int) w)
 rw [u8_back] at CI
 have hx := @indexB_ge [46, 95, 43, 126, 94, 45, 58] c
 have hm : isMay c = (isDg c || isLt c || decide (c ∈ ([46, 95, 43, 126, 94, 45, 58] : List UInt8))) := rfl
 rw [← hx] at hm
 have HM := hQQ hm
 clear hx hm
 change Hid (∀ w, Calls Tryz.prog 43 #[.string ⟨#[46, 95, 43, 126, 94, 45, 58]⟩, .int .u8 (c.toNat : Int)] w fun e w' => e = .returned (.int .i64 (Lib.indexByte [46, 95, 43, 126, 94, 45, 58] c)) ∧ w' = w) at CI
 generalize Lib.indexByte [46, 95, 43, 126, 94, 45, 58] c = x at *
 generalize isDg c = d at *
 generalize isLt c = l at *
 cases d <;> cases l
 all_goals
  go_enter Tryz.func177, Tryz.ntmps177
  go_wp2_with fail
  refine (CD.out _).mono ?_
  rintro e w' ⟨rfl, rfl⟩
  go_wp2_with fail
  try
   refine (CL.out _).mono ?_
   rintro e w' ⟨rfl, rfl⟩
   go_wp2_with fail
  try
   refine (CI.out _).mono ?_
   rintro e w' ⟨rfl, rfl⟩
   go_wp2_with fail
 all_goals
  go_ret
  refine ⟨aaQj ?_, rfl⟩
  rw [HM.out]
  first | rfl | simp
def evrV : Option Parts → Value
 | none => .agg #[.string ⟨#[]⟩, .string ⟨#[]⟩, .string ⟨#[]⟩]
 | some p => .agg #[.string (mkS p.e), .string (mkS p.v), .string (mkS p.r)]
def SplitPost (w0 : World) (o : Option Parts) (e : Ending) (w : World) : Prop := e = .returned (.tuple #[evrV o, .bool o.isSome]) ∧ Below w0.heap.size w0 w
theorem SplitPost.mk_none {w0 w : World} {o : Option Parts} (h : o = none) (hb : Below w0.heap.size w0 w) : SplitPost w0 o (.returned (.tuple #[.agg #[.string ⟨#[]⟩, .string ⟨#[]⟩, .string ⟨#[]⟩], .bool false])) w := by
 subst h; exact ⟨rfl, hb⟩
theorem SplitPost.mk_some {w0 w : World} {o : Option Parts} {e v r : ByteArray} (h : o = some ⟨e.data.toList, v.data.toList, r.data.toList⟩) (hb : Below w0.heap.size w0 w) : SplitPost w0 o (.returned (.tuple #[.agg #[.string e, .string v, .string r], .bool true])) w := by
 subst h; exact ⟨rfl, hb⟩
set_option maxHeartbeats 1000000 in
set_option maxRecDepth 100000 in
theorem aoQj (s : ByteArray) (h : 60 < s.size) (w : World) : Calls Tryz.prog 119 #[.string s] w (SplitPost w (parse s.data.toList)) := by
 have HP := hQQ (ahQd (l := s.data.toList) (by rw [aaQd]; omega))
 have h1 : (60 : Int) < (s.size : Int) := by omega
 go_enter Tryz.func119, Tryz.ntmps119
 go_wp2_with fail
 refine bodyPost_ret (v := .tuple #[.agg #[.string ⟨#[]⟩, .string ⟨#[]⟩, .string ⟨#[]⟩], .bool false]) (by simp [results, Tryz.results119, go_sem]) rfl (SplitPost.mk_none HP.out ?_)
 exact (Below.refl _ _).alloc (Nat.le_refl _) _
set_option maxHeartbeats 2000000 in
set_option maxRecDepth 100000 in
theorem apQ9 (s : ByteArray) (h : s.size ≤ 60) (hm : s.data.toList.all isMay = false) (w : World) : Calls Tryz.prog 119 #[.string s] w (SplitPost w (parse s.data.toList)) := by
 have HP := hQQ (ahQd (l := s.data.toList) (by rw [hm]; rintro ⟨_, h⟩; cases h))
 have CM := hQQ (fun w => afQq aeQ4 (enters_of Tryz.func177 (by kernel_rfl) rfl) s (by unfold maxLen; omega) w)
 have CI := hQQ (fun w => Tryz.strings_IndexByte s 58 w)
 have h60 : (s.size : Int) ≤ 60 := by omega
 have h0 : (0 : Int) ≤ (s.size : Int) := by omega
 have hlt := aeQ2 hm
 rw [aaQd] at hlt
 generalize (s.data.toList.takeWhile isMay).length = n at *
 clear hm
 go_enter Tryz.func119, Tryz.ntmps119
 go_wp2_with fail
 refine (CM.out _).mono ?_
 rintro e w1 ⟨rfl, rfl⟩
 go_wp2_with fail
 refine bodyPost_ret (v := .tuple #[.agg #[.string ⟨#[]⟩, .string ⟨#[]⟩, .string ⟨#[]⟩], .bool false]) (by simp [results, Tryz.results119, go_sem]) rfl (SplitPost.mk_none HP.out ?_)
 first | exact (Below.refl _ _).alloc (Nat.le_refl _) _ | exact ((Below.refl _ _).alloc (Nat.le_refl _) _).alloc (by simp) _ | exact (((Below.refl _ _).alloc (Nat.le_refl _) _).alloc (by simp) _).drew | exact ((((Below.refl _ _).alloc (Nat.le_refl _) _).alloc (by simp) _).drew).drew
set_option maxHeartbeats 8000000 in
set_option maxRecDepth 100000 in
theorem alQ7 (s : ByteArray) (h : s.size ≤ 60) (hm : s.data.toList.all isMay = true) (hc : (58 : UInt8) ∉ s.data.toList) (w : World) : Calls Tryz.prog 119 #[.string s] w (SplitPost w (parse s.data.toList)) := by
 have CM := hQQ (fun w => afQq aeQ4 (enters_of Tryz.func177 (by kernel_rfl) rfl) s (by unfold maxLen; omega) w)
 have CI := hQQ (fun w => Tryz.strings_IndexByte s 58 w)
 have h60 : (s.size : Int) ≤ 60 := by omega
 have h0 : (0 : Int) ≤ (s.size : Int) := by omega
 have HG := hQQ (show s.data.toList.length ≤ 60 ∧ s.data.toList.all isMay = true from ⟨by rw [aaQd]; exact h, hm⟩)
 have hall := afQi hm
 rw [aaQd] at hall
 have HP0 := hQQ (ahQb HG.out hc)
 change Hid (∀ w, Calls Tryz.prog 43 #[.string s, .int .u8 58] w fun e w' => e = .returned (.int .i64 (Lib.indexByte s.data.toList 58)) ∧ w' = w) at CI
 rw [anQ0 hc] at CI
 rw [hall] at CM
 clear hm hall
 by_cases hd : (45 : UInt8) ∈ s.data.toList
 ·skip
  obtain ⟨j, hj, ej, hj45, hjn⟩ := anQv (s := s) hd
  have CL := hQQ (fun w => Tryz.strings_LastIndexByte (s) 45 (by omega) w)
  rw [show (45 : Int) = ((45 : UInt8).toNat : Int) from rfl, ej] at CL
  change Hid (∀ w, Calls Tryz.prog 179 #[.string (s), .int .u8 45] w fun e w' => e = .returned (.int .i64 (j : Int)) ∧ w' = w) at CL
  have CC := hQQ (fun w => Tryz.strings_Contains_one (s) 58 w)
  rw [indexB_ge] at CC
  have LV : (s.extract 0 j).data.toList = s.data.toList.take j := acQa _ _
  have LR : (s.extract (j + 1) s.size).data.toList = s.data.toList.drop (j + 1) := acQ9 _ _
  have j0 : (0 : Int) ≤ (j : Int) := by omega
  have j1 : (j : Int) + 1 ≤ (s.size : Int) := by omega
  have j2 : (j : Int) ≤ (s.size : Int) := by omega
  have j3 : (s.size : Int) ≤ 60 := by omega
  clear hd ej hj
  by_cases zr : (s.extract (j + 1) s.size).data.toList = []
  ·skip
   have HP := hQQ (HP0.out.trans (acQ3 hj45 hjn (.inr (LR ▸ zr))))
   have zra : (s.extract (j + 1) s.size).toList.isEmpty = true := by rw [ByteArray.toList_eq, zr]; rfl
   have zrb : (s.extract (j + 1) s.size).toList = [] := by rw [ByteArray.toList_eq, zr]
   clear zr LV LR hj45 hjn HP0 CC
   go_enter Tryz.func119, Tryz.ntmps119
   go_wp2_with fail
   refine (CM.out _).mono ?_
   rintro e w1 ⟨rfl, rfl⟩
   go_wp2_with fail
   refine (CI.out _).mono ?_
   rintro e w1 ⟨rfl, rfl⟩
   go_wp2_with fail
   refine (CL.out _).mono ?_
   rintro e w1 ⟨rfl, rfl⟩
   go_wp2_with fail
   go_region
   all_goals go_wp2_with fail
   all_goals
    refine bodyPost_ret (v := .tuple #[.agg #[.string ⟨#[]⟩, .string ⟨#[]⟩, .string ⟨#[]⟩], .bool false]) (by simp [results, Tryz.results119, go_sem]) rfl (SplitPost.mk_none HP.out ?_)
    first | exact (Below.refl _ _).alloc (Nat.le_refl _) _ | exact ((Below.refl _ _).alloc (Nat.le_refl _) _).alloc (by simp) _ | exact (((Below.refl _ _).alloc (Nat.le_refl _) _).alloc (by simp) _).drew | exact ((((Below.refl _ _).alloc (Nat.le_refl _) _).alloc (by simp) _).drew).drew
  ·skip
   have hr0 : 0 < (s.extract (j + 1) s.size).size := by rw [← aaQd]; exact List.length_pos_iff.2 zr
   have zra := abQa (s := s.extract (j + 1) s.size) (by exact hr0)
   have zrb : (s.extract (j + 1) s.size).toList ≠ [] := by intro h; rw [h] at zra; cases zra
   by_cases zv : (s.extract 0 j).data.toList = []
   ·skip
    have HP := hQQ (HP0.out.trans (acQ3 hj45 hjn (.inl (LV ▸ zv))))
    have zva : (s.extract 0 j).toList.isEmpty = true := by rw [ByteArray.toList_eq, zv]; rfl
    have zvb : (s.extract 0 j).toList = [] := by rw [ByteArray.toList_eq, zv]
    clear zr zv hr0 LV LR hj45 hjn HP0 CC
    go_enter Tryz.func119, Tryz.ntmps119
    go_wp2_with fail
    refine (CM.out _).mono ?_
    rintro e w1 ⟨rfl, rfl⟩
    go_wp2_with fail
    refine (CI.out _).mono ?_
    rintro e w1 ⟨rfl, rfl⟩
    go_wp2_with fail
    refine (CL.out _).mono ?_
    rintro e w1 ⟨rfl, rfl⟩
    go_wp2_with fail
    go_region
    all_goals go_wp2_with fail
    all_goals
     refine bodyPost_ret (v := .tuple #[.agg #[.string ⟨#[]⟩, .string ⟨#[]⟩, .string ⟨#[]⟩], .bool false]) (by simp [results, Tryz.results119, go_sem]) rfl (SplitPost.mk_none HP.out ?_)
     first | exact (Below.refl _ _).alloc (Nat.le_refl _) _ | exact ((Below.refl _ _).alloc (Nat.le_refl _) _).alloc (by simp) _ | exact (((Below.refl _ _).alloc (Nat.le_refl _) _).alloc (by simp) _).drew | exact ((((Below.refl _ _).alloc (Nat.le_refl _) _).alloc (by simp) _).drew).drew
   ·skip
    have hv0 : 0 < (s.extract 0 j).size := by rw [← aaQd]; exact List.length_pos_iff.2 zv
    have zva := abQa (s := s.extract 0 j) (by exact hv0)
    have zvb : (s.extract 0 j).toList ≠ [] := by intro h; rw [h] at zva; cases zva
    have hc2 := hc
    have HP : Hid (parse s.data.toList = some ⟨((⟨#[]⟩ : ByteArray)).data.toList, (s.extract 0 j).data.toList, (s.extract (j + 1) s.size).data.toList⟩) := by
     refine HP0.out.trans ?_
     rw [agQu hc2 hj45 hjn, ← LV, ← LR, if_neg (fun h => h.elim zv zr)]
     try rfl
    rw [show decide ((58 : UInt8) ∈ s.data.toList) = false from decide_eq_false hc2] at CC
    clear zr zv hr0 hv0 LV LR hj45 hjn HP0 hc2
    go_enter Tryz.func119, Tryz.ntmps119
    go_wp2_with fail
    refine (CM.out _).mono ?_
    rintro e w1 ⟨rfl, rfl⟩
    go_wp2_with fail
    refine (CI.out _).mono ?_
    rintro e w1 ⟨rfl, rfl⟩
    go_wp2_with fail
    refine (CL.out _).mono ?_
    rintro e w1 ⟨rfl, rfl⟩
    go_wp2_with fail
    go_region
    all_goals
     go_wp2_with fail
     refine (CC.out _).mono ?_
     rintro e w1 ⟨rfl, rfl⟩
     go_wp2_with fail
     refine bodyPost_ret (v := .tuple #[.agg #[.string (⟨#[]⟩ : ByteArray), .string (s.extract 0 j), .string (s.extract (j + 1) s.size)], .bool true]) (by simp [results, Tryz.results119, go_sem]) rfl (SplitPost.mk_some HP.out ?_)
     first | exact (Below.refl _ _).alloc (Nat.le_refl _) _ | exact ((Below.refl _ _).alloc (Nat.le_refl _) _).alloc (by simp) _ | exact (((Below.refl _ _).alloc (Nat.le_refl _) _).alloc (by simp) _).drew | exact ((((Below.refl _ _).alloc (Nat.le_refl _) _).alloc (by simp) _).drew).drew
 ·skip
  have CL := hQQ (fun w => Tryz.strings_LastIndexByte (s) 45 (by omega) w)
  rw [show (45 : Int) = ((45 : UInt8).toNat : Int) from rfl, arQc hd] at CL
  change Hid (∀ w, Calls Tryz.prog 179 #[.string (s), .int .u8 45] w fun e w' => e = .returned (.int .i64 (-1)) ∧ w' = w) at CL
  have CC := hQQ (fun w => Tryz.strings_Contains_one (s) 58 w)
  rw [indexB_ge] at CC
  by_cases zv : (s).data.toList = []
  ·skip
   have HP : Hid (parse s.data.toList = none) := HP0.out.trans (by rw [aeQg (by rw [zv]; simp) hd, if_pos zv])
   have zva : (s).toList.isEmpty = true := by rw [ByteArray.toList_eq, zv]; rfl
   have zvb : (s).toList = [] := by rw [ByteArray.toList_eq, zv]
   clear zv hd HP0 CC
   go_enter Tryz.func119, Tryz.ntmps119
   go_wp2_with fail
   refine (CM.out _).mono ?_
   rintro e w1 ⟨rfl, rfl⟩
   go_wp2_with fail
   refine (CI.out _).mono ?_
   rintro e w1 ⟨rfl, rfl⟩
   go_wp2_with fail
   refine (CL.out _).mono ?_
   rintro e w1 ⟨rfl, rfl⟩
   go_wp2_with fail
   refine bodyPost_ret (v := .tuple #[.agg #[.string ⟨#[]⟩, .string ⟨#[]⟩, .string ⟨#[]⟩], .bool false]) (by simp [results, Tryz.results119, go_sem]) rfl (SplitPost.mk_none HP.out ?_)
   first | exact (Below.refl _ _).alloc (Nat.le_refl _) _ | exact ((Below.refl _ _).alloc (Nat.le_refl _) _).alloc (by simp) _ | exact (((Below.refl _ _).alloc (Nat.le_refl _) _).alloc (by simp) _).drew | exact ((((Below.refl _ _).alloc (Nat.le_refl _) _).alloc (by simp) _).drew).drew
  ·skip
   have hv0 : 0 < (s).size := by rw [← aaQd]; exact List.length_pos_iff.2 zv
   have zva := abQa (s := s) (by exact hv0)
   have zvb : (s).toList ≠ [] := by intro h; rw [h] at zva; cases zva
   have hc2 := hc
   have HP : Hid (parse s.data.toList = some ⟨((⟨#[]⟩ : ByteArray)).data.toList, (s).data.toList, (⟨#[]⟩ : ByteArray).data.toList⟩) := by
    refine HP0.out.trans ?_
    rw [aeQg hc2 hd, if_neg zv]
    try rfl
   rw [show decide ((58 : UInt8) ∈ s.data.toList) = false from decide_eq_false hc2] at CC
   clear zv hv0 hd HP0 hc2
   go_enter Tryz.func119, Tryz.ntmps119
   go_wp2_with fail
   refine (CM.out _).mono ?_
   rintro e w1 ⟨rfl, rfl⟩
   go_wp2_with fail
   refine (CI.out _).mono ?_
   rintro e w1 ⟨rfl, rfl⟩
   go_wp2_with fail
   refine (CL.out _).mono ?_
   rintro e w1 ⟨rfl, rfl⟩
   go_wp2_with fail
   refine (CC.out _).mono ?_
   rintro e w1 ⟨rfl, rfl⟩
   go_wp2_with fail
   refine bodyPost_ret (v := .tuple #[.agg #[.string (⟨#[]⟩ : ByteArray), .string (s), .string ⟨#[]⟩], .bool true]) (by simp [results, Tryz.results119, go_sem]) rfl (SplitPost.mk_some HP.out ?_)
   first | exact (Below.refl _ _).alloc (Nat.le_refl _) _ | exact ((Below.refl _ _).alloc (Nat.le_refl _) _).alloc (by simp) _ | exact (((Below.refl _ _).alloc (Nat.le_refl _) _).alloc (by simp) _).drew | exact ((((Below.refl _ _).alloc (Nat.le_refl _) _).alloc (by simp) _).drew).drew
set_option maxHeartbeats 8000000 in
set_option maxRecDepth 100000 in
theorem alQ8 (s : ByteArray) (h : s.size ≤ 60) (hm : s.data.toList.all isMay = true) (hc : (58 : UInt8) ∈ s.data.toList) (w : World) (hbad : ∀ k, k = (s.data.toList.takeWhile (· != 58)).length → ¬ (k ≠ 0 ∧ k ≤ 9 ∧ (s.data.toList.take k).all isDg = true)) : Calls Tryz.prog 119 #[.string s] w (SplitPost w (parse s.data.toList)) := by
 have CM := hQQ (fun w => afQq aeQ4 (enters_of Tryz.func177 (by kernel_rfl) rfl) s (by unfold maxLen; omega) w)
 have CI := hQQ (fun w => Tryz.strings_IndexByte s 58 w)
 have h60 : (s.size : Int) ≤ 60 := by omega
 have h0 : (0 : Int) ≤ (s.size : Int) := by omega
 have HG := hQQ (show s.data.toList.length ≤ 60 ∧ s.data.toList.all isMay = true from ⟨by rw [aaQd]; exact h, hm⟩)
 have hall := afQi hm
 rw [aaQd] at hall
 have HCI := hQQ (aeQa hc)
 change Hid (∀ w, Calls Tryz.prog 43 #[.string s, .int .u8 58] w fun e w' => e = .returned (.int .i64 (Lib.indexByte s.data.toList 58)) ∧ w' = w) at CI
 rw [aeQa hc] at CI
 have HPC := hQQ (fun k hk => ahQc HG.out hc (k := k) hk)
 have klt := agQg hc
 rw [aaQd] at klt
 rw [hall] at CM
 clear hm hall HCI
 obtain ⟨k, hk⟩ : ∃ k, k = (s.data.toList.takeWhile (· != 58)).length := ⟨_, rfl⟩
 have HP1 := hQQ (HPC.out k hk)
 have hbad := hbad k hk
 rw [← hk] at CI klt
 clear hk HPC hc
 have k0 : (0 : Int) ≤ (k : Int) := by omega
 have k1 : (k : Int) + 1 ≤ (s.size : Int) := by omega
 have k2 : (k : Int) ≤ (s.size : Int) := by omega
 have HP := hQQ (HP1.out.trans (if_neg hbad))
 by_cases kz : k = 0
 ·subst kz
  clear hbad HP1
  go_enter Tryz.func119, Tryz.ntmps119
  go_wp2_with fail
  refine (CM.out _).mono ?_
  rintro e w1 ⟨rfl, rfl⟩
  go_wp2_with fail
  refine (CI.out _).mono ?_
  rintro e w1 ⟨rfl, rfl⟩
  go_wp2_with fail
  go_region
  all_goals go_wp2_with fail
  all_goals
   refine bodyPost_ret (v := .tuple #[.agg #[.string ⟨#[]⟩, .string ⟨#[]⟩, .string ⟨#[]⟩], .bool false]) (by simp [results, Tryz.results119, go_sem]) rfl (SplitPost.mk_none HP.out ?_)
   first | exact (Below.refl _ _).alloc (Nat.le_refl _) _ | exact ((Below.refl _ _).alloc (Nat.le_refl _) _).alloc (by simp) _ | exact (((Below.refl _ _).alloc (Nat.le_refl _) _).alloc (by simp) _).drew | exact ((((Below.refl _ _).alloc (Nat.le_refl _) _).alloc (by simp) _).drew).drew
 ·by_cases k9 : 9 < k
  ·have k3 : (9 : Int) < (k : Int) := by omega
   have k4 : ((k : Int) == 0) = false := by simp; omega
   clear hbad HP1 kz k9
   go_enter Tryz.func119, Tryz.ntmps119
   go_wp2_with fail
   refine (CM.out _).mono ?_
   rintro e w1 ⟨rfl, rfl⟩
   go_wp2_with fail
   refine (CI.out _).mono ?_
   rintro e w1 ⟨rfl, rfl⟩
   go_wp2_with fail
   go_region
   all_goals go_wp2_with fail
   all_goals
    refine bodyPost_ret (v := .tuple #[.agg #[.string ⟨#[]⟩, .string ⟨#[]⟩, .string ⟨#[]⟩], .bool false]) (by simp [results, Tryz.results119, go_sem]) rfl (SplitPost.mk_none HP.out ?_)
    first | exact (Below.refl _ _).alloc (Nat.le_refl _) _ | exact ((Below.refl _ _).alloc (Nat.le_refl _) _).alloc (by simp) _ | exact (((Below.refl _ _).alloc (Nat.le_refl _) _).alloc (by simp) _).drew | exact ((((Below.refl _ _).alloc (Nat.le_refl _) _).alloc (by simp) _).drew).drew
  ·have hd : (s.data.toList.take k).all isDg = false := by
    cases hx : (s.data.toList.take k).all isDg with
    | false => rfl
    | true => exact absurd ⟨kz, by omega, hx⟩ hbad
   have hlt := aeQ2 hd
   rw [← acQa, aaQd] at hlt
   have hsz : (s.extract 0 k).size = k := by rw [← aaQd, acQa, List.length_take, aaQd]; omega
   rw [hsz] at hlt
   have CE := hQQ (fun w => afQq aeQq (enters_of Tryz.func178 (by kernel_rfl) rfl) (s.extract 0 k) (by rw [hsz]; unfold maxLen; omega) w)
   generalize ((s.extract 0 k).data.toList.takeWhile isDg).length = m at *
   have k3 : (k : Int) ≤ 9 := by omega
   have k4 : ((k : Int) == 0) = false := by simp; omega
   have k5 : (m : Int) < (k : Int) := by omega
   have k6 : ¬ (9 : Int) < (k : Int) := by omega
   clear hbad HP1 kz k9 hd hlt hsz
   go_enter Tryz.func119, Tryz.ntmps119
   go_wp2_with fail
   refine (CM.out _).mono ?_
   rintro e w1 ⟨rfl, rfl⟩
   go_wp2_with fail
   refine (CI.out _).mono ?_
   rintro e w1 ⟨rfl, rfl⟩
   go_wp2_with fail
   go_region
   all_goals go_wp2_with fail
   all_goals
    refine (CE.out _).mono ?_
    rintro e w1 ⟨rfl, rfl⟩
    go_wp2_with fail
    refine bodyPost_ret (v := .tuple #[.agg #[.string ⟨#[]⟩, .string ⟨#[]⟩, .string ⟨#[]⟩], .bool false]) (by simp [results, Tryz.results119, go_sem]) rfl (SplitPost.mk_none HP.out ?_)
    first | exact (Below.refl _ _).alloc (Nat.le_refl _) _ | exact ((Below.refl _ _).alloc (Nat.le_refl _) _).alloc (by simp) _ | exact (((Below.refl _ _).alloc (Nat.le_refl _) _).alloc (by simp) _).drew | exact ((((Below.refl _ _).alloc (Nat.le_refl _) _).alloc (by simp) _).drew).drew
end Go.Proofs.YtdhgiammfpjniaaGreatDoor.Ev
