/- Parts of the proof. -/
import Derived.Test.YtdhgiammfpjniaaGreatDoorZral
import Derived.Test.YtdhgiammfpjniaaGreatDoorZram
import Derived.Test.YtdhgiammfpjniaaGreatDoorZrac
import Derived.Test.YtdhgiammfpjniaaGreatDoorZrad
import Derived.Deep.LoopGhost
namespace Go.Proofs.YtdhgiammfpjniaaGreatDoor.Ev
set_option linter.unusedSimpArgs false
set_option linter.unusedVariables false
open Go.RowKit
def Looked (d : Dep) (w0 : World) (e : Ending) (w' : World) : Prop := Below w0.heap.size w0 w' ∧ ((mayPart d = true ∧ e = .returned (.tuple #[])) ∨ (mayPart d = false ∧ e = abQf 50))
set_option maxHeartbeats 1000000 in
set_option maxRecDepth 100000 in
theorem look_any (d : Dep) (s : Value) (S : Nat → Prop) (w0 : World) (hL : Lay w0 S d s) (hT : Tabs w0) :
 Calls Tryz.prog 220 #[.agg (rowD d s)] w0 (Looked d w0) := by
 obtain ⟨A, c, rfl, _, _⟩ := hL.form_
 have HB : Hid (Below w0.heap.size w0 (w0.alloc (.cells (rowD d (.slice A d.args.length c)) 39))) := (Below.refl _ _).alloc (Nat.le_refl _) _
 have C := hQQ (part_any d (.slice A d.args.length c) S _ (hL.stay (fun _ h => h) (StayS.below' HB.out)) (hT.below HB.out hT.two))
 have CY := hQQ agQm
 have CN := hQQ ahQf
 unfold rowD at HB C ⊢
 clear hL hT
 go_enter Tryz.func220, Tryz.ntmps220
 go_wp2_with fail
 refine C.out.mono ?_
 rintro e w1 ⟨rfl, hb1⟩
 have HB1 : Hid (Below w0.heap.size w0 w1) := HB.out.trans (hb1.mono (by simp))
 clear hb1 HB C
 cases hm : mayPart d with
 | true =>
   go_wp2_with fail
   refine (CY.out _).mono ?_
   rintro e w2 ⟨rfl, rfl⟩
   go_wp2_with fail
   go_end0
   exact ⟨HB1.out, .inl ⟨hm, rfl⟩⟩
 | false =>
   go_wp2_with fail
   refine (CN.out _).mono ?_
   rintro e w2 ⟨rfl, rfl⟩
   have HP : Hid (Looked d w0 (abQf 50) w1) := ⟨HB1.out, .inr ⟨hm, rfl⟩⟩
   clear hm
   unfold abQf
   go_wp2_with fail
   exact ⟨rfl, HP.out⟩
theorem looks (d : Dep) (N : Nat) : Sees 220 #[] d N (fun _ F _ => F = []) (fun a => !mayPart a) where
 enters := enters_of Tryz.func220 (by kernel_rfl) rfl
 stab := fun l F w w' G h _ _ => h
 call := fun S l F w a t hF hL _ _ _ hT => by
  subst hF
  refine (look_any a t S w hL hT).mono ?_
  rintro e w' ⟨hb, h⟩
  refine ⟨[], Turned.of_below hb [], fun k hk => (by cases hk), fun k hk => (by cases hk), ?_⟩
  rcases h with ⟨h1, rfl⟩ | ⟨h1, rfl⟩
  ·exact .inl ⟨by simp [h1], rfl, rfl⟩
  ·exact .inr ⟨by simp [h1], rfl⟩
def afQj (d : Dep) (w0 : World) (e : Ending) (w' : World) : Prop := Below w0.heap.size w0 w' ∧ ((checkN d = 0 ∧ e = .returned (.tuple #[])) ∨ (checkN d ≠ 0 ∧ e = abQf (checkN d)))
theorem apQ0 {d : Dep} (hf : form d = true) : checkN d = if 16 < abQd d then 51 else 0 := by unfold checkN; rw [if_pos hf]
set_option maxHeartbeats 1000000 in
set_option maxRecDepth 100000 in
theorem alQo (d : Dep) (s : Value) (S : Nat → Prop) (w0 : World) (hL : Lay w0 S d s) (hC : CleanS w0 S) (hT : Tabs w0) (hN : nodes d ≤ 4194304) :
 Calls Tryz.prog 187 #[.agg (rowD d s)] w0 (afQj d w0) := by
 obtain ⟨A, c, rfl, _, _⟩ := hL.form_
 have HB : Hid (Below w0.heap.size w0 (w0.alloc (.cells (rowD d (.slice A d.args.length c)) 39))) := (Below.refl _ _).alloc (Nat.le_refl _) _
 have hSlt : ∀ b, S b → b < w0.heap.size := fun b hb => by obtain ⟨cs, hc⟩ := hC b hb; exact hc.lt
 have hst := StayS.below' (S := S) HB.out
 have CE := hQQ (each_any d (.slice A d.args.length c) S _ [] _ _ _ _ _ (looks d (nodes d)) (hL.stay (fun _ h => h) hst) (hC.stay hst) rfl (fun k hk => (by cases hk)) (hT.below HB.out hT.two) (Nat.le_refl _) hN)
 have CM := hQQ (fun (hf : form d = true) w (hw : Below w0.heap.size w0 w) => many_any d (.slice A d.args.length c) S w (hL.stay (fun _ h => h) (StayS.below' hw)) (fun b hb => Nat.lt_of_lt_of_le (hSlt b hb) hw.size) hf hN)
 have K := hQQ (Blk.new w0 39 (rowD d (.slice A d.args.length c)))
 have HP := hQQ (apQo d)
 unfold rowD at HB CE CM K ⊢
 clear hL hT hC hst hSlt
 go_enter Tryz.func187, Tryz.ntmps187
 go_wp2_with fail
 refine CE.out.mono ?_
 rintro e w1 ⟨F', ht, _, _, h⟩
 have hb1 : Below w0.heap.size w0 w1 := HB.out.trans (ht.of_nil.mono (by simp))
 have K1 := K.out.below ht.of_nil (by simp)
 have k0 := K1.cell 0
 have k1 := K1.cell 1
 have k2 := K1.cell 2
 have k3 := K1.cell 3
 have k4 := K1.cell 4
 rcases h with ⟨rfl, l, _, h1, h2⟩ | ⟨rfl, a, ha, hbad⟩
 ·have hf : form d = true := HP.out.2 fun x hx => by simpa using (h2 x (h1 x hx)).2
  have HB1 := hQQ hb1
  have C := hQQ (CM.out hf w1 hb1)
  have HD := hQQ (apQ0 hf)
  have hz := hb1.size
  clear h1 h2 ht hb1 K K1 CE CM HP HB hf
  go_wp2_with fail
  refine C.out.mono ?_
  rintro e w2 ⟨rfl, hb2⟩
  have HB2 : Hid (Below w0.heap.size w0 w2) := HB1.out.trans (hb2.mono hz)
  clear hb2 C HB1 k0 k1 k2 k3 k4
  by_cases hm : 16 < abQd d
  ·have HV : Hid (checkN d = 51) := HD.out.trans (if_pos hm)
   rw [decide_eq_true hm]
   have HPP : Hid (afQj d w0 (abQf 51) w2) := ⟨HB2.out, .inr ⟨by rw [HV.out]; decide, by rw [HV.out]⟩⟩
   clear hm HD
   go_wp2_with fail
   exact ⟨rfl, HPP.out⟩
  ·have HV : Hid (checkN d = 0) := HD.out.trans (if_neg hm)
   rw [decide_eq_false hm]
   clear hm HD
   go_wp2_with fail
   go_end0
   exact ⟨HB2.out, .inl ⟨HV.out, rfl⟩⟩
 ·have hf : checkN d = 50 := afQe fun h => by
   have := HP.out.1 h a ha
   simp [this] at hbad
  have HPP : Hid (afQj d w0 (abQf 50) w1) := ⟨hb1, .inr ⟨by rw [hf]; decide, by rw [hf]⟩⟩
  unfold abQf
  clear ht hb1 K K1 CE CM HP HB hf k0 k1 k2 k3 k4 hbad ha
  go_wp2_with fail
  exact ⟨rfl, HPP.out⟩
set_option maxHeartbeats 1000000 in
set_option maxRecDepth 100000 in
theorem amQ5 (d : Dep) (A : Option Addr) (c : Nat) (S : Nat → Prop) (g : Nat) (w0 : World) (hK : Blk w0 g 39 (rowD d (.slice A d.args.length c))) (hL : Lay w0 S d (.slice A d.args.length c)) (hC : CleanS w0 S) (hT : Tabs w0) (hN : nodes d ≤ 4194304) :
 Calls Tryz.prog 214 #[.pointer (some ⟨g, 0, none⟩)] w0 (afQj d w0) := by
 have C := hQQ (alQo d _ S w0 hL hC hT hN)
 unfold rowD at hK C
 have k0 := hK.cell 0
 have k1 := hK.cell 1
 have k2 := hK.cell 2
 have k3 := hK.cell 3
 have k4 := hK.cell 4
 clear hL hC hT hK
 go_enter Tryz.func214, Tryz.ntmps214
 go_wp2_with fail
 refine C.out.mono ?_
 rintro e w1 ⟨hb, h⟩
 rcases h with ⟨h1, rfl⟩ | ⟨h1, rfl⟩
 ·have HB := hQQ hb
  have H1 := hQQ h1
  clear hb h1 C k0 k1 k2 k3 k4
  go_wp2_with fail
  go_end0
  exact ⟨HB.out, .inl ⟨H1.out, rfl⟩⟩
 ·have HPP : Hid (afQj d w0 (abQf (checkN d)) w1) := ⟨hb, .inr ⟨h1, rfl⟩⟩
  clear hb h1 C k0 k1 k2 k3 k4
  unfold abQf
  go_wp2_with fail
  exact ⟨rfl, HPP.out⟩
set_option maxHeartbeats 1000000 in
set_option maxRecDepth 100000 in
theorem depCheck_any (d : Dep) (s : Value) (S : Nat → Prop) (w0 : World) (hL : Lay w0 S d s) (hC : CleanS w0 S) (hT : Tabs w0) (hN : nodes d ≤ 4194304) :
 Calls Tryz.prog 182 #[.agg (rowD d s)] w0 fun e w' => e = .returned (.int .i64 (checkN d)) ∧ Below w0.heap.size w0 w' := by
 obtain ⟨A, c, rfl, _, _⟩ := hL.form_
 have hmf : ∀ (fn : Fn) (first cap : Array Value) (w : World), (Instr.makeFunc fn first cap).run Tryz.prog w = .ok (.func fn first cap) w := fun _ _ _ _ => rfl
 have hb0 : Below w0.heap.size w0 (w0.alloc (.cells (rowD d (.slice A d.args.length c)) 39)) := (Below.refl _ _).alloc (Nat.le_refl _) _
 have hbc : Below w0.heap.size w0 ((w0.alloc (.cells (rowD d (.slice A d.args.length c)) 39)).alloc (.cells #[.int .i64 0] 24)) := hb0.alloc (by simp) _
 have K : Blk ((w0.alloc (.cells (rowD d (.slice A d.args.length c)) 39)).alloc (.cells #[.int .i64 0] 24)) w0.heap.size 39 (rowD d (.slice A d.args.length c)) := (Blk.new _ _ _).alloc _
 have hst := StayS.below' (S := S) hbc
 have CC := hQQ (aiQl 214 #[.pointer (some ⟨w0.heap.size, 0, none⟩)] (enters_of Tryz.func214 (by kernel_rfl) rfl) [] (fun _ => checkN d = 0) (fun n _ => n = checkN d) (w0.alloc (.cells (rowD d (.slice A d.args.length c)) 39)) (fun k hk => (by cases hk))
  ((amQ5 d A c S _ _ K (hL.stay (fun _ h => h) hst) (hC.stay hst) (hT.below hbc hT.two) hN).mono fun e w' h => by
   refine ⟨Turned.of_below h.1 [], ?_⟩
   rcases h.2 with ⟨h1, h2⟩ | ⟨h1, h2⟩
   ·exact .inl ⟨h2, h1⟩
   ·exact .inr ⟨_, h2, rfl⟩))
 have HB := hQQ hb0
 clear hL hC hT hb0 hbc K hst
 unfold rowD at CC HB ⊢
 go_enter Tryz.func182, Tryz.ntmps182
 go_wp2_with fail
 refine CC.out.mono ?_
 rintro e w1 ⟨w2, ht1, ht2, h⟩
 have HB1 : Hid (Below w0.heap.size w0 w1) := by
  have h1 := ht1.of_nil
  have h2 : Below w0.heap.size w2 w1 := ht2.below (fun k hk => by simp at hk; omega) (by have := ht1.size; simp at this; omega)
  exact ((HB.out.alloc (by simp) _).trans (h1.mono (by simp; omega))).trans h2
 rcases h with ⟨rfl, h⟩ | ⟨n, rfl, rfl⟩
 ·have HV := hQQ h
  clear h ht1 ht2 CC HB
  go_wp2_with fail
  go_ret
  exact ⟨by rw [HV.out]; rfl, HB1.out⟩
 ·clear ht1 ht2 CC HB
  go_wp2_with fail
  go_ret
  exact ⟨rfl, HB1.out⟩
end Go.Proofs.YtdhgiammfpjniaaGreatDoor.Ev

namespace Go.Proofs.YtdhgiammfpjniaaGreatDoor
set_option linter.unusedSimpArgs false
set_option linter.unusedVariables false
open Go.RowKit Go.MapKept
abbrev Stz := List (Bs × List Bs)
section
variable {P : Program} {w : World} {mty kt et : TypeId} {m : Nat} {l : List (ByteArray × Value)} {k : ByteArray}
end
theorem mkS_inj_ {a b : Bs} (h : mkS a = mkS b) : a = b := by
 have := congrArg (fun s : ByteArray => s.data.toList) h
 simpa [aaQn] using this
def updF {α : Type} (f : Nat → α) (i : Nat) (x : α) (j : Nat) : α := if j = i then x else f j
section
variable {w0 w w' w2 : World} {pb : Nat} {T : Nat → Bs} {D : Nat → List Ev.Dep} {ss : Nat → Value} {rs : Nat → Ev.Rows5} {F : List Nat}
theorem aaQ3 {α : Type} (f : Nat → α) (i : Nat) (x : α) : updF f i x i = x := if_pos rfl
theorem aaQp {α : Type} (f : Nat → α) {i j : Nat} (x : α) (h : j ≠ i) : updF f i x j = f j := if_neg h
end
def putO (k : ByteArray) (v : Value) : List (ByteArray × Value) → List (ByteArray × Value)
 | [] => [(k, v)]
 | (a, u) :: r => if k = a then (a, v) :: r else (a, u) :: putO k v r
theorem anQ2 (k : ByteArray) (v : Value) : ∀ (l : List (ByteArray × Value)) (i j : Nat), (lookO k l = none ∧ Instr.findNow .string (.string k) (mapEs l i) j = some none ∧ putO k v l = l ++ [(k, v)]) ∨
 ∃ p u, lookO k l = some u ∧ Instr.findNow .string (.string k) (mapEs l i) j = some (some (j + p, u)) ∧ (mapEs l i)[p]? = some ⟨.string k, u, i + p⟩ ∧ mapEs (putO k v l) i = (mapEs l i).modify p (fun e => { e with key := .string k, val := v }) ∧ (putO k v l).length = l.length
 | [], i, j => .inl ⟨rfl, rfl, rfl⟩
 | (a, u) :: r, i, j => by
   by_cases h : k = a
   ·subst h
    have hp : putO k v ((k, u) :: r) = (k, v) :: r := if_pos rfl
    rw [hp]
    refine .inr ⟨0, u, if_pos rfl, ?_, rfl, rfl, rfl⟩
    unfold mapEs Instr.findNow
    rw [aiQy, decide_eq_true rfl]
    rfl
   ·have hp : putO k v ((a, u) :: r) = (a, u) :: putO k v r := if_neg h
    have hl : lookO k ((a, u) :: r) = lookO k r := if_neg h
    have hf : Instr.findNow .string (.string k) (mapEs ((a, u) :: r) i) j = Instr.findNow .string (.string k) (mapEs r (i + 1)) (j + 1) := by
     show Instr.findNow .string (.string k) ((⟨.string a, u, i⟩ : MapEntry) :: mapEs r (i + 1)) j = _
     rw [Instr.findNow.eq_def]
     simp only [aiQy]
     rw [decide_eq_false h]
    rw [hp, hl, hf]
    rcases anQ2 k v r (i + 1) (j + 1) with ⟨h1, h2, h3⟩ | ⟨p, u', h1, h2, h3, h4, h5⟩
    ·exact .inl ⟨h1, h2, by rw [h3]; rfl⟩
    ·refine .inr ⟨p + 1, u', h1, ?_, ?_, ?_, ?_⟩
     ·rw [show j + (p + 1) = j + 1 + p from by omega]
      exact h2
     ·rw [show i + (p + 1) = i + 1 + p from by omega]
      exact h3
     ·show (⟨.string a, u, i⟩ : MapEntry) :: mapEs (putO k v r) (i + 1) = (⟨.string a, u, i⟩ : MapEntry) :: (mapEs r (i + 1)).modify p _
      rw [h4]
     ·rw [List.length_cons, h5]
      rfl
section
variable {P : Program} {w : World} {mty kt et : TypeId} {m : Nat} {l : List (ByteArray × Value)} {k : ByteArray} {v : Value}
theorem run_putA (hm : P.underlying mty = some (.map kt et)) (hd : P.underlying kt = some .string) (hb : w.heap[m]? = some (mapO l)) :
 ∃ w', (Instr.mapUpdate mty (.map (some m)) (.string k) v).run P w = .ok () w' ∧ w'.heap[m]? = some (mapO (putO k v l)) ∧ Turned [m] w w' := by
 rcases anQ2 k v l 0 0 with ⟨h1, h2, h3⟩ | ⟨p, u, h1, h2, h3, h4, h5⟩
 ·rw [h3]
  exact aqQe hm hd hb h1
 ·have hk : IsKey .string (.string k) := by simp [IsKey]
  have hb' := hb
  unfold mapO at hb
  refine ⟨{ w with heap := w.heap.setIfInBounds m (mapO (putO k v l)) }, ?_, (heap_set hb').1, ⟨rfl, rfl, rfl, by simp, fun j hj hjm => (heap_set hb').2 j (fun e => hjm (by simp [e]))⟩⟩
  have he : mapO (putO k v l) = .map ((mapEs l 0).toArray.modify p fun e => { e with key := .string k, val := v }) l.length := by
   unfold mapO
   rw [h4, h5]
   simp
  have hj : (mapEs l 0).toArray[p]? = some ⟨.string k, u, 0 + p⟩ := by simpa using h3
  rw [he]
  rw [Nat.zero_add] at h2
  simp [Instr.mapUpdate, run_underlying hm, Go.MapKept.run_getObj_map hb, run_checkKey hd hk, run_findKey hd h2, h3, run_keyThatStays hk, run_setObj_map _ hb, Result.andThen]
end
theorem ahQy {P : Program} (w : World) {ops : Array Oper} {rest : List Oper} {o : Oper} {a : Act} {Q : Exit → Act → World → Prop}
 (hg : o.guard = none) (m x v : Operand) (t : TypeId) (hop : o.op = Op.mapUpdate t m x v)
 (kt et : TypeId) (ht : P.underlying t = some (.map kt et)) (hd : P.underlying kt = some .string) (b : Nat) (l : List (ByteArray × Value)) (hm : a.eval m = .map (some b)) (hb : w.heap[b]? = some (mapO l))
 (key : ByteArray) (val : Value) (hx : a.eval x = .string key) (hv : a.eval v = val)
 (hK : ∀ w', w'.heap[b]? = some (mapO (putO key val l)) → Turned [b] w w' → wpList P ops Q rest (a.put o.dst undef) w') :
 wpList P ops Q (o :: rest) a w := by
 refine wpList_plain hg fun K' hK' => ?_
 obtain ⟨w', hrun, r1, r2⟩ := run_putA (v := val) (k := key) ht hd hb
 unfold Oper.wp
 simp [execOp, hop, hm, hx, hv, hrun, Result.andThen]
 exact hK' _ _ (hK w' r1 r2)
section
variable {w w' : World} {B : Nat} {n x : Bs} {v v' : Value}
end
theorem agQr (c : UInt8) (l : Bs) : (Lib.cut l [c]).1.length ≤ l.length ∧ (Lib.cut l [c]).2.1.length ≤ l.length ∧ (l ≠ [] → (Lib.cut l [c]).2.1.length < l.length ∧ (Lib.cut l [c]).1.length + 1 + 2 * (Lib.cut l [c]).2.1.length ≤ 2 * l.length) := by
 unfold Lib.cut
 split
 ·refine ⟨by show (l.take _).length ≤ _; simp; omega, by show (l.drop _).length ≤ _; simp, fun hne => ?_⟩
  have h0 : 0 < l.length := List.length_pos_iff.2 hne
  show (l.drop _).length < _ ∧ (l.take _).length + 1 + 2 * (l.drop _).length ≤ _
  simp only [List.length_drop, List.length_take, List.length_singleton]
  omega
 ·refine ⟨Nat.le_refl _, Nat.zero_le _, fun hne => ?_⟩
  have h0 : 0 < l.length := List.length_pos_iff.2 hne
  show (0 : Nat) < _ ∧ l.length + 1 + 2 * 0 ≤ _
  omega
theorem anQ4 (c : UInt8) (t : Bs) (ht : t.length ≤ 40000) (w : World) (hM : MaxAt w) :
 Calls Tryz.prog 41 #[.string (mkS t), .string (mkS [c])] w fun e w' => e = .returned (.tuple #[.string (mkS (Lib.cut t [c]).1), .string (mkS (Lib.cut t [c]).2.1), .bool (Lib.cut t [c]).2.2]) ∧ Below w.heap.size w w' := by
 obtain ⟨m, hm⟩ := hM
 refine (Tryz.strings_Cut (mkS t) (mkS [c]) m w (by rw [aaQg]; omega) hm).mono ?_
 rintro e w' ⟨rfl, n, rfl⟩
 exact ⟨rfl, aaQs (Below.refl _ _) n⟩
theorem alQn {cs : Bs} (hse : Seps cs) (l : Bs) (hl : l.length ≤ 200000) (w : World) :
 Calls Tryz.prog 44 #[.string (mkS l), .string (mkS cs)] w fun e w' => e = .returned (.bool (decide (adQ3 cs l < l.length))) ∧ Below w.heap.size w w' := by
 have C := hQQ (alQa hse (mkS l) (by rw [aaQg]; unfold maxLen; omega) w)
 rw [aaQn] at C
 unfold anyAt at C
 by_cases h : adQ3 cs l < l.length
 ·rw [if_pos h] at C
  rw [decide_eq_true h]
  generalize adQ3 cs l = n at *
  clear h hl
  generalize mkS l = S at *
  generalize mkS cs = CS at *
  have hn : (0 : Int) ≤ (n : Int) := by omega
  go_enter Tryz.func44, Tryz.ntmps44
  go_wp2_with fail
  refine C.out.mono ?_
  rintro e w1 ⟨rfl, hb1⟩
  have HB := hQQ hb1
  clear hb1 C
  go_wp2_with fail
  go_ret
  exact ⟨by simp, HB.out⟩
 ·rw [if_neg h] at C
  rw [decide_eq_false h]
  clear h hl
  generalize mkS l = S at *
  generalize mkS cs = CS at *
  go_enter Tryz.func44, Tryz.ntmps44
  go_wp2_with fail
  refine C.out.mono ?_
  rintro e w1 ⟨rfl, hb1⟩
  have HB := hQQ hb1
  clear hb1 C
  go_wp2_with fail
  go_ret
  exact ⟨rfl, HB.out⟩
section
variable {w w7 w8 : World} {B sm : Nat} {s : Stz} {vs : List Value} {n x : Bs} {v v' : Value}
end
section
variable {w w7 w8 : World} {B sm k : Nat} {s : Stz} {vs : List Value} {n x : Bs} {v v' : Value} {xs : List Value}
end
end Go.Proofs.YtdhgiammfpjniaaGreatDoor

namespace Go.Proofs.YtdhgiammfpjniaaGreatDoor
set_option linter.unusedSimpArgs false
set_option linter.unusedVariables false
open Go
section
variable {P : Program} {ops : Array Oper} {Q : Exit → Act → World → Prop} {md : Region.Mode} {S : Array Bool → World → Prop}
theorem abQs {i : Nat} {oi : Oper} {fuel : Nat} {listed : Array Bool} {a : Act} {w : World} (hi : ops[i]? = some oi)
 (hs : Region.noSelect ops = true) (hf : Region.free md ops listed i = true) (hr : (Region.ready md ops listed).contains i = true)
 (hQ : ∀ c a w, Q (.panic c) (a.put oi.dst undef) w → Q (.panic c) a w)
 (hio : ∀ l w, S (l.setIfInBounds i true) w ↔ S l w)
 (hwt : ((List.range ops.size).all fun k => !Region.waitsFor md ops k i || !listed.getD k true) = true)
 (hS : S listed w) (hw : Region.wanted oi (yielded ops a.tmps) = false)
 (h : S (listed.setIfInBounds i true) w → acQb P md ops Q S fuel (listed.setIfInBounds i true) (a.put oi.dst undef) w) : acQb P md ops Q S (fuel + 1) listed a w := by
 refine afQ2 (S' := fun _ => True) hi (Region.noSelect_spec hs) hQ (fun _ _ _ _ => trivial) hio fuel listed a w (Region.free_spec hi hf) (fun k hk => ?_) (by simpa using hr) (.inr ⟨hw, rfl⟩) hS (h ((hio _ _).2 hS))
 obtain ⟨o', ho', _⟩ := Region.waitsFor_spec hk
 have h1 := List.all_eq_true.1 hwt k (List.mem_range.2 (Array.getElem?_eq_some_iff.1 ho').1)
 rw [hk] at h1
 simpa using h1
end
end Go.Proofs.YtdhgiammfpjniaaGreatDoor

namespace Go.Proofs.YtdhgiammfpjniaaGreatDoor
set_option linter.unusedSimpArgs false
set_option linter.unusedVariables false
open Go.RowKit
theorem adQs : ∃ i z, Tryz.prog.info? 9 = some i ∧ i.zero = some z ∧ z.cells.size = 1 ∧ i.size = 1 ∧ i.bytes = 16 := by
 have h : (Tryz.prog.info? 9).map (fun i => (i.zero.map fun z => z.cells.size, i.size, i.bytes)) = some (some 1, 1, 16) := by kernel_rfl
 obtain ⟨i, hi, h2⟩ := Option.map_eq_some_iff.1 h
 simp only [Prod.mk.injEq] at h2
 obtain ⟨z, hz, hz1⟩ := Option.map_eq_some_iff.1 h2.1
 exact ⟨i, z, hi, hz, hz1, h2.2.1, h2.2.2⟩
end Go.Proofs.YtdhgiammfpjniaaGreatDoor

namespace Go.Proofs.YtdhgiammfpjniaaGreatDoor
set_option linter.unusedSimpArgs false
set_option linter.unusedVariables false
open Go.RowKit Go.MapKept
theorem dLay_ok : Seps dLayS := ⟨by decide, by decide, by decide⟩
end Go.Proofs.YtdhgiammfpjniaaGreatDoor
