/- A path's parts. -/
import Derived.Test.YthgagobdkcikiaaDoorIdxF
import Derived.Test.YthgagobdkcikiaaDoorGlob
import Derived.Lib.SplitLaws
namespace Go.Proofs.YthgagobdkcikiaaDoor
set_option linter.unusedSimpArgs false
set_option linter.unusedVariables false
open Go.RowKit

def slash : ByteArray := ⟨#[47]⟩
def restOf (p : ByteArray) : ByteArray := ⟨(Lib.trimPrefix p.data.toList [47]).toArray⟩
def splitOf (r : ByteArray) : List ByteArray := Lib.splitB slash 0 (Lib.countB r slash) r
/-- A path's parts; none: it may not be a path. -/
def partsOf (p : ByteArray) : Option (List ByteArray) :=
  if p.data.toList = [47] then some [] else if Lib.hasPrefix p.data.toList [47] = true ∧ p.size ≤ 200 ∧ (splitOf (restOf p)).any noPart = false then some (splitOf (restOf p)) else none
theorem split_len (r : ByteArray) : (splitOf r).length = Lib.countB r slash + 1 := Lib.splitB_all slash (by decide) 0 _ r rfl
theorem rest_le (p : ByteArray) (h : Lib.hasPrefix p.data.toList [47] = true) : (restOf p).size + 1 ≤ p.size := by
  have h1 : p.data.toList ≠ [] := by
    intro e; rw [e] at h; cases h
  have h2 : 0 < p.data.toList.length := List.length_pos_iff.2 h1
  have h3 : (restOf p).data.toList.length + 1 ≤ p.data.toList.length := by
    unfold restOf Lib.trimPrefix
    rw [if_pos h]
    simp only [List.length_drop, List.length_cons, List.length_nil]
    omega
  simpa only [size_len] using h3
theorem rd_new {w : World} {ss : List ByteArray} : Rd (w.alloc (.cells (ss.map Value.string).toArray 9)) (w.heap.size + 1) (some ⟨w.heap.size, 0, none⟩) (ss.map Value.string) := fun k v hk =>
  ⟨w.heap.size, 0, rfl, by omega, by
    rw [Nat.zero_add, (Blk.new w _ _).cell]
    simpa using hk⟩
def PartsPost (w : World) (o : Option (List ByteArray)) (e : Ending) (w' : World) : Prop := Below w.heap.size w w' ∧ match o with
  | none => e = .returned (.tuple #[.slice none 0 0, .bool false])
  | some l => ∃ A, e = .returned (.tuple #[.slice A l.length l.length, .bool true]) ∧ Rd w' w'.heap.size A (l.map Value.string) ∧ l.length ≤ 200 ∧ ∀ b o s, A = some ⟨b, o, s⟩ → w.heap.size ≤ b
set_option maxHeartbeats 1000000 in
set_option maxRecDepth 100000 in
theorem parts_any (p : ByteArray) (w : World) (hm : MaxAt w) : Calls Tryd.prog 23 #[.string p] w (PartsPost w (partsOf p)) := by
  obtain ⟨o, ho⟩ : ∃ o, o = partsOf p := ⟨_, rfl⟩
  rw [← ho]
  have HO := Lib.hid ho
  clear ho
  unfold partsOf at HO
  by_cases h0 : p = ⟨#[47]⟩
  · subst h0
    have HV : Hid (o = some []) := HO.out.trans (by rfl)
    clear HO
    go_enter Tryd.func23, Tryd.ntmps23
    go_wp2_with fail
    go_ret2
    rw [HV.out]
    exact ⟨Below.refl _ _, none, rfl, Rd.nil, by simp, fun b o s e => by cases e⟩
  have n0 : ¬ p.data.toList = [47] := fun e => h0 (s_ext e)
  have t0 : ¬ p.toList = [47] := list_ne (b := ⟨#[47]⟩) h0
  have t1 : (p.toList == [47]) = false := by simpa using t0
  have CP := Lib.hid (Tryd.strings_CutPrefix p ⟨#[47]⟩ w)
  have CL := Lib.hid (isLong_any p w)
  have hre : (⟨(Lib.trimPrefix p.data.toList (⟨#[47]⟩ : ByteArray).data.toList).toArray⟩ : ByteArray) = restOf p := rfl
  have hhe : Lib.hasPrefix p.data.toList (⟨#[47]⟩ : ByteArray).data.toList = Lib.hasPrefix p.data.toList [47] := rfl
  rw [hre, hhe] at CP
  have HO2 : Hid (o = if Lib.hasPrefix p.data.toList [47] = true ∧ p.size ≤ 200 ∧ (splitOf (restOf p)).any noPart = false then some (splitOf (restOf p)) else none) := HO.out.trans (by rw [if_neg n0])
  clear HO n0 hre hhe h0
  have hrl := rest_le p
  generalize restOf p = r at *
  generalize Lib.hasPrefix p.data.toList [47] = hp at *
  cases hp with
  | false =>
    have HV : Hid (o = none) := HO2.out.trans (by simp)
    clear HO2
    go_enter Tryd.func23, Tryd.ntmps23
    go_wp2_with fail
    refine CP.out.mono ?_
    rintro e w1 ⟨rfl, hw⟩
    rw [hw]
    clear hw
    go_wp2_with fail
    go_ret2
    rw [HV.out]
    exact ⟨Below.refl _ _, rfl⟩
  | true =>
    by_cases h200 : p.size ≤ 200
    · have e200 : decide (200 < p.size) = false := by simp; omega
      rw [e200] at CL
      have HO3 : Hid (o = if (splitOf r).any noPart = false then some (splitOf r) else none) := HO2.out.trans (by simp [h200])
      clear HO2 e200
      obtain ⟨m, hm⟩ := hm
      have CS := Lib.hid (Tryd.strings_Split r ⟨#[47]⟩ m w (by have := hrl rfl; omega) hm (by decide))
      have hl := split_len r
      have hcl : Lib.countB r slash ≤ r.size := by
        have h := Lib.count_one 47 r.data.toList
        show Lib.count r.data.toList [47] ≤ _
        rw [h]
        have := List.count_le_length (a := (47 : UInt8)) (l := r.data.toList)
        rwa [size_len] at this
      have hse : Lib.splitB (⟨#[47]⟩ : ByteArray) 0 (Lib.countB r ⟨#[47]⟩) r = splitOf r := rfl
      rw [hse, show Lib.countB r (⟨#[47]⟩ : ByteArray) + 1 = (splitOf r).length from hl.symm] at CS
      have hlen : (splitOf r).length ≤ 200 := by
        rw [hl]
        have := hrl rfl
        omega
      have CF := Lib.hid (hasF_any 40 (enters_of Tryd.func40 (by kernel_rfl) rfl) #[] noPart (splitOf r) (some ⟨w.heap.size, 0, none⟩) (splitOf r).length (w.alloc (.cells ((splitOf r).map Value.string).toArray 9)) (by have := rd_new (w := w) (ss := splitOf r); simpa using this) (Nat.le_refl _) (by unfold maxLen; omega) (fun d _ w' _ => isNoPart_any d w'))
      have HRD : Hid (Rd (w.alloc (.cells ((splitOf r).map Value.string).toArray 9)) (w.heap.size + 1) (some ⟨w.heap.size, 0, none⟩) ((splitOf r).map Value.string)) := rd_new
      have HBA : Hid (Below w.heap.size w (w.alloc (.cells ((splitOf r).map Value.string).toArray 9))) := (Below.refl _ _).alloc (Nat.le_refl _) _
      have HLEN := Lib.hid hlen
      clear hse hl hcl hm hlen
      generalize hX : (splitOf r).any noPart = x at *
      clear hX
      generalize splitOf r = l at *
      go_enter Tryd.func23, Tryd.ntmps23
      go_wp2_with fail
      refine CP.out.mono ?_
      rintro e w1 ⟨rfl, hw⟩
      rw [hw]
      clear hw
      go_wp2_with fail
      refine CL.out.mono ?_
      rintro e w1 ⟨rfl, rfl⟩
      go_wp2_with fail
      refine CS.out.mono ?_
      rintro e w1 ⟨rfl, hw⟩
      rw [hw]
      clear hw
      clear CP CL CS
      go_wp2_with fail
      refine CF.out.mono ?_
      rintro e w1 ⟨rfl, hb⟩
      have HB : Hid (Below w.heap.size w w1) := HBA.out.trans (hb.mono (by simp))
      have HB1 := Lib.hid hb
      clear hb CF
      cases x with
      | true =>
        have HV : Hid (o = none) := HO3.out.trans (by simp)
        clear HO3
        go_wp2_with fail
        go_ret2
        rw [HV.out]
        exact ⟨HB.out, rfl⟩
      | false =>
        have HV : Hid (o = some l) := HO3.out.trans (by simp)
        clear HO3
        go_wp2_with fail
        go_ret2
        rw [HV.out]
        refine ⟨HB.out, _, rfl, fun k v hk => ?_, HLEN.out, fun b o s e => by injection e with e; injection e with e; omega⟩
        obtain ⟨b, o, e1, e2, e3⟩ := HRD.out k v hk
        have hz := HB1.out.size
        simp at hz
        exact ⟨b, o, e1, by omega, (World.cell?_of_block (HB1.out.block b (by simp; omega))).trans e3⟩
    · have e200 : decide (200 < p.size) = true := by simp; omega
      rw [e200] at CL
      have HV : Hid (o = none) := HO2.out.trans (by simp [h200])
      clear HO2 e200
      go_enter Tryd.func23, Tryd.ntmps23
      go_wp2_with fail
      refine CP.out.mono ?_
      rintro e w1 ⟨rfl, hw⟩
      rw [hw]
      clear hw
      go_wp2_with fail
      refine CL.out.mono ?_
      rintro e w1 ⟨rfl, rfl⟩
      go_wp2_with fail
      go_ret2
      rw [HV.out]
      exact ⟨Below.refl _ _, rfl⟩
end Go.Proofs.YthgagobdkcikiaaDoor
