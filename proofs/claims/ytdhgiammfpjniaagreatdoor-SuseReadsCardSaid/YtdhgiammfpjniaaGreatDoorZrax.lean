/- Parts of the proof. -/
import Derived.Test.YtdhgiammfpjniaaGreatDoorZran
import Derived.Test.YtdhgiammfpjniaaGreatDoorZram
import Derived.Test.YtdhgiammfpjniaaGreatDoorZrap
import Derived.Maps.RangeRun
import Derived.Deep.LoopGhost
namespace Go.Proofs.YtdhgiammfpjniaaGreatDoor
set_option linter.unusedSimpArgs false
set_option linter.unusedVariables false
open Go.RowKit Go.MapKept
open Go.ChangeMaps (setBlock)
def dlEs : List (ByteArray × Value) := [(mkS [80, 114, 118], fcV 146), (mkS [82, 101, 113], fcV 147), (mkS [80, 114, 113], fcV 148), (mkS [67, 111, 110], fcV 149), (mkS [79, 98, 115], fcV 150), (mkS [82, 101, 99], fcV 151), (mkS [83, 117, 112], fcV 152)]
set_option maxHeartbeats 4000000 in
set_option maxRecDepth 100000 in
theorem alQh (w : World) : Calls Tryz.prog 83 #[] w fun e w' => ∃ m, e = .returned (.map (some m)) ∧ w.heap.size ≤ m ∧ w'.heap[m]? = some (mapO dlEs) ∧ Below w.heap.size w w' := by
 have hmm := @run_makeMap Tryz.prog
 have HM0 := hQQ (aqQ6 w)
 have HB0 : Hid (Below w.heap.size w (w.alloc (.map #[] 0))) := (Below.refl _ _).alloc (Nat.le_refl _) _
 have N0 : Hid (lookO (mkS [80, 114, 118]) ([] : List (ByteArray × Value)) = none) := (by kernel_rfl : _ = _)
 have N1 : Hid (lookO (mkS [82, 101, 113]) ([(mkS [80, 114, 118], fcV 146)] : List (ByteArray × Value)) = none) := (by kernel_rfl : _ = _)
 have N2 : Hid (lookO (mkS [80, 114, 113]) ([(mkS [80, 114, 118], fcV 146), (mkS [82, 101, 113], fcV 147)] : List (ByteArray × Value)) = none) := (by kernel_rfl : _ = _)
 have N3 : Hid (lookO (mkS [67, 111, 110]) ([(mkS [80, 114, 118], fcV 146), (mkS [82, 101, 113], fcV 147), (mkS [80, 114, 113], fcV 148)] : List (ByteArray × Value)) = none) := (by kernel_rfl : _ = _)
 have N4 : Hid (lookO (mkS [79, 98, 115]) ([(mkS [80, 114, 118], fcV 146), (mkS [82, 101, 113], fcV 147), (mkS [80, 114, 113], fcV 148), (mkS [67, 111, 110], fcV 149)] : List (ByteArray × Value)) = none) := (by kernel_rfl : _ = _)
 have N5 : Hid (lookO (mkS [82, 101, 99]) ([(mkS [80, 114, 118], fcV 146), (mkS [82, 101, 113], fcV 147), (mkS [80, 114, 113], fcV 148), (mkS [67, 111, 110], fcV 149), (mkS [79, 98, 115], fcV 150)] : List (ByteArray × Value)) = none) := (by kernel_rfl : _ = _)
 have N6 : Hid (lookO (mkS [83, 117, 112]) ([(mkS [80, 114, 118], fcV 146), (mkS [82, 101, 113], fcV 147), (mkS [80, 114, 113], fcV 148), (mkS [67, 111, 110], fcV 149), (mkS [79, 98, 115], fcV 150), (mkS [82, 101, 99], fcV 151)] : List (ByteArray × Value)) = none) := (by kernel_rfl : _ = _)
 go_enter Tryz.func83, Tryz.ntmps83
 go_wp2_with (first | (refine aaQy _ rfl _ _ _ 124 rfl 9 127 Tryz.underlying124 Tryz.underlying9 w.heap.size [] rfl HM0.out _ _ rfl rfl N0.out ?_; intro w1 hm ht; have HM1 := hQQ hm; have HB1 := hQQ (HB0.out.trans (ht.below (B := w.heap.size) (fun k hk => by simp at hk; omega) HB0.out.size)); clear hm ht HM0 HB0 N0) | (refine aaQy _ rfl _ _ _ 124 rfl 9 127 Tryz.underlying124 Tryz.underlying9 w.heap.size [(mkS [80, 114, 118], fcV 146)] rfl HM1.out _ _ rfl rfl N1.out ?_; intro w2 hm ht; have HM2 := hQQ hm; have HB2 := hQQ (HB1.out.trans (ht.below (B := w.heap.size) (fun k hk => by simp at hk; omega) HB1.out.size)); clear hm ht HM1 HB1 N1) | (refine aaQy _ rfl _ _ _ 124 rfl 9 127 Tryz.underlying124 Tryz.underlying9 w.heap.size [(mkS [80, 114, 118], fcV 146), (mkS [82, 101, 113], fcV 147)] rfl HM2.out _ _ rfl rfl N2.out ?_; intro w3 hm ht; have HM3 := hQQ hm; have HB3 := hQQ (HB2.out.trans (ht.below (B := w.heap.size) (fun k hk => by simp at hk; omega) HB2.out.size)); clear hm ht HM2 HB2 N2) | (refine aaQy _ rfl _ _ _ 124 rfl 9 127 Tryz.underlying124 Tryz.underlying9 w.heap.size [(mkS [80, 114, 118], fcV 146), (mkS [82, 101, 113], fcV 147), (mkS [80, 114, 113], fcV 148)] rfl HM3.out _ _ rfl rfl N3.out ?_; intro w4 hm ht; have HM4 := hQQ hm; have HB4 := hQQ (HB3.out.trans (ht.below (B := w.heap.size) (fun k hk => by simp at hk; omega) HB3.out.size)); clear hm ht HM3 HB3 N3) | (refine aaQy _ rfl _ _ _ 124 rfl 9 127 Tryz.underlying124 Tryz.underlying9 w.heap.size [(mkS [80, 114, 118], fcV 146), (mkS [82, 101, 113], fcV 147), (mkS [80, 114, 113], fcV 148), (mkS [67, 111, 110], fcV 149)] rfl HM4.out _ _ rfl rfl N4.out ?_; intro w5 hm ht; have HM5 := hQQ hm; have HB5 := hQQ (HB4.out.trans (ht.below (B := w.heap.size) (fun k hk => by simp at hk; omega) HB4.out.size)); clear hm ht HM4 HB4 N4) | (refine aaQy _ rfl _ _ _ 124 rfl 9 127 Tryz.underlying124 Tryz.underlying9 w.heap.size [(mkS [80, 114, 118], fcV 146), (mkS [82, 101, 113], fcV 147), (mkS [80, 114, 113], fcV 148), (mkS [67, 111, 110], fcV 149), (mkS [79, 98, 115], fcV 150)] rfl HM5.out _ _ rfl rfl N5.out ?_; intro w6 hm ht; have HM6 := hQQ hm; have HB6 := hQQ (HB5.out.trans (ht.below (B := w.heap.size) (fun k hk => by simp at hk; omega) HB5.out.size)); clear hm ht HM5 HB5 N5) | (refine aaQy _ rfl _ _ _ 124 rfl 9 127 Tryz.underlying124 Tryz.underlying9 w.heap.size [(mkS [80, 114, 118], fcV 146), (mkS [82, 101, 113], fcV 147), (mkS [80, 114, 113], fcV 148), (mkS [67, 111, 110], fcV 149), (mkS [79, 98, 115], fcV 150), (mkS [82, 101, 99], fcV 151)] rfl HM6.out _ _ rfl rfl N6.out ?_; intro w7 hm ht; have HM7 := hQQ hm; have HB7 := hQQ (HB6.out.trans (ht.below (B := w.heap.size) (fun k hk => by simp at hk; omega) HB6.out.size)); clear hm ht HM6 HB6 N6))
 go_ret
 exact ⟨_, rfl, Nat.le_refl _, HM7.out, HB7.out⟩
theorem ajQu (g o : Nat) (w : World) : Calls Tryz.prog 146 #[.pointer (some ⟨g, o, none⟩)] w fun e w' => e = .returned (.pointer (some ⟨g, o + 4, none⟩)) ∧ w' = w := by
 go_enter Tryz.func146, Tryz.ntmps146
 go_wp2_with fail
 go_ret
 exact ⟨rfl, rfl⟩
theorem ajQt (g o : Nat) (w : World) : Calls Tryz.prog 147 #[.pointer (some ⟨g, o, none⟩)] w fun e w' => e = .returned (.pointer (some ⟨g, o + 5, none⟩)) ∧ w' = w := by
 go_enter Tryz.func147, Tryz.ntmps147
 go_wp2_with fail
 go_ret
 exact ⟨rfl, rfl⟩
theorem ajQs (g o : Nat) (w : World) : Calls Tryz.prog 148 #[.pointer (some ⟨g, o, none⟩)] w fun e w' => e = .returned (.pointer (some ⟨g, o + 6, none⟩)) ∧ w' = w := by
 go_enter Tryz.func148, Tryz.ntmps148
 go_wp2_with fail
 go_ret
 exact ⟨rfl, rfl⟩
theorem ajQr (g o : Nat) (w : World) : Calls Tryz.prog 149 #[.pointer (some ⟨g, o, none⟩)] w fun e w' => e = .returned (.pointer (some ⟨g, o + 7, none⟩)) ∧ w' = w := by
 go_enter Tryz.func149, Tryz.ntmps149
 go_wp2_with fail
 go_ret
 exact ⟨rfl, rfl⟩
theorem ajQq (g o : Nat) (w : World) : Calls Tryz.prog 150 #[.pointer (some ⟨g, o, none⟩)] w fun e w' => e = .returned (.pointer (some ⟨g, o + 8, none⟩)) ∧ w' = w := by
 go_enter Tryz.func150, Tryz.ntmps150
 go_wp2_with fail
 go_ret
 exact ⟨rfl, rfl⟩
theorem ajQp (g o : Nat) (w : World) : Calls Tryz.prog 151 #[.pointer (some ⟨g, o, none⟩)] w fun e w' => e = .returned (.pointer (some ⟨g, o + 9, none⟩)) ∧ w' = w := by
 go_enter Tryz.func151, Tryz.ntmps151
 go_wp2_with fail
 go_ret
 exact ⟨rfl, rfl⟩
theorem ajQo (g o : Nat) (w : World) : Calls Tryz.prog 152 #[.pointer (some ⟨g, o, none⟩)] w fun e w' => e = .returned (.pointer (some ⟨g, o + 10, none⟩)) ∧ w' = w := by
 go_enter Tryz.func152, Tryz.ntmps152
 go_wp2_with fail
 go_ret
 exact ⟨rfl, rfl⟩
def dlF : Nat → Nat
 | 0 => 146
 | 1 => 147
 | 2 => 148
 | 3 => 149
 | 4 => 150
 | 5 => 151
 | 6 => 152
 | _ => 0
theorem dl_call (i : Nat) (hi : i < 7) (g o : Nat) (w : World) : Calls Tryz.prog (dlF i) #[.pointer (some ⟨g, o, none⟩)] w fun e w' => e = .returned (.pointer (some ⟨g, o + (4 + i), none⟩)) ∧ w' = w := by
 match i, hi with
 | 0, _ => exact ajQu g o w
 | 1, _ => exact ajQt g o w
 | 2, _ => exact ajQs g o w
 | 3, _ => exact ajQr g o w
 | 4, _ => exact ajQq g o w
 | 5, _ => exact ajQp g o w
 | 6, _ => exact ajQo g o w
theorem zeroMn : ∀ w, (zeroValue 121).run Tryz.prog w = .ok .nilFunc w := fun w => by kernel_rfl
theorem zeroDl : ∀ w, (zeroValue 127).run Tryz.prog w = .ok .nilFunc w := fun w => by kernel_rfl
theorem dl_at : ∀ (i : Nat), i < 7 → ∃ t, tagsN[i]? = some t ∧ dlEs[i]? = some (mkS t, fcV (dlF i)) ∧ mgOf t = .dep i
 | 0, _ => ⟨[80, 114, 118], rfl, rfl, rfl⟩
 | 1, _ => ⟨[82, 101, 113], rfl, rfl, rfl⟩
 | 2, _ => ⟨[80, 114, 113], rfl, rfl, rfl⟩
 | 3, _ => ⟨[67, 111, 110], rfl, rfl, rfl⟩
 | 4, _ => ⟨[79, 98, 115], rfl, rfl, rfl⟩
 | 5, _ => ⟨[82, 101, 99], rfl, rfl, rfl⟩
 | 6, _ => ⟨[83, 117, 112], rfl, rfl, rfl⟩
 | n + 7, h => by omega
theorem ix_at : ∀ (l : List Bs) (t : Bs) (i j : Nat), ixIn l t i = some j → i ≤ j ∧ l[j - i]? = some t
 | [], _, _, _, h => by cases h
 | a :: r, t, i, j, h => by
   have h : (if t = a then some i else ixIn r t (i + 1)) = some j := h
   by_cases e : t = a
   ·rw [if_pos e] at h
    injection h with h
    subst h
    exact ⟨Nat.le_refl _, by rw [Nat.sub_self, e]; rfl⟩
   ·rw [if_neg e] at h
    obtain ⟨h1, h2⟩ := ix_at r t (i + 1) j h
    refine ⟨by omega, ?_⟩
    rw [show j - i = (j - (i + 1)) + 1 from by omega]
    exact h2
theorem mg_dep {t : Bs} {i : Nat} (h : mgOf t = .dep i) : i < 7 ∧ tagsN[i]? = some t := by
 unfold mgOf at h
 by_cases h1 : t = vndN
 ·rw [if_pos h1] at h; cases h
 rw [if_neg h1] at h
 by_cases h2 : t = flsN
 ·rw [if_pos h2] at h; cases h
 rw [if_neg h2] at h
 cases hx : ixIn tagsN t 0 with
 | none => rw [hx] at h; cases h
 | some j =>
   rw [hx] at h
   injection h with h
   subst h
   obtain ⟨_, h3⟩ := ix_at tagsN t 0 j hx
   rw [Nat.sub_zero] at h3
   have := (List.getElem?_eq_some_iff.1 h3).1
   exact ⟨by simpa [tagsN] using this, h3⟩
theorem anQq (k k' : ByteArray) (v : Value) : ∀ l : List (ByteArray × Value), lookO k (putO k' v l) = if k = k' then some v else lookO k l
 | [] => by
   show (if k = k' then some v else none) = _
   rfl
 | (a, u) :: r => by
   show lookO k (if k' = a then (a, v) :: r else (a, u) :: putO k' v r) = if k = k' then some v else if k = a then some u else lookO k r
   by_cases h : k' = a
   ·rw [if_pos h]
    show (if k = a then some v else lookO k r) = if k = k' then some v else if k = a then some u else lookO k r
    rw [← h]
    by_cases h2 : k = k'
    ·rw [if_pos h2, if_pos h2]
    ·rw [if_neg h2, if_neg h2, if_neg h2]
   ·rw [if_neg h]
    show (if k = a then some u else lookO k (putO k' v r)) = if k = k' then some v else if k = a then some u else lookO k r
    rw [anQq k k' v r]
    by_cases h2 : k = a
    ·rw [if_pos h2, if_pos h2, if_neg (fun e => h (e.symm.trans h2))]
    ·rw [if_neg h2, if_neg h2]
theorem es_at : ∀ (l : List (ByteArray × Value)) (i : Nat) (e : MapEntry), e ∈ mapEs l i → ∃ j k v, l[j]? = some (k, v) ∧ e = ⟨.string k, v, i + j⟩
 | [], _, _, h => by cases h
 | (a, v) :: r, i, e, h => by
   rcases List.mem_cons.1 h with rfl | h
   ·exact ⟨0, a, v, rfl, rfl⟩
   ·obtain ⟨j, k, u, h1, rfl⟩ := es_at r (i + 1) e h
    exact ⟨j + 1, k, u, h1, by rw [show i + 1 + j = i + (j + 1) from by omega]⟩
theorem arQh : ∀ (l : List (ByteArray × Value)) (i j : Nat) (k : ByteArray) (v : Value), l[j]? = some (k, v) → (⟨.string k, v, i + j⟩ : MapEntry) ∈ mapEs l i
 | [], _, _, _, _, h => by simp at h
 | (a, u) :: r, i, 0, k, v, h => by
   simp at h
   obtain ⟨rfl, rfl⟩ := h
   exact List.mem_cons_self
 | (a, u) :: r, i, j + 1, k, v, h => by
   have := arQh r (i + 1) j k v h
   rw [show i + 1 + j = i + (j + 1) from by omega] at this
   exact List.mem_cons_of_mem _ this
theorem arQi : ∀ (l : List (ByteArray × Value)) (i : Nat), (mapEs l i).map (·.born) = List.range' i l.length
 | [], _ => rfl
 | (a, v) :: r, i => by
   show i :: (mapEs r (i + 1)).map (·.born) = _
   rw [arQi r (i + 1)]
   rfl
def aiQp (w : World) (r bm : Nat) (l : List (ByteArray × Value)) (seen : Array Nat) : Prop := ∃ c0, l.length ≤ c0 ∧ w.heap[r]? = some (.mapIter (some bm) l.length seen c0)
def leftN (n : Nat) (seen : Array Nat) : Nat := ((List.range n).filter fun i => !seen.contains i).length
theorem alQd {α : Type} {p q : α → Bool} (h : ∀ x, q x = true → p x = true) : ∀ l : List α, (l.filter q).length ≤ (l.filter p).length
 | [] => Nat.le_refl _
 | x :: r => by
   have := alQd h r
   rw [List.filter_cons, List.filter_cons]
   cases hq : q x with
   | true => rw [if_pos rfl, if_pos (h x hq)]; simp; omega
   | false =>
     rw [if_neg (by simp)]
     split
     ·simp; omega
     ·exact this
theorem alQc {α : Type} {p q : α → Bool} (h : ∀ x, q x = true → p x = true) {a : α} (hp : p a = true) (hq : q a = false) : ∀ l : List α, a ∈ l → (l.filter q).length < (l.filter p).length
 | [], h => by cases h
 | x :: r, hm => by
   rw [List.filter_cons, List.filter_cons]
   rcases List.mem_cons.1 hm with rfl | hm
   ·rw [hq, hp, if_neg (by simp), if_pos rfl]
    have := alQd h r
    simp; omega
   ·have := alQc h hp hq r hm
    cases hqx : q x with
    | true => rw [if_pos rfl, if_pos (h x hqx)]; simp; omega
    | false =>
      rw [if_neg (by simp)]
      split
      ·simp; omega
      ·exact this
theorem apQh {n i : Nat} {seen : Array Nat} (hi : i < n) (h : seen.contains i = false) : leftN n (seen.push i) < leftN n seen := by
 unfold leftN
 refine alQc (a := i) (fun x hx => ?_) (by rw [h]; rfl) (by simp) _ (List.mem_range.2 hi)
 simp at hx ⊢
 exact hx.1
theorem afQl {P : Program} (w : World) {ops : Array Oper} {rest : List Oper} {o : Oper} {a : Act} {Q : Exit → Act → World → Prop}
 (hg : o.guard = none) (m : Operand) (t : TypeId) (hop : o.op = Op.range t m) (kt et : TypeId) (ht : P.underlying t = some (.map kt et)) (b : Nat) (l : List (ByteArray × Value)) (hm : a.eval m = .map (some b)) (hb : w.heap[b]? = some (mapO l))
 (hK : ∀ w', aiQp w' w.heap.size b l #[] → w' = w.alloc (.mapIter (some b) l.length #[] l.length) → wpList P ops Q rest (a.put o.dst (.pointer (some ⟨w.heap.size, 0, none⟩))) w') :
 wpList P ops Q (o :: rest) a w := by
 refine wpList_plain hg fun K' hK' => ?_
 have hrun := run_range_map (P := P) w t kt et b _ _ ht hb
 unfold Oper.wp
 simp [execOp, hop, hm, hrun, Result.andThen]
 exact hK' _ _ (hK _ ⟨l.length, Nat.le_refl _, (heap_alloc w _).1⟩ rfl)
theorem agQe {P : Program} (w : World) {ops : Array Oper} {rest : List Oper} {o : Oper} {a : Act} {Q : Exit → Act → World → Prop}
 (hg : o.guard = none) (it : Operand) (hop : o.op = Op.next it false) (r b : Nat) (l : List (ByteArray × Value)) (seen : Array Nat) (hit : a.eval it = .pointer (some ⟨r, 0, none⟩)) (hr : aiQp w r b l seen) (hb : w.heap[b]? = some (mapO l))
 (hDone : (∀ i, i < l.length → seen.contains i = true) → wpList P ops Q rest (a.put o.dst (.tuple #[.bool false])) w)
 (hMore : ∀ (i : Nat) (k : ByteArray) (v : Value) (w' : World), l[i]? = some (k, v) → seen.contains i = false → aiQp w' r b l (seen.push i) → Turned [r] w w' → w'.heap.size = w.heap.size → (Instr.entry (.pointer (some ⟨r, 0, none⟩))).run P w' = .ok (.tuple #[.string k, v]) w' →
  wpList P ops Q rest (a.put o.dst (.tuple #[.bool true, .string k, v])) w') :
 wpList P ops Q (o :: rest) a w := by
 refine wpList_plain hg fun K' hK' => ?_
 obtain ⟨c0, hc, hr⟩ := hr
 have hold : ∀ x ∈ (mapEs l 0).toArray.toList, x.born < l.length := fun x hx => by
  obtain ⟨j, k, v, h1, rfl⟩ := es_at l 0 x (by simpa using hx)
  have := (List.getElem?_eq_some_iff.1 h1).1
  show 0 + j < _
  omega
 unfold Oper.wp
 rcases run_next_at (P := P) w o.type r b l.length c0 seen (mapEs l 0).toArray l.length hr hb hold hc with ⟨h0, hrun⟩ | ⟨e, he, w1, hw1, hrun⟩
 ·simp [execOp, hop, hit, hrun, Result.andThen]
  refine hK' _ _ (hDone fun i hi => ?_)
  cases hs : seen.contains i with
  | true => rfl
  | false =>
    have hl : l[i]? = some (l[i].1, l[i].2) := List.getElem?_eq_getElem hi
    have hm := arQh l 0 i _ _ hl
    have h1 : (⟨.string l[i].1, l[i].2, 0 + i⟩ : MapEntry) ∈ leftOf (mapEs l 0).toArray seen := by
     unfold leftOf
     rw [Array.mem_filter]
     exact ⟨by simpa using hm, by show (!seen.contains (0 + i)) = true; rw [Nat.zero_add, hs]; rfl⟩
    have := Array.size_pos_of_mem h1
    omega
 ·unfold leftOf at he
  simp only [Array.toList_filter, List.mem_filter] at he
  obtain ⟨he1, he2⟩ := he
  obtain ⟨j, k, v, h1, rfl⟩ := es_at l 0 e he1
  have hj := (List.getElem?_eq_some_iff.1 h1).1
  have hsj : seen.contains j = false := by
   have : (!seen.contains (0 + j)) = true := he2
   rw [Nat.zero_add] at this
   simpa using this
  have hr1 : w1.heap[r]? = some (.mapIter (some b) l.length seen c0) := by rcases hw1 with rfl | rfl <;> exact hr
  have hb1 : w1.heap[b]? = some (mapO l) := by rcases hw1 with rfl | rfl <;> exact hb
  have hne : b ≠ r := fun e => by rw [e, hr1] at hb1; cases hb1
  have hlt : r < w1.heap.size := (Array.getElem?_eq_some_iff.1 hr1).1
  have ht1 : Turned [r] w1 (setBlock w1 r (.mapIter (some b) l.length (seen.push j) l.length)) := ⟨rfl, rfl, rfl, by simp [setBlock], fun k hk hm => by simp [setBlock]; rw [Array.getElem?_setIfInBounds_ne (fun e => hm (by simp [e]))]⟩
  have ht0 : Turned [r] w w1 := by
   rcases hw1 with rfl | rfl
   ·exact Turned.refl _ _
   ·exact Turned.of_below ((Below.refl _ _).drew) _
  have hr2 : (setBlock w1 r (.mapIter (some b) l.length (seen.push j) l.length)).heap[r]? = some (.mapIter (some b) l.length (seen.push j) l.length) := by
   simp [setBlock, hlt]
  have hb2 : (setBlock w1 r (.mapIter (some b) l.length (seen.push j) l.length)).heap[b]? = some (mapO l) := by
   rw [ht1.block b (Array.getElem?_eq_some_iff.1 hb1).1 (by simpa using hne)]
   exact hb1
  rw [Nat.zero_add] at hrun
  simp [execOp, hop, hit, hrun, Result.andThen]
  refine hK' _ _ (hMore j k v _ h1 hsj ⟨l.length, Nat.le_refl _, hr2⟩ (ht0.trans ht1 (Fresh.refl _ _)) ?_ ?_)
  ·show (w1.heap.setIfInBounds r _).size = _
   rw [Array.size_setIfInBounds]
   rcases hw1 with rfl | rfl <;> rfl
  ·refine run_entry_at _ r b l.length seen (mapEs l 0).toArray l.length ⟨.string k, v, j⟩ hr2 hb2 ?_ ?_
   ·have := arQh l 0 j k v h1
    rw [Nat.zero_add] at this
    simpa using this
   ·show ((mapEs l 0).toArray.toList.map (·.born)).Nodup
    rw [List.toList_toArray, arQi]
    exact List.nodup_range'
def cloV (b : Nat) : Value := .func (.func 136) #[] #[.pointer (some ⟨b, 0, none⟩)]
def MgV (w : World) (B : Nat) : Mg → Value → Prop
 | .none, v => v = .nilFunc
 | .vnd, v => v = fcV 134
 | .fls, v => v = fcV 135
 | .dep i, v => i < 7 ∧ ∃ b, B ≤ b ∧ v = cloV b ∧ Blk w b 127 #[fcV (dlF i)]
def MeanM (w : World) (B m : Nat) : Prop := ∃ l, w.heap[m]? = some (mapO l) ∧ ∀ t : Bs, MgV w B (mgOf t) ((lookO (mkS t) l).getD .nilFunc)
theorem MgV.turned {w w' : World} {B : Nat} {F : List Nat} {g : Mg} {v : Value} (h : MgV w B g v) (ht : Turned F w w') (hF : ∀ b cs, Blk w b 127 cs → b ∉ F) : MgV w' B g v := by
 cases g with
 | none => exact h
 | vnd => exact h
 | fls => exact h
 | dep i =>
   obtain ⟨h0, b, h1, h2, h3⟩ := h
   exact ⟨h0, b, h1, h2, h3.turned ht (hF b _ h3)⟩
theorem MeanM.turned {w w' : World} {B m : Nat} {F : List Nat} (h : MeanM w B m) (ht : Turned F w w') (hF : ∀ b cs, Blk w b 127 cs → b ∉ F) (hm : m ∉ F) : MeanM w' B m := by
 obtain ⟨l, h1, h2⟩ := h
 exact ⟨l, abQ2 h1 ht hm, fun t => (h2 t).turned ht hF⟩
theorem MeanM.below {w w' : World} {B m : Nat} (h : MeanM w B m) (hb : Below w.heap.size w w') : MeanM w' B m := h.turned (Turned.of_below hb []) (fun _ _ _ h => by cases h) (fun h => by cases h)
def PartM (w : World) (B : Nat) (seen : Array Nat) (l : List (ByteArray × Value)) : Prop := ∀ t : Bs, (∀ i, mgOf t = .dep i → seen.contains i = true) → MgV w B (mgOf t) ((lookO (mkS t) l).getD .nilFunc)
theorem PartM.turned {w w' : World} {B : Nat} {F : List Nat} {seen : Array Nat} {l : List (ByteArray × Value)} (h : PartM w B seen l) (ht : Turned F w w') (hF : ∀ b cs, Blk w b 127 cs → b ∉ F) : PartM w' B seen l := fun t hs => (h t hs).turned ht hF
theorem aiQ9 {a b : Bs} (h : mkS a = mkS b) : a = b := by
 have := congrArg (fun s : ByteArray => s.data.toList) h
 simpa [aaQn] using this
def mnEs : List (ByteArray × Value) := [(mkS vndN, fcV 134), (mkS flsN, fcV 135)]
theorem part_nil (w : World) (B : Nat) : PartM w B #[] mnEs := by
 intro t hs
 unfold mgOf at hs ⊢
 by_cases h1 : t = vndN
 ·rw [if_pos h1, h1]
  rfl
 rw [if_neg h1] at hs ⊢
 have n1 : ¬ mkS t = mkS vndN := fun e => h1 (aiQ9 e)
 by_cases h2 : t = flsN
 ·rw [if_pos h2, h2]
  rfl
 rw [if_neg h2] at hs ⊢
 have n2 : ¬ mkS t = mkS flsN := fun e => h2 (aiQ9 e)
 cases hx : ixIn tagsN t 0 with
 | none =>
   show ((if mkS t = mkS vndN then _ else if mkS t = mkS flsN then _ else (none : Option Value)).getD .nilFunc) = _
   rw [if_neg n1, if_neg n2]
   rfl
 | some i =>
   have := hs i (by rw [hx])
   simp at this
theorem aqQv {w' : World} {B b i : Nat} {seen : Array Nat} {l : List (ByteArray × Value)} {t0 : Bs} (h : PartM w' B seen l) (hi : i < 7) (ht0 : tagsN[i]? = some t0) (hB : B ≤ b) (hb : Blk w' b 127 #[fcV (dlF i)]) : PartM w' B (seen.push i) (putO (mkS t0) (cloV b) l) := by
 intro t hs
 rw [anQq]
 by_cases e : mkS t = mkS t0
 ·rw [if_pos e]
  have e2 := aiQ9 e
  obtain ⟨t1, h1, _, h2⟩ := dl_at i hi
  rw [ht0] at h1
  injection h1 with h1
  rw [e2, h1, h2]
  exact ⟨hi, b, hB, rfl, hb⟩
 ·rw [if_neg e]
  refine h t fun j hj => ?_
  have := hs j hj
  rw [Array.contains_push] at this
  rcases Bool.or_eq_true_iff.1 this with h1 | h1
  ·exact h1
  ·exfalso
   have h1 : j = i := by simpa using h1
   obtain ⟨_, h2⟩ := mg_dep hj
   rw [h1, ht0] at h2
   injection h2 with h2
   exact e (by rw [h2])
theorem part_end {w : World} {B : Nat} {seen : Array Nat} {l : List (ByteArray × Value)} (h : PartM w B seen l) (hs : ∀ i, i < 7 → seen.contains i = true) : ∀ t : Bs, MgV w B (mgOf t) ((lookO (mkS t) l).getD .nilFunc) := fun t => h t fun i hi => hs i (mg_dep hi).1
set_option maxHeartbeats 8000000 in
set_option maxRecDepth 1000000 in
theorem akQ1 (w : World) : Calls Tryz.prog 70 #[] w fun e w' => ∃ m, e = .returned (.map (some m)) ∧ w.heap.size ≤ m ∧ MeanM w' w.heap.size m ∧ Below w.heap.size w w' := by
 have hmm := @run_makeMap Tryz.prog
 have hdl : ∀ w, (zeroValue 127).run Tryz.prog w = .ok .nilFunc w := zeroDl
 have HM0 := hQQ (aqQ6 w)
 have HB0 : Hid (Below w.heap.size w (w.alloc (.map #[] 0))) := (Below.refl _ _).alloc (Nat.le_refl _) _
 have N0 : Hid (lookO (mkS vndN) ([] : List (ByteArray × Value)) = none) := (by kernel_rfl : _ = _)
 have N1 : Hid (lookO (mkS flsN) ([(mkS vndN, fcV 134)] : List (ByteArray × Value)) = none) := (by kernel_rfl : _ = _)
 have CD := hQQ alQh
 go_enter Tryz.func70, Tryz.ntmps70
 go_wp2_with (first | (refine aaQy _ rfl _ _ _ 112 rfl 9 121 Tryz.underlying112 Tryz.underlying9 w.heap.size [] rfl HM0.out _ _ rfl rfl N0.out ?_; intro w1 hm ht; have HM1 := hQQ hm; have HB1 := hQQ (HB0.out.trans (ht.below (B := w.heap.size) (fun k hk => by simp at hk; omega) HB0.out.size)); clear hm ht HM0 HB0 N0) | (refine aaQy _ rfl _ _ _ 112 rfl 9 121 Tryz.underlying112 Tryz.underlying9 w.heap.size [(mkS vndN, fcV 134)] rfl HM1.out _ _ rfl rfl N1.out ?_; intro w2 hm ht; have HM2 := hQQ hm; have HB2 := hQQ (HB1.out.trans (ht.below (B := w.heap.size) (fun k hk => by simp at hk; omega) HB1.out.size)); clear hm ht HM1 HB1 N1))
 refine (CD.out _).mono ?_
 rintro e w3 ⟨dm, rfl, hdm, hdl3, hb3⟩
 have HL3 := hQQ hdl3
 have HM3 := hQQ (ahQg HM2.out hb3)
 have HB3 := hQQ (HB2.out.trans (hb3.mono HB2.out.size))
 have hne : dm ≠ w.heap.size := fun e => by
  have h1 := (Array.getElem?_eq_some_iff.1 HM2.out).1
  omega
 clear hdl3 hb3 HM2 HB2 CD
 go_wp2_with (at_range; refine afQl _ rfl _ 124 rfl 9 127 Tryz.underlying124 dm dlEs rfl HL3.out ?_; intro w4 hit hw4; have HI4 := hQQ hit; have HB34 : Hid (Below w3.heap.size w3 w4) := (by rw [hw4]; exact (Below.refl _ _).alloc (Nat.le_refl _) _); clear hit hw4)
 go_frame
 have HB4 : Hid (Below w.heap.size w w4) := HB3.out.trans (HB34.out.mono HB3.out.size)
 have HD4 := hQQ (ahQg HL3.out HB34.out)
 have HM4 := hQQ (ahQg HM3.out HB34.out)
 have HP4 : Hid (PartM w4 w.heap.size #[] mnEs) := part_nil _ _
 have hrne : w3.heap.size ≠ w.heap.size ∧ w3.heap.size ≠ dm := ⟨fun e => by have := (Array.getElem?_eq_some_iff.1 HM3.out).1; omega, fun e => by have := (Array.getElem?_eq_some_iff.1 HL3.out).1; omega⟩
 have hrge : w.heap.size ≤ w3.heap.size := HB3.out.size
 have hzl := zeroDl
 clear HB34 HL3 HM3 HB3 hmm
 generalize w3.heap.size = r at *
 go_loopg [8] (leftN 7 #[] + 1) (fun gk v8 wx => ∃ (seen : Array Nat) (l : List (ByteArray × Value)), leftN 7 seen < gk ∧ Hid (aiQp wx r dm dlEs seen) ∧ Hid (wx.heap[dm]? = some (mapO dlEs)) ∧ Hid (wx.heap[w.heap.size]? = some (mapO l)) ∧ Hid (PartM wx w.heap.size seen l) ∧ Hid (Below w.heap.size w wx))
 case atStart => exact ⟨#[], mnEs, Nat.lt_succ_self _, HI4, HD4, HM4, HP4, HB4⟩
 case round =>
  obtain ⟨seen, l, hlt, HI, HD, HM, HP, HB⟩ := hrel
  clear HI4 HD4 HM4 HP4 HB4
  go_wp2_with (at_next; refine agQe _ rfl _ rfl r dm dlEs seen rfl HI.out HD.out ?_ ?_)
  ·intro hdone
   have HE := hQQ (part_end HP.out (fun i hi => by have := hdone i hi; simpa using this))
   clear hdone HI HD HP
   go_wp2_with fail
   go_ret
   exact ⟨w.heap.size, rfl, Nat.le_refl _, ⟨l, HM.out, HE.out⟩, HB.out⟩
  ·intro i k v w5 hik hsn hit5 ht5 hsz5 hen
   have hi7 : i < 7 := (List.getElem?_eq_some_iff.1 hik).1
   obtain ⟨t0, ht0, hd0, hm0⟩ := dl_at i hi7
   have hkv : k = mkS t0 ∧ v = fcV (dlF i) := by
    rw [hik] at hd0
    injection hd0 with hd0
    injection hd0 with h1 h2
    exact ⟨h1, h2⟩
   obtain ⟨rfl, rfl⟩ := hkv
   have HI5 := hQQ hit5
   have HD5 := hQQ (abQ2 HD.out ht5 (fun h => hrne.2 (List.mem_singleton.1 h).symm))
   have HM5 := hQQ (abQ2 HM.out ht5 (fun h => hrne.1 (List.mem_singleton.1 h).symm))
   have HP5 : Hid (PartM w5 w.heap.size seen l) := HP.out.turned ht5 (fun b cs hb hm => by
    rw [List.mem_singleton.1 hm] at hb
    obtain ⟨c0, _, hr⟩ := HI.out
    have h1 := hr.symm.trans hb
    cases h1)
   have HB5 := hQQ (HB.out.trans (ht5.below (B := w.heap.size) (fun k hk => by rw [List.mem_singleton.1 hk]; exact hrge) HB.out.size))
   have HL5 := hQQ (apQh (seen := seen) hi7 (by simpa using hsn))
   have HT0 := hQQ ht0
   clear hit5 ht5 hik hsn hd0 ht0 hm0 HI HD HM HP HB hsz5
   unfold fcV at hen
   have HN := hQQ (Blk.new w5 127 #[.nilFunc])
   have c0 : (w5.alloc (.cells #[.nilFunc] 127)).cell? ⟨w5.heap.size, 0, none⟩ = some .nilFunc := HN.out.cell 0
   have f0 := HN.out.free 0
   have hst : ∀ m, (store ⟨w5.heap.size, 0, none⟩ (.func (.func (dlF i)) #[] #[]) m).run Tryz.prog (w5.alloc (.cells #[.nilFunc] 127)) = .ok () ((w5.alloc (.cells #[.nilFunc] 127)).setCell ⟨w5.heap.size, 0, none⟩ (.func (.func (dlF i)) #[] #[])) := fun m => (run_store _ _ _ _ m rfl).trans (by simp [stored, f0, c0])
   have HTA : Hid (Turned [w5.heap.size] w5 (w5.alloc (.cells #[.func (.func (dlF i)) #[] #[]] 127))) := Turned.of_below ((Below.refl _ _).alloc (Nat.le_refl _) _) _
   have HNA : Hid (Blk (w5.alloc (.cells #[.func (.func (dlF i)) #[] #[]] 127)) w5.heap.size 127 #[fcV (dlF i)]) := Blk.new _ _ _
   have hlt5 := (Array.getElem?_eq_some_iff.1 HM5.out).1
   have HMA : Hid ((w5.alloc (.cells #[.func (.func (dlF i)) #[] #[]] 127)).heap[w.heap.size]? = some (mapO l)) := abQ2 HM5.out HTA.out (fun h => by have := List.mem_singleton.1 h; omega)
   have HDA := hQQ (abQ2 HD5.out HTA.out (fun h => by have := List.mem_singleton.1 h; have := (Array.getElem?_eq_some_iff.1 HD5.out).1; omega))
   have HIA : Hid (aiQp (w5.alloc (.cells #[.func (.func (dlF i)) #[] #[]] 127)) r dm dlEs (seen.push i)) := by
    obtain ⟨c0, hc, hr⟩ := HI5.out
    have hl := (Array.getElem?_eq_some_iff.1 hr).1
    exact ⟨c0, hc, by rw [HTA.out.block r hl (by simp; omega)]; exact hr⟩
   have HPA := hQQ (HP5.out.turned HTA.out (fun b cs hb hm => by have := List.mem_singleton.1 hm; have := hb.lt; omega))
   have HBA := hQQ (HB5.out.trans (HTA.out.below (B := w.heap.size) (fun k hk => by rw [List.mem_singleton.1 hk]; exact HB5.out.size) HB5.out.size))
   have hge5 := HB5.out.size
   clear HTA HM5 HD5 HI5 HP5 HB5 HN
   go_wp2_with (first | (at_mapUpdate; refine ahQy _ rfl _ _ _ 112 rfl 9 121 Tryz.underlying112 Tryz.underlying9 w.heap.size l rfl (HMA.out) (mkS t0) (cloV w5.heap.size) rfl rfl ?_; intro w7 hm7 ht7; have hne7 : ∀ b cs, Blk (w5.alloc (.cells #[.func (.func (dlF i)) #[] #[]] 127)) b 127 cs → b ∉ [w.heap.size] := (fun b cs hb hm => acQz HMA.out hb (List.mem_singleton.1 hm).symm); have HM7 := hQQ hm7; have HN7 := hQQ (HNA.out.turned ht7 (hne7 _ _ HNA.out)); have HD7 := hQQ (abQ2 HDA.out ht7 (by simp; exact hne)); have HI7 : Hid (aiQp w7 r dm dlEs (seen.push i)) := (by obtain ⟨c0, hc, hr⟩ := HIA.out; exact ⟨c0, hc, by rw [ht7.block r (Array.getElem?_eq_some_iff.1 hr).1 (by simp; exact hrne.1)]; exact hr⟩); have HP7 := hQQ (HPA.out.turned ht7 hne7); have HB7 := hQQ (HBA.out.trans (ht7.below (B := w.heap.size) (fun k hk => Nat.le_of_eq (List.mem_singleton.1 hk).symm) HBA.out.size)); clear hm7 ht7 HMA HNA HDA HIA HPA HBA hne7 c0 f0 hen))
   go_frame
   have hlt7 := HL5.out
   go_roundg (gk - 1)
   case measure => omega
   case rel => exact ⟨seen.push i, putO (mkS t0) (cloV w5.heap.size) l, by omega, HI7, HD7, HM7, aqQv HP7.out hi7 HT0.out hge5 HN7.out, HB7⟩
end Go.Proofs.YtdhgiammfpjniaaGreatDoor
