/- Where a package has what a field tells: the two maps of functions. A field's text. -/
import Derived.Test.YtdhgiammfpjniaaGreatDoorZaas
import Derived.Test.YtdhgiammfpjniaaGreatDoorZaau
/- Where a package has what a field tells: the two maps of functions. A field's text. -/
namespace Go.Proofs.YtdhgiammfpjniaaGreatDoor
set_option linter.unusedSimpArgs false
set_option linter.unusedVariables false
open Go.RowKit

def fcV (f : Nat) : Value := .func (.func f) #[] #[]
def fldL : List Bs := [[80, 97, 99, 107, 97, 103, 101], [86, 101, 114, 115, 105, 111, 110], [65, 114, 99, 104, 105, 116, 101, 99, 116, 117, 114, 101], [79, 114, 105, 103, 105, 110], [80, 114, 111, 118, 105, 100, 101, 115], [68, 101, 112, 101, 110, 100, 115], [80, 114, 101, 45, 68, 101, 112, 101, 110, 100, 115], [67, 111, 110, 102, 108, 105, 99, 116, 115], [66, 114, 101, 97, 107, 115], [82, 101, 112, 108, 97, 99, 101, 115], [82, 101, 99, 111, 109, 109, 101, 110, 100, 115], [69, 110, 104, 97, 110, 99, 101, 115]]
def fldCs : Array Value := #[.string (mkS [80, 97, 99, 107, 97, 103, 101]), .string (mkS [86, 101, 114, 115, 105, 111, 110]), .string (mkS [65, 114, 99, 104, 105, 116, 101, 99, 116, 117, 114, 101]), .string (mkS [79, 114, 105, 103, 105, 110]), .string (mkS [80, 114, 111, 118, 105, 100, 101, 115]), .string (mkS [68, 101, 112, 101, 110, 100, 115]), .string (mkS [80, 114, 101, 45, 68, 101, 112, 101, 110, 100, 115]), .string (mkS [67, 111, 110, 102, 108, 105, 99, 116, 115]), .string (mkS [66, 114, 101, 97, 107, 115]), .string (mkS [82, 101, 112, 108, 97, 99, 101, 115]), .string (mkS [82, 101, 99, 111, 109, 109, 101, 110, 100, 115]), .string (mkS [69, 110, 104, 97, 110, 99, 101, 115])]
def FldAt (w : World) : Prop := ∃ t, Blk w 0 t fldCs
theorem FldAt.turned {w w' : World} {F : List Nat} (h : FldAt w) (ht : Turned F w w') (hF : 0 ∉ F) : FldAt w' := by
  obtain ⟨t, h⟩ := h
  exact ⟨t, h.turned ht hF⟩
def txtEs : List (ByteArray × Value) := [(mkS [80, 97, 99, 107, 97, 103, 101], fcV 95), (mkS [86, 101, 114, 115, 105, 111, 110], fcV 96), (mkS [65, 114, 99, 104, 105, 116, 101, 99, 116, 117, 114, 101], fcV 97), (mkS [79, 114, 105, 103, 105, 110], fcV 98)]
def relEs : List (ByteArray × Value) := [(mkS [80, 114, 111, 118, 105, 100, 101, 115], fcV 100), (mkS [68, 101, 112, 101, 110, 100, 115], fcV 101), (mkS [80, 114, 101, 45, 68, 101, 112, 101, 110, 100, 115], fcV 102), (mkS [67, 111, 110, 102, 108, 105, 99, 116, 115], fcV 99), (mkS [66, 114, 101, 97, 107, 115], fcV 99), (mkS [82, 101, 112, 108, 97, 99, 101, 115], fcV 103), (mkS [82, 101, 99, 111, 109, 109, 101, 110, 100, 115], fcV 104), (mkS [69, 110, 104, 97, 110, 99, 101, 115], fcV 105)]
theorem zeroTf : ∀ w, (zeroValue 90).run Tryz.prog w = .ok .nilFunc w := fun w => by kernel_rfl
theorem zeroRf : ∀ w, (zeroValue 87).run Tryz.prog w = .ok .nilFunc w := fun w => by kernel_rfl
theorem txt0 : lookO (mkS [80, 97, 99, 107, 97, 103, 101]) txtEs = some (fcV 95) := by kernel_rfl
theorem rel0 : lookO (mkS [80, 97, 99, 107, 97, 103, 101]) relEs = none := by kernel_rfl
theorem txt1 : lookO (mkS [86, 101, 114, 115, 105, 111, 110]) txtEs = some (fcV 96) := by kernel_rfl
theorem rel1 : lookO (mkS [86, 101, 114, 115, 105, 111, 110]) relEs = none := by kernel_rfl
theorem txt2 : lookO (mkS [65, 114, 99, 104, 105, 116, 101, 99, 116, 117, 114, 101]) txtEs = some (fcV 97) := by kernel_rfl
theorem rel2 : lookO (mkS [65, 114, 99, 104, 105, 116, 101, 99, 116, 117, 114, 101]) relEs = none := by kernel_rfl
theorem txt3 : lookO (mkS [79, 114, 105, 103, 105, 110]) txtEs = some (fcV 98) := by kernel_rfl
theorem rel3 : lookO (mkS [79, 114, 105, 103, 105, 110]) relEs = none := by kernel_rfl
theorem rel4 : lookO (mkS [80, 114, 111, 118, 105, 100, 101, 115]) relEs = some (fcV 100) := by kernel_rfl
theorem rel5 : lookO (mkS [68, 101, 112, 101, 110, 100, 115]) relEs = some (fcV 101) := by kernel_rfl
theorem rel6 : lookO (mkS [80, 114, 101, 45, 68, 101, 112, 101, 110, 100, 115]) relEs = some (fcV 102) := by kernel_rfl
theorem rel7 : lookO (mkS [67, 111, 110, 102, 108, 105, 99, 116, 115]) relEs = some (fcV 99) := by kernel_rfl
theorem rel8 : lookO (mkS [66, 114, 101, 97, 107, 115]) relEs = some (fcV 99) := by kernel_rfl
theorem rel9 : lookO (mkS [82, 101, 112, 108, 97, 99, 101, 115]) relEs = some (fcV 103) := by kernel_rfl
theorem rel10 : lookO (mkS [82, 101, 99, 111, 109, 109, 101, 110, 100, 115]) relEs = some (fcV 104) := by kernel_rfl
theorem rel11 : lookO (mkS [69, 110, 104, 97, 110, 99, 101, 115]) relEs = some (fcV 105) := by kernel_rfl
set_option maxHeartbeats 4000000 in
set_option maxRecDepth 100000 in
theorem textFields_any (w : World) : Calls Tryz.prog 45 #[] w fun e w' => ∃ m, e = .returned (.map (some m)) ∧ w'.heap[m]? = some (mapO txtEs) ∧ Below w.heap.size w w' := by
  have hmm := @run_makeMap Tryz.prog
  have HM0 := Lib.hid (map_new w)
  have HB0 : Hid (Below w.heap.size w (w.alloc (.map #[] 0))) := (Below.refl _ _).alloc (Nat.le_refl _) _
  have N0 : Hid (lookO (mkS [80, 97, 99, 107, 97, 103, 101]) ([] : List (ByteArray × Value)) = none) := (by kernel_rfl : _ = _)
  have N1 : Hid (lookO (mkS [86, 101, 114, 115, 105, 111, 110]) ([(mkS [80, 97, 99, 107, 97, 103, 101], fcV 95)] : List (ByteArray × Value)) = none) := (by kernel_rfl : _ = _)
  have N2 : Hid (lookO (mkS [65, 114, 99, 104, 105, 116, 101, 99, 116, 117, 114, 101]) ([(mkS [80, 97, 99, 107, 97, 103, 101], fcV 95), (mkS [86, 101, 114, 115, 105, 111, 110], fcV 96)] : List (ByteArray × Value)) = none) := (by kernel_rfl : _ = _)
  have N3 : Hid (lookO (mkS [79, 114, 105, 103, 105, 110]) ([(mkS [80, 97, 99, 107, 97, 103, 101], fcV 95), (mkS [86, 101, 114, 115, 105, 111, 110], fcV 96), (mkS [65, 114, 99, 104, 105, 116, 101, 99, 116, 117, 114, 101], fcV 97)] : List (ByteArray × Value)) = none) := (by kernel_rfl : _ = _)
  go_enter Tryz.func45, Tryz.ntmps45
  go_wp2_with (first | (refine wpList_insert_map _ rfl _ _ _ 80 rfl 9 90 Tryz.underlying80 Tryz.underlying9 w.heap.size [] rfl HM0.out _ _ rfl rfl N0.out ?_; intro w1 hm ht; have HM1 := Lib.hid hm; have HB1 := Lib.hid (HB0.out.trans (ht.below (B := w.heap.size) (fun k hk => by simp at hk; omega) HB0.out.size)); clear hm ht HM0 HB0 N0) | (refine wpList_insert_map _ rfl _ _ _ 80 rfl 9 90 Tryz.underlying80 Tryz.underlying9 w.heap.size [(mkS [80, 97, 99, 107, 97, 103, 101], fcV 95)] rfl HM1.out _ _ rfl rfl N1.out ?_; intro w2 hm ht; have HM2 := Lib.hid hm; have HB2 := Lib.hid (HB1.out.trans (ht.below (B := w.heap.size) (fun k hk => by simp at hk; omega) HB1.out.size)); clear hm ht HM1 HB1 N1) | (refine wpList_insert_map _ rfl _ _ _ 80 rfl 9 90 Tryz.underlying80 Tryz.underlying9 w.heap.size [(mkS [80, 97, 99, 107, 97, 103, 101], fcV 95), (mkS [86, 101, 114, 115, 105, 111, 110], fcV 96)] rfl HM2.out _ _ rfl rfl N2.out ?_; intro w3 hm ht; have HM3 := Lib.hid hm; have HB3 := Lib.hid (HB2.out.trans (ht.below (B := w.heap.size) (fun k hk => by simp at hk; omega) HB2.out.size)); clear hm ht HM2 HB2 N2) | (refine wpList_insert_map _ rfl _ _ _ 80 rfl 9 90 Tryz.underlying80 Tryz.underlying9 w.heap.size [(mkS [80, 97, 99, 107, 97, 103, 101], fcV 95), (mkS [86, 101, 114, 115, 105, 111, 110], fcV 96), (mkS [65, 114, 99, 104, 105, 116, 101, 99, 116, 117, 114, 101], fcV 97)] rfl HM3.out _ _ rfl rfl N3.out ?_; intro w4 hm ht; have HM4 := Lib.hid hm; have HB4 := Lib.hid (HB3.out.trans (ht.below (B := w.heap.size) (fun k hk => by simp at hk; omega) HB3.out.size)); clear hm ht HM3 HB3 N3))
  go_ret
  exact ⟨_, rfl, HM4.out, HB4.out⟩
set_option maxHeartbeats 4000000 in
set_option maxRecDepth 100000 in
theorem relationFields_any (w : World) : Calls Tryz.prog 46 #[] w fun e w' => ∃ m, e = .returned (.map (some m)) ∧ w'.heap[m]? = some (mapO relEs) ∧ Below w.heap.size w w' := by
  have hmm := @run_makeMap Tryz.prog
  have HM0 := Lib.hid (map_new w)
  have HB0 : Hid (Below w.heap.size w (w.alloc (.map #[] 0))) := (Below.refl _ _).alloc (Nat.le_refl _) _
  have N0 : Hid (lookO (mkS [80, 114, 111, 118, 105, 100, 101, 115]) ([] : List (ByteArray × Value)) = none) := (by kernel_rfl : _ = _)
  have N1 : Hid (lookO (mkS [68, 101, 112, 101, 110, 100, 115]) ([(mkS [80, 114, 111, 118, 105, 100, 101, 115], fcV 100)] : List (ByteArray × Value)) = none) := (by kernel_rfl : _ = _)
  have N2 : Hid (lookO (mkS [80, 114, 101, 45, 68, 101, 112, 101, 110, 100, 115]) ([(mkS [80, 114, 111, 118, 105, 100, 101, 115], fcV 100), (mkS [68, 101, 112, 101, 110, 100, 115], fcV 101)] : List (ByteArray × Value)) = none) := (by kernel_rfl : _ = _)
  have N3 : Hid (lookO (mkS [67, 111, 110, 102, 108, 105, 99, 116, 115]) ([(mkS [80, 114, 111, 118, 105, 100, 101, 115], fcV 100), (mkS [68, 101, 112, 101, 110, 100, 115], fcV 101), (mkS [80, 114, 101, 45, 68, 101, 112, 101, 110, 100, 115], fcV 102)] : List (ByteArray × Value)) = none) := (by kernel_rfl : _ = _)
  have N4 : Hid (lookO (mkS [66, 114, 101, 97, 107, 115]) ([(mkS [80, 114, 111, 118, 105, 100, 101, 115], fcV 100), (mkS [68, 101, 112, 101, 110, 100, 115], fcV 101), (mkS [80, 114, 101, 45, 68, 101, 112, 101, 110, 100, 115], fcV 102), (mkS [67, 111, 110, 102, 108, 105, 99, 116, 115], fcV 99)] : List (ByteArray × Value)) = none) := (by kernel_rfl : _ = _)
  have N5 : Hid (lookO (mkS [82, 101, 112, 108, 97, 99, 101, 115]) ([(mkS [80, 114, 111, 118, 105, 100, 101, 115], fcV 100), (mkS [68, 101, 112, 101, 110, 100, 115], fcV 101), (mkS [80, 114, 101, 45, 68, 101, 112, 101, 110, 100, 115], fcV 102), (mkS [67, 111, 110, 102, 108, 105, 99, 116, 115], fcV 99), (mkS [66, 114, 101, 97, 107, 115], fcV 99)] : List (ByteArray × Value)) = none) := (by kernel_rfl : _ = _)
  have N6 : Hid (lookO (mkS [82, 101, 99, 111, 109, 109, 101, 110, 100, 115]) ([(mkS [80, 114, 111, 118, 105, 100, 101, 115], fcV 100), (mkS [68, 101, 112, 101, 110, 100, 115], fcV 101), (mkS [80, 114, 101, 45, 68, 101, 112, 101, 110, 100, 115], fcV 102), (mkS [67, 111, 110, 102, 108, 105, 99, 116, 115], fcV 99), (mkS [66, 114, 101, 97, 107, 115], fcV 99), (mkS [82, 101, 112, 108, 97, 99, 101, 115], fcV 103)] : List (ByteArray × Value)) = none) := (by kernel_rfl : _ = _)
  have N7 : Hid (lookO (mkS [69, 110, 104, 97, 110, 99, 101, 115]) ([(mkS [80, 114, 111, 118, 105, 100, 101, 115], fcV 100), (mkS [68, 101, 112, 101, 110, 100, 115], fcV 101), (mkS [80, 114, 101, 45, 68, 101, 112, 101, 110, 100, 115], fcV 102), (mkS [67, 111, 110, 102, 108, 105, 99, 116, 115], fcV 99), (mkS [66, 114, 101, 97, 107, 115], fcV 99), (mkS [82, 101, 112, 108, 97, 99, 101, 115], fcV 103), (mkS [82, 101, 99, 111, 109, 109, 101, 110, 100, 115], fcV 104)] : List (ByteArray × Value)) = none) := (by kernel_rfl : _ = _)
  go_enter Tryz.func46, Tryz.ntmps46
  go_wp2_with (first | (refine wpList_insert_map _ rfl _ _ _ 82 rfl 9 87 Tryz.underlying82 Tryz.underlying9 w.heap.size [] rfl HM0.out _ _ rfl rfl N0.out ?_; intro w1 hm ht; have HM1 := Lib.hid hm; have HB1 := Lib.hid (HB0.out.trans (ht.below (B := w.heap.size) (fun k hk => by simp at hk; omega) HB0.out.size)); clear hm ht HM0 HB0 N0) | (refine wpList_insert_map _ rfl _ _ _ 82 rfl 9 87 Tryz.underlying82 Tryz.underlying9 w.heap.size [(mkS [80, 114, 111, 118, 105, 100, 101, 115], fcV 100)] rfl HM1.out _ _ rfl rfl N1.out ?_; intro w2 hm ht; have HM2 := Lib.hid hm; have HB2 := Lib.hid (HB1.out.trans (ht.below (B := w.heap.size) (fun k hk => by simp at hk; omega) HB1.out.size)); clear hm ht HM1 HB1 N1) | (refine wpList_insert_map _ rfl _ _ _ 82 rfl 9 87 Tryz.underlying82 Tryz.underlying9 w.heap.size [(mkS [80, 114, 111, 118, 105, 100, 101, 115], fcV 100), (mkS [68, 101, 112, 101, 110, 100, 115], fcV 101)] rfl HM2.out _ _ rfl rfl N2.out ?_; intro w3 hm ht; have HM3 := Lib.hid hm; have HB3 := Lib.hid (HB2.out.trans (ht.below (B := w.heap.size) (fun k hk => by simp at hk; omega) HB2.out.size)); clear hm ht HM2 HB2 N2) | (refine wpList_insert_map _ rfl _ _ _ 82 rfl 9 87 Tryz.underlying82 Tryz.underlying9 w.heap.size [(mkS [80, 114, 111, 118, 105, 100, 101, 115], fcV 100), (mkS [68, 101, 112, 101, 110, 100, 115], fcV 101), (mkS [80, 114, 101, 45, 68, 101, 112, 101, 110, 100, 115], fcV 102)] rfl HM3.out _ _ rfl rfl N3.out ?_; intro w4 hm ht; have HM4 := Lib.hid hm; have HB4 := Lib.hid (HB3.out.trans (ht.below (B := w.heap.size) (fun k hk => by simp at hk; omega) HB3.out.size)); clear hm ht HM3 HB3 N3) | (refine wpList_insert_map _ rfl _ _ _ 82 rfl 9 87 Tryz.underlying82 Tryz.underlying9 w.heap.size [(mkS [80, 114, 111, 118, 105, 100, 101, 115], fcV 100), (mkS [68, 101, 112, 101, 110, 100, 115], fcV 101), (mkS [80, 114, 101, 45, 68, 101, 112, 101, 110, 100, 115], fcV 102), (mkS [67, 111, 110, 102, 108, 105, 99, 116, 115], fcV 99)] rfl HM4.out _ _ rfl rfl N4.out ?_; intro w5 hm ht; have HM5 := Lib.hid hm; have HB5 := Lib.hid (HB4.out.trans (ht.below (B := w.heap.size) (fun k hk => by simp at hk; omega) HB4.out.size)); clear hm ht HM4 HB4 N4) | (refine wpList_insert_map _ rfl _ _ _ 82 rfl 9 87 Tryz.underlying82 Tryz.underlying9 w.heap.size [(mkS [80, 114, 111, 118, 105, 100, 101, 115], fcV 100), (mkS [68, 101, 112, 101, 110, 100, 115], fcV 101), (mkS [80, 114, 101, 45, 68, 101, 112, 101, 110, 100, 115], fcV 102), (mkS [67, 111, 110, 102, 108, 105, 99, 116, 115], fcV 99), (mkS [66, 114, 101, 97, 107, 115], fcV 99)] rfl HM5.out _ _ rfl rfl N5.out ?_; intro w6 hm ht; have HM6 := Lib.hid hm; have HB6 := Lib.hid (HB5.out.trans (ht.below (B := w.heap.size) (fun k hk => by simp at hk; omega) HB5.out.size)); clear hm ht HM5 HB5 N5) | (refine wpList_insert_map _ rfl _ _ _ 82 rfl 9 87 Tryz.underlying82 Tryz.underlying9 w.heap.size [(mkS [80, 114, 111, 118, 105, 100, 101, 115], fcV 100), (mkS [68, 101, 112, 101, 110, 100, 115], fcV 101), (mkS [80, 114, 101, 45, 68, 101, 112, 101, 110, 100, 115], fcV 102), (mkS [67, 111, 110, 102, 108, 105, 99, 116, 115], fcV 99), (mkS [66, 114, 101, 97, 107, 115], fcV 99), (mkS [82, 101, 112, 108, 97, 99, 101, 115], fcV 103)] rfl HM6.out _ _ rfl rfl N6.out ?_; intro w7 hm ht; have HM7 := Lib.hid hm; have HB7 := Lib.hid (HB6.out.trans (ht.below (B := w.heap.size) (fun k hk => by simp at hk; omega) HB6.out.size)); clear hm ht HM6 HB6 N6) | (refine wpList_insert_map _ rfl _ _ _ 82 rfl 9 87 Tryz.underlying82 Tryz.underlying9 w.heap.size [(mkS [80, 114, 111, 118, 105, 100, 101, 115], fcV 100), (mkS [68, 101, 112, 101, 110, 100, 115], fcV 101), (mkS [80, 114, 101, 45, 68, 101, 112, 101, 110, 100, 115], fcV 102), (mkS [67, 111, 110, 102, 108, 105, 99, 116, 115], fcV 99), (mkS [66, 114, 101, 97, 107, 115], fcV 99), (mkS [82, 101, 112, 108, 97, 99, 101, 115], fcV 103), (mkS [82, 101, 99, 111, 109, 109, 101, 110, 100, 115], fcV 104)] rfl HM7.out _ _ rfl rfl N7.out ?_; intro w8 hm ht; have HM8 := Lib.hid hm; have HB8 := Lib.hid (HB7.out.trans (ht.below (B := w.heap.size) (fun k hk => by simp at hk; omega) HB7.out.size)); clear hm ht HM7 HB7 N7))
  go_ret
  exact ⟨_, rfl, HM8.out, HB8.out⟩
theorem cl_relationFields_1 (p : Nat) (w : World) (cs : Array Value) (hp : Blk w p 37 cs) : Calls Tryz.prog 99 #[.pointer (some ⟨p, 0, none⟩)] w fun e w' => e = .returned (.pointer (some ⟨p, 7, none⟩)) ∧ w' = w := by
  go_enter Tryz.func99, Tryz.ntmps99
  go_wp2_with fail
  go_ret
  exact ⟨rfl, rfl⟩
theorem cl_relationFields_2 (p : Nat) (w : World) (cs : Array Value) (hp : Blk w p 37 cs) : Calls Tryz.prog 100 #[.pointer (some ⟨p, 0, none⟩)] w fun e w' => e = .returned (.pointer (some ⟨p, 4, none⟩)) ∧ w' = w := by
  go_enter Tryz.func100, Tryz.ntmps100
  go_wp2_with fail
  go_ret
  exact ⟨rfl, rfl⟩
theorem cl_relationFields_3 (p : Nat) (w : World) (cs : Array Value) (hp : Blk w p 37 cs) : Calls Tryz.prog 101 #[.pointer (some ⟨p, 0, none⟩)] w fun e w' => e = .returned (.pointer (some ⟨p, 5, none⟩)) ∧ w' = w := by
  go_enter Tryz.func101, Tryz.ntmps101
  go_wp2_with fail
  go_ret
  exact ⟨rfl, rfl⟩
theorem cl_relationFields_4 (p : Nat) (w : World) (cs : Array Value) (hp : Blk w p 37 cs) : Calls Tryz.prog 102 #[.pointer (some ⟨p, 0, none⟩)] w fun e w' => e = .returned (.pointer (some ⟨p, 6, none⟩)) ∧ w' = w := by
  go_enter Tryz.func102, Tryz.ntmps102
  go_wp2_with fail
  go_ret
  exact ⟨rfl, rfl⟩
theorem cl_relationFields_5 (p : Nat) (w : World) (cs : Array Value) (hp : Blk w p 37 cs) : Calls Tryz.prog 103 #[.pointer (some ⟨p, 0, none⟩)] w fun e w' => e = .returned (.pointer (some ⟨p, 8, none⟩)) ∧ w' = w := by
  go_enter Tryz.func103, Tryz.ntmps103
  go_wp2_with fail
  go_ret
  exact ⟨rfl, rfl⟩
theorem cl_relationFields_6 (p : Nat) (w : World) (cs : Array Value) (hp : Blk w p 37 cs) : Calls Tryz.prog 104 #[.pointer (some ⟨p, 0, none⟩)] w fun e w' => e = .returned (.pointer (some ⟨p, 9, none⟩)) ∧ w' = w := by
  go_enter Tryz.func104, Tryz.ntmps104
  go_wp2_with fail
  go_ret
  exact ⟨rfl, rfl⟩
theorem cl_relationFields_7 (p : Nat) (w : World) (cs : Array Value) (hp : Blk w p 37 cs) : Calls Tryz.prog 105 #[.pointer (some ⟨p, 0, none⟩)] w fun e w' => e = .returned (.pointer (some ⟨p, 10, none⟩)) ∧ w' = w := by
  go_enter Tryz.func105, Tryz.ntmps105
  go_wp2_with fail
  go_ret
  exact ⟨rfl, rfl⟩
theorem cl_textFields_1 (p : Nat) (w : World) (cs : Array Value) (hp : Blk w p 37 cs) : Calls Tryz.prog 95 #[.pointer (some ⟨p, 0, none⟩)] w fun e w' => e = .returned (.pointer (some ⟨p, 0, none⟩)) ∧ w' = w := by
  go_enter Tryz.func95, Tryz.ntmps95
  go_wp2_with fail
  go_ret
  exact ⟨rfl, rfl⟩
theorem cl_textFields_2 (p : Nat) (w : World) (cs : Array Value) (hp : Blk w p 37 cs) : Calls Tryz.prog 96 #[.pointer (some ⟨p, 0, none⟩)] w fun e w' => e = .returned (.pointer (some ⟨p, 1, none⟩)) ∧ w' = w := by
  go_enter Tryz.func96, Tryz.ntmps96
  go_wp2_with fail
  go_ret
  exact ⟨rfl, rfl⟩
theorem cl_textFields_3 (p : Nat) (w : World) (cs : Array Value) (hp : Blk w p 37 cs) : Calls Tryz.prog 97 #[.pointer (some ⟨p, 0, none⟩)] w fun e w' => e = .returned (.pointer (some ⟨p, 2, none⟩)) ∧ w' = w := by
  go_enter Tryz.func97, Tryz.ntmps97
  go_wp2_with fail
  go_ret
  exact ⟨rfl, rfl⟩
theorem cl_textFields_4 (p : Nat) (w : World) (cs : Array Value) (hp : Blk w p 37 cs) : Calls Tryz.prog 98 #[.pointer (some ⟨p, 0, none⟩)] w fun e w' => e = .returned (.pointer (some ⟨p, 3, none⟩)) ∧ w' = w := by
  go_enter Tryz.func98, Tryz.ntmps98
  go_wp2_with fail
  go_ret
  exact ⟨rfl, rfl⟩
theorem eqlRf (f : Fn) (B K : Array Value) (w : World) : (Go.binOp .eql 87 (.func f B K) .nilFunc).run Tryz.prog w = .ok (.bool false) w := by kernel_rfl
theorem eqlRn (w : World) : (Go.binOp .eql 87 .nilFunc .nilFunc).run Tryz.prog w = .ok (.bool true) w := by kernel_rfl
end Go.Proofs.YtdhgiammfpjniaaGreatDoor
