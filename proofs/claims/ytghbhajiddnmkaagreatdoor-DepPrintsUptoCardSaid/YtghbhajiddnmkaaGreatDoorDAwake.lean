/- awake answers true; DepNames. -/
import Derived.Test.YtghbhajiddnmkaaGreatDoorDPrinted
import Derived.Test.YtghbhajiddnmkaaGreatDoorDTabs
namespace Go.Proofs.YtghbhajiddnmkaaGreatDoor
set_option linter.unusedSimpArgs false
set_option linter.unusedVariables false
open Go.RowKit

def wordsF : Nat → Wd → List Wd
  | 0, _ => []
  | n + 1, l => if (cutW l).1 = [] then [] else (cutW l).1 :: wordsF n (cutW l).2
theorem wordsF_eq : ∀ (n : Nat) (l : Wd), l.length < n → wordsF n l = words l
  | 0, l, h => by omega
  | n + 1, l, h => by
    rw [← stream_cut]
    unfold wordsF stream
    split
    · rfl
    · rename_i hne
      rw [wordsF_eq n _ (by have := cutW_lt hne; omega)]
def awT : Wd := [40, 97, 32, 97, 110, 100, 32, 40, 98, 32, 111, 114, 32, 99, 40, 120, 41, 32, 62, 61, 32, 49, 41, 32, 41]
def awD : Dep := node 2 [leaf [97] 0 [], node 3 [leaf [98] 0 [], leaf [99, 40, 120, 41] 6 [49]]]
theorem aw_words : words awT = toks awD := by rw [← wordsF_eq 40 awT (by decide)]; decide
theorem aw_check : checkN awD = 0 := by decide +kernel
theorem aw_parse : parseD awT = (some awD, 0) := parse_text aw_check aw_words
theorem aw_no : parseD [97, 32, 98] = (none, 50) := by
  unfold parseD
  rw [← wordsF_eq 4 _ (by decide)]
  have : readM [] none (wordsF 4 [97, 32, 98]) = none := by kernel_rfl
  rw [this]
theorem aw_print : printS awD = ⟨#[40, 97, 32, 97, 110, 100, 32, 40, 98, 32, 111, 114, 32, 99, 40, 120, 41, 32, 62, 61, 32, 49, 41, 41]⟩ := by
  unfold printS
  rw [if_pos aw_check]
  kernel_rfl
theorem parse_yes (text : ByteArray) (D : Dep) (h : parseD text.data.toList = (some D, 0)) (hs : text.size ≤ 4194304) (w0 : World) (hT : Tabs w0) :
    Calls Tryz.prog 14 #[.string text] w0 fun e w' => Below w0.heap.size w0 w' ∧ ∃ A c S, e = .returned (.tuple #[.agg (rowD D (.slice A D.args.length c)), .int .i64 0]) ∧ Lay w' S D (.slice A D.args.length c) ∧ CleanS w' S ∧ (∀ b, S b → w0.heap.size ≤ b) ∧ nodes D ≤ text.size := by
  refine (depParse_any text hs w0 hT).mono ?_
  rintro e w' ⟨hb, ⟨d, t, ⟨h1, S, hL, hC, hS, hN⟩, rfl⟩ | ⟨n, h1, _⟩⟩
  · rw [h] at h1
    injection h1 with h1
    injection h1 with h1
    subst h1
    obtain ⟨A, c, rfl, _, _⟩ := hL.form_
    exact ⟨hb, A, c, S, rfl, hL, hC, hS, hN⟩
  · rw [h] at h1
    injection h1 with h1
    cases h1
theorem parse_no (text : ByteArray) (n : Int) (h : parseD text.data.toList = (none, n)) (hs : text.size ≤ 4194304) (w0 : World) (hT : Tabs w0) :
    Calls Tryz.prog 14 #[.string text] w0 fun e w' => Below w0.heap.size w0 w' ∧ e = .returned (.tuple #[.agg zeroRow, .int .i64 n]) := by
  refine (depParse_any text hs w0 hT).mono ?_
  rintro e w' ⟨hb, ⟨d, t, ⟨h1, _⟩, rfl⟩ | ⟨m, h1, rfl⟩⟩
  · rw [h] at h1
    injection h1 with h1
    cases h1
  · rw [h] at h1
    injection h1 with _ h1
    subst h1
    exact ⟨hb, rfl⟩
set_option maxHeartbeats 2000000 in
set_option maxRecDepth 100000 in
theorem depAwake_any (w0 : World) (hT : Tabs w0) : Calls Tryz.prog 4 #[] w0 (TrueBelow w0) := by
  have C1 := Lib.hid (parse_yes ⟨#[40, 97, 32, 97, 110, 100, 32, 40, 98, 32, 111, 114, 32, 99, 40, 120, 41, 32, 62, 61, 32, 49, 41, 32, 41]⟩ awD aw_parse (by decide) w0 hT)
  have HT := Lib.hid hT
  have hps := aw_print
  have hpc := aw_check
  generalize awD = D at C1 hps hpc
  have HPS := Lib.hid hps
  have HPC := Lib.hid hpc
  clear hps hpc hT
  go_enter Tryz.func4, Tryz.ntmps4
  go_wp2_with fail
  refine C1.out.mono ?_
  rintro e w1 ⟨hb1, A, c, S, rfl, hL, hC, hS, hN⟩
  have hba : Below w1.heap.size w1 (w1.alloc (.cells (rowD D (.slice A D.args.length c)) 24)) := (Below.refl _ _).alloc (Nat.le_refl _) _
  have hst := StayS.below' (S := S) hba
  have hT1 : Tabs (w1.alloc (.cells (rowD D (.slice A D.args.length c)) 24)) := (HT.out.below hb1 HT.out.two).below hba (by have := HT.out.two; have := hb1.size; omega)
  have C2 := depPrint_any D _ S _ (hL.stay (fun _ h => h) hst) (hC.stay hst) hT1 (Nat.le_trans hN (by decide))
  rw [HPS.out, HPC.out] at C2
  have HC2 := Lib.hid C2
  have HT1 := Lib.hid hT1
  have HB1 := Lib.hid (hb1.trans (hba.mono hb1.size))
  clear hL hC hS hN hba hst hT1 C1 C2 hb1
  unfold rowD at HC2 HT1 HB1 ⊢
  go_wp2_with fail
  refine HC2.out.mono ?_
  rintro e w2 ⟨rfl, hb2⟩
  have hT2 : Tabs w2 := HT1.out.below hb2 HT1.out.two
  have HB2 : Hid (Below w0.heap.size w0 w2) := HB1.out.trans (hb2.mono HB1.out.size)
  have HC3 := Lib.hid (parse_no ⟨#[97, 32, 98]⟩ 50 aw_no (by decide) w2 hT2)
  clear hb2 hT2 HC2 HT1 HB1
  go_wp2_with fail
  refine HC3.out.mono ?_
  rintro e w3 ⟨hb3, rfl⟩
  have HB3 : Hid (Below w0.heap.size w0 w3) := HB2.out.trans (hb3.mono HB2.out.size)
  clear hb3 HC3 HB2
  unfold zeroRow
  go_wp2_with fail
  go_ret
  exact ⟨rfl, HB3.out.alloc HB3.out.size _⟩
end Go.Proofs.YtghbhajiddnmkaaGreatDoor
