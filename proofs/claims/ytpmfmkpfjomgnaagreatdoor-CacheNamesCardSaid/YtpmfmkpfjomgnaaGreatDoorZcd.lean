/- A writer's package. A reader's package. A writer's repositories. -/
import Derived.Test.YtpmfmkpfjomgnaaGreatDoorZcb
import Derived.Test.YtpmfmkpfjomgnaaGreatDoorZam
import Derived.Test.YtpmfmkpfjomgnaaGreatDoorZal
import Derived.Test.YtpmfmkpfjomgnaaGreatDoorZcc
import Derived.Test.YtpmfmkpfjomgnaaGreatDoorZap
import Derived.Test.YtpmfmkpfjomgnaaGreatDoorZao
/- A writer's package. -/
namespace Go.Proofs.YtpmfmkpfjomgnaaGreatDoor
set_option linter.unusedSimpArgs false
set_option linter.unusedVariables false
open Go.RowKit

set_option maxHeartbeats 4000000 in
set_option maxRecDepth 100000 in
theorem writeTexts_any {w : World} {base g : Nat} {O : Nat → Prop} {s : WS} (h : WrAt w base g O s) (hf : s.Few) (ds : List ByteArray) (A : Option Addr) (c : Nat) (S : Nat → Prop)
    (hA : TextsAt w S ds A) (hl : ds.length ≤ c) (hc : c ≤ maxLen) (hS : OutS w O S) (hsz : ∀ t ∈ ds, t.size ≤ maxLen) (hm : (WS.list WS.text s ds).out.length ≤ mostB) :
    Calls Tryz.prog 168 #[.pointer (some ⟨g, 0, none⟩), .slice A ds.length c, .func (.func 118) #[.pointer (some ⟨g, 0, none⟩)] #[]] w (Wrote w base g O (WS.list WS.text s ds)) := by
  unfold maxLen at hc
  have hst := StepW.text
  have ef := enters_of Tryz.func118 (by kernel_rfl) rfl
  have CN := Lib.hid (wnum_any h (ds.length : Int) (Nat.le_trans (hst.fold ds _).1 hm))
  have HA := Lib.hid (And.intro hA (And.intro hS (And.intro hsz hm)))
  have HST := Lib.hid hst
  have HF := Lib.hid hf
  clear h hA hS hm hst hf hsz
  go_enter Tryz.func168, Tryz.ntmps168
  go_wp2_with fail
  refine CN.out.mono ?_
  rintro e w1 ⟨rfl, O1, hA1, hT1, hO1⟩
  have H0 : Hid (∃ O' s', LSt WS.text w w1 base g O s ds 0 O' s') := ⟨O1, _, hA1, rfl, HF.out.num _, hT1, hO1⟩
  clear hA1 hT1 hO1 CN
  go_wp2_with fail
  go_loopw [14] (fun v wx => ∃ k : Nat, k ≤ ds.length ∧ v = .int .i64 (k : Int) ∧ Hid (∃ O' s', LSt WS.text w wx base g O s ds k O' s')) (fun v _ => ds.length - (intOf v).toNat)
  case atStart => exact ⟨0, Nat.zero_le _, rfl, H0⟩
  case round =>
    clear H0
    obtain ⟨k, hk, rfl, HB⟩ := hrel
    by_cases hlt : k < ds.length
    · obtain ⟨d, hd⟩ : ∃ d, ds[k]? = some d := ⟨_, List.getElem?_eq_getElem hlt⟩
      obtain ⟨O', s', hL⟩ := HB.out
      have hAr := HA.out.1.stay (fun _ h => h) (hL.stay HA.out.2.1)
      obtain ⟨b, o, rfl, hSb, q0⟩ := hAr k d hd
      have CF := Lib.hid (wtext_any hL.at_ d (HA.out.2.2.1 d (List.mem_of_getElem? hd)) hL.few (hL.most HST.out hd HA.out.2.2.2))
      have HL2 := Lib.hid hL
      have HD := Lib.hid hd
      clear hAr hL hd HB hSb
      go_wp2_with fail
      refine CF.out.mono ?_
      intro e w2 hw
      obtain ⟨O2, hN⟩ := HL2.out.next HST.out HD.out hw
      have HN : Hid (∃ O' s', LSt WS.text w w2 base g O s ds (k + 1) O' s') := ⟨_, _, hN⟩
      obtain ⟨rfl, -⟩ := hw
      clear hN CF HL2 HD q0
      go_wp2_with fail
      go_roundw
      case rel => exact ⟨k + 1, by omega, by go_num, HN⟩
      case measure => simp [intOf]; omega
    · obtain rfl : k = ds.length := by omega
      have HV : Hid (Wrote w base g O (WS.list WS.text s ds) (.returned (.tuple #[])) wr) := by
        obtain ⟨O', s', hL⟩ := HB.out
        exact hL.done rfl
      clear hlt HB
      go_wp2_with fail
      go_end0
      exact HV.out
/-! The addresses of a package's texts and lists. -/
set_option maxRecDepth 100000 in
theorem load_ptr4 {w : World} {g : Nat} {t : TypeId} {x0 x1 x2 x3 : Value} (h : Blk w g t #[x0, x1, x2, x3]) : (loadVar 196 ⟨g, 0, none⟩).run Tryz.prog w = .ok (.agg #[x0, x1, x2, x3]) w := by
  have b0 := h.cell 0
  have b1 := h.cell 1
  have b2 := h.cell 2
  have b3 := h.cell 3
  simp at b0 b1 b2 b3
  clear h
  go_simp
set_option maxHeartbeats 2000000 in
set_option maxRecDepth 100000 in
theorem ctexts_any (b : Nat) (w : World) : Calls Tryz.prog 164 #[.pointer (some ⟨b, 0, none⟩)] w fun e w' => e = .returned (.agg (ptr4 b)) ∧ Below w.heap.size w w' := by
  go_enter Tryz.func164, Tryz.ntmps164
  go_upto_region 1 with fail
  go_still_tail 13, (by kernel_rfl)
  change wpList _ _ _ _ _ (World.drew _)
  go_wp2_with fail
  refine bodyPost_ret (v := .agg (ptr4 b)) ?_ rfl ⟨rfl, ((Below.refl _ _).alloc (Nat.le_refl _) _).drew⟩
  refine (results_cell rfl _ (ad := ⟨w.heap.size, 0, none⟩) rfl).trans ?_
  exact load_ptr4 (Blk.drew (Blk.new w _ _))
set_option maxHeartbeats 2000000 in
set_option maxRecDepth 100000 in
theorem clists_any (b : Nat) (w : World) : Calls Tryz.prog 165 #[.pointer (some ⟨b, 0, none⟩)] w fun e w' => e = .returned (.agg (ptrs b)) ∧ Below w.heap.size w w' := by
  go_enter Tryz.func165, Tryz.ntmps165
  go_upto_region 1 with fail
  go_still_tail 22, (by kernel_rfl)
  change wpList _ _ _ _ _ (World.drew _)
  go_wp2_with fail
  refine bodyPost_ret (v := .agg (ptrs b)) ?_ rfl ⟨rfl, ((Below.refl _ _).alloc (Nat.le_refl _) _).drew⟩
  refine (results_cell rfl _ (ad := ⟨w.heap.size, 0, none⟩) rfl).trans ?_
  exact load_ptrs (Blk.drew (Blk.new w _ _))
theorem tptr_at (b : Nat) : ∀ k, k < 4 → ∀ w, (Instr.index 196 (.agg (ptr4 b)) (.int .i64 ((k : Nat) : Int))).run Tryz.prog w = .ok (.pointer (some ⟨b, k, none⟩)) w
  | 0, _, w => by kernel_rfl
  | 1, _, w => by kernel_rfl
  | 2, _, w => by kernel_rfl
  | 3, _, w => by kernel_rfl
  | k + 4, h, w => by omega
theorem rowP_txt (p : Pkg) (ss : Nat → Value) (fs : Value) : ∀ k, k < 4 → (rowP p ss fs)[k]? = some (.string (p.txt k))
  | 0, _ => rfl
  | 1, _ => rfl
  | 2, _ => rfl
  | 3, _ => rfl
  | k + 4, h => by omega
/-- The first k of a row of steps. -/
def rf (f : WS → Nat → WS) (k : Nat) (s : WS) : WS := (List.range k).foldl f s
theorem rf_succ (f : WS → Nat → WS) (k : Nat) (s : WS) : rf f (k + 1) s = f (rf f k s) k := by unfold rf; rw [List.range_succ, List.foldl_append]; rfl
theorem rf_more {f : WS → Nat → WS} (hf : StepW f) (s : WS) (a : Nat) : ∀ b, a ≤ b → (rf f a s).out.length ≤ (rf f b s).out.length
  | 0, h => by obtain rfl : a = 0 := by omega
               exact Nat.le_refl _
  | b + 1, h => by
    by_cases e : a = b + 1
    · subst e; exact Nat.le_refl _
    · have := rf_more hf s a b (by omega)
      rw [rf_succ]
      exact Nat.le_trans this (hf.more _ _)
theorem rf_few {f : WS → Nat → WS} (hf : StepW f) {s : WS} (h : s.Few) (k : Nat) : (rf f k s).Few := (hf.fold _ s).2 h
def stT (p : Pkg) (s : WS) (i : Nat) : WS := s.text (p.txt i)
def stL (p : Pkg) (s : WS) (i : Nat) : WS := WS.list WS.dep s (p.ls i)
theorem stT_ok (p : Pkg) : StepW (stT p) := StepW.text.comp p.txt
theorem stL_ok (p : Pkg) : StepW (stL p) := StepW.dep.list.comp p.ls
def WS.pkg (s : WS) (p : Pkg) : WS := WS.list WS.text (rf (stL p) 7 (rf (stT p) 4 s)) p.files
theorem StepW.pkg : StepW WS.pkg :=
  ⟨fun s p => Nat.le_trans (Nat.le_trans (rf_more (stT_ok p) s 0 4 (by omega)) (rf_more (stL_ok p) _ 0 7 (by omega))) (StepW.text.list.more _ _), fun s p h => StepW.text.list.few _ _ (rf_few (stL_ok p) (rf_few (stT_ok p) h 4) 7)⟩
def AskP (w : World) (base g : Nat) (S T : Nat → Prop) (p : Pkg) : Prop :=
  ∀ (w' : World) (O' : Nat → Prop) (s' : WS) (ss : Nat → Value) (fs : Value), w.heap.size ≤ w'.heap.size → WrAt w' base g O' s' → s'.Few → OutS w' O' S → OutS w' O' T → PkgAt w' S T p ss fs → (s'.pkg p).out.length ≤ mostB →
    Calls Tryz.prog 121 #[.pointer (some ⟨g, 0, none⟩), .agg (rowP p ss fs)] w' (Wrote w' base g O' (s'.pkg p))
set_option maxHeartbeats 8000000 in
set_option maxRecDepth 100000 in
theorem wpack_any (w : World) (base g : Nat) (S T : Nat → Prop) (p : Pkg) (hsm : PkgSmall p) : AskP w base g S T p := by
  intro w' O' s' ss fs hz hAt hFew hOS hOT hP hm
  obtain ⟨w1, hw1⟩ : ∃ w1, w1 = w'.alloc (.cells (rowP p ss fs) 44) := ⟨_, rfl⟩
  have hb1 : Below w'.heap.size w' w1 := by rw [hw1]; exact (Below.refl _ _).alloc (Nat.le_refl _) _
  have K1 : Blk w1 w'.heap.size 44 (rowP p ss fs) := by rw [hw1]; exact Blk.new _ _ _
  have hno : ¬ O' w'.heap.size ∧ w'.heap.size < w1.heap.size := ⟨fun ho => by have := (hAt.O_lt ho).2; omega, K1.lt⟩
  have hO1 : OutS w1 O' (fun j => (S j ∨ T j) ∨ j = w'.heap.size) := OutS.and (fun b hb => by
    rcases hb with hb | hb
    · exact (hOS.below hb1.size) b hb
    · exact (hOT.below hb1.size) b hb) hno
  have hW1 : Wacc w1 w1 base g O' O' s' := Wacc.start (hAt.below hb1) hFew
  have HR : Hid (∀ (wx : World) (O2 : Nat → Prop) (sx : WS), Wacc w1 wx base g O' O2 sx → Blk wx w'.heap.size 44 (rowP p ss fs) ∧ PkgAt wx S T p ss fs ∧ OutS wx O2 S ∧ OutS wx O2 T) := fun wx O2 sx ha => by
    have hst := ha.stay hO1
    exact ⟨(hst _ (.inr rfl) K1.lt).trans K1, (hP.below hb1).stay (fun _ h => h) (fun _ h => h) (fun b hb hl => hst b (.inl (.inl hb)) hl) (fun b hb hl => hst b (.inl (.inr hb)) hl), fun b hb => ha.out hO1 b (.inl (.inl hb)), fun b hb => ha.out hO1 b (.inl (.inr hb))⟩
  obtain ⟨sT, hsT⟩ : ∃ sT, sT = rf (stT p) 4 s' := ⟨_, rfl⟩
  obtain ⟨sL, hsL⟩ : ∃ sL, sL = rf (stL p) 7 sT := ⟨_, rfl⟩
  have hpk : s'.pkg p = WS.list WS.text sL p.files := by rw [hsL, hsT]; rfl
  rw [hpk] at hm ⊢
  have mL : sL.out.length ≤ mostB := Nat.le_trans (StepW.text.list.more sL p.files) hm
  have mT : sT.out.length ≤ mostB := Nat.le_trans (by rw [hsL]; exact rf_more (stL_ok p) sT 0 7 (by omega)) mL
  have fT : sT.Few := by rw [hsT]; exact rf_few (stT_ok p) hFew 4
  have fL : sL.Few := by rw [hsL]; exact rf_few (stL_ok p) fT 7
  have HTx : Hid (∀ k, k < 4 → (rf (stT p) (k + 1) s').out.length ≤ mostB ∧ (rf (stT p) k s').Few ∧ rf (stT p) (k + 1) s' = (rf (stT p) k s').text (p.txt k)) := fun k hk => ⟨Nat.le_trans (rf_more (stT_ok p) s' _ 4 hk) (by rw [← hsT]; exact mT), rf_few (stT_ok p) hFew k, rf_succ _ _ _⟩
  have HLx : Hid (∀ k, k < 7 → (rf (stL p) (k + 1) sT).out.length ≤ mostB ∧ (rf (stL p) k sT).Few ∧ rf (stL p) (k + 1) sT = WS.list WS.dep (rf (stL p) k sT) (p.ls k)) := fun k hk => ⟨Nat.le_trans (rf_more (stL_ok p) sT _ 7 hk) (by rw [← hsL]; exact mL), rf_few (stL_ok p) fT k, rf_succ _ _ _⟩
  have CT := Lib.hid (ctexts_any w'.heap.size w1)
  have CL := Lib.hid (clists_any w'.heap.size)
  have HIT := Lib.hid (tptr_at w'.heap.size)
  have HIL := Lib.hid (ptr_at w'.heap.size)
  have HTS := Lib.hid (And.intro hsT (And.intro hsL (And.intro fT (And.intro fL hm))))
  have HW1 := Lib.hid hW1
  have HB1 := Lib.hid hb1
  have HSm := Lib.hid hsm
  have hmf : ∀ (fn : Fn) (first cap : Array Value) (w : World), (Instr.makeFunc fn first cap).run Tryz.prog w = .ok (.func fn first cap) w := fun _ _ _ _ => rfl
  clear hb1 K1 hno hO1 hW1 hP hm mL mT fT fL hsT hsL hz hAt hFew hOS hOT hsm hpk
  unfold ptr4 at CT HIT
  unfold ptrs at CL HIL
  unfold rowP at hw1 ⊢
  go_enter Tryz.func121, Tryz.ntmps121
  go_upto_region 1 with fail
  rw [← hw1]
  clear hw1
  go_wp2_with fail
  refine CT.out.mono ?_
  rintro e w2 ⟨rfl, hb2⟩
  have H0 : Hid (∃ O2, Wacc w1 w2 base g O' O2 (rf (stT p) 0 s')) := ⟨_, HW1.out.later hb2⟩
  clear hb2 CT HW1
  go_wp2_with fail
  go_loopw [9] (fun v wx => ∃ k : Nat, k ≤ 4 ∧ v = .int .i64 (k : Int) ∧ Hid (∃ O2, Wacc w1 wx base g O' O2 (rf (stT p) k s'))) (fun v _ => 4 - (intOf v).toNat)
  case atStart => exact ⟨0, by omega, rfl, H0⟩
  case round =>
    clear H0
    obtain ⟨k, hk, rfl, HB⟩ := hrel
    obtain ⟨O2, hA⟩ := HB.out
    obtain ⟨Kr, hPr, hSr, hTr⟩ := HR.out _ _ _ hA
    by_cases hlt : k < 4
    · have hix := HIT.out k hlt
      have hc := (Kr.cell k).trans (rowP_txt p ss fs k hlt)
      obtain ⟨hm1, hf1, he1⟩ := HTx.out k hlt
      have C := Lib.hid (wtext_any hA.at_ (p.txt k) (by have := HSm.out.txt k; unfold maxLen; omega) hf1 (by rw [← he1]; exact hm1))
      rw [← he1] at C
      have HF1 : Hid ((rf (stT p) (k + 1) s').Few) := by show WS.Few _; rw [he1]; exact hf1.text _
      have HA2 := Lib.hid hA
      clear hA HB Kr hPr hSr hTr hm1 hf1 he1
      go_wp2_with fail
      refine C.out.mono ?_
      intro e w3 hw
      have HN : Hid (∃ O2, Wacc w1 w3 base g O' O2 (rf (stT p) (k + 1) s')) := HA2.out.next HF1.out hw
      obtain ⟨rfl, -⟩ := hw
      clear C HA2 HF1 hix hc
      go_wp2_with fail
      go_roundw
      case rel => exact ⟨k + 1, by omega, by go_num, HN⟩
      case measure => simp [intOf]; omega
    · obtain rfl : k = 4 := by omega
      rw [← HTS.out.1] at hA
      have HA2 := Lib.hid hA
      clear hlt HB hk Kr hPr hSr hTr hA HIT HTx
      go_wp2_with fail
      refine (CL.out wr).mono ?_
      rintro e w2 ⟨rfl, hb2⟩
      have H0 : Hid (∃ O2, Wacc w1 w2 base g O' O2 (rf (stL p) 0 sT)) := ⟨_, HA2.out.later hb2⟩
      clear hb2 CL HA2
      go_wp2_with fail
      go_loopw [19] (fun v wx => ∃ k : Nat, k ≤ 7 ∧ v = .int .i64 (k : Int) ∧ Hid (∃ O2, Wacc w1 wx base g O' O2 (rf (stL p) k sT))) (fun v _ => 7 - (intOf v).toNat)
      case atStart => exact ⟨0, by omega, rfl, H0⟩
      case round =>
        clear H0
        obtain ⟨k, hk, rfl, HB⟩ := hrel
        obtain ⟨O2, hA⟩ := HB.out
        obtain ⟨Kr, hPr, hSr, hTr⟩ := HR.out _ _ _ hA
        by_cases hlt : k < 7
        · have hix := HIL.out k hlt
          have hc := (Kr.cell (4 + k)).trans (rowP_at p ss fs k hlt)
          obtain ⟨A, c, hs, hl1, hl2, hl3, hAr⟩ := hPr.lists k hlt
          rw [hs] at hc
          obtain ⟨hm1, hf1, he1⟩ := HLx.out k hlt
          have C := Lib.hid (writeDeps_any 167 (enters_of Tryz.func167 (by kernel_rfl) rfl) StepW.dep hA.at_ hf1 (p.ls k) A c S hAr hl1 hl2 hSr (fun a ha => wdep_any wr base g S a (((HSm.out.dep k hlt).2 a ha).1)) (by rw [← he1]; exact hm1))
          rw [← he1] at C
          have HF1 : Hid ((rf (stL p) (k + 1) sT).Few) := by show WS.Few _; rw [he1]; exact StepW.dep.list.few _ _ hf1
          have HA2 := Lib.hid hA
          clear hA HB Kr hPr hSr hTr hm1 hf1 he1 hs hl1 hl2 hl3 hAr
          go_wp2_with fail
          refine C.out.mono ?_
          intro e w3 hw
          have HN : Hid (∃ O2, Wacc w1 w3 base g O' O2 (rf (stL p) (k + 1) sT)) := HA2.out.next HF1.out hw
          obtain ⟨rfl, -⟩ := hw
          clear C HA2 HF1 hix hc
          go_wp2_with fail
          go_roundw
          case rel => exact ⟨k + 1, by omega, by go_num, HN⟩
          case measure => simp [intOf]; omega
        · obtain rfl : k = 7 := by omega
          rw [← HTS.out.2.1] at hA
          have hc := (Kr.cell 11)
          obtain ⟨A, c, hs, hl1, hl2, hl3, hAr⟩ := hPr.files
          unfold rowP at hc
          simp at hc
          rw [hs] at hc
          have C := Lib.hid (writeTexts_any hA.at_ HTS.out.2.2.2.1 p.files A c T hAr hl1 hl2 hTr (fun t ht => by have := HSm.out.files.1 t ht; unfold maxLen; omega) HTS.out.2.2.2.2)
          have HA2 := Lib.hid hA
          clear hlt HB hk Kr hPr hSr hTr hA HIL HLx hs hl1 hl2 hl3 hAr
          go_wp2_with fail
          refine C.out.mono ?_
          intro e w3 hw
          have HN := HA2.out.next (StepW.text.list.few _ _ HTS.out.2.2.2.1) hw
          obtain ⟨O3, hN⟩ := HN
          have HV := Lib.hid (hN.done HB1.out)
          obtain ⟨rfl, -⟩ := hw
          clear C HA2 hN hc
          go_wp2_with fail
          go_end0
          exact HV.out
end Go.Proofs.YtpmfmkpfjomgnaaGreatDoor

/- A reader's package. -/
namespace Go.Proofs.YtpmfmkpfjomgnaaGreatDoor
set_option linter.unusedSimpArgs false
set_option linter.unusedVariables false
open Go.RowKit

def nilV (_ : Nat) : Value := .slice none 0 0
/-- While a package is read: its box, the room of the answer. -/
structure PkS (w wx : World) (base g : Nat) (O O' : Nat → Prop) (bs : ByteArray) (b0 o0 : Nat) (s' : RS) (cs : Array Value) : Prop where
  acc : Racc w wx base g O O' bs b0 o0 s'
  out : OutS wx O' (Dx w.heap.size)
  kd : Blk wx (w.heap.size + 1) 44 cs
  kr : Blk wx w.heap.size 44 zrP
  bw : base ≤ w.heap.size
section
variable {w wx w2 : World} {base g b0 o0 : Nat} {O O' O2 : Nat → Prop} {bs : ByteArray} {s' s2 : RS} {cs : Array Value}
theorem PkS.next (h : PkS w wx base g O O' bs b0 o0 s' cs) (ht : TurnedP O' wx w2) (hA : RdAt w2 base g O2 bs b0 o0 s2) (ho : ∀ k, O2 k → O' k ∨ wx.heap.size ≤ k) : PkS w w2 base g O O2 bs b0 o0 s2 cs :=
  ⟨h.acc.next ht hA ho, out_next h.out ht ho, h.kd.turnedP ht (h.out _ (.inr rfl)).1, h.kr.turnedP ht (h.out _ (.inl rfl)).1, h.bw⟩
theorem PkS.later (h : PkS w wx base g O O' bs b0 o0 s' cs) (hb : Below wx.heap.size wx w2) : PkS w w2 base g O O' bs b0 o0 s' cs :=
  ⟨h.acc.later hb, OutS.below h.out hb.size, h.kd.below hb h.kd.lt, h.kr.below hb h.kr.lt, h.bw⟩
theorem PkS.set_ (h : PkS w wx base g O O' bs b0 o0 s' cs) (i : Nat) (u : Value) : PkS w (wx.setCell ⟨w.heap.size + 1, i, none⟩ u) base g O O' bs b0 o0 s' (cs.setIfInBounds i u) := by
  have htQ : TurnedP (fun k => k = w.heap.size + 1) wx (wx.setCell ⟨w.heap.size + 1, i, none⟩ u) := set_eq _ _ _ _ _ (TurnedP.refl _ _)
  have hz := size_set wx ⟨w.heap.size + 1, i, none⟩ u
  refine ⟨⟨h.acc.at_.turned htQ fun k hk => ⟨fun ho => ?_, by have := h.bw; omega⟩, h.acc.turned.setCell (fun hl => by simp at hl; omega) _, h.acc.own⟩, fun b hb => ⟨(h.out b hb).1, by rw [hz]; exact (h.out b hb).2⟩, h.kd.set_ i u, h.kr.far (by simp) _, h.bw⟩
  subst hk
  exact (h.out _ (.inr rfl)).1 ho
end
/-- The row with so many texts. -/
def rowT (l : List ByteArray) (ss : Nat → Value) (fs : Value) : Array Value := rowP (pkgOf l [] []) ss fs
theorem rowT_set (l : List ByteArray) (t : ByteArray) (hl : l.length < 4) : (rowT l nilV (.slice none 0 0)).setIfInBounds l.length (.string t) = rowT (l ++ [t]) nilV (.slice none 0 0) ∧ ∃ u, (rowT l nilV (.slice none 0 0))[l.length]? = some u := by
  match l, hl with
  | [], _ => exact ⟨rfl, _, rfl⟩
  | [a], _ => exact ⟨rfl, _, rfl⟩
  | [a, b], _ => exact ⟨rfl, _, rfl⟩
  | [a, b, c], _ => exact ⟨rfl, _, rfl⟩
theorem rowT_at (l : List ByteArray) (k : Nat) (hk : k < 4) : ∃ u, (rowT l nilV (.slice none 0 0))[k]? = some u := by
  match k, hk with
  | 0, _ => exact ⟨_, rfl⟩
  | 1, _ => exact ⟨_, rfl⟩
  | 2, _ => exact ⟨_, rfl⟩
  | 3, _ => exact ⟨_, rfl⟩
theorem rowP_ls (p : Pkg) (ss : Nat → Value) (fs : Value) (s : Value) : ∀ k, k < 7 → (rowP p ss fs).setIfInBounds (4 + k) s = rowP p (upd ss k s) fs
  | 0, _ => rfl
  | 1, _ => rfl
  | 2, _ => rfl
  | 3, _ => rfl
  | 4, _ => rfl
  | 5, _ => rfl
  | 6, _ => rfl
  | k + 7, h => by omega
def PackV (n0 : Nat) (p : Pkg) (v : Value) (w : World) (O : Nat → Prop) : Prop := ∃ ss fs S T, v = .agg (rowP p ss fs) ∧ PkgAt w S T p ss fs ∧ CleanS w S ∧ CleanT w T ∧ OutS w O S ∧ OutS w O T ∧ ∀ b, S b ∨ T b → n0 ≤ b
/-- The lists that are read so far. -/
structure LrS (w wx : World) (O' : Nat → Prop) (dl : List (List Dep)) (ss : Nat → Value) (S : Nat → Prop) : Prop where
  new : ∀ i, i < dl.length → ListAt wx S (dl.getD i []) (ss i)
  old : ∀ i, dl.length ≤ i → ss i = .slice none 0 0
  clean : CleanS wx S
  out : OutS wx O' S
  far : ∀ b, S b → w.heap.size + 1 < b
theorem LrS.next {w wx w2 : World} {O' O2 : Nat → Prop} {dl : List (List Dep)} {ss : Nat → Value} {S : Nat → Prop} (h : LrS w wx O' dl ss S) (ht : TurnedP O' wx w2) (ho : ∀ k, O2 k → O' k ∨ wx.heap.size ≤ k) : LrS w w2 O2 dl ss S :=
  ⟨fun i hi => (h.new i hi).stay (fun _ h => h) (out_stay h.out ht), h.old, h.clean.stay (out_stay h.out ht), out_next h.out ht ho, h.far⟩
theorem LrS.set_ {w wx w2 : World} {O' : Nat → Prop} {dl : List (List Dep)} {ss : Nat → Value} {S : Nat → Prop} (h : LrS w wx O' dl ss S) (ht : TurnedP (fun k => k = w.heap.size + 1) wx w2) : LrS w w2 O' dl ss S := by
  have hst : StayS S wx w2 := fun b hb hl => ht.block b hl (fun e => by have := h.far b hb; omega)
  exact ⟨fun i hi => (h.new i hi).stay (fun _ h => h) hst, h.old, h.clean.stay hst, OutS.below h.out ht.size, h.far⟩
theorem LrS.put {w wx : World} {O' : Nat → Prop} {dl : List (List Dep)} {ss : Nat → Value} {S : Nat → Prop} (h : LrS w wx O' dl ss S) {ds : List Dep} {v : Value} {n0 : Nat} (hv : DListV n0 ds v wx O') (hn : w.heap.size + 1 < n0) : ∃ S', LrS w wx O' (dl ++ [ds]) (upd ss dl.length v) S' := by
  obtain ⟨A, c, S2, rfl, hL, hC, hO, hF⟩ := hv
  refine ⟨fun b => S b ∨ S2 b, fun i hi => ?_, fun i hi => ?_, fun b hb => hb.elim (h.clean b) (hC b), fun b hb => hb.elim (h.out b) (hO b), fun b hb => hb.elim (h.far b) (fun h1 => by have := hF b h1; omega)⟩
  · by_cases he : i = dl.length
    · subst he
      have e1 : (dl ++ [ds]).getD dl.length [] = ds := by simp [List.getD]
      rw [e1]
      unfold upd
      rw [if_pos rfl]
      exact hL.stay (fun _ h => .inr h) (StayS.refl _ _)
    · have hlt : i < dl.length := by rw [List.length_append] at hi; simp at hi; omega
      have e1 : (dl ++ [ds]).getD i [] = dl.getD i [] := by simp [List.getD, List.getElem?_append_left hlt]
      rw [e1]
      unfold upd
      rw [if_neg he]
      exact (h.new i hlt).stay (fun _ h => .inl h) (StayS.refl _ _)
  · rw [List.length_append] at hi
    simp at hi
    unfold upd
    rw [if_neg (by omega)]
    exact h.old i (by omega)
theorem decDep_ok {bs : ByteArray} {s s' : RS} {d : Dep} (h : decDep bs s = some (d, s')) (ho : s.Ok bs) : s'.Ok bs := (decPart_parts bs 31 _ d s' h ⟨ho.pos, ho.sizes, ho.many, Int.le_refl _⟩).2
theorem decPkg_none1 {bs : ByteArray} {s : RS} (h : decN (decText bs) 4 s = none) : decPkg bs s = none := by unfold decPkg; rw [h]; rfl
theorem decPkg_none2 {bs : ByteArray} {s s4 : RS} {tl : List ByteArray} (h : decN (decText bs) 4 s = some (tl, s4)) (h2 : decN (decList bs (decDep bs) 16) 7 s4 = none) : decPkg bs s = none := by unfold decPkg; rw [h, Option.bind_some, h2]; rfl
theorem decPkg_last {bs : ByteArray} {s s4 s7 : RS} {tl : List ByteArray} {dl : List (List Dep)} (h : decN (decText bs) 4 s = some (tl, s4)) (h2 : decN (decList bs (decDep bs) 16) 7 s4 = some (dl, s7)) :
    decPkg bs s = (decList bs (decText bs) 16 s7).bind fun f => some (pkgOf tl dl f.1, f.2) := by unfold decPkg; rw [h, Option.bind_some, h2, Option.bind_some]
set_option maxHeartbeats 16000000 in
set_option maxRecDepth 100000 in
theorem rpack_any {base g b0 o0 : Nat} {bs : ByteArray} (hz : bs.size ≤ 1048576) (w : World) (O : Nat → Prop) (s : RS) (hA : RdAt w base g O bs b0 o0 s) :
    Calls Tryz.prog 172 #[.pointer (some ⟨g, 0, none⟩)] w (TookM w base g O bs b0 o0 (decPkg bs s) (PackV w.heap.size)) := by
  have hmf : ∀ (fn : Fn) (first cap : Array Value) (w : World), (Instr.makeFunc fn first cap).run Tryz.prog w = .ok (.func fn first cap) w := fun _ _ _ _ => rfl
  obtain ⟨w1, hw1⟩ : ∃ w1, w1 = w.alloc (.cells zrP 44) := ⟨_, rfl⟩
  obtain ⟨w2, hw2⟩ : ∃ w2, w2 = w1.alloc (.cells zrP 44) := ⟨_, rfl⟩
  have hz1 : w1.heap.size = w.heap.size + 1 := by rw [hw1]; simp
  have hb2 : Below w.heap.size w w2 := by rw [hw2, hw1]; exact ((Below.refl _ _).alloc (Nat.le_refl _) _).alloc (by simp) _
  have HS0 : Hid (PkS w w2 base g O O bs b0 o0 s (rowT [] nilV (.slice none 0 0))) := by
    refine ⟨⟨hA.below hb2, TurnedP.of_below hb2 O, fun _ h => .inl h⟩, fun b hb => ⟨fun ho => by have := (hA.O_lt ho).2; rcases hb with rfl | rfl <;> omega, ?_⟩, ?_, ?_, ?_⟩
    · rw [hw2, World.size_alloc, hz1]
      rcases hb with rfl | rfl <;> omega
    · rw [hw2]; exact Blk.new' hz1
    · rw [hw2, hw1]; exact (Blk.new _ _ _).alloc _
    · obtain ⟨A, c, vt, hS⟩ := hA
      have h1 := hS.gfar; have h2 := hS.blk.lt; omega
  have CT := Lib.hid (ctexts_any (w.heap.size + 1) w2)
  have CL := Lib.hid (clists_any (w.heap.size + 1))
  have HIT := Lib.hid (tptr_at (w.heap.size + 1))
  have HIL := Lib.hid (ptr_at (w.heap.size + 1))
  have HZ1 := Lib.hid hz1
  have HW2 := Lib.hid hw2
  have HW1 := Lib.hid hw1
  have HLt : Hid (w.heap.size + 1 < w2.heap.size) := by show _ < _; rw [hw2, World.size_alloc, hz1]; omega
  unfold ptr4 at CT HIT
  unfold ptrs at CL HIL
  unfold zrP at hw1 hw2
  clear hA hb2 hz1
  go_enter Tryz.func172, Tryz.ntmps172
  go_upto_region 1 with fail
  rw [← hw1]
  clear hw1
  go_upto_region 2 with fail
  rw [← hw2]
  try rw [HZ1.out]
  clear hw2
  go_wp2_with fail
  refine CT.out.mono ?_
  rintro e w3 ⟨rfl, hb3⟩
  have H0 : Hid (∃ O' s' l, PkS w w3 base g O O' bs b0 o0 s' (rowT l nilV (.slice none 0 0)) ∧ l.length = 0 ∧ Rest (decText bs) 4 s l s') := ⟨O, s, [], HS0.out.later hb3, rfl, Rest.start _ _ _⟩
  clear hb3 CT HS0
  go_wp2_with fail
  go_loopw [9] (fun v wx => ∃ k : Nat, k ≤ 4 ∧ v = .int .i64 (k : Int) ∧ Hid (∃ O' s' l, PkS w wx base g O O' bs b0 o0 s' (rowT l nilV (.slice none 0 0)) ∧ l.length = k ∧ Rest (decText bs) 4 s l s')) (fun v _ => 4 - (intOf v).toNat)
  case atStart => exact ⟨0, by omega, rfl, H0⟩
  case round =>
    clear H0
    obtain ⟨k, hk, rfl, HB⟩ := hrel
    obtain ⟨O', s', l, hS, hl, hR⟩ := HB.out
    by_cases hlt : k < 4
    · have hix := HIT.out k hlt
      have C := Lib.hid (rtext_any hS.acc.at_ hz)
      have HS := Lib.hid hS
      have HRr := Lib.hid hR
      have HL := Lib.hid hl
      clear HB hS hR hl
      cases hf : decText bs s' with
      | none =>
        rw [hf] at C
        have HE : Hid (decPkg bs s = none) := decPkg_none1 (HRr.out.fails (by rw [HL.out]; exact hlt) hf)
        clear hf
        go_wp2_with fail
        refine C.out.mono ?_
        rintro e wq ⟨ht, he⟩
        have HV : Hid (TookM w base g O bs b0 o0 (decPkg bs s) (PackV w.heap.size) (gaveUp 90) wq) := by rw [HE.out]; exact ⟨HS.out.acc.gone ht, rfl⟩
        obtain rfl := he
        clear ht C hix
        unfold gaveUp
        go_wp2_with fail
        exact ⟨rfl, HV.out⟩
      | some y =>
        obtain ⟨t, s2⟩ := y
        rw [hf] at C
        have HN : Hid (Rest (decText bs) 4 s (l ++ [t]) s2) := HRr.out.next (by rw [HL.out]; exact hlt) hf
        clear hf
        go_wp2_with fail
        refine C.out.mono ?_
        rintro e v2 ⟨ht, vv, rfl, hv, O2, hA2, hO2⟩
        obtain rfl := hv
        have hn := HS.out.next ht hA2 hO2
        obtain ⟨hset, -⟩ := rowT_set l t (by rw [HL.out]; exact hlt)
        obtain ⟨u, hu⟩ := rowT_at l k hlt
        have d0 := (hn.kd.cell k).trans hu
        have e0 := hn.kd.free k
        have hn2 := hn.set_ k (.string t)
        rw [← HL.out] at hn2
        rw [hset] at hn2
        rw [HL.out] at hn2
        have HX : Hid (∃ O' s' l, PkS w (v2.setCell ⟨w.heap.size + 1, k, none⟩ (.string t)) base g O O' bs b0 o0 s' (rowT l nilV (.slice none 0 0)) ∧ l.length = k + 1 ∧ Rest (decText bs) 4 s l s') := ⟨O2, s2, l ++ [t], hn2, by rw [List.length_append, HL.out]; rfl, HN.out⟩
        clear ht hA2 hO2 hn hn2 hset hu C hix
        go_wp2_with fail
        go_roundw
        case rel => exact ⟨k + 1, by omega, by go_num, HX⟩
        case measure => simp [intOf]; omega
    · obtain rfl : k = 4 := by omega
      have HTl := Lib.hid (hR.done hl)
      have HS := Lib.hid hS
      clear hlt HB hk hR hS HIT
      go_wp2_with fail
      refine (CL.out wr).mono ?_
      rintro e w4 ⟨rfl, hb4⟩
      have H0 : Hid (∃ O2 s2 dl ss S, PkS w w4 base g O O2 bs b0 o0 s2 (rowT l ss (.slice none 0 0)) ∧ dl.length = 0 ∧ Rest (decList bs (decDep bs) 16) 7 s' dl s2 ∧ LrS w w4 O2 dl ss S) :=
        ⟨O', s', [], nilV, fun _ => False, HS.out.later hb4, rfl, Rest.start _ _ _, ⟨(fun i hi => by cases hi), fun i _ => rfl, (fun b hb => hb.elim), (fun b hb => hb.elim), (fun b hb => hb.elim)⟩⟩
      have HLt4 : Hid (w.heap.size + 1 < w4.heap.size) := by have := HS.out.kd.lt; have := hb4.size; show _ < _; omega
      clear hb4 CL HS
      go_wp2_with fail
      go_loopw [18] (fun v wx => ∃ k : Nat, k ≤ 7 ∧ v = .int .i64 (k : Int) ∧ Hid (∃ O2 s2 dl ss S, PkS w wx base g O O2 bs b0 o0 s2 (rowT l ss (.slice none 0 0)) ∧ dl.length = k ∧ Rest (decList bs (decDep bs) 16) 7 s' dl s2 ∧ LrS w wx O2 dl ss S)) (fun v _ => 7 - (intOf v).toNat)
      case atStart => exact ⟨0, by omega, rfl, H0⟩
      case round =>
        clear H0
        obtain ⟨k, hk, rfl, HB⟩ := hrel
        obtain ⟨O2, s2, dl, ss, S, hS, hdl, hR, hLr⟩ := HB.out
        by_cases hlt : k < 7
        · have hix := HIL.out k hlt
          have C := Lib.hid (readDeps_any hS.acc.at_ hz 199 (enters_of Tryz.func199 (by kernel_rfl) rfl) (decDep bs) (fun _ => True) (rdep_any hz) (fun _ _ _ _ _ _ => trivial) (fun _ _ _ => trivial))
          have HS := Lib.hid hS
          have HRr := Lib.hid hR
          have HDl := Lib.hid hdl
          have HLr := Lib.hid hLr
          have HWr : Hid (w.heap.size + 1 < wr.heap.size) := hS.kd.lt
          clear HB hS hR hdl hLr
          cases hf : decList bs (decDep bs) 16 s2 with
          | none =>
            rw [hf] at C
            have HE : Hid (decPkg bs s = none) := decPkg_none2 HTl.out (HRr.out.fails (by rw [HDl.out]; exact hlt) hf)
            clear hf
            go_wp2_with fail
            refine C.out.mono ?_
            rintro e wq ⟨ht, he⟩
            have HV : Hid (TookM w base g O bs b0 o0 (decPkg bs s) (PackV w.heap.size) (gaveUp 90) wq) := by rw [HE.out]; exact ⟨HS.out.acc.gone ht, rfl⟩
            obtain rfl := he
            clear ht C hix
            unfold gaveUp
            go_wp2_with fail
            exact ⟨rfl, HV.out⟩
          | some y =>
            obtain ⟨ds, s3⟩ := y
            rw [hf] at C
            have HN : Hid (Rest (decList bs (decDep bs) 16) 7 s' (dl ++ [ds]) s3) := HRr.out.next (by rw [HDl.out]; exact hlt) hf
            clear hf
            go_wp2_with fail
            refine C.out.mono ?_
            rintro e v2 ⟨ht, vv, O3, rfl, hA2, hO2, hV⟩
            have hn := HS.out.next ht hA2 hO2
            have hLn := HLr.out.next ht hO2
            have d0 := (hn.kd.cell (4 + k)).trans (rowP_at (pkgOf l [] []) ss (.slice none 0 0) k hlt)
            rw [HLr.out.old k (by rw [HDl.out]; exact Nat.le_refl _)] at d0
            have e0 := hn.kd.free (4 + k)
            obtain ⟨Ad, cd, hvv⟩ : ∃ Ad cd, vv = .slice Ad ds.length cd := by obtain ⟨Ad, cd, _, h, _⟩ := hV; exact ⟨Ad, cd, h⟩
            subst hvv
            have hn2 := hn.set_ (4 + k) (.slice Ad ds.length cd)
            unfold rowT at hn2
            rw [rowP_ls (pkgOf l [] []) ss (.slice none 0 0) _ k hlt] at hn2
            have htq := set_eq v2 v2 (w.heap.size + 1) (4 + k) (.slice Ad ds.length cd) (TurnedP.refl _ _)
            obtain ⟨S', hLr2⟩ := (hLn.set_ htq).put (hV.stay htq HWr.out) HWr.out
            rw [HDl.out] at hLr2
            have HX : Hid (∃ O2 s2 dl ss S, PkS w (v2.setCell ⟨w.heap.size + 1, 4 + k, none⟩ (.slice Ad ds.length cd)) base g O O2 bs b0 o0 s2 (rowT l ss (.slice none 0 0)) ∧ dl.length = k + 1 ∧ Rest (decList bs (decDep bs) 16) 7 s' dl s2 ∧ LrS w (v2.setCell ⟨w.heap.size + 1, 4 + k, none⟩ (.slice Ad ds.length cd)) O2 dl ss S) := ⟨O3, s3, dl ++ [ds], _, S', hn2, by rw [List.length_append, HDl.out]; rfl, HN.out, hLr2⟩
            clear ht hA2 hO2 hn hn2 hV htq hLr2 hLn C hix
            go_wp2_with fail
            go_roundw
            case rel => exact ⟨k + 1, by omega, by go_num, HX⟩
            case measure => simp [intOf]; omega
        · obtain rfl : k = 7 := by omega
          have HDs := Lib.hid (hR.done hdl)
          have C := Lib.hid (readTexts_any hS.acc.at_ hz)
          have HS := Lib.hid hS
          have HDl := Lib.hid hdl
          have HLr := Lib.hid hLr
          have HWr : Hid (w.heap.size + 1 < wr.heap.size) := hS.kd.lt
          clear hlt HB hk hR hS hdl hLr HIL
          have HP := Lib.hid (decPkg_last HTl.out HDs.out)
          cases hf : decList bs (decText bs) 16 s2 with
          | none =>
            rw [hf] at C HP
            go_wp2_with fail
            refine C.out.mono ?_
            rintro e wq ⟨ht, he⟩
            have HV : Hid (TookM w base g O bs b0 o0 (decPkg bs s) (PackV w.heap.size) (gaveUp 90) wq) := by rw [HP.out]; exact ⟨HS.out.acc.gone ht, rfl⟩
            obtain rfl := he
            clear ht C
            unfold gaveUp
            go_wp2_with fail
            exact ⟨rfl, HV.out⟩
          | some y =>
            obtain ⟨fl, s3⟩ := y
            rw [hf] at C HP
            go_wp2_with fail
            refine C.out.mono ?_
            rintro e v2 ⟨ht, vv, O3, rfl, hA2, hO2, A2, c2, T, rfl, hFl, hCT, hOT, hFT⟩
            have hn := HS.out.next ht hA2 hO2
            have hLn := HLr.out.next ht hO2
            have d0 := hn.kd.cell 11
            have e0 := hn.kd.free 11
            unfold rowT rowP at d0
            simp at d0
            have hn2 := hn.set_ 11 (.slice A2 fl.length c2)
            have htq := set_eq v2 v2 (w.heap.size + 1) 11 (.slice A2 fl.length c2) (TurnedP.refl _ _)
            have hLr2 := hLn.set_ htq
            obtain ⟨v3, hv3⟩ : ∃ v3, v3 = v2.setCell ⟨w.heap.size + 1, 11, none⟩ (.slice A2 fl.length c2) := ⟨_, rfl⟩
            rw [← hv3] at hn2 hLr2 htq
            have hstT : StayS T v2 v3 := fun b hb hl => htq.block b hl (fun e => by have := hFT b hb; have := HWr.out; omega)
            have hLi : ∀ i, i < 7 → ListAt v3 S (dl.getD i []) (ss i) := fun i hi => hLr2.new i (by rw [HDl.out]; exact hi)
            obtain ⟨C0, n0, t0, -⟩ := hLi 0 (by omega)
            obtain ⟨C1, n1, t1, -⟩ := hLi 1 (by omega)
            obtain ⟨C2, n2, t2, -⟩ := hLi 2 (by omega)
            obtain ⟨C3, n3, t3, -⟩ := hLi 3 (by omega)
            obtain ⟨C4, n4, t4, -⟩ := hLi 4 (by omega)
            obtain ⟨C5, n5, t5, -⟩ := hLi 5 (by omega)
            obtain ⟨C6, n6, t6, -⟩ := hLi 6 (by omega)
            have hrow : (rowT l ss (.slice none 0 0)).setIfInBounds 11 (.slice A2 fl.length c2) = rowP (pkgOf l dl fl) ss (.slice A2 fl.length c2) := rfl
            rw [hrow] at hn2
            have HV : Hid (TookM w base g O bs b0 o0 (decPkg bs s) (PackV w.heap.size) (.returned (.agg (rowP (pkgOf l dl fl) ss (.slice A2 fl.length c2)))) (put12 v3 w.heap.size (.string (pkgOf l dl fl).name) (.string (pkgOf l dl fl).evr) (.string (pkgOf l dl fl).arch) (.string (pkgOf l dl fl).vendor) (ss 0) (ss 1) (ss 2) (ss 3) (ss 4) (ss 5) (ss 6) (.slice A2 fl.length c2))) := by
              have htp := TurnedP.of (put12_turned v3 w.heap.size (.string (pkgOf l dl fl).name) (.string (pkgOf l dl fl).evr) (.string (pkgOf l dl fl).arch) (.string (pkgOf l dl fl).vendor) (ss 0) (ss 1) (ss 2) (ss 3) (ss 4) (ss 5) (ss 6) (.slice A2 fl.length c2)) (O := fun k => k = w.heap.size) (fun k _ hk => by simpa using hk)
              have hzp := htp.size
              have hzv : v2.heap.size = v3.heap.size := by rw [hv3, size_set]
              have hs1 : StayS S v3 (put12 v3 w.heap.size (.string (pkgOf l dl fl).name) (.string (pkgOf l dl fl).evr) (.string (pkgOf l dl fl).arch) (.string (pkgOf l dl fl).vendor) (ss 0) (ss 1) (ss 2) (ss 3) (ss 4) (ss 5) (ss 6) (.slice A2 fl.length c2)) := fun b hb hl => htp.block b hl (fun e => by have := hLr2.far b hb; omega)
              have hs2 : StayS T v3 (put12 v3 w.heap.size (.string (pkgOf l dl fl).name) (.string (pkgOf l dl fl).evr) (.string (pkgOf l dl fl).arch) (.string (pkgOf l dl fl).vendor) (ss 0) (ss 1) (ss 2) (ss 3) (ss 4) (ss 5) (ss 6) (.slice A2 fl.length c2)) := fun b hb hl => htp.block b hl (fun e => by have := hFT b hb; have := HWr.out; omega)
              have hno : ¬ O3 w.heap.size := (hn2.out _ (.inl rfl)).1
              have hbw := hn2.bw
              rw [HP.out]
              refine ⟨hn2.acc.turned.trans htp fun j hj hjq => by omega, _, O3, rfl, hn2.acc.at_.turned htp (fun j hj => by subst hj; exact ⟨hno, hbw⟩), hn2.acc.own, ss, _, S, T, rfl, ⟨fun i hi => (hLi i hi).stay (fun _ h => h) hs1, (hFl.stay (fun _ h => h) hstT).stay (fun _ h => h) hs2⟩, hLr2.clean.stay hs1, (hCT.stay hstT).stay hs2, fun b hb => ⟨(hLr2.out b hb).1, by have := (hLr2.out b hb).2; omega⟩, fun b hb => ⟨(hOT b hb).1, by have := (hOT b hb).2; omega⟩, fun b hb => ?_⟩
              rcases hb with hb | hb
              · have := hLr2.far b hb; omega
              · have := hFT b hb; have := HWr.out; omega
            have hkr := hn2.kr
            unfold zrP at hkr
            have HLd : Hid _ := load12 (put12_blk hkr (.string (pkgOf l dl fl).name) (.string (pkgOf l dl fl).evr) (.string (pkgOf l dl fl).arch) (.string (pkgOf l dl fl).vendor) (ss 0) (ss 1) (ss 2) (ss 3) (ss 4) (ss 5) (ss 6) (.slice A2 fl.length c2))
            unfold rowP at HV
            rw [t0, t1, t2, t3, t4, t5, t6] at HV HLd
            have hkd := hn2.kd
            unfold rowP at hkd
            rw [t0, t1, t2, t3, t4, t5, t6] at hkd
            have k0 := hkd.cell 0
            have k1 := hkd.cell 1
            have k2 := hkd.cell 2
            have k3 := hkd.cell 3
            have k4 := hkd.cell 4
            have k5 := hkd.cell 5
            have k6 := hkd.cell 6
            have k7 := hkd.cell 7
            have k8 := hkd.cell 8
            have k9 := hkd.cell 9
            have k10 := hkd.cell 10
            have k11 := hkd.cell 11
            have r0 := hkr.cell 0
            have r1 := hkr.cell 1
            have r2 := hkr.cell 2
            have r3 := hkr.cell 3
            have r4 := hkr.cell 4
            have r5 := hkr.cell 5
            have r6 := hkr.cell 6
            have r7 := hkr.cell 7
            have r8 := hkr.cell 8
            have r9 := hkr.cell 9
            have r10 := hkr.cell 10
            have r11 := hkr.cell 11
            have q0 := hkr.free 0
            have q1 := hkr.free 1
            have q2 := hkr.free 2
            have q3 := hkr.free 3
            have q4 := hkr.free 4
            have q5 := hkr.free 5
            have q6 := hkr.free 6
            have q7 := hkr.free 7
            have q8 := hkr.free 8
            have q9 := hkr.free 9
            have q10 := hkr.free 10
            have q11 := hkr.free 11
            simp at k0 k1 k2 k3 k4 k5 k6 k7 k8 k9 k10 k11 r0 r1 r2 r3 r4 r5 r6 r7 r8 r9 r10 r11
            have HV3 := Lib.hid hv3
            unfold put12 at HV HLd
            clear ht hA2 hO2 hFl hCT hOT hFT hn hLn hn2 htq hLr2 hstT hLi t0 t1 t2 t3 t4 t5 t6 hrow hkr hkd C hv3
            go_upto_region 13 with fail
            rw [← HV3.out]
            clear d0 e0 HV3
            go_wp2_with fail
            refine bodyPost_ret (v := _) ?_ rfl HV.out
            refine (results_cell rfl _ (ad := ⟨w.heap.size, 0, none⟩) rfl).trans ?_
            exact HLd.out
end Go.Proofs.YtpmfmkpfjomgnaaGreatDoor

/- A writer's repositories. -/
namespace Go.Proofs.YtpmfmkpfjomgnaaGreatDoor
set_option linter.unusedSimpArgs false
set_option linter.unusedVariables false
open Go.RowKit

theorem foldl_map_pkg (l : List PkE) (s : WS) : (l.map PkE.p).foldl WS.pkg s = l.foldl (fun s e => s.pkg e.p) s := by rw [List.foldl_map]
def stE (s : WS) (e : PkE) : WS := s.pkg e.p
theorem StepW.stE : StepW stE := StepW.pkg.comp PkE.p
set_option maxHeartbeats 4000000 in
set_option maxRecDepth 100000 in
theorem writePacks_any {w : World} {base g : Nat} {O : Nat → Prop} {s : WS} (h : WrAt w base g O s) (hf : s.Few) (ds : List PkE) (A : Option Addr) (c : Nat) (S T U : Nat → Prop)
    (hA : PacksAt w S T U ds A) (hl : ds.length ≤ c) (hc : c ≤ maxLen) (hO : OutS w O (fun b => (S b ∨ T b) ∨ U b)) (hsm : ∀ e ∈ ds, PkgSmall e.p) (hm : (WS.list stE s ds).out.length ≤ mostB) :
    Calls Tryz.prog 120 #[.pointer (some ⟨g, 0, none⟩), .slice A ds.length c, .func (.func 121) #[.pointer (some ⟨g, 0, none⟩)] #[]] w (Wrote w base g O (WS.list stE s ds)) := by
  unfold maxLen at hc
  have hst := StepW.stE
  have ef := enters_of Tryz.func121 (by kernel_rfl) rfl
  have CN := Lib.hid (wnum_any h (ds.length : Int) (Nat.le_trans (hst.fold ds _).1 hm))
  have HA := Lib.hid (And.intro hA (And.intro hO (And.intro hsm hm)))
  have HST := Lib.hid hst
  have HF := Lib.hid hf
  clear h hA hO hm hst hf hsm
  go_enter Tryz.func120, Tryz.ntmps120
  go_wp2_with fail
  refine CN.out.mono ?_
  rintro e w1 ⟨rfl, O1, hA1, hT1, hO1⟩
  have H0 : Hid (∃ O' s', LSt stE w w1 base g O s ds 0 O' s') := ⟨O1, _, hA1, rfl, HF.out.num _, hT1, hO1⟩
  clear hA1 hT1 hO1 CN
  go_wp2_with fail
  go_loopw [14] (fun v wx => ∃ k : Nat, k ≤ ds.length ∧ v = .int .i64 (k : Int) ∧ Hid (∃ O' s', LSt stE w wx base g O s ds k O' s')) (fun v _ => ds.length - (intOf v).toNat)
  case atStart => exact ⟨0, Nat.zero_le _, rfl, H0⟩
  case round =>
    clear H0
    obtain ⟨k, hk, rfl, HB⟩ := hrel
    by_cases hlt : k < ds.length
    · obtain ⟨e, he⟩ : ∃ e, ds[k]? = some e := ⟨_, List.getElem?_eq_getElem hlt⟩
      obtain ⟨O', s', hL⟩ := HB.out
      have hst := hL.stay HA.out.2.1
      have hAr := HA.out.1.stay (fun b hb hl => hst b (.inl (.inl hb)) hl) (fun b hb hl => hst b (.inl (.inr hb)) hl) (fun b hb hl => hst b (.inr hb) hl)
      obtain ⟨b, o, rfl, hU, hcs, hP⟩ := hAr k e he
      have hba : Below wr.heap.size wr (wr.alloc (.cells (rowP e.p e.ss e.fs) 44)) := (Below.refl _ _).alloc (Nat.le_refl _) _
      have hL2 := hL.later hba
      have hO2 := hL2.out HA.out.2.1
      have CF := Lib.hid (wpack_any w base g S T e.p (HA.out.2.2.1 e (List.mem_of_getElem? he)) (wr.alloc (.cells (rowP e.p e.ss e.fs) 44)) O' s' e.ss e.fs (by have := hL2.turned.size; exact this) hL2.at_ hL2.few (fun b hb => hO2 b (.inl (.inl hb))) (fun b hb => hO2 b (.inl (.inr hb))) (hP.below hba) (hL2.most HST.out he HA.out.2.2.2))
      have HL2 := Lib.hid hL2
      have HD := Lib.hid he
      obtain ⟨B0, m0, s0, -⟩ := hP.lists 0 (by omega)
      obtain ⟨B1, m1, s1, -⟩ := hP.lists 1 (by omega)
      obtain ⟨B2, m2, s2, -⟩ := hP.lists 2 (by omega)
      obtain ⟨B3, m3, s3, -⟩ := hP.lists 3 (by omega)
      obtain ⟨B4, m4, s4, -⟩ := hP.lists 4 (by omega)
      obtain ⟨B5, m5, s5, -⟩ := hP.lists 5 (by omega)
      obtain ⟨B6, m6, s6, -⟩ := hP.lists 6 (by omega)
      obtain ⟨B7, m7, s7, -⟩ := hP.files
      have q0 : wr.cell? ⟨b, o + k * 12, none⟩ = some (.string e.p.name) := hcs 0 (by omega)
      have q1 : wr.cell? ⟨b, o + k * 12 + 1, none⟩ = some (.string e.p.evr) := hcs 1 (by omega)
      have q2 : wr.cell? ⟨b, o + k * 12 + 2, none⟩ = some (.string e.p.arch) := hcs 2 (by omega)
      have q3 : wr.cell? ⟨b, o + k * 12 + 3, none⟩ = some (.string e.p.vendor) := hcs 3 (by omega)
      have q4 : wr.cell? ⟨b, o + k * 12 + 4, none⟩ = some (e.ss 0) := hcs 4 (by omega)
      have q5 : wr.cell? ⟨b, o + k * 12 + 5, none⟩ = some (e.ss 1) := hcs 5 (by omega)
      have q6 : wr.cell? ⟨b, o + k * 12 + 6, none⟩ = some (e.ss 2) := hcs 6 (by omega)
      have q7 : wr.cell? ⟨b, o + k * 12 + 7, none⟩ = some (e.ss 3) := hcs 7 (by omega)
      have q8 : wr.cell? ⟨b, o + k * 12 + 8, none⟩ = some (e.ss 4) := hcs 8 (by omega)
      have q9 : wr.cell? ⟨b, o + k * 12 + 9, none⟩ = some (e.ss 5) := hcs 9 (by omega)
      have q10 : wr.cell? ⟨b, o + k * 12 + 10, none⟩ = some (e.ss 6) := hcs 10 (by omega)
      have q11 : wr.cell? ⟨b, o + k * 12 + 11, none⟩ = some (e.fs) := hcs 11 (by omega)
      unfold rowP at CF HL2
      rw [s0, s1, s2, s3, s4, s5, s6, s7] at CF HL2
      rw [s0] at q4
      rw [s1] at q5
      rw [s2] at q6
      rw [s3] at q7
      rw [s4] at q8
      rw [s5] at q9
      rw [s6] at q10
      rw [s7] at q11
      clear hAr hba hL hL2 he HB hU hst hcs hP hO2 s0 s1 s2 s3 s4 s5 s6 s7
      go_wp2_with fail
      refine CF.out.mono ?_
      intro e2 w2 hw
      obtain ⟨O2, hN⟩ := HL2.out.next HST.out HD.out hw
      have HN : Hid (∃ O' s', LSt stE w w2 base g O s ds (k + 1) O' s') := ⟨_, _, hN⟩
      obtain ⟨rfl, -⟩ := hw
      clear hN CF HL2 HD q0 q1 q2 q3 q4 q5 q6 q7 q8 q9 q10 q11
      go_wp2_with fail
      go_roundw
      case rel => exact ⟨k + 1, by omega, by go_num, HN⟩
      case measure => simp [intOf]; omega
    · obtain rfl : k = ds.length := by omega
      have HV : Hid (Wrote w base g O (WS.list stE s ds) (.returned (.tuple #[])) wr) := by
        obtain ⟨O', s', hL⟩ := HB.out
        exact hL.done rfl
      clear hlt HB
      go_wp2_with fail
      go_end0
      exact HV.out
def bI (b : Bool) : Int := if b then 1 else 0
def stR (s : WS) (r : RepE) : WS := WS.list stE (((s.text r.rep.name).num r.rep.prio).num (bI r.rep.inst)) r.ps
theorem StepW.stR : StepW stR :=
  ⟨fun s r => Nat.le_trans (Nat.le_trans (Nat.le_trans (WS.text_out s r.rep.name) (num_more _ _)) (num_more _ _)) (StepW.stE.list.more _ _), fun s r h => StepW.stE.list.few _ _ (((h.text _).num _).num _)⟩
def rowRe (r : Rep) (v : Value) : Array Value := #[.string r.name, .int .i64 r.prio, .bool r.inst, v]
set_option maxHeartbeats 4000000 in
set_option maxRecDepth 100000 in
theorem wrepo_any {w' : World} {base g : Nat} {O' : Nat → Prop} {s' : WS} (hAt : WrAt w' base g O' s') (hFew : s'.Few) (r : RepE) (A : Option Addr) (c : Nat) (S T U : Nat → Prop) (hA : PacksAt w' S T U r.ps A) (hl : r.ps.length ≤ c) (hc : c ≤ maxLen)
    (hO : OutS w' O' (fun b => (S b ∨ T b) ∨ U b)) (hsm : ∀ e ∈ r.ps, PkgSmall e.p) (hnm : r.rep.name.size ≤ maxLen) (hm : (stR s' r).out.length ≤ mostB) :
    Calls Tryz.prog 71 #[.pointer (some ⟨g, 0, none⟩), .agg (rowRe r.rep (.slice A r.ps.length c))] w' (Wrote w' base g O' (stR s' r)) := by
  obtain ⟨w1, hw1⟩ : ∃ w1, w1 = w'.alloc (.cells (rowRe r.rep (.slice A r.ps.length c)) 33) := ⟨_, rfl⟩
  have hb1 : Below w'.heap.size w' w1 := by rw [hw1]; exact (Below.refl _ _).alloc (Nat.le_refl _) _
  have K1 : Blk w1 w'.heap.size 33 (rowRe r.rep (.slice A r.ps.length c)) := by rw [hw1]; exact Blk.new _ _ _
  have hO1 : OutS w1 O' (fun j => ((S j ∨ T j) ∨ U j) ∨ j = w'.heap.size) := (hO.below hb1.size).and ⟨fun ho => by have := (hAt.O_lt ho).2; omega, K1.lt⟩
  have hW1 : Wacc w1 w1 base g O' O' s' := Wacc.start (hAt.below hb1) hFew
  unfold stR at hm ⊢
  obtain ⟨s1, hs1⟩ : ∃ s1, s1 = s'.text r.rep.name := ⟨_, rfl⟩
  obtain ⟨s2, hs2⟩ : ∃ s2, s2 = s1.num r.rep.prio := ⟨_, rfl⟩
  obtain ⟨s3, hs3⟩ : ∃ s3, s3 = s2.num (bI r.rep.inst) := ⟨_, rfl⟩
  rw [← hs1, ← hs2, ← hs3] at hm ⊢
  have f1 : s1.Few := by rw [hs1]; exact hFew.text _
  have f2 : s2.Few := by rw [hs2]; exact f1.num _
  have f3 : s3.Few := by rw [hs3]; exact f2.num _
  have m3 : s3.out.length ≤ mostB := Nat.le_trans (StepW.stE.list.more s3 r.ps) hm
  have m2 : s2.out.length ≤ mostB := Nat.le_trans (by rw [hs3]; exact num_more _ _) m3
  have m1 : s1.out.length ≤ mostB := Nat.le_trans (by rw [hs2]; exact num_more _ _) m2
  have HB1 := Lib.hid hb1
  have HR : Hid (∀ (wx : World) (O2 : Nat → Prop) (sx : WS), Wacc w1 wx base g O' O2 sx → Blk wx w'.heap.size 33 (rowRe r.rep (.slice A r.ps.length c)) ∧ PacksAt wx S T U r.ps A ∧ OutS wx O2 (fun b => (S b ∨ T b) ∨ U b)) := fun wx O2 sx ha => by
    have hst := ha.stay hO1
    exact ⟨(hst _ (.inr rfl) K1.lt).trans K1, (hA.below hb1).stay (fun b hb hl => hst b (.inl (.inl (.inl hb))) hl) (fun b hb hl => hst b (.inl (.inl (.inr hb))) hl) (fun b hb hl => hst b (.inl (.inr hb)) hl), fun b hb => ha.out hO1 b (.inl hb)⟩
  have C1 := Lib.hid (wtext_any hW1.at_ r.rep.name hnm hFew (by rw [← hs1]; exact m1))
  rw [← hs1] at C1
  have HW1 := Lib.hid hW1
  have HX := Lib.hid (And.intro f1 (And.intro f2 (And.intro f3 (And.intro m2 (And.intro m3 hm)))))
  have HS := Lib.hid (And.intro hs2 hs3)
  have HC := Lib.hid (And.intro hl (And.intro hc hsm))
  have k0 := K1.cell 0
  have k1 := K1.cell 1
  have k2 := K1.cell 2
  have k3 := K1.cell 3
  unfold rowRe at k0 k1 k2 k3 hw1
  simp at k0 k1 k2 k3
  clear hb1 K1 hO1 hW1 hm f1 f2 f3 m1 m2 m3 hl hc hA hO hAt hFew hs1 hs2 hs3 hsm
  unfold rowRe
  go_enter Tryz.func71, Tryz.ntmps71
  go_upto_region 1 with fail
  rw [← hw1]
  clear hw1
  go_wp2_with fail
  refine C1.out.mono ?_
  intro e w2 hw
  obtain ⟨O2, hW2⟩ := HW1.out.next HX.out.1 hw
  obtain ⟨rfl, -⟩ := hw
  obtain ⟨K2, -, -⟩ := HR.out _ _ _ hW2
  have C2 := Lib.hid (wnum_any hW2.at_ r.rep.prio (by rw [← HS.out.1]; exact HX.out.2.2.2.1))
  rw [← HS.out.1] at C2
  have HW2 := Lib.hid hW2
  clear C1 hW2 k0 k1 k2 k3 HW1
  have k0 := K2.cell 0
  have k1 := K2.cell 1
  have k2 := K2.cell 2
  have k3 := K2.cell 3
  unfold rowRe at k0 k1 k2 k3
  simp at k0 k1 k2 k3
  clear K2
  go_wp2_with fail
  refine C2.out.mono ?_
  intro e w3 hw
  obtain ⟨O3, hW3⟩ := HW2.out.next HX.out.2.1 hw
  obtain ⟨rfl, -⟩ := hw
  obtain ⟨K3, -, -⟩ := HR.out _ _ _ hW3
  have C3 := Lib.hid (wtruth_any hW3.at_ r.rep.inst (show (s2.num (bI r.rep.inst)).out.length ≤ mostB by rw [← HS.out.2]; exact HX.out.2.2.2.2.1))
  rw [show s2.num (if r.rep.inst = true then 1 else 0) = s3 from HS.out.2.symm] at C3
  have HW3 := Lib.hid hW3
  clear C2 hW3 k0 k1 k2 k3 HW2
  have k0 := K3.cell 0
  have k1 := K3.cell 1
  have k2 := K3.cell 2
  have k3 := K3.cell 3
  unfold rowRe at k0 k1 k2 k3
  simp at k0 k1 k2 k3
  clear K3
  go_wp2_with fail
  refine C3.out.mono ?_
  intro e w4 hw
  obtain ⟨O4, hW4⟩ := HW3.out.next HX.out.2.2.1 hw
  obtain ⟨rfl, -⟩ := hw
  obtain ⟨K4, hA4, hS4⟩ := HR.out _ _ _ hW4
  have C4 := Lib.hid (writePacks_any hW4.at_ hW4.few r.ps A c S T U hA4 HC.out.1 HC.out.2.1 hS4 HC.out.2.2 HX.out.2.2.2.2.2)
  have HW4 := Lib.hid hW4
  clear C3 hW4 k0 k1 k2 k3 HW3 hA4 hS4
  have k0 := K4.cell 0
  have k1 := K4.cell 1
  have k2 := K4.cell 2
  have k3 := K4.cell 3
  unfold rowRe at k0 k1 k2 k3
  simp at k0 k1 k2 k3
  clear K4
  go_wp2_with fail
  refine C4.out.mono ?_
  intro e w5 hw
  obtain ⟨O5, hW5⟩ := HW4.out.next (StepW.stE.list.few _ _ HW4.out.few) hw
  obtain ⟨rfl, -⟩ := hw
  have HV := Lib.hid (hW5.done HB1.out)
  clear C4 hW5 k0 k1 k2 k3 HW4
  go_wp2_with fail
  go_end0
  exact HV.out
/-- The blocks that repositories stand in. -/
def AllB (V S T U : Nat → Prop) (b : Nat) : Prop := ((S b ∨ T b) ∨ U b) ∨ V b
set_option maxHeartbeats 4000000 in
set_option maxRecDepth 100000 in
theorem writeRepos_any {w : World} {base g : Nat} {O : Nat → Prop} {s : WS} (h : WrAt w base g O s) (hf : s.Few) (ds : List RepE) (A : Option Addr) (c : Nat) (V S T U : Nat → Prop)
    (hA : ReposAt w V S T U ds A) (hl : ds.length ≤ c) (hc : c ≤ maxLen) (hO : OutS w O (AllB V S T U)) (hsm : ∀ r ∈ ds, r.rep.name.size ≤ maxLen ∧ ∀ e ∈ r.ps, PkgSmall e.p) (hm : (WS.list stR s ds).out.length ≤ mostB) :
    Calls Tryz.prog 69 #[.pointer (some ⟨g, 0, none⟩), .slice A ds.length c, .func (.func 71) #[.pointer (some ⟨g, 0, none⟩)] #[]] w (Wrote w base g O (WS.list stR s ds)) := by
  unfold maxLen at hc
  have hst := StepW.stR
  have ef := enters_of Tryz.func71 (by kernel_rfl) rfl
  have CN := Lib.hid (wnum_any h (ds.length : Int) (Nat.le_trans (hst.fold ds _).1 hm))
  have HA := Lib.hid (And.intro hA (And.intro hO (And.intro hsm hm)))
  have HST := Lib.hid hst
  have HF := Lib.hid hf
  clear h hA hO hm hst hf hsm
  go_enter Tryz.func69, Tryz.ntmps69
  go_wp2_with fail
  refine CN.out.mono ?_
  rintro e w1 ⟨rfl, O1, hA1, hT1, hO1⟩
  have H0 : Hid (∃ O' s', LSt stR w w1 base g O s ds 0 O' s') := ⟨O1, _, hA1, rfl, HF.out.num _, hT1, hO1⟩
  clear hA1 hT1 hO1 CN
  go_wp2_with fail
  go_loopw [14] (fun v wx => ∃ k : Nat, k ≤ ds.length ∧ v = .int .i64 (k : Int) ∧ Hid (∃ O' s', LSt stR w wx base g O s ds k O' s')) (fun v _ => ds.length - (intOf v).toNat)
  case atStart => exact ⟨0, Nat.zero_le _, rfl, H0⟩
  case round =>
    clear H0
    obtain ⟨k, hk, rfl, HB⟩ := hrel
    by_cases hlt : k < ds.length
    · obtain ⟨r, hr⟩ : ∃ r, ds[k]? = some r := ⟨_, List.getElem?_eq_getElem hlt⟩
      obtain ⟨O', s', hL⟩ := HB.out
      have hst := hL.stay HA.out.2.1
      obtain ⟨b, o, Ap, cp, rfl, hV, z0, z1, z2, z3, hp1, hp2, hPk⟩ := HA.out.1 k r hr
      have hbl := hst b (.inr hV) (cell_lt z0)
      have q0 := (World.cell?_of_block hbl).trans z0
      have q1 := (World.cell?_of_block hbl).trans z1
      have q2 := (World.cell?_of_block hbl).trans z2
      have q3 := (World.cell?_of_block hbl).trans z3
      have hba : Below wr.heap.size wr (wr.alloc (.cells (rowRe r.rep (.slice Ap r.ps.length cp)) 33)) := (Below.refl _ _).alloc (Nat.le_refl _) _
      have hL2 := hL.later hba
      have hO2 := hL2.out HA.out.2.1
      have hPr := (hPk.stay (fun b hb hl => hst b (.inl (.inl (.inl hb))) hl) (fun b hb hl => hst b (.inl (.inl (.inr hb))) hl) (fun b hb hl => hst b (.inl (.inr hb)) hl)).below hba
      have CF := Lib.hid (wrepo_any hL2.at_ hL2.few r Ap cp S T U hPr hp1 hp2 (fun b hb => hO2 b (.inl hb)) (HA.out.2.2.1 r (List.mem_of_getElem? hr)).2 (HA.out.2.2.1 r (List.mem_of_getElem? hr)).1 (hL2.most HST.out hr HA.out.2.2.2))
      have HL2 := Lib.hid hL2
      have HD := Lib.hid hr
      unfold rowRe at CF HL2
      clear hba hL hL2 hr HB hV hst hPk hPr hO2 z0 z1 z2 z3 hp1 hp2 hbl
      go_wp2_with fail
      refine CF.out.mono ?_
      intro e2 w2 hw
      obtain ⟨O2, hN⟩ := HL2.out.next HST.out HD.out hw
      have HN : Hid (∃ O' s', LSt stR w w2 base g O s ds (k + 1) O' s') := ⟨_, _, hN⟩
      obtain ⟨rfl, -⟩ := hw
      clear hN CF HL2 HD q0 q1 q2 q3
      go_wp2_with fail
      go_roundw
      case rel => exact ⟨k + 1, by omega, by go_num, HN⟩
      case measure => simp [intOf]; omega
    · obtain rfl : k = ds.length := by omega
      have HV : Hid (Wrote w base g O (WS.list stR s ds) (.returned (.tuple #[])) wr) := by
        obtain ⟨O', s', hL⟩ := HB.out
        exact hL.done rfl
      clear hlt HB
      go_wp2_with fail
      go_end0
      exact HV.out
end Go.Proofs.YtpmfmkpfjomgnaaGreatDoor
