/- Whether a dependency may be: check, Check. -/
import Derived.Test.YtciogfpejenedaaGreatDoorDMany
namespace Go.Proofs.YtciogfpejenedaaGreatDoor
set_option linter.unusedSimpArgs false
set_option linter.unusedVariables false
open Go.RowKit

def Looked (d : Dep) (w0 : World) (e : Ending) (w' : World) : Prop := Below w0.heap.size w0 w' ∧ ((mayPart d = true ∧ e = .returned (.tuple #[])) ∨ (mayPart d = false ∧ e = gaveUp 50))
set_option maxHeartbeats 1000000 in
set_option maxRecDepth 100000 in
theorem look_any (d : Dep) (s : Value) (S : Nat → Prop) (w0 : World) (hL : Lay w0 S d s) (hT : Tabs w0) :
    Calls Tryz.prog 69 #[.agg (rowD d s)] w0 (Looked d w0) := by
  obtain ⟨A, c, rfl, _, _⟩ := hL.form_
  have HB : Hid (Below w0.heap.size w0 (w0.alloc (.cells (rowD d (.slice A d.args.length c)) 47))) := (Below.refl _ _).alloc (Nat.le_refl _) _
  have C := Lib.hid (part_any d (.slice A d.args.length c) S _ (hL.stay (fun _ h => h) (StayS.below' HB.out)) (hT.below HB.out hT.two))
  have CY := Lib.hid must_yes
  have CN := Lib.hid must_no
  unfold rowD at HB C ⊢
  clear hL hT
  go_enter Tryz.func69, Tryz.ntmps69
  go_wp2_with fail
  refine C.out.mono ?_
  rintro e w1 ⟨rfl, hb1⟩
  have HB1 : Hid (Below w0.heap.size w0 w1) := HB.out.trans (hb1.mono (by simp))
  clear hb1 HB C
  cases hm : mayPart d with
  | true =>
    go_wp2_with fail
    refine (CY.out _).mono ?_
    rintro e w2 ⟨rfl, rfl⟩
    go_wp2_with fail
    go_end0
    exact ⟨HB1.out, .inl ⟨hm, rfl⟩⟩
  | false =>
    go_wp2_with fail
    refine (CN.out _).mono ?_
    rintro e w2 ⟨rfl, rfl⟩
    have HP : Hid (Looked d w0 (gaveUp 50) w1) := ⟨HB1.out, .inr ⟨hm, rfl⟩⟩
    clear hm
    unfold gaveUp
    go_wp2_with fail
    exact ⟨rfl, HP.out⟩

theorem looks (d : Dep) (N : Nat) : Sees 69 #[] d N (fun _ F _ => F = []) (fun a => !mayPart a) where
  enters := enters_of Tryz.func69 (by kernel_rfl) rfl
  stab := fun l F w w' G h _ _ => h
  call := fun S l F w a t hF hL _ _ _ hT => by
    subst hF
    refine (look_any a t S w hL hT).mono ?_
    rintro e w' ⟨hb, h⟩
    refine ⟨[], Turned.of_below hb [], fun k hk => (by cases hk), fun k hk => (by cases hk), ?_⟩
    rcases h with ⟨h1, rfl⟩ | ⟨h1, rfl⟩
    · exact .inl ⟨by simp [h1], rfl, rfl⟩
    · exact .inr ⟨by simp [h1], rfl⟩

/-- What a check does. -/
def Checked1 (d : Dep) (w0 : World) (e : Ending) (w' : World) : Prop := Below w0.heap.size w0 w' ∧ ((checkN d = 0 ∧ e = .returned (.tuple #[])) ∨ (checkN d ≠ 0 ∧ e = gaveUp (checkN d)))
theorem check_deep {d : Dep} (hf : form d = true) : checkN d = if 16 < leaves d then 51 else 0 := by unfold checkN; rw [if_pos hf]
set_option maxHeartbeats 1000000 in
set_option maxRecDepth 100000 in
theorem check_any (d : Dep) (s : Value) (S : Nat → Prop) (w0 : World) (hL : Lay w0 S d s) (hC : CleanS w0 S) (hT : Tabs w0) (hN : nodes d ≤ 4194304) :
    Calls Tryz.prog 45 #[.agg (rowD d s)] w0 (Checked1 d w0) := by
  obtain ⟨A, c, rfl, _, _⟩ := hL.form_
  have HB : Hid (Below w0.heap.size w0 (w0.alloc (.cells (rowD d (.slice A d.args.length c)) 47))) := (Below.refl _ _).alloc (Nat.le_refl _) _
  have hSlt : ∀ b, S b → b < w0.heap.size := fun b hb => by obtain ⟨cs, hc⟩ := hC b hb; exact hc.lt
  have hst := StayS.below' (S := S) HB.out
  have CE := Lib.hid (each_any d (.slice A d.args.length c) S _ [] _ _ _ _ _ (looks d (nodes d)) (hL.stay (fun _ h => h) hst) (hC.stay hst) rfl (fun k hk => (by cases hk)) (hT.below HB.out hT.two) (Nat.le_refl _) hN)
  have CM := Lib.hid (fun (hf : form d = true) w (hw : Below w0.heap.size w0 w) => many_any d (.slice A d.args.length c) S w (hL.stay (fun _ h => h) (StayS.below' hw)) (fun b hb => Nat.lt_of_lt_of_le (hSlt b hb) hw.size) hf hN)
  have K := Lib.hid (Blk.new w0 47 (rowD d (.slice A d.args.length c)))
  have HP := Lib.hid (form_parts d)
  unfold rowD at HB CE CM K ⊢
  clear hL hT hC hst hSlt
  go_enter Tryz.func45, Tryz.ntmps45
  go_wp2_with fail
  refine CE.out.mono ?_
  rintro e w1 ⟨F', ht, _, _, h⟩
  have hb1 : Below w0.heap.size w0 w1 := HB.out.trans (ht.of_nil.mono (by simp))
  have K1 := K.out.below ht.of_nil (by simp)
  have k0 := K1.cell 0
  have k1 := K1.cell 1
  have k2 := K1.cell 2
  have k3 := K1.cell 3
  have k4 := K1.cell 4
  rcases h with ⟨rfl, l, _, h1, h2⟩ | ⟨rfl, a, ha, hbad⟩
  · have hf : form d = true := HP.out.2 fun x hx => by simpa using (h2 x (h1 x hx)).2
    have HB1 := Lib.hid hb1
    have C := Lib.hid (CM.out hf w1 hb1)
    have HD := Lib.hid (check_deep hf)
    have hz := hb1.size
    clear h1 h2 ht hb1 K K1 CE CM HP HB hf
    go_wp2_with fail
    refine C.out.mono ?_
    rintro e w2 ⟨rfl, hb2⟩
    have HB2 : Hid (Below w0.heap.size w0 w2) := HB1.out.trans (hb2.mono hz)
    clear hb2 C HB1 k0 k1 k2 k3 k4
    by_cases hm : 16 < leaves d
    · have HV : Hid (checkN d = 51) := HD.out.trans (if_pos hm)
      rw [decide_eq_true hm]
      have HPP : Hid (Checked1 d w0 (gaveUp 51) w2) := ⟨HB2.out, .inr ⟨by rw [HV.out]; decide, by rw [HV.out]⟩⟩
      clear hm HD
      go_wp2_with fail
      exact ⟨rfl, HPP.out⟩
    · have HV : Hid (checkN d = 0) := HD.out.trans (if_neg hm)
      rw [decide_eq_false hm]
      clear hm HD
      go_wp2_with fail
      go_end0
      exact ⟨HB2.out, .inl ⟨HV.out, rfl⟩⟩
  · have hf : checkN d = 50 := check_bad fun h => by
      have := HP.out.1 h a ha
      simp [this] at hbad
    have HPP : Hid (Checked1 d w0 (gaveUp 50) w1) := ⟨hb1, .inr ⟨by rw [hf]; decide, by rw [hf]⟩⟩
    unfold gaveUp
    clear ht hb1 K K1 CE CM HP HB hf k0 k1 k2 k3 k4 hbad ha
    go_wp2_with fail
    exact ⟨rfl, HPP.out⟩

set_option maxHeartbeats 1000000 in
set_option maxRecDepth 100000 in
theorem checkIn_any (d : Dep) (A : Option Addr) (c : Nat) (S : Nat → Prop) (g : Nat) (w0 : World) (hK : Blk w0 g 47 (rowD d (.slice A d.args.length c))) (hL : Lay w0 S d (.slice A d.args.length c)) (hC : CleanS w0 S) (hT : Tabs w0) (hN : nodes d ≤ 4194304) :
    Calls Tryz.prog 72 #[.pointer (some ⟨g, 0, none⟩)] w0 (Checked1 d w0) := by
  have C := Lib.hid (check_any d _ S w0 hL hC hT hN)
  unfold rowD at hK C
  have k0 := hK.cell 0
  have k1 := hK.cell 1
  have k2 := hK.cell 2
  have k3 := hK.cell 3
  have k4 := hK.cell 4
  clear hL hC hT hK
  go_enter Tryz.func72, Tryz.ntmps72
  go_wp2_with fail
  refine C.out.mono ?_
  rintro e w1 ⟨hb, h⟩
  rcases h with ⟨h1, rfl⟩ | ⟨h1, rfl⟩
  · have HB := Lib.hid hb
    have H1 := Lib.hid h1
    clear hb h1 C k0 k1 k2 k3 k4
    go_wp2_with fail
    go_end0
    exact ⟨HB.out, .inl ⟨H1.out, rfl⟩⟩
  · have HPP : Hid (Checked1 d w0 (gaveUp (checkN d)) w1) := ⟨hb, .inr ⟨h1, rfl⟩⟩
    clear hb h1 C k0 k1 k2 k3 k4
    unfold gaveUp
    go_wp2_with fail
    exact ⟨rfl, HPP.out⟩
theorem Turned.nil_below {w w' : World} (h : Turned [] w w') : Below w.heap.size w w' := h.of_nil
set_option maxHeartbeats 1000000 in
set_option maxRecDepth 100000 in
theorem depCheck_any (d : Dep) (s : Value) (S : Nat → Prop) (w0 : World) (hL : Lay w0 S d s) (hC : CleanS w0 S) (hT : Tabs w0) (hN : nodes d ≤ 4194304) :
    Calls Tryz.prog 46 #[.agg (rowD d s)] w0 fun e w' => e = .returned (.int .i64 (checkN d)) ∧ Below w0.heap.size w0 w' := by
  obtain ⟨A, c, rfl, _, _⟩ := hL.form_
  have hmf : ∀ (fn : Fn) (first cap : Array Value) (w : World), (Instr.makeFunc fn first cap).run Tryz.prog w = .ok (.func fn first cap) w := fun _ _ _ _ => rfl
  have hb0 : Below w0.heap.size w0 (w0.alloc (.cells (rowD d (.slice A d.args.length c)) 47)) := (Below.refl _ _).alloc (Nat.le_refl _) _
  have hbc : Below w0.heap.size w0 ((w0.alloc (.cells (rowD d (.slice A d.args.length c)) 47)).alloc (.cells #[.int .i64 0] 26)) := hb0.alloc (by simp) _
  have K : Blk ((w0.alloc (.cells (rowD d (.slice A d.args.length c)) 47)).alloc (.cells #[.int .i64 0] 26)) w0.heap.size 47 (rowD d (.slice A d.args.length c)) := (Blk.new _ _ _).alloc _
  have hst := StayS.below' (S := S) hbc
  have CC := Lib.hid (caught_any 72 #[.pointer (some ⟨w0.heap.size, 0, none⟩)] (enters_of Tryz.func72 (by kernel_rfl) rfl) [] (fun _ => checkN d = 0) (fun n _ => n = checkN d) (w0.alloc (.cells (rowD d (.slice A d.args.length c)) 47)) (fun k hk => (by cases hk))
    ((checkIn_any d A c S _ _ K (hL.stay (fun _ h => h) hst) (hC.stay hst) (hT.below hbc hT.two) hN).mono fun e w' h => by
      refine ⟨Turned.of_below h.1 [], ?_⟩
      rcases h.2 with ⟨h1, h2⟩ | ⟨h1, h2⟩
      · exact .inl ⟨h2, h1⟩
      · exact .inr ⟨_, h2, rfl⟩))
  have HB := Lib.hid hb0
  clear hL hC hT hb0 hbc K hst
  unfold rowD at CC HB ⊢
  go_enter Tryz.func46, Tryz.ntmps46
  go_wp2_with fail
  refine CC.out.mono ?_
  rintro e w1 ⟨w2, ht1, ht2, h⟩
  have HB1 : Hid (Below w0.heap.size w0 w1) := by
    have h1 := ht1.of_nil
    have h2 : Below w0.heap.size w2 w1 := ht2.below (fun k hk => by simp at hk; omega) (by have := ht1.size; simp at this; omega)
    exact ((HB.out.alloc (by simp) _).trans (h1.mono (by simp; omega))).trans h2
  rcases h with ⟨rfl, h⟩ | ⟨n, rfl, rfl⟩
  · have HV := Lib.hid h
    clear h ht1 ht2 CC HB
    go_wp2_with fail
    go_ret
    exact ⟨by rw [HV.out]; rfl, HB1.out⟩
  · clear ht1 ht2 CC HB
    go_wp2_with fail
    go_ret
    exact ⟨rfl, HB1.out⟩
end Go.Proofs.YtciogfpejenedaaGreatDoor
