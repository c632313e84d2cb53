/- Parts of the proof. -/
import Derived.Test.YtdhgiammfpjniaaGreatDoorZras
import Derived.Test.YtdhgiammfpjniaaGreatDoorZrat
import Derived.StillTailTactics
namespace Go.Proofs.YtdhgiammfpjniaaGreatDoor.Ev
set_option linter.unusedSimpArgs false
set_option linter.unusedVariables false
open Go.RowKit
theorem adQ7 (d : Dep) : abQd d ≤ nodes d := by
 induction d using Dep.ind with
 | h k n o e xs ih =>
   have h : ∀ bs : List Dep, (∀ b ∈ bs, abQd b ≤ nodes b) → aaQv bs ≤ aaQk bs := by
    intro bs
    induction bs with
    | nil => intro _; simp [aaQv, aaQk]
    | cons b r ihr =>
      intro hb
      have h1 := hb b (by simp)
      have h2 := ihr fun x hx => hb x (by simp [hx])
      simp only [aaQv, aaQk]
      omega
   have := h xs ih
   simp only [abQd, nodes]
   split <;> omega
theorem akQ5 {xs : List Dep} {k : Nat} {a : Dep} (h : xs[k]? = some a) : aaQv (xs.take (k + 1)) = aaQv (xs.take k) + abQd a := by
 rw [List.take_add_one, h, acQ8]
 simp [aaQv]
theorem apQi {xs : List Dep} (k : Nat) : aaQv (xs.take k) ≤ aaQv xs := by
 have : aaQv xs = aaQv (xs.take k) + aaQv (xs.drop k) := by rw [← acQ8, List.take_append_drop]
 omega
theorem ahQ2 (xs : List Dep) : aaQv xs ≤ aaQk xs := by
 induction xs with
 | nil => simp [aaQv, aaQk]
 | cons b r ih => have := adQ7 b; simp only [aaQv, aaQk]; omega
def anQb (d : Dep) : Prop := ∀ (s : Value) (S : Nat → Prop) (w : World), Lay w S d s → nodes d ≤ 4194304 → Calls Tryz.prog 211 #[.agg (rowD d s)] w fun e w' => e = .returned (.int .i64 (abQd d : Int)) ∧ Below w.heap.size w w'
set_option maxHeartbeats 2000000 in
set_option maxRecDepth 100000 in
theorem aiQ2 (d : Dep) (ih : ∀ a ∈ d.args, anQb a) : anQb d := by
 intro s S w hL hN
 obtain ⟨A, c, rfl, hc1, hc2, hA⟩ := hL.args_
 have hn := abQ1 d
 have hge := abQ7 d.args
 obtain ⟨w1, hw1⟩ : ∃ w1, w1 = w.alloc (.cells (rowD d (.slice A d.args.length c)) 39) := ⟨_, rfl⟩
 have hB1 : Below w.heap.size w w1 := by rw [hw1]; exact (Below.refl _ _).alloc (Nat.le_refl _) _
 have K : Blk w1 w.heap.size 39 (rowD d (.slice A d.args.length c)) := by rw [hw1]; exact Blk.new _ _ _
 have hz1 : w1.heap.size = w.heap.size + 1 := by rw [hw1]; simp
 have hA1 : ArgsAt w1 S d.args A := hA.stay (fun _ h => h) (StayS.below' hB1)
 have HF : Hid (∀ wx, Below w1.heap.size w1 wx → Blk wx w.heap.size 39 (rowD d (.slice A d.args.length c)) ∧ ArgsAt wx S d.args A ∧ Below w.heap.size w wx) := fun wx hb => ⟨K.below hb (by omega), hA1.stay (fun _ h => h) (StayS.below' hb), hB1.trans (hb.mono (by omega))⟩
 have HIH := hQQ ih
 have H0 := hQQ (Below.refl w1.heap.size w1)
 have HLv : Hid (abQd d = if d.kind = 1 then 1 else aaQv d.args) := by cases d; rfl
 have HLe := hQQ (apQi (xs := d.args))
 have HLn : Hid (aaQv d.args ≤ 4194304) := by
  have := ahQ2 d.args
  show _ ≤ _
  omega
 have HNm : Hid (∀ a ∈ d.args, nodes a ≤ 4194304) := fun a ha => by have := apQb ha; omega
 have hargs : d.args.length ≤ 4194304 := by omega
 have hlt0 : w.heap.size < w1.heap.size := by omega
 clear hL hA hn hge hB1 K hA1 ih hN hc2
 by_cases hk : d.kind = 1
 ·have t1 : (d.kind == 1) = true := by rw [hk]; rfl
  have HV : Hid (abQd d = 1) := by show _ = _; rw [HLv.out, if_pos hk]
  have HB := hQQ (HF.out w1 H0.out).2.2
  clear hk HLv HF H0 HLe HLn
  subst hw1
  unfold rowD at HB ⊢
  go_enter Tryz.func211, Tryz.ntmps211
  go_wp2_with fail
  go_ret
  exact ⟨by rw [HV.out]; rfl, HB.out⟩
 ·have t1 : (d.kind == 1) = false := beq_eq_false_iff_ne.2 hk
  have HV : Hid (abQd d = aaQv d.args) := by show _ = _; rw [HLv.out, if_neg hk]
  clear hk HLv hz1 hlt0
  obtain ⟨R, HR⟩ : ∃ R : World → Prop, Hid (∀ wx, R wx ↔ Below w1.heap.size w1 wx) := ⟨fun wx => Below w1.heap.size w1 wx, fun _ => Iff.rfl⟩
  have HR0 : Hid (R w1) := (HR.out _).2 H0.out
  clear H0
  subst hw1
  unfold rowD at HR HR0 HF ⊢
  go_enter Tryz.func211, Tryz.ntmps211
  go_wp2_with fail
  go_loopw [3, 4] (fun v3 v4 wx => ∃ (k m : Nat), k ≤ d.args.length ∧ v4 = .int .i64 (k : Int) ∧ v3 = .int .i64 (m : Int) ∧ Hid (m = aaQv (d.args.take k)) ∧ Hid (R wx)) (fun _ v4 _ => d.args.length - (intOf v4).toNat)
  case atStart => exact ⟨0, 0, Nat.zero_le _, rfl, rfl, rfl, HR0⟩
  case round =>
   clear HR0
   obtain ⟨k, m, hkn, rfl, rfl, hm, HRr⟩ := hrel
   obtain ⟨Kr, hAr, hBr⟩ := HF.out wr ((HR.out _).1 HRr.out)
   have c4 := Kr.cell 4
   simp at c4
   have hmle : m ≤ 4194304 := by have h1 := HLe.out k; have h2 := HLn.out; have h3 := hm.out; omega
   by_cases hlt : k < d.args.length
   ·obtain ⟨a, ha⟩ : ∃ a, d.args[k]? = some a := ⟨_, List.getElem?_eq_getElem hlt⟩
    obtain ⟨b', o', t, hA', hSb, hC, hLa⟩ := hAr k a ha
    obtain ⟨At, ct, rfl, _, _⟩ := hLa.form_
    subst hA'
    obtain ⟨e0, e1, e2, e3, e4⟩ := hC
    have CI := hQQ (HIH.out a (List.mem_of_getElem? ha) _ S wr hLa (HNm.out a (List.mem_of_getElem? ha)))
    have hal := adQ7 a
    have haN := HNm.out a (List.mem_of_getElem? ha)
    have hal2 : abQd a ≤ 4194304 := by omega
    have HM : Hid (m + abQd a = aaQv (d.args.take (k + 1))) := by show _ = _; rw [akQ5 ha, ← hm.out]
    have HRr2 : Hid (∀ w', Below wr.heap.size wr w' → R w') := fun w' hb => by
     have h1 := (HR.out _).1 HRr.out
     exact (HR.out _).2 (h1.trans (hb.mono h1.size))
    clear Kr hAr hBr hLa ha hal haN hm HRr
    unfold rowD at CI
    go_wp2_with fail
    refine CI.out.mono ?_
    rintro e w3 ⟨rfl, hb3⟩
    have HR3 := hQQ (HRr2.out w3 hb3)
    clear hb3 CI HRr2
    go_wp2_with fail
    go_roundw
    case rel => exact ⟨k + 1, m + abQd a, by omega, by go_num, by go_num, HM, HR3⟩
    case measure => simp [intOf]; omega
   ·have HM : Hid (m = abQd d) := by
     show _ = _
     rw [hm.out, HV.out, List.take_of_length_le (by omega)]
    have HB := hQQ hBr
    clear Kr hAr hBr hm
    go_wp2_with fail
    go_ret
    exact ⟨by rw [HM.out]; rfl, HB.out⟩
theorem akQk (d : Dep) : anQb d := by
 induction d using Dep.ind with
 | h k n o e xs ih => exact aiQ2 _ ih
end Go.Proofs.YtdhgiammfpjniaaGreatDoor.Ev
namespace Go.Proofs.YtdhgiammfpjniaaGreatDoor.Ev
set_option linter.unusedSimpArgs false
set_option linter.unusedVariables false
open Go.RowKit
theorem alQb : ∀ xs : List Dep, forms xs = xs.all form
 | [] => rfl
 | a :: r => by simp only [forms, List.all_cons, alQb r]
def okA (K : Int) (a : Dep) : Bool := (decide (K < 5) || single a) && form a
theorem arQ1 (K : Int) : ∀ xs : List Dep, xs.all (okA K) = ((decide (K < 5) || xs.all single) && xs.all form)
 | [] => by simp
 | a :: r => by
   simp only [List.all_cons, arQ1 K r, okA]
   cases decide (K < 5) <;> cases single a <;> cases form a <;> cases r.all single <;> cases r.all form <;> rfl
theorem apQq {n e : ByteArray} {o : Int} {xs : List Dep} : form (.mk 1 n o e xs) = (nameB n.data.toList && acQc o e.data.toList && decide (xs.length = 0)) := by
 simp only [form]
 have hm : mayPart (.mk 1 n o e xs) = (nameB n.data.toList && acQc o e.data.toList && decide (xs.length = 0)) := by unfold mayPart; rw [if_pos (show (Dep.mk 1 n o e xs).kind = 1 from rfl)]; rfl
 rw [hm]
 cases xs with
 | nil => simp [forms]
 | cons a r => simp
theorem apQr {K o : Int} {n e : ByteArray} {xs : List Dep} (hk : K ≠ 1) (h : form (.mk K n o e xs) = true) : 2 ≤ K ∧ K ≤ 6 ∧ n.data.toList = [] ∧ o = 0 ∧ e.data.toList = [] ∧ 2 ≤ xs.length ∧ (K = 4 → xs.length ≤ 3) ∧ (K = 6 → xs.length = 2) := by
 obtain ⟨h1, h2, h3, h4⟩ := aeQi (aeQk h) hk
 obtain ⟨a1, a2, a3, a4, a5⟩ := afQh h4
 exact ⟨a1, a2, h1, h2, h3, a3, a4, a5⟩
theorem apQp {K : Int} {xs : List Dep} (h2 : 2 ≤ K) (h6 : K ≤ 6) (hn : 2 ≤ xs.length) (h4 : K = 4 → xs.length ≤ 3) (h5 : K = 6 → xs.length ≤ 2) : form (.mk K ⟨#[]⟩ 0 ⟨#[]⟩ xs) = xs.all (okA K) := by
 have hm : mayPart (.mk K ⟨#[]⟩ 0 ⟨#[]⟩ xs) = abQ0 K xs := by
  unfold mayPart
  rw [if_neg (show ¬ (Dep.mk K ⟨#[]⟩ 0 ⟨#[]⟩ xs).kind = 1 by simp only [Dep.kind]; omega)]
  simp [Dep.name, Dep.op, Dep.evr, Dep.args, Dep.kind]
 simp only [form]
 rw [hm, arQ1, alQb]
 have hc : K = 2 ∨ K = 3 ∨ K = 4 ∨ K = 5 ∨ K = 6 := by omega
 unfold abQ0
 rcases hc with rfl | rfl | rfl | rfl | rfl
 ·simp [hn]
 ·simp [hn]
 ·have : xs.length = 2 ∨ xs.length = 3 := by have := h4 rfl; omega
  simp [this]
 ·simp [hn]
 ·have : xs.length = 2 := by have := h5 rfl; omega
  simp [this]
def alQw (d : Dep) : Prop := ∀ (s : Value) (S : Nat → Prop) (w : World), Lay w S d s → small d → Calls Tryz.prog 210 #[.agg (rowD d s)] w fun e w' => e = .returned (.bool (form d)) ∧ Below w.heap.size w w'
set_option maxHeartbeats 4000000 in
set_option maxRecDepth 1000000 in
theorem akQm (n : ByteArray) (o : Int) (ev : ByteArray) (xs : List Dep) : alQw (.mk 1 n o ev xs) := by
 intro s S w hL hsm
 obtain ⟨A, c, rfl, hc1, hc2⟩ := hL.form_
 obtain ⟨hz1, hz2, _⟩ := agQ3 hsm
 simp only [Dep.name, Dep.evr, Dep.args] at hz1 hz2 hc1 ⊢
 obtain ⟨x, hx⟩ : ∃ x, Hid (x = form (.mk 1 n o ev xs)) := ⟨_, rfl⟩
 rw [← hx.out]
 have HX : Hid (x = (nameB n.data.toList && acQc o ev.data.toList && decide (xs.length = 0))) := hx.out.trans apQq
 have HB : Hid (Below w.heap.size w (w.alloc (.cells #[.int .i64 1, .string n, .int .i64 o, .string ev, .slice A xs.length c] 39))) := (Below.refl _ _).alloc (Nat.le_refl _) _
 have CN := hQQ (fun w => acQ4 n (by unfold maxLen; omega) w)
 have CP := hQQ (fun w => afQ7 ev (by unfold maxLen; omega) w)
 obtain ⟨nb, hnb⟩ : ∃ nb, Hid (nb = nameB n.data.toList) := ⟨_, rfl⟩
 rw [← hnb.out] at CN HX
 have hlb : (xs.length : Int) ≤ 9223372036854775807 := by unfold maxLen at hc2; omega
 unfold rowD
 simp only [Dep.kind, Dep.name, Dep.op, Dep.evr, Dep.args]
 clear hL hsm hx hz1 hz2 hc2 hc1 hnb
 cases nb with
 | false =>
   have HV : Hid (x = false) := HX.out
   clear HX CP
   go_enter Tryz.func210, Tryz.ntmps210
   go_wp2_with fail
   refine (CN.out _).mono ?_
   rintro e w' ⟨rfl, rfl⟩
   go_wp2_with fail
   go_ret
   exact ⟨by rw [HV.out]; rfl, HB.out⟩
 | true =>
   by_cases h0 : o < 0
   ·have HV : Hid (x = false) := by
     show x = _
     rw [HX.out]
     unfold acQc
     rw [if_neg (by omega), decide_eq_false (show ¬ 0 ≤ o by omega)]
     simp
    clear HX CP
    go_enter Tryz.func210, Tryz.ntmps210
    go_wp2_with fail
    refine (CN.out _).mono ?_
    rintro e w' ⟨rfl, rfl⟩
    go_wp2_with fail
    go_ret
    exact ⟨by rw [HV.out]; rfl, HB.out⟩
   by_cases h7 : 7 < o
   ·have HV : Hid (x = false) := by
     show x = _
     rw [HX.out]
     unfold acQc
     rw [if_neg (by omega), decide_eq_false (show ¬ o < 8 by omega)]
     simp
    clear HX CP
    go_enter Tryz.func210, Tryz.ntmps210
    go_wp2_with fail
    refine (CN.out _).mono ?_
    rintro e w' ⟨rfl, rfl⟩
    go_wp2_with fail
    go_ret
    exact ⟨by rw [HV.out]; rfl, HB.out⟩
   by_cases hn : 0 < xs.length
   ·have HV : Hid (x = false) := by
     show x = _
     rw [HX.out, decide_eq_false (show ¬ xs.length = 0 by omega)]
     simp
    have hnI : (0 : Int) < (xs.length : Int) := by omega
    clear HX CP
    go_enter Tryz.func210, Tryz.ntmps210
    go_wp2_with fail
    refine (CN.out _).mono ?_
    rintro e w' ⟨rfl, rfl⟩
    go_wp2_with fail
    go_ret
    exact ⟨by rw [HV.out]; rfl, HB.out⟩
   have hnI : ¬ (0 : Int) < (xs.length : Int) := by omega
   have HX2 : Hid (x = acQc o ev.data.toList) := by
    show x = _
    rw [HX.out, decide_eq_true (show xs.length = 0 by omega)]
    simp
   clear HX hn
   by_cases ho : o = 0
   ·subst ho
    by_cases he : ev.data.toList = []
    ·have HV : Hid (x = true) := by show x = _; rw [HX2.out, he]; rfl
     obtain rfl := abQi he
     clear HX2 CP he
     go_enter Tryz.func210, Tryz.ntmps210
     go_wp2_with fail
     refine (CN.out _).mono ?_
     rintro e w' ⟨rfl, rfl⟩
     go_wp2_with fail
     go_ret
     exact ⟨by rw [HV.out]; rfl, HB.out⟩
    ·have HV : Hid (x = false) := by show x = _; rw [HX2.out]; unfold acQc; rw [if_pos rfl, decide_eq_false he]
     obtain ⟨b1, b2, b3⟩ := abQg (afQg he)
     have b4 : (ev.toList == []) = false := by rw [ByteArray.toList_eq]; exact beq_eq_false_iff_ne.2 he
     clear HX2 CP he b3
     go_enter Tryz.func210, Tryz.ntmps210
     go_wp2_with fail
     refine (CN.out _).mono ?_
     rintro e w' ⟨rfl, rfl⟩
     go_wp2_with fail
     go_ret
     exact ⟨by rw [HV.out]; rfl, HB.out⟩
   ·have t0 : (o == 0) = false := beq_eq_false_iff_ne.2 ho
    have HV0 : Hid (x = evrB ev.data.toList) := by
     show x = _
     rw [HX2.out]
     unfold acQc
     rw [if_neg ho, decide_eq_true (show 0 ≤ o by omega), decide_eq_true (show o < 8 by omega)]
     rfl
    clear HX2 ho
    unfold evrB at HV0
    generalize parse ev.data.toList = P at CP HV0
    cases P with
    | none =>
      have HV : Hid (x = false) := HV0.out
      clear HV0
      go_enter Tryz.func210, Tryz.ntmps210
      go_wp2_with fail
      refine (CN.out _).mono ?_
      rintro e w' ⟨rfl, rfl⟩
      go_wp2_with fail
      refine (CP.out _).mono ?_
      rintro e w2 ⟨rfl, hb2⟩
      have HB2 : Hid (Below w.heap.size w w2) := HB.out.trans (hb2.mono (by simp))
      clear hb2 HB CP CN
      unfold evrV errV
      go_wp2_with fail
      go_ret
      exact ⟨by rw [HV.out]; rfl, HB2.out.alloc HB2.out.size _⟩
    | some q =>
      have HV : Hid (x = true) := HV0.out
      clear HV0
      go_enter Tryz.func210, Tryz.ntmps210
      go_wp2_with fail
      refine (CN.out _).mono ?_
      rintro e w' ⟨rfl, rfl⟩
      go_wp2_with fail
      refine (CP.out _).mono ?_
      rintro e w2 ⟨rfl, hb2⟩
      have HB2 : Hid (Below w.heap.size w w2) := HB.out.trans (hb2.mono (by simp))
      clear hb2 HB CP CN
      unfold evrV errV
      go_wp2_with fail
      go_ret
      exact ⟨by rw [HV.out]; rfl, HB2.out.alloc HB2.out.size _⟩
end Go.Proofs.YtdhgiammfpjniaaGreatDoor.Ev
