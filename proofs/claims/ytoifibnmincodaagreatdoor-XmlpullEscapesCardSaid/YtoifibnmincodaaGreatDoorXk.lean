/- An attribute is taken. -/
import Derived.Test.YtoifibnmincodaaGreatDoorXj
import Derived.Test.YtoifibnmincodaaGreatDoorPhase2
namespace Go.Proofs.YtoifibnmincodaaGreatDoor
set_option linter.unusedSimpArgs false
set_option linter.unusedVariables false
open Go.RowKit

theorem Turned.from_drew {F : List Nat} {w w' : World} (h : Turned F w.drew w') : Turned F w w' := ⟨h.os, h.tape, h.output, h.size, h.block⟩
def aV (a : Bs × Bs) : Value := .agg #[.string (mkS a.1), .string (mkS a.2)]
/-- While an attribute is taken: what it answers lies at p, its name at q. -/
structure AtS (w0 : World) (g p q : Nat) (nm : Bs) (v1 v2 v3 v4 : Value) (r : Bs) (w : World) : Prop where
  t : Turned [g] w0 w
  rd : RdB w g r v1 v2 v3 v4
  res : Blk w p 29 #[.string ⟨#[]⟩, .string ⟨#[]⟩]
  nam : Blk w q 9 #[.string (mkS nm)]
  ne : p ≠ g ∧ q ≠ g ∧ p ≠ q
  new : w0.heap.size ≤ p
theorem AtS.next {w0 w w' : World} {g p q : Nat} {nm : Bs} {v1 v2 v3 v4 : Value} {r r' : Bs} (h : AtS w0 g p q nm v1 v2 v3 v4 r w) (ht : Turned [g] w w') (hr : RdB w' g r' v1 v2 v3 v4) : AtS w0 g p q nm v1 v2 v3 v4 r' w' :=
  ⟨h.t.trans ht (frG _ _), hr, h.res.turned ht (by simpa using h.ne.1), h.nam.turned ht (by simpa using h.ne.2.1), h.ne, h.new⟩
theorem AtS.done {w0 w : World} {g p q : Nat} {nm vv : Bs} {v1 v2 v3 v4 : Value} {r : Bs} (h : AtS w0 g p q nm v1 v2 v3 v4 r w) :
    w.cell? ⟨q, 0, none⟩ = ((w.setCell ⟨p, 0, none⟩ (.string (mkS nm))).setCell ⟨p, 1, none⟩ (.string (mkS vv))).cell? ⟨q, 0, none⟩ ∧ Blk ((w.setCell ⟨p, 0, none⟩ (.string (mkS nm))).setCell ⟨p, 1, none⟩ (.string (mkS vv))) p 29 #[.string (mkS nm), .string (mkS vv)] ∧
    Turned [g] w0 ((w.setCell ⟨p, 0, none⟩ (.string (mkS nm))).setCell ⟨p, 1, none⟩ (.string (mkS vv))) ∧ RdB ((w.setCell ⟨p, 0, none⟩ (.string (mkS nm))).setCell ⟨p, 1, none⟩ (.string (mkS vv))) g r v1 v2 v3 v4 := by
  have h1 := h.ne.1
  have h2 := h.ne.2.2
  refine ⟨?_, (h.res.set_ 0 _).set_ 1 _, (h.t.setCell (.inr h.new) _).setCell (.inr h.new) _, Blk.far (Blk.far h.rd (Ne.symm h1) _) (Ne.symm h1) _⟩
  have n1 := (h.nam.far (p := ⟨p, 0, none⟩) (Ne.symm h2) (.string (mkS nm))).far (p := ⟨p, 1, none⟩) (Ne.symm h2) (.string (mkS vv))
  rw [n1.cell 0, h.nam.cell 0]
theorem results_one {fn : Func} {t : Tmp} {e : TypeId} (h : fn.results = #[.cell t e]) (tmps : Array Value) {P : Program} {w : World} {ad : Addr} (hp : tmps[t]?.getD undef = .pointer (some ad)) :
    (results fn tmps).run P w = (loadVar e ad).run P w := by
  simp [results, h, hp, asAddr]
theorem seps39 : Seps ([60, 38] ++ [39]) := ⟨by decide, by decide, by decide⟩
theorem seps34 : Seps ([60, 38] ++ [34]) := ⟨by decide, by decide, by decide⟩
theorem attrR_name {o : Al} {r : Bs} {e : Int} (h : nameR r = .error e) : attrR o r = .error e := by rw [attrR, h]; rfl
theorem any_has (o : Al) (nm : Bs) : (o.any fun a => decide (a.1 = nm)) = o.any (hasNm nm) := rfl
theorem attrR_eq {o : Al} {r : Bs} {x : Bs × Bs} (h : nameR r = .ok x) : attrR o r =
    if o.length < 16 then
      if o.any (hasNm x.1) = true then .error 100 else
      (layoutR x.2).bind fun a => (wantR [61] a.2).bind fun b => (layoutR b.2).bind fun c =>
        if Lib.hasPrefix c.2 [39] = true then (valueQ [39] (Lib.trimPrefix c.2 [39])).map fun v => ((x.1, v.1), v.2)
        else (wantR [34] c.2).bind fun d => (valueQ [34] d.2).map fun v => ((x.1, v.1), v.2)
    else .error 104 := by rw [attrR, h]; rfl
section
variable {w0 : World} {B g : Nat} {r : Bs} {v1 v2 v3 v4 : Value}
set_option maxHeartbeats 16000000 in
set_option maxRecDepth 1000000 in
theorem attr_any (h : RdB w0 g r v1 v2 v3 v4) (hE : XEnv B w0) (hg : B ≤ g) (hr : r.length ≤ 40000) (al : Al) (A : Option Addr) (c : Nat) (hl : al.length ≤ c) (hcm : c ≤ maxLen)
    (hAl : ∀ w', Turned [g] w0 w' → AlAt w' w'.heap.size A al) :
    Calls Tryz.prog 69 #[.pointer (some ⟨g, 0, none⟩), .slice A al.length c] w0 (Ate w0 g v1 v2 v3 v4 (attrR al r) aV) := by
  have hglt := Blk.lt h
  obtain ⟨wa, hwa⟩ : ∃ wa, wa = w0.alloc (.cells #[.string ⟨#[]⟩, .string ⟨#[]⟩] 29) := ⟨_, rfl⟩
  obtain ⟨p, hp⟩ : ∃ p, p = w0.heap.size := ⟨_, rfl⟩
  have HTA : Hid (Turned [g] w0 wa) := by show Turned [g] w0 wa; rw [hwa]; exact (Turned.refl _ _).alloc _
  have HRA : Hid (RdB wa g r v1 v2 v3 v4) := by show RdB wa g r v1 v2 v3 v4; rw [hwa]; exact Blk.alloc h _
  have HPA : Hid (Blk wa p 29 #[.string ⟨#[]⟩, .string ⟨#[]⟩]) := by show Blk wa p _ _; rw [hwa, hp]; exact Blk.new _ _ _
  have HEN : Hid (∀ w, Turned [g] w0 w → XEnv B w) := fun w ht => hE.one ht hg
  have HAL := Lib.hid hAl
  have CN := Lib.hid (name_any HRA.out hr)
  have hpg : p ≠ g := by rw [hp]; omega
  have hnew : w0.heap.size ≤ p := by rw [hp]; exact Nat.le_refl _
  have HPZ : Hid (p < wa.heap.size) := by show p < _; rw [hwa, hp]; simp
  clear h hE hAl
  obtain ⟨res, hres⟩ : ∃ res, res = attrR al r := ⟨_, rfl⟩
  rw [← hres]
  cases hn : nameR r with
  | error e =>
    have HE : Hid (res = .error e) := by show res = _; rw [hres]; exact attrR_name hn
    have HN := Lib.hid hn
    clear hn hres
    go_enter Tryz.func69, Tryz.ntmps69
    go_upto_region 1 with fail
    rw [← hp, ← hwa]
    clear hwa hp
    go_wp2_with fail
    refine CN.out.mono ?_
    intro en w1 ha
    obtain ⟨h1, ⟨r', h2⟩, rfl⟩ := ha.no HN.out
    have HT1 := Lib.hid (HTA.out.trans h1 (frG _ _))
    have HR1 := Lib.hid h2
    clear ha h1 h2 CN
    unfold gaveUp
    go_wp2_with fail
    exact ⟨rfl, Ate.mkNo HT1.out HR1.out HE.out⟩
  | ok x =>
    obtain ⟨nm, r1⟩ := x
    have hq := attrR_eq (o := al) hn
    rw [← hres] at hq
    clear hres
    have HN := Lib.hid hn
    have hr1 : r1.length ≤ 40000 := by have := nameR_len hn; simp at this; omega
    clear hn
    simp only at hq
    by_cases h16 : al.length < 16
    · rw [if_pos h16] at hq
      have hz16 : (al.length : Int) < 16 := by omega
      have hd16 : decide ((al.length : Int) < 16) = true := decide_eq_true hz16
      clear h16
      cases hany : al.any (hasNm nm) with
      | true =>
        rw [hany, if_pos rfl] at hq
        have HE := Lib.hid hq
        have HANY := Lib.hid hany
        clear hq hany
        go_enter Tryz.func69, Tryz.ntmps69
        go_upto_region 1 with fail
        rw [← hp, ← hwa]
        clear hwa hp
        go_wp2_with fail
        refine CN.out.mono ?_
        intro en w1 ha
        obtain ⟨h1, h2, rfl⟩ := ha.ok HN.out
        obtain ⟨q, hq⟩ : ∃ q, q = w1.heap.size := ⟨_, rfl⟩
        obtain ⟨wb, hwb⟩ : ∃ wb, wb = w1.alloc (.cells #[.string (mkS nm)] 9) := ⟨_, rfl⟩
        have HS1 : Hid (AtS w0 g p q nm v1 v2 v3 v4 r1 wb) := by
          have hz := h1.size
          have := HPZ.out
          subst hwb hq
          exact ⟨(HTA.out.trans h1 (frG _ _)).alloc _, Blk.alloc h2 _, (HPA.out.turned h1 (by simpa using hpg)).alloc _, Blk.new _ _ _, ⟨hpg, by have := HTA.out.size; omega, by omega⟩, hnew⟩
        clear ha h1 h2 CN
        unfold sV
        go_upto_region 2 with fail
        rw [← hq, ← hwb]
        clear hq hwb
        go_wp2_with fail
        refine (must_yes 104 _).mono ?_
        rintro e wm ⟨rfl, rfl⟩
        have CC := Lib.hid (hasA_any nm q al A c wb (HAL.out wb HS1.out.t) hl hcm (HS1.out.nam.cell 0))
        rw [HANY.out] at CC
        go_wp2_with fail
        refine CC.out.mono ?_
        rintro e w2 ⟨rfl, hb2⟩
        obtain ⟨h1, h2⟩ := RdB.later HS1.out.rd hb2
        have HS2 := Lib.hid (HS1.out.next h2 h1)
        clear h1 h2 hb2 CC
        go_wp2_with fail
        refine (must_no 100 _).mono ?_
        rintro e wm ⟨rfl, rfl⟩
        unfold gaveUp
        go_wp2_with fail
        exact ⟨rfl, Ate.mkNo HS2.out.t HS2.out.rd HE.out⟩
      | false =>
        rw [hany, if_neg (by decide)] at hq
        have HANY := Lib.hid hany
        clear hany
        obtain ⟨b1, r2, hL1⟩ : ∃ b1 r2, layoutR r1 = .ok (b1, r2) := ⟨_, _, layoutR_ok r1⟩
        have hr2 : r2.length ≤ 40000 := by have := layoutR_len hL1; simp at this; omega
        have HL1 := Lib.hid hL1
        have hq2 : res = (wantR [61] r2).bind fun b => (layoutR b.2).bind fun c =>
          if Lib.hasPrefix c.2 [39] = true then (valueQ [39] (Lib.trimPrefix c.2 [39])).map fun v => ((nm, v.1), v.2)
          else (wantR [34] c.2).bind fun d => (valueQ [34] d.2).map fun v => ((nm, v.1), v.2) := by rw [hq, hL1]; rfl
        clear hL1 hq
        cases hw : wantR [61] r2 with
        | error e =>
          have HE : Hid (res = .error e) := by show res = _; rw [hq2, hw]; rfl
          have HW61 := Lib.hid hw
          clear hq2 hw
          go_enter Tryz.func69, Tryz.ntmps69
          go_upto_region 1 with fail
          rw [← hp, ← hwa]
          clear hwa hp
          go_wp2_with fail
          refine CN.out.mono ?_
          intro en w1 ha
          obtain ⟨h1, h2, rfl⟩ := ha.ok HN.out
          obtain ⟨q, hq⟩ : ∃ q, q = w1.heap.size := ⟨_, rfl⟩
          obtain ⟨wb, hwb⟩ : ∃ wb, wb = w1.alloc (.cells #[.string (mkS nm)] 9) := ⟨_, rfl⟩
          have HS1 : Hid (AtS w0 g p q nm v1 v2 v3 v4 r1 wb) := by
            have hz := h1.size
            have := HPZ.out
            subst hwb hq
            exact ⟨(HTA.out.trans h1 (frG _ _)).alloc _, Blk.alloc h2 _, (HPA.out.turned h1 (by simpa using hpg)).alloc _, Blk.new _ _ _, ⟨hpg, by have := HTA.out.size; omega, by omega⟩, hnew⟩
          clear ha h1 h2 CN
          unfold sV
          go_upto_region 2 with fail
          rw [← hq, ← hwb]
          clear hq hwb
          go_wp2_with fail
          refine (must_yes 104 _).mono ?_
          rintro e wm ⟨rfl, rfl⟩
          have CC := Lib.hid (hasA_any nm q al A c wb (HAL.out wb HS1.out.t) hl hcm (HS1.out.nam.cell 0))
          rw [HANY.out] at CC
          go_wp2_with fail
          refine CC.out.mono ?_
          rintro e w2 ⟨rfl, hb2⟩
          obtain ⟨h1, h2⟩ := RdB.later HS1.out.rd hb2
          have HS2 := Lib.hid (HS1.out.next h2 h1)
          clear h1 h2 hb2 CC
          go_wp2_with fail
          refine (must_yes 100 _).mono ?_
          rintro e wm ⟨rfl, rfl⟩
          have CL := Lib.hid (layout_any HS2.out.rd hr1)
          go_wp2_with fail
          refine CL.out.mono ?_
          intro en w3 ha
          obtain ⟨h1, h2, rfl⟩ := ha.ok HL1.out
          have HS3 := Lib.hid (HS2.out.next h1 h2)
          clear ha h1 h2 CL
          unfold bV
          have CW := Lib.hid (want_any HS3.out.rd [61])
          go_wp2_with fail
          refine CW.out.mono ?_
          intro en w4 ha
          obtain ⟨h1, ⟨r', h2⟩, rfl⟩ := ha.no HW61.out
          have HS4 := Lib.hid (HS3.out.next h1 h2)
          clear ha h1 h2 CW
          unfold gaveUp
          go_wp2_with fail
          exact ⟨rfl, Ate.mkNo HS4.out.t HS4.out.rd HE.out⟩
        | ok y =>
          obtain ⟨uu, r3⟩ := y
          have hr3 : r3.length ≤ 40000 := by have := (wantR_len hw).1; simp at this; omega
          have HW61 := Lib.hid hw
          obtain ⟨b2, r4, hL2⟩ : ∃ b2 r4, layoutR r3 = .ok (b2, r4) := ⟨_, _, layoutR_ok r3⟩
          have hr4 : r4.length ≤ 40000 := by have := layoutR_len hL2; simp at this; omega
          have HL2 := Lib.hid hL2
          have hq3 : res = if Lib.hasPrefix r4 [39] = true then (valueQ [39] (Lib.trimPrefix r4 [39])).map fun v => ((nm, v.1), v.2)
            else (wantR [34] r4).bind fun d => (valueQ [34] d.2).map fun v => ((nm, v.1), v.2) := by rw [hq2, hw]; show ((layoutR r3).bind _ : RR (Bs × Bs)) = _; rw [hL2]; rfl
          clear hw hL2 hq2
          cases hpq : Lib.hasPrefix r4 [39] with
          | true =>
            rw [hpq, if_pos rfl] at hq3
            have HQ := Lib.hid hpq
            have hr5 : (Lib.trimPrefix r4 [39]).length ≤ 40000 := by have := trim_len r4 [39]; omega
            clear hpq
            cases hv : valueQ [39] (Lib.trimPrefix r4 [39]) with
            | error e =>
              have HE : Hid (res = .error e) := by show res = _; rw [hq3, hv]; rfl
              have HV := Lib.hid hv
              clear hq3 hv
              go_enter Tryz.func69, Tryz.ntmps69
              go_upto_region 1 with fail
              rw [← hp, ← hwa]
              clear hwa hp
              go_wp2_with fail
              refine CN.out.mono ?_
              intro en w1 ha
              obtain ⟨h1, h2, rfl⟩ := ha.ok HN.out
              obtain ⟨q, hq⟩ : ∃ q, q = w1.heap.size := ⟨_, rfl⟩
              obtain ⟨wb, hwb⟩ : ∃ wb, wb = w1.alloc (.cells #[.string (mkS nm)] 9) := ⟨_, rfl⟩
              have HS1 : Hid (AtS w0 g p q nm v1 v2 v3 v4 r1 wb) := by
                have hz := h1.size
                have := HPZ.out
                subst hwb hq
                exact ⟨(HTA.out.trans h1 (frG _ _)).alloc _, Blk.alloc h2 _, (HPA.out.turned h1 (by simpa using hpg)).alloc _, Blk.new _ _ _, ⟨hpg, by have := HTA.out.size; omega, by omega⟩, hnew⟩
              clear ha h1 h2 CN
              unfold sV
              go_upto_region 2 with fail
              rw [← hq, ← hwb]
              clear hq hwb
              go_wp2_with fail
              refine (must_yes 104 _).mono ?_
              rintro e wm ⟨rfl, rfl⟩
              have CC := Lib.hid (hasA_any nm q al A c wb (HAL.out wb HS1.out.t) hl hcm (HS1.out.nam.cell 0))
              rw [HANY.out] at CC
              go_wp2_with fail
              refine CC.out.mono ?_
              rintro e w2 ⟨rfl, hb2⟩
              obtain ⟨h1, h2⟩ := RdB.later HS1.out.rd hb2
              have HS2 := Lib.hid (HS1.out.next h2 h1)
              clear h1 h2 hb2 CC
              go_wp2_with fail
              refine (must_yes 100 _).mono ?_
              rintro e wm ⟨rfl, rfl⟩
              have CL := Lib.hid (layout_any HS2.out.rd hr1)
              go_wp2_with fail
              refine CL.out.mono ?_
              intro en w3 ha
              obtain ⟨h1, h2, rfl⟩ := ha.ok HL1.out
              have HS3 := Lib.hid (HS2.out.next h1 h2)
              clear ha h1 h2 CL
              unfold bV
              have CW := Lib.hid (want_any HS3.out.rd [61])
              go_wp2_with fail
              refine CW.out.mono ?_
              intro en w4 ha
              obtain ⟨h1, h2, rfl⟩ := ha.ok HW61.out
              have HS4 := Lib.hid (HS3.out.next h1 h2)
              clear ha h1 h2 CW
              unfold uV
              have CL := Lib.hid (layout_any HS4.out.rd hr3)
              go_wp2_with fail
              refine CL.out.mono ?_
              intro en w5 ha
              obtain ⟨h1, h2, rfl⟩ := ha.ok HL2.out
              have HS5 := Lib.hid (HS4.out.next h1 h2)
              clear ha h1 h2 CL
              unfold bV
              have CT := Lib.hid (takes_any HS5.out.rd [39])
              rw [HQ.out] at CT
              go_wp2_with fail
              refine CT.out.mono ?_
              rintro e w6 ⟨rfl, h1, h2⟩
              have HS6 := Lib.hid (HS5.out.next h1 h2)
              clear h1 h2 CT
              have CV := Lib.hid (value_any (w0 := w6.drew) (B := B) HS6.out.rd (HEN.out _ HS6.out.t.drew) hg hr5 seps39)
              have cq := HS6.out.nam.cell 0
              simp at cq
              go_upto_region 8 with fail
              refine wp_region_S (fun _ w' => w'.cell? ⟨q, 0, none⟩ = some (.string (mkS nm))) (by kernel_rfl) cq (fun hS => ?_)
              refine wpAnyS_take (i := 0) (fun w' => w'.cell? ⟨q, 0, none⟩ = some (.string (mkS nm))) (v := .string (mkS nm)) rfl (by kernel_rfl) (by kernel_rfl) (by kernel_rfl) (fun _ _ _ h => h) (fun l w hw hS => hS) (fun _ _ => Iff.rfl) (by kernel_rfl) hS (fun w' hSw => ?_) (by rfl) (fun hS => ?_)
              · go_simp
              try simp only [Act.put, List.setIfInBounds_toArray, List.set_cons_zero, List.set_cons_succ]
              refine wpAnyS_take (i := 1) (fun _ => True) (v := .pointer (some ⟨g, 0, none⟩)) rfl (by kernel_rfl) (by kernel_rfl) (by kernel_rfl) (fun _ _ _ h => h) (fun _ _ _ _ => trivial) (fun _ _ => Iff.rfl) (by kernel_rfl) hS (fun w' hSw => ?_) (by rfl) (fun hS => ?_)
              · go_simp
              try simp only [Act.put, List.setIfInBounds_toArray, List.set_cons_zero, List.set_cons_succ]
              refine wpAnyS_one (i := 2) (by kernel_rfl) rfl (fun K7 hK7 => ?_)
              go_simp
              refine CV.out.mono ?_
              intro en w9 ha
              obtain ⟨h1, ⟨r', h2⟩, rfl⟩ := ha.no HV.out
              have HS9 := Lib.hid (HS6.out.next h1.from_drew h2)
              clear ha h1 h2 CV
              unfold gaveUp
              go_simp
              exact ⟨rfl, Ate.mkNo HS9.out.t HS9.out.rd HE.out⟩
            | ok z =>
              obtain ⟨vv, r6⟩ := z
              have HE : Hid (res = .ok ((nm, vv), r6)) := by show res = _; rw [hq3, hv]; rfl
              have HV := Lib.hid hv
              clear hq3 hv
              go_enter Tryz.func69, Tryz.ntmps69
              go_upto_region 1 with fail
              rw [← hp, ← hwa]
              clear hwa hp
              go_wp2_with fail
              refine CN.out.mono ?_
              intro en w1 ha
              obtain ⟨h1, h2, rfl⟩ := ha.ok HN.out
              obtain ⟨q, hq⟩ : ∃ q, q = w1.heap.size := ⟨_, rfl⟩
              obtain ⟨wb, hwb⟩ : ∃ wb, wb = w1.alloc (.cells #[.string (mkS nm)] 9) := ⟨_, rfl⟩
              have HS1 : Hid (AtS w0 g p q nm v1 v2 v3 v4 r1 wb) := by
                have hz := h1.size
                have := HPZ.out
                subst hwb hq
                exact ⟨(HTA.out.trans h1 (frG _ _)).alloc _, Blk.alloc h2 _, (HPA.out.turned h1 (by simpa using hpg)).alloc _, Blk.new _ _ _, ⟨hpg, by have := HTA.out.size; omega, by omega⟩, hnew⟩
              clear ha h1 h2 CN
              unfold sV
              go_upto_region 2 with fail
              rw [← hq, ← hwb]
              clear hq hwb
              go_wp2_with fail
              refine (must_yes 104 _).mono ?_
              rintro e wm ⟨rfl, rfl⟩
              have CC := Lib.hid (hasA_any nm q al A c wb (HAL.out wb HS1.out.t) hl hcm (HS1.out.nam.cell 0))
              rw [HANY.out] at CC
              go_wp2_with fail
              refine CC.out.mono ?_
              rintro e w2 ⟨rfl, hb2⟩
              obtain ⟨h1, h2⟩ := RdB.later HS1.out.rd hb2
              have HS2 := Lib.hid (HS1.out.next h2 h1)
              clear h1 h2 hb2 CC
              go_wp2_with fail
              refine (must_yes 100 _).mono ?_
              rintro e wm ⟨rfl, rfl⟩
              have CL := Lib.hid (layout_any HS2.out.rd hr1)
              go_wp2_with fail
              refine CL.out.mono ?_
              intro en w3 ha
              obtain ⟨h1, h2, rfl⟩ := ha.ok HL1.out
              have HS3 := Lib.hid (HS2.out.next h1 h2)
              clear ha h1 h2 CL
              unfold bV
              have CW := Lib.hid (want_any HS3.out.rd [61])
              go_wp2_with fail
              refine CW.out.mono ?_
              intro en w4 ha
              obtain ⟨h1, h2, rfl⟩ := ha.ok HW61.out
              have HS4 := Lib.hid (HS3.out.next h1 h2)
              clear ha h1 h2 CW
              unfold uV
              have CL := Lib.hid (layout_any HS4.out.rd hr3)
              go_wp2_with fail
              refine CL.out.mono ?_
              intro en w5 ha
              obtain ⟨h1, h2, rfl⟩ := ha.ok HL2.out
              have HS5 := Lib.hid (HS4.out.next h1 h2)
              clear ha h1 h2 CL
              unfold bV
              have CT := Lib.hid (takes_any HS5.out.rd [39])
              rw [HQ.out] at CT
              go_wp2_with fail
              refine CT.out.mono ?_
              rintro e w6 ⟨rfl, h1, h2⟩
              have HS6 := Lib.hid (HS5.out.next h1 h2)
              clear h1 h2 CT
              have CV := Lib.hid (value_any (w0 := w6.drew) (B := B) HS6.out.rd (HEN.out _ HS6.out.t.drew) hg hr5 seps39)
              have cq := HS6.out.nam.cell 0
              simp at cq
              go_upto_region 8 with fail
              refine wp_region_S (fun _ w' => w'.cell? ⟨q, 0, none⟩ = some (.string (mkS nm))) (by kernel_rfl) cq (fun hS => ?_)
              refine wpAnyS_take (i := 0) (fun w' => w'.cell? ⟨q, 0, none⟩ = some (.string (mkS nm))) (v := .string (mkS nm)) rfl (by kernel_rfl) (by kernel_rfl) (by kernel_rfl) (fun _ _ _ h => h) (fun l w hw hS => hS) (fun _ _ => Iff.rfl) (by kernel_rfl) hS (fun w' hSw => ?_) (by rfl) (fun hS => ?_)
              · go_simp
              try simp only [Act.put, List.setIfInBounds_toArray, List.set_cons_zero, List.set_cons_succ]
              refine wpAnyS_take (i := 1) (fun _ => True) (v := .pointer (some ⟨g, 0, none⟩)) rfl (by kernel_rfl) (by kernel_rfl) (by kernel_rfl) (fun _ _ _ h => h) (fun _ _ _ _ => trivial) (fun _ _ => Iff.rfl) (by kernel_rfl) hS (fun w' hSw => ?_) (by rfl) (fun hS => ?_)
              · go_simp
              try simp only [Act.put, List.setIfInBounds_toArray, List.set_cons_zero, List.set_cons_succ]
              refine wpAnyS_one (i := 2) (by kernel_rfl) rfl (fun K7 hK7 => ?_)
              go_simp
              refine CV.out.mono ?_
              intro en w9 ha
              obtain ⟨h1, h2, rfl⟩ := ha.ok HV.out
              have HS9 := Lib.hid (HS6.out.next h1.from_drew h2)
              clear ha h1 h2 CV
              unfold sV
              have cq9 := HS9.out.nam.cell 0
              simp at cq9
              refine hK7.out _ _ cq9 (fun hS => ?_)
              clear hK7 K7
              try simp only [Act.put, List.setIfInBounds_toArray, List.set_cons_zero, List.set_cons_succ]
              refine wpAnyS_one (i := 3) (by kernel_rfl) rfl (fun K7 hK7 => ?_)
              go_simp
              refine hK7.out _ _ cq9 (fun hS => ?_)
              clear hK7 K7
              try simp only [Act.put, List.setIfInBounds_toArray, List.set_cons_zero, List.set_cons_succ]
              have d0 := HS9.out.res.cell 0
              have d1 := HS9.out.res.cell 1
              have f0 := HS9.out.res.free 0
              have f1 := HS9.out.res.free 1
              simp at d0 d1
              refine wpAnyS_one (i := 4) (by kernel_rfl) rfl (fun K7 hK7 => ?_)
              go_simp
              obtain ⟨hqq, hBB, hTT, hRR⟩ := HS9.out.done (vv := vv)
              generalize (w9.setCell ⟨p, 0, none⟩ (.string (mkS nm))).setCell ⟨p, 1, none⟩ (.string (mkS vv)) = W at *
              refine hK7.out _ _ (hqq.symm.trans cq9) (fun hS => ?_)
              clear hK7 K7
              try simp only [Act.put, List.setIfInBounds_toArray, List.set_cons_zero, List.set_cons_succ]
              refine wpAnyS_done (by kernel_rfl) ?_ _
              have b0 := hBB.cell 0
              have b1 := hBB.cell 1
              simp at b0 b1
              have HVV : Hid (Ate w0 g v1 v2 v3 v4 res aV (.returned (aV (nm, vv))) W) := Ate.mkOk hTT hRR HE.out
              unfold aV at HVV
              clear hqq hBB hTT hRR d0 d1 f0 f1 cq cq9
              go_wp2_with fail
              refine bodyPost_ret (v := .agg #[.string (mkS nm), .string (mkS vv)]) ?_ rfl HVV.out
              refine (results_one rfl _ (ad := ⟨p, 0, none⟩) rfl).trans ?_
              go_simp
          | false =>
            rw [hpq, if_neg (by decide)] at hq3
            have HQ := Lib.hid hpq
            clear hpq
            cases hw3 : wantR [34] r4 with
            | error e =>
              have HE : Hid (res = .error e) := by show res = _; rw [hq3, hw3]; rfl
              have HW34 := Lib.hid hw3
              clear hq3 hw3
              go_enter Tryz.func69, Tryz.ntmps69
              go_upto_region 1 with fail
              rw [← hp, ← hwa]
              clear hwa hp
              go_wp2_with fail
              refine CN.out.mono ?_
              intro en w1 ha
              obtain ⟨h1, h2, rfl⟩ := ha.ok HN.out
              obtain ⟨q, hq⟩ : ∃ q, q = w1.heap.size := ⟨_, rfl⟩
              obtain ⟨wb, hwb⟩ : ∃ wb, wb = w1.alloc (.cells #[.string (mkS nm)] 9) := ⟨_, rfl⟩
              have HS1 : Hid (AtS w0 g p q nm v1 v2 v3 v4 r1 wb) := by
                have hz := h1.size
                have := HPZ.out
                subst hwb hq
                exact ⟨(HTA.out.trans h1 (frG _ _)).alloc _, Blk.alloc h2 _, (HPA.out.turned h1 (by simpa using hpg)).alloc _, Blk.new _ _ _, ⟨hpg, by have := HTA.out.size; omega, by omega⟩, hnew⟩
              clear ha h1 h2 CN
              unfold sV
              go_upto_region 2 with fail
              rw [← hq, ← hwb]
              clear hq hwb
              go_wp2_with fail
              refine (must_yes 104 _).mono ?_
              rintro e wm ⟨rfl, rfl⟩
              have CC := Lib.hid (hasA_any nm q al A c wb (HAL.out wb HS1.out.t) hl hcm (HS1.out.nam.cell 0))
              rw [HANY.out] at CC
              go_wp2_with fail
              refine CC.out.mono ?_
              rintro e w2 ⟨rfl, hb2⟩
              obtain ⟨h1, h2⟩ := RdB.later HS1.out.rd hb2
              have HS2 := Lib.hid (HS1.out.next h2 h1)
              clear h1 h2 hb2 CC
              go_wp2_with fail
              refine (must_yes 100 _).mono ?_
              rintro e wm ⟨rfl, rfl⟩
              have CL := Lib.hid (layout_any HS2.out.rd hr1)
              go_wp2_with fail
              refine CL.out.mono ?_
              intro en w3 ha
              obtain ⟨h1, h2, rfl⟩ := ha.ok HL1.out
              have HS3 := Lib.hid (HS2.out.next h1 h2)
              clear ha h1 h2 CL
              unfold bV
              have CW := Lib.hid (want_any HS3.out.rd [61])
              go_wp2_with fail
              refine CW.out.mono ?_
              intro en w4 ha
              obtain ⟨h1, h2, rfl⟩ := ha.ok HW61.out
              have HS4 := Lib.hid (HS3.out.next h1 h2)
              clear ha h1 h2 CW
              unfold uV
              have CL := Lib.hid (layout_any HS4.out.rd hr3)
              go_wp2_with fail
              refine CL.out.mono ?_
              intro en w5 ha
              obtain ⟨h1, h2, rfl⟩ := ha.ok HL2.out
              have HS5 := Lib.hid (HS4.out.next h1 h2)
              clear ha h1 h2 CL
              unfold bV
              have CT := Lib.hid (takes_any HS5.out.rd [39])
              rw [HQ.out] at CT
              go_wp2_with fail
              refine CT.out.mono ?_
              rintro e w6 ⟨rfl, h1, h2⟩
              rw [trim_no HQ.out] at h2
              have HS6 := Lib.hid (HS5.out.next h1 h2)
              clear h1 h2 CT
              have CW := Lib.hid (want_any HS6.out.rd [34])
              go_wp2_with fail
              refine CW.out.mono ?_
              intro en w7 ha
              obtain ⟨h1, ⟨r', h2⟩, rfl⟩ := ha.no HW34.out
              have HS7 := Lib.hid (HS6.out.next h1 h2)
              clear ha h1 h2 CW
              unfold gaveUp
              go_wp2_with fail
              exact ⟨rfl, Ate.mkNo HS7.out.t HS7.out.rd HE.out⟩
            | ok y =>
              obtain ⟨uu3, r5⟩ := y
              have hr5 : r5.length ≤ 40000 := by have := (wantR_len hw3).1; simp at this; omega
              have HW34 := Lib.hid hw3
              cases hv : valueQ [34] r5 with
              | error e =>
                have HE : Hid (res = .error e) := by show res = _; rw [hq3, hw3]; show ((valueQ [34] r5).map _ : RR (Bs × Bs)) = _; rw [hv]; rfl
                have HV := Lib.hid hv
                clear hq3 hv hw3
                go_enter Tryz.func69, Tryz.ntmps69
                go_upto_region 1 with fail
                rw [← hp, ← hwa]
                clear hwa hp
                go_wp2_with fail
                refine CN.out.mono ?_
                intro en w1 ha
                obtain ⟨h1, h2, rfl⟩ := ha.ok HN.out
                obtain ⟨q, hq⟩ : ∃ q, q = w1.heap.size := ⟨_, rfl⟩
                obtain ⟨wb, hwb⟩ : ∃ wb, wb = w1.alloc (.cells #[.string (mkS nm)] 9) := ⟨_, rfl⟩
                have HS1 : Hid (AtS w0 g p q nm v1 v2 v3 v4 r1 wb) := by
                  have hz := h1.size
                  have := HPZ.out
                  subst hwb hq
                  exact ⟨(HTA.out.trans h1 (frG _ _)).alloc _, Blk.alloc h2 _, (HPA.out.turned h1 (by simpa using hpg)).alloc _, Blk.new _ _ _, ⟨hpg, by have := HTA.out.size; omega, by omega⟩, hnew⟩
                clear ha h1 h2 CN
                unfold sV
                go_upto_region 2 with fail
                rw [← hq, ← hwb]
                clear hq hwb
                go_wp2_with fail
                refine (must_yes 104 _).mono ?_
                rintro e wm ⟨rfl, rfl⟩
                have CC := Lib.hid (hasA_any nm q al A c wb (HAL.out wb HS1.out.t) hl hcm (HS1.out.nam.cell 0))
                rw [HANY.out] at CC
                go_wp2_with fail
                refine CC.out.mono ?_
                rintro e w2 ⟨rfl, hb2⟩
                obtain ⟨h1, h2⟩ := RdB.later HS1.out.rd hb2
                have HS2 := Lib.hid (HS1.out.next h2 h1)
                clear h1 h2 hb2 CC
                go_wp2_with fail
                refine (must_yes 100 _).mono ?_
                rintro e wm ⟨rfl, rfl⟩
                have CL := Lib.hid (layout_any HS2.out.rd hr1)
                go_wp2_with fail
                refine CL.out.mono ?_
                intro en w3 ha
                obtain ⟨h1, h2, rfl⟩ := ha.ok HL1.out
                have HS3 := Lib.hid (HS2.out.next h1 h2)
                clear ha h1 h2 CL
                unfold bV
                have CW := Lib.hid (want_any HS3.out.rd [61])
                go_wp2_with fail
                refine CW.out.mono ?_
                intro en w4 ha
                obtain ⟨h1, h2, rfl⟩ := ha.ok HW61.out
                have HS4 := Lib.hid (HS3.out.next h1 h2)
                clear ha h1 h2 CW
                unfold uV
                have CL := Lib.hid (layout_any HS4.out.rd hr3)
                go_wp2_with fail
                refine CL.out.mono ?_
                intro en w5 ha
                obtain ⟨h1, h2, rfl⟩ := ha.ok HL2.out
                have HS5 := Lib.hid (HS4.out.next h1 h2)
                clear ha h1 h2 CL
                unfold bV
                have CT := Lib.hid (takes_any HS5.out.rd [39])
                rw [HQ.out] at CT
                go_wp2_with fail
                refine CT.out.mono ?_
                rintro e w6 ⟨rfl, h1, h2⟩
                rw [trim_no HQ.out] at h2
                have HS6 := Lib.hid (HS5.out.next h1 h2)
                clear h1 h2 CT
                have CW := Lib.hid (want_any HS6.out.rd [34])
                go_wp2_with fail
                refine CW.out.mono ?_
                intro en w7 ha
                obtain ⟨h1, h2, rfl⟩ := ha.ok HW34.out
                have HS7 := Lib.hid (HS6.out.next h1 h2)
                clear ha h1 h2 CW
                unfold uV
                have CV := Lib.hid (value_any (w0 := w7.drew) (B := B) HS7.out.rd (HEN.out _ HS7.out.t.drew) hg hr5 seps34)
                have cq := HS7.out.nam.cell 0
                simp at cq
                go_upto_region 10 with fail
                refine wp_region_S (fun _ w' => w'.cell? ⟨q, 0, none⟩ = some (.string (mkS nm))) (by kernel_rfl) cq (fun hS => ?_)
                refine wpAnyS_take (i := 0) (fun w' => w'.cell? ⟨q, 0, none⟩ = some (.string (mkS nm))) (v := .string (mkS nm)) rfl (by kernel_rfl) (by kernel_rfl) (by kernel_rfl) (fun _ _ _ h => h) (fun l w hw hS => hS) (fun _ _ => Iff.rfl) (by kernel_rfl) hS (fun w' hSw => ?_) (by rfl) (fun hS => ?_)
                · go_simp
                try simp only [Act.put, List.setIfInBounds_toArray, List.set_cons_zero, List.set_cons_succ]
                refine wpAnyS_take (i := 1) (fun _ => True) (v := .pointer (some ⟨g, 0, none⟩)) rfl (by kernel_rfl) (by kernel_rfl) (by kernel_rfl) (fun _ _ _ h => h) (fun _ _ _ _ => trivial) (fun _ _ => Iff.rfl) (by kernel_rfl) hS (fun w' hSw => ?_) (by rfl) (fun hS => ?_)
                · go_simp
                try simp only [Act.put, List.setIfInBounds_toArray, List.set_cons_zero, List.set_cons_succ]
                refine wpAnyS_one (i := 2) (by kernel_rfl) rfl (fun K7 hK7 => ?_)
                go_simp
                refine CV.out.mono ?_
                intro en w9 ha
                obtain ⟨h1, ⟨r', h2⟩, rfl⟩ := ha.no HV.out
                have HS9 := Lib.hid (HS7.out.next h1.from_drew h2)
                clear ha h1 h2 CV
                unfold gaveUp
                go_simp
                exact ⟨rfl, Ate.mkNo HS9.out.t HS9.out.rd HE.out⟩
              | ok z =>
                obtain ⟨vv, r6⟩ := z
                have HE : Hid (res = .ok ((nm, vv), r6)) := by show res = _; rw [hq3, hw3]; show ((valueQ [34] r5).map _ : RR (Bs × Bs)) = _; rw [hv]; rfl
                have HV := Lib.hid hv
                clear hq3 hv hw3
                go_enter Tryz.func69, Tryz.ntmps69
                go_upto_region 1 with fail
                rw [← hp, ← hwa]
                clear hwa hp
                go_wp2_with fail
                refine CN.out.mono ?_
                intro en w1 ha
                obtain ⟨h1, h2, rfl⟩ := ha.ok HN.out
                obtain ⟨q, hq⟩ : ∃ q, q = w1.heap.size := ⟨_, rfl⟩
                obtain ⟨wb, hwb⟩ : ∃ wb, wb = w1.alloc (.cells #[.string (mkS nm)] 9) := ⟨_, rfl⟩
                have HS1 : Hid (AtS w0 g p q nm v1 v2 v3 v4 r1 wb) := by
                  have hz := h1.size
                  have := HPZ.out
                  subst hwb hq
                  exact ⟨(HTA.out.trans h1 (frG _ _)).alloc _, Blk.alloc h2 _, (HPA.out.turned h1 (by simpa using hpg)).alloc _, Blk.new _ _ _, ⟨hpg, by have := HTA.out.size; omega, by omega⟩, hnew⟩
                clear ha h1 h2 CN
                unfold sV
                go_upto_region 2 with fail
                rw [← hq, ← hwb]
                clear hq hwb
                go_wp2_with fail
                refine (must_yes 104 _).mono ?_
                rintro e wm ⟨rfl, rfl⟩
                have CC := Lib.hid (hasA_any nm q al A c wb (HAL.out wb HS1.out.t) hl hcm (HS1.out.nam.cell 0))
                rw [HANY.out] at CC
                go_wp2_with fail
                refine CC.out.mono ?_
                rintro e w2 ⟨rfl, hb2⟩
                obtain ⟨h1, h2⟩ := RdB.later HS1.out.rd hb2
                have HS2 := Lib.hid (HS1.out.next h2 h1)
                clear h1 h2 hb2 CC
                go_wp2_with fail
                refine (must_yes 100 _).mono ?_
                rintro e wm ⟨rfl, rfl⟩
                have CL := Lib.hid (layout_any HS2.out.rd hr1)
                go_wp2_with fail
                refine CL.out.mono ?_
                intro en w3 ha
                obtain ⟨h1, h2, rfl⟩ := ha.ok HL1.out
                have HS3 := Lib.hid (HS2.out.next h1 h2)
                clear ha h1 h2 CL
                unfold bV
                have CW := Lib.hid (want_any HS3.out.rd [61])
                go_wp2_with fail
                refine CW.out.mono ?_
                intro en w4 ha
                obtain ⟨h1, h2, rfl⟩ := ha.ok HW61.out
                have HS4 := Lib.hid (HS3.out.next h1 h2)
                clear ha h1 h2 CW
                unfold uV
                have CL := Lib.hid (layout_any HS4.out.rd hr3)
                go_wp2_with fail
                refine CL.out.mono ?_
                intro en w5 ha
                obtain ⟨h1, h2, rfl⟩ := ha.ok HL2.out
                have HS5 := Lib.hid (HS4.out.next h1 h2)
                clear ha h1 h2 CL
                unfold bV
                have CT := Lib.hid (takes_any HS5.out.rd [39])
                rw [HQ.out] at CT
                go_wp2_with fail
                refine CT.out.mono ?_
                rintro e w6 ⟨rfl, h1, h2⟩
                rw [trim_no HQ.out] at h2
                have HS6 := Lib.hid (HS5.out.next h1 h2)
                clear h1 h2 CT
                have CW := Lib.hid (want_any HS6.out.rd [34])
                go_wp2_with fail
                refine CW.out.mono ?_
                intro en w7 ha
                obtain ⟨h1, h2, rfl⟩ := ha.ok HW34.out
                have HS7 := Lib.hid (HS6.out.next h1 h2)
                clear ha h1 h2 CW
                unfold uV
                have CV := Lib.hid (value_any (w0 := w7.drew) (B := B) HS7.out.rd (HEN.out _ HS7.out.t.drew) hg hr5 seps34)
                have cq := HS7.out.nam.cell 0
                simp at cq
                go_upto_region 10 with fail
                refine wp_region_S (fun _ w' => w'.cell? ⟨q, 0, none⟩ = some (.string (mkS nm))) (by kernel_rfl) cq (fun hS => ?_)
                refine wpAnyS_take (i := 0) (fun w' => w'.cell? ⟨q, 0, none⟩ = some (.string (mkS nm))) (v := .string (mkS nm)) rfl (by kernel_rfl) (by kernel_rfl) (by kernel_rfl) (fun _ _ _ h => h) (fun l w hw hS => hS) (fun _ _ => Iff.rfl) (by kernel_rfl) hS (fun w' hSw => ?_) (by rfl) (fun hS => ?_)
                · go_simp
                try simp only [Act.put, List.setIfInBounds_toArray, List.set_cons_zero, List.set_cons_succ]
                refine wpAnyS_take (i := 1) (fun _ => True) (v := .pointer (some ⟨g, 0, none⟩)) rfl (by kernel_rfl) (by kernel_rfl) (by kernel_rfl) (fun _ _ _ h => h) (fun _ _ _ _ => trivial) (fun _ _ => Iff.rfl) (by kernel_rfl) hS (fun w' hSw => ?_) (by rfl) (fun hS => ?_)
                · go_simp
                try simp only [Act.put, List.setIfInBounds_toArray, List.set_cons_zero, List.set_cons_succ]
                refine wpAnyS_one (i := 2) (by kernel_rfl) rfl (fun K7 hK7 => ?_)
                go_simp
                refine CV.out.mono ?_
                intro en w9 ha
                obtain ⟨h1, h2, rfl⟩ := ha.ok HV.out
                have HS9 := Lib.hid (HS7.out.next h1.from_drew h2)
                clear ha h1 h2 CV
                unfold sV
                have cq9 := HS9.out.nam.cell 0
                simp at cq9
                refine hK7.out _ _ cq9 (fun hS => ?_)
                clear hK7 K7
                try simp only [Act.put, List.setIfInBounds_toArray, List.set_cons_zero, List.set_cons_succ]
                refine wpAnyS_one (i := 3) (by kernel_rfl) rfl (fun K7 hK7 => ?_)
                go_simp
                refine hK7.out _ _ cq9 (fun hS => ?_)
                clear hK7 K7
                try simp only [Act.put, List.setIfInBounds_toArray, List.set_cons_zero, List.set_cons_succ]
                have d0 := HS9.out.res.cell 0
                have d1 := HS9.out.res.cell 1
                have f0 := HS9.out.res.free 0
                have f1 := HS9.out.res.free 1
                simp at d0 d1
                refine wpAnyS_one (i := 4) (by kernel_rfl) rfl (fun K7 hK7 => ?_)
                go_simp
                obtain ⟨hqq, hBB, hTT, hRR⟩ := HS9.out.done (vv := vv)
                generalize (w9.setCell ⟨p, 0, none⟩ (.string (mkS nm))).setCell ⟨p, 1, none⟩ (.string (mkS vv)) = W at *
                refine hK7.out _ _ (hqq.symm.trans cq9) (fun hS => ?_)
                clear hK7 K7
                try simp only [Act.put, List.setIfInBounds_toArray, List.set_cons_zero, List.set_cons_succ]
                refine wpAnyS_done (by kernel_rfl) ?_ _
                have b0 := hBB.cell 0
                have b1 := hBB.cell 1
                simp at b0 b1
                have HVV : Hid (Ate w0 g v1 v2 v3 v4 res aV (.returned (aV (nm, vv))) W) := Ate.mkOk hTT hRR HE.out
                unfold aV at HVV
                clear hqq hBB hTT hRR d0 d1 f0 f1 cq cq9
                go_wp2_with fail
                refine bodyPost_ret (v := .agg #[.string (mkS nm), .string (mkS vv)]) ?_ rfl HVV.out
                refine (results_one rfl _ (ad := ⟨p, 0, none⟩) rfl).trans ?_
                go_simp
    · rw [if_neg h16] at hq
      have HE := Lib.hid hq
      have hz16 : ¬ (al.length : Int) < 16 := by omega
      have hd16 : decide ((al.length : Int) < 16) = false := decide_eq_false hz16
      clear h16 hq
      go_enter Tryz.func69, Tryz.ntmps69
      go_upto_region 1 with fail
      rw [← hp, ← hwa]
      clear hwa hp
      go_wp2_with fail
      refine CN.out.mono ?_
      intro en w1 ha
      obtain ⟨h1, h2, rfl⟩ := ha.ok HN.out
      obtain ⟨q, hq⟩ : ∃ q, q = w1.heap.size := ⟨_, rfl⟩
      obtain ⟨wb, hwb⟩ : ∃ wb, wb = w1.alloc (.cells #[.string (mkS nm)] 9) := ⟨_, rfl⟩
      have HS1 : Hid (AtS w0 g p q nm v1 v2 v3 v4 r1 wb) := by
        have hz := h1.size
        have := HPZ.out
        subst hwb hq
        exact ⟨(HTA.out.trans h1 (frG _ _)).alloc _, Blk.alloc h2 _, (HPA.out.turned h1 (by simpa using hpg)).alloc _, Blk.new _ _ _, ⟨hpg, by have := HTA.out.size; omega, by omega⟩, hnew⟩
      clear ha h1 h2 CN
      unfold sV
      go_upto_region 2 with fail
      rw [← hq, ← hwb]
      clear hq hwb
      go_wp2_with fail
      refine (must_no 104 _).mono ?_
      rintro e wm ⟨rfl, rfl⟩
      unfold gaveUp
      go_wp2_with fail
      exact ⟨rfl, Ate.mkNo HS1.out.t HS1.out.rd HE.out⟩
end
end Go.Proofs.YtoifibnmincodaaGreatDoor
