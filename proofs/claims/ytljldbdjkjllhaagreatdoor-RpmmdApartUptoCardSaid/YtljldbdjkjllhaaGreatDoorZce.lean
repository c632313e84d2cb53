/- An attribute is taken. A reader with what is open; an element ends. A piece is stored whole. -/
import Derived.Test.YtljldbdjkjllhaaGreatDoorZcd
import Derived.Test.YtljldbdjkjllhaaGreatDoorZaa
/- An attribute is taken. -/
namespace Go.Proofs.YtljldbdjkjllhaaGreatDoor
set_option linter.unusedSimpArgs false
set_option linter.unusedVariables false
open Go.RowKit

theorem Turned.from_drew {F : List Nat} {w w' : World} (h : Turned F w.drew w') : Turned F w w' := ⟨h.os, h.tape, h.output, h.size, h.block⟩
def aV (a : Bs × Bs) : Value := .agg #[.string (mkS a.1), .string (mkS a.2)]
/-- While an attribute is taken: what it answers lies at p, its name at q. -/
structure AtS (w0 : World) (g p q : Nat) (nm : Bs) (v1 v2 v3 v4 : Value) (r : Bs) (w : World) : Prop where
  t : Turned [g] w0 w
  rd : RdB w g r v1 v2 v3 v4
  res : Blk w p 172 #[.string ⟨#[]⟩, .string ⟨#[]⟩]
  nam : Blk w q 9 #[.string (mkS nm)]
  ne : p ≠ g ∧ q ≠ g ∧ p ≠ q
  new : w0.heap.size ≤ p
theorem AtS.next {w0 w w' : World} {g p q : Nat} {nm : Bs} {v1 v2 v3 v4 : Value} {r r' : Bs} (h : AtS w0 g p q nm v1 v2 v3 v4 r w) (ht : Turned [g] w w') (hr : RdB w' g r' v1 v2 v3 v4) : AtS w0 g p q nm v1 v2 v3 v4 r' w' :=
  ⟨h.t.trans ht (frG _ _), hr, h.res.turned ht (by simpa using h.ne.1), h.nam.turned ht (by simpa using h.ne.2.1), h.ne, h.new⟩
theorem AtS.done {w0 w : World} {g p q : Nat} {nm vv : Bs} {v1 v2 v3 v4 : Value} {r : Bs} (h : AtS w0 g p q nm v1 v2 v3 v4 r w) :
    w.cell? ⟨q, 0, none⟩ = ((w.setCell ⟨p, 0, none⟩ (.string (mkS nm))).setCell ⟨p, 1, none⟩ (.string (mkS vv))).cell? ⟨q, 0, none⟩ ∧ Blk ((w.setCell ⟨p, 0, none⟩ (.string (mkS nm))).setCell ⟨p, 1, none⟩ (.string (mkS vv))) p 172 #[.string (mkS nm), .string (mkS vv)] ∧
    Turned [g] w0 ((w.setCell ⟨p, 0, none⟩ (.string (mkS nm))).setCell ⟨p, 1, none⟩ (.string (mkS vv))) ∧ RdB ((w.setCell ⟨p, 0, none⟩ (.string (mkS nm))).setCell ⟨p, 1, none⟩ (.string (mkS vv))) g r v1 v2 v3 v4 := by
  have h1 := h.ne.1
  have h2 := h.ne.2.2
  refine ⟨?_, (h.res.set_ 0 _).set_ 1 _, (h.t.setCell (.inr h.new) _).setCell (.inr h.new) _, Blk.far (Blk.far h.rd (Ne.symm h1) _) (Ne.symm h1) _⟩
  have n1 := (h.nam.far (p := ⟨p, 0, none⟩) (Ne.symm h2) (.string (mkS nm))).far (p := ⟨p, 1, none⟩) (Ne.symm h2) (.string (mkS vv))
  rw [n1.cell 0, h.nam.cell 0]
theorem results_one {fn : Func} {t : Tmp} {e : TypeId} (h : fn.results = #[.cell t e]) (tmps : Array Value) {P : Program} {w : World} {ad : Addr} (hp : tmps[t]?.getD undef = .pointer (some ad)) :
    (results fn tmps).run P w = (loadVar e ad).run P w := by
  simp [results, h, hp, asAddr]
theorem seps39 : Seps ([60, 38] ++ [39]) := ⟨by decide, by decide, by decide⟩
theorem seps34 : Seps ([60, 38] ++ [34]) := ⟨by decide, by decide, by decide⟩
theorem attrR_name {o : Al} {r : Bs} {e : Int} (h : nameR r = .error e) : attrR o r = .error e := by rw [attrR, h]; rfl
theorem attrR_eq {o : Al} {r : Bs} {x : Bs × Bs} (h : nameR r = .ok x) : attrR o r =
    if o.length < 16 then
      if o.any (hasNm x.1) = true then .error 100 else
      (layoutR x.2).bind fun a => (wantR [61] a.2).bind fun b => (layoutR b.2).bind fun c =>
        if Lib.hasPrefix c.2 [39] = true then (valueQ [39] (Lib.trimPrefix c.2 [39])).map fun v => ((x.1, v.1), v.2)
        else (wantR [34] c.2).bind fun d => (valueQ [34] d.2).map fun v => ((x.1, v.1), v.2)
    else .error 104 := by rw [attrR, h]; rfl
section
variable {w0 : World} {B g : Nat} {r : Bs} {v1 v2 v3 v4 : Value}
set_option maxHeartbeats 16000000 in
set_option maxRecDepth 1000000 in
theorem attr_any (h : RdB w0 g r v1 v2 v3 v4) (hE : XEnv B w0) (hg : B ≤ g) (hr : r.length ≤ 40000) (al : Al) (A : Option Addr) (c : Nat) (hl : al.length ≤ c) (hcm : c ≤ maxLen)
    (hAl : ∀ w', Turned [g] w0 w' → AlAt w' w'.heap.size A al) :
    Calls Tryz.prog 161 #[.pointer (some ⟨g, 0, none⟩), .slice A al.length c] w0 (Ate w0 g v1 v2 v3 v4 (attrR al r) aV) := by
  have hglt := Blk.lt h
  obtain ⟨wa, hwa⟩ : ∃ wa, wa = w0.alloc (.cells #[.string ⟨#[]⟩, .string ⟨#[]⟩] 172) := ⟨_, rfl⟩
  obtain ⟨p, hp⟩ : ∃ p, p = w0.heap.size := ⟨_, rfl⟩
  have HTA : Hid (Turned [g] w0 wa) := by show Turned [g] w0 wa; rw [hwa]; exact (Turned.refl _ _).alloc _
  have HRA : Hid (RdB wa g r v1 v2 v3 v4) := by show RdB wa g r v1 v2 v3 v4; rw [hwa]; exact Blk.alloc h _
  have HPA : Hid (Blk wa p 172 #[.string ⟨#[]⟩, .string ⟨#[]⟩]) := by show Blk wa p _ _; rw [hwa, hp]; exact Blk.new _ _ _
  have HEN : Hid (∀ w, Turned [g] w0 w → XEnv B w) := fun w ht => hE.one ht hg
  have HAL := Lib.hid hAl
  have CN := Lib.hid (name_any HRA.out hr)
  have hpg : p ≠ g := by rw [hp]; omega
  have hnew : w0.heap.size ≤ p := by rw [hp]; exact Nat.le_refl _
  have HPZ : Hid (p < wa.heap.size) := by show p < _; rw [hwa, hp]; simp
  clear h hE hAl
  obtain ⟨res, hres⟩ : ∃ res, res = attrR al r := ⟨_, rfl⟩
  rw [← hres]
  cases hn : nameR r with
  | error e =>
    have HE : Hid (res = .error e) := by show res = _; rw [hres]; exact attrR_name hn
    have HN := Lib.hid hn
    clear hn hres
    go_enter Tryz.func161, Tryz.ntmps161
    go_upto_region 1 with fail
    rw [← hp, ← hwa]
    clear hwa hp
    go_wp2_with fail
    refine CN.out.mono ?_
    intro en w1 ha
    obtain ⟨h1, ⟨r', h2⟩, rfl⟩ := ha.no HN.out
    have HT1 := Lib.hid (HTA.out.trans h1 (frG _ _))
    have HR1 := Lib.hid h2
    clear ha h1 h2 CN
    unfold gaveUp
    go_wp2_with fail
    exact ⟨rfl, Ate.mkNo HT1.out HR1.out HE.out⟩
  | ok x =>
    obtain ⟨nm, r1⟩ := x
    have hq := attrR_eq (o := al) hn
    rw [← hres] at hq
    clear hres
    have HN := Lib.hid hn
    have hr1 : r1.length ≤ 40000 := by have := nameR_len hn; simp at this; omega
    clear hn
    simp only at hq
    by_cases h16 : al.length < 16
    · rw [if_pos h16] at hq
      have hz16 : (al.length : Int) < 16 := by omega
      have hd16 : decide ((al.length : Int) < 16) = true := decide_eq_true hz16
      clear h16
      cases hany : al.any (hasNm nm) with
      | true =>
        rw [hany, if_pos rfl] at hq
        have HE := Lib.hid hq
        have HANY := Lib.hid hany
        clear hq hany
        go_enter Tryz.func161, Tryz.ntmps161
        go_upto_region 1 with fail
        rw [← hp, ← hwa]
        clear hwa hp
        go_wp2_with fail
        refine CN.out.mono ?_
        intro en w1 ha
        obtain ⟨h1, h2, rfl⟩ := ha.ok HN.out
        obtain ⟨q, hq⟩ : ∃ q, q = w1.heap.size := ⟨_, rfl⟩
        obtain ⟨wb, hwb⟩ : ∃ wb, wb = w1.alloc (.cells #[.string (mkS nm)] 9) := ⟨_, rfl⟩
        have HS1 : Hid (AtS w0 g p q nm v1 v2 v3 v4 r1 wb) := by
          have hz := h1.size
          have := HPZ.out
          subst hwb hq
          exact ⟨(HTA.out.trans h1 (frG _ _)).alloc _, Blk.alloc h2 _, (HPA.out.turned h1 (by simpa using hpg)).alloc _, Blk.new _ _ _, ⟨hpg, by have := HTA.out.size; omega, by omega⟩, hnew⟩
        clear ha h1 h2 CN
        unfold sV
        go_upto_region 2 with fail
        rw [← hq, ← hwb]
        clear hq hwb
        go_wp2_with fail
        refine (must_yes 104 _).mono ?_
        rintro e wm ⟨rfl, rfl⟩
        have CC := Lib.hid (hasA_any nm q al A c wb (HAL.out wb HS1.out.t) hl hcm (HS1.out.nam.cell 0))
        rw [HANY.out] at CC
        go_wp2_with fail
        refine CC.out.mono ?_
        rintro e w2 ⟨rfl, hb2⟩
        obtain ⟨h1, h2⟩ := RdB.later HS1.out.rd hb2
        have HS2 := Lib.hid (HS1.out.next h2 h1)
        clear h1 h2 hb2 CC
        go_wp2_with fail
        refine (must_no 100 _).mono ?_
        rintro e wm ⟨rfl, rfl⟩
        unfold gaveUp
        go_wp2_with fail
        exact ⟨rfl, Ate.mkNo HS2.out.t HS2.out.rd HE.out⟩
      | false =>
        rw [hany, if_neg (by decide)] at hq
        have HANY := Lib.hid hany
        clear hany
        obtain ⟨b1, r2, hL1⟩ : ∃ b1 r2, layoutR r1 = .ok (b1, r2) := ⟨_, _, layoutR_ok r1⟩
        have hr2 : r2.length ≤ 40000 := by have := layoutR_len hL1; simp at this; omega
        have HL1 := Lib.hid hL1
        have hq2 : res = (wantR [61] r2).bind fun b => (layoutR b.2).bind fun c =>
          if Lib.hasPrefix c.2 [39] = true then (valueQ [39] (Lib.trimPrefix c.2 [39])).map fun v => ((nm, v.1), v.2)
          else (wantR [34] c.2).bind fun d => (valueQ [34] d.2).map fun v => ((nm, v.1), v.2) := by rw [hq, hL1]; rfl
        clear hL1 hq
        cases hw : wantR [61] r2 with
        | error e =>
          have HE : Hid (res = .error e) := by show res = _; rw [hq2, hw]; rfl
          have HW61 := Lib.hid hw
          clear hq2 hw
          go_enter Tryz.func161, Tryz.ntmps161
          go_upto_region 1 with fail
          rw [← hp, ← hwa]
          clear hwa hp
          go_wp2_with fail
          refine CN.out.mono ?_
          intro en w1 ha
          obtain ⟨h1, h2, rfl⟩ := ha.ok HN.out
          obtain ⟨q, hq⟩ : ∃ q, q = w1.heap.size := ⟨_, rfl⟩
          obtain ⟨wb, hwb⟩ : ∃ wb, wb = w1.alloc (.cells #[.string (mkS nm)] 9) := ⟨_, rfl⟩
          have HS1 : Hid (AtS w0 g p q nm v1 v2 v3 v4 r1 wb) := by
            have hz := h1.size
            have := HPZ.out
            subst hwb hq
            exact ⟨(HTA.out.trans h1 (frG _ _)).alloc _, Blk.alloc h2 _, (HPA.out.turned h1 (by simpa using hpg)).alloc _, Blk.new _ _ _, ⟨hpg, by have := HTA.out.size; omega, by omega⟩, hnew⟩
          clear ha h1 h2 CN
          unfold sV
          go_upto_region 2 with fail
          rw [← hq, ← hwb]
          clear hq hwb
          go_wp2_with fail
          refine (must_yes 104 _).mono ?_
          rintro e wm ⟨rfl, rfl⟩
          have CC := Lib.hid (hasA_any nm q al A c wb (HAL.out wb HS1.out.t) hl hcm (HS1.out.nam.cell 0))
          rw [HANY.out] at CC
          go_wp2_with fail
          refine CC.out.mono ?_
          rintro e w2 ⟨rfl, hb2⟩
          obtain ⟨h1, h2⟩ := RdB.later HS1.out.rd hb2
          have HS2 := Lib.hid (HS1.out.next h2 h1)
          clear h1 h2 hb2 CC
          go_wp2_with fail
          refine (must_yes 100 _).mono ?_
          rintro e wm ⟨rfl, rfl⟩
          have CL := Lib.hid (layout_any HS2.out.rd hr1)
          go_wp2_with fail
          refine CL.out.mono ?_
          intro en w3 ha
          obtain ⟨h1, h2, rfl⟩ := ha.ok HL1.out
          have HS3 := Lib.hid (HS2.out.next h1 h2)
          clear ha h1 h2 CL
          unfold bV
          have CW := Lib.hid (want_any HS3.out.rd [61])
          go_wp2_with fail
          refine CW.out.mono ?_
          intro en w4 ha
          obtain ⟨h1, ⟨r', h2⟩, rfl⟩ := ha.no HW61.out
          have HS4 := Lib.hid (HS3.out.next h1 h2)
          clear ha h1 h2 CW
          unfold gaveUp
          go_wp2_with fail
          exact ⟨rfl, Ate.mkNo HS4.out.t HS4.out.rd HE.out⟩
        | ok y =>
          obtain ⟨uu, r3⟩ := y
          have hr3 : r3.length ≤ 40000 := by have := (wantR_len hw).1; simp at this; omega
          have HW61 := Lib.hid hw
          obtain ⟨b2, r4, hL2⟩ : ∃ b2 r4, layoutR r3 = .ok (b2, r4) := ⟨_, _, layoutR_ok r3⟩
          have hr4 : r4.length ≤ 40000 := by have := layoutR_len hL2; simp at this; omega
          have HL2 := Lib.hid hL2
          have hq3 : res = if Lib.hasPrefix r4 [39] = true then (valueQ [39] (Lib.trimPrefix r4 [39])).map fun v => ((nm, v.1), v.2)
            else (wantR [34] r4).bind fun d => (valueQ [34] d.2).map fun v => ((nm, v.1), v.2) := by rw [hq2, hw]; show ((layoutR r3).bind _ : RR (Bs × Bs)) = _; rw [hL2]; rfl
          clear hw hL2 hq2
          cases hpq : Lib.hasPrefix r4 [39] with
          | true =>
            rw [hpq, if_pos rfl] at hq3
            have HQ := Lib.hid hpq
            have hr5 : (Lib.trimPrefix r4 [39]).length ≤ 40000 := by have := trim_len r4 [39]; omega
            clear hpq
            cases hv : valueQ [39] (Lib.trimPrefix r4 [39]) with
            | error e =>
              have HE : Hid (res = .error e) := by show res = _; rw [hq3, hv]; rfl
              have HV := Lib.hid hv
              clear hq3 hv
              go_enter Tryz.func161, Tryz.ntmps161
              go_upto_region 1 with fail
              rw [← hp, ← hwa]
              clear hwa hp
              go_wp2_with fail
              refine CN.out.mono ?_
              intro en w1 ha
              obtain ⟨h1, h2, rfl⟩ := ha.ok HN.out
              obtain ⟨q, hq⟩ : ∃ q, q = w1.heap.size := ⟨_, rfl⟩
              obtain ⟨wb, hwb⟩ : ∃ wb, wb = w1.alloc (.cells #[.string (mkS nm)] 9) := ⟨_, rfl⟩
              have HS1 : Hid (AtS w0 g p q nm v1 v2 v3 v4 r1 wb) := by
                have hz := h1.size
                have := HPZ.out
                subst hwb hq
                exact ⟨(HTA.out.trans h1 (frG _ _)).alloc _, Blk.alloc h2 _, (HPA.out.turned h1 (by simpa using hpg)).alloc _, Blk.new _ _ _, ⟨hpg, by have := HTA.out.size; omega, by omega⟩, hnew⟩
              clear ha h1 h2 CN
              unfold sV
              go_upto_region 2 with fail
              rw [← hq, ← hwb]
              clear hq hwb
              go_wp2_with fail
              refine (must_yes 104 _).mono ?_
              rintro e wm ⟨rfl, rfl⟩
              have CC := Lib.hid (hasA_any nm q al A c wb (HAL.out wb HS1.out.t) hl hcm (HS1.out.nam.cell 0))
              rw [HANY.out] at CC
              go_wp2_with fail
              refine CC.out.mono ?_
              rintro e w2 ⟨rfl, hb2⟩
              obtain ⟨h1, h2⟩ := RdB.later HS1.out.rd hb2
              have HS2 := Lib.hid (HS1.out.next h2 h1)
              clear h1 h2 hb2 CC
              go_wp2_with fail
              refine (must_yes 100 _).mono ?_
              rintro e wm ⟨rfl, rfl⟩
              have CL := Lib.hid (layout_any HS2.out.rd hr1)
              go_wp2_with fail
              refine CL.out.mono ?_
              intro en w3 ha
              obtain ⟨h1, h2, rfl⟩ := ha.ok HL1.out
              have HS3 := Lib.hid (HS2.out.next h1 h2)
              clear ha h1 h2 CL
              unfold bV
              have CW := Lib.hid (want_any HS3.out.rd [61])
              go_wp2_with fail
              refine CW.out.mono ?_
              intro en w4 ha
              obtain ⟨h1, h2, rfl⟩ := ha.ok HW61.out
              have HS4 := Lib.hid (HS3.out.next h1 h2)
              clear ha h1 h2 CW
              unfold uV
              have CL := Lib.hid (layout_any HS4.out.rd hr3)
              go_wp2_with fail
              refine CL.out.mono ?_
              intro en w5 ha
              obtain ⟨h1, h2, rfl⟩ := ha.ok HL2.out
              have HS5 := Lib.hid (HS4.out.next h1 h2)
              clear ha h1 h2 CL
              unfold bV
              have CT := Lib.hid (takes_any HS5.out.rd [39])
              rw [HQ.out] at CT
              go_wp2_with fail
              refine CT.out.mono ?_
              rintro e w6 ⟨rfl, h1, h2⟩
              have HS6 := Lib.hid (HS5.out.next h1 h2)
              clear h1 h2 CT
              have CV := Lib.hid (value_any (w0 := w6.drew) (B := B) HS6.out.rd (HEN.out _ HS6.out.t.drew) hg hr5 seps39)
              have cq := HS6.out.nam.cell 0
              simp at cq
              go_upto_region 8 with fail
              refine wp_region_S (fun _ w' => w'.cell? ⟨q, 0, none⟩ = some (.string (mkS nm))) (by kernel_rfl) cq (fun hS => ?_)
              refine wpAnyS_take (i := 0) (fun w' => w'.cell? ⟨q, 0, none⟩ = some (.string (mkS nm))) (v := .string (mkS nm)) rfl (by kernel_rfl) (by kernel_rfl) (by kernel_rfl) (fun _ _ _ h => h) (fun l w hw hS => hS) (fun _ _ => Iff.rfl) (by kernel_rfl) hS (fun w' hSw => ?_) (by rfl) (fun hS => ?_)
              · go_simp
              try simp only [Act.put, List.setIfInBounds_toArray, List.set_cons_zero, List.set_cons_succ]
              refine wpAnyS_take (i := 1) (fun _ => True) (v := .pointer (some ⟨g, 0, none⟩)) rfl (by kernel_rfl) (by kernel_rfl) (by kernel_rfl) (fun _ _ _ h => h) (fun _ _ _ _ => trivial) (fun _ _ => Iff.rfl) (by kernel_rfl) hS (fun w' hSw => ?_) (by rfl) (fun hS => ?_)
              · go_simp
              try simp only [Act.put, List.setIfInBounds_toArray, List.set_cons_zero, List.set_cons_succ]
              refine wpAnyS_one (i := 2) (by kernel_rfl) rfl (fun K7 hK7 => ?_)
              go_simp
              refine CV.out.mono ?_
              intro en w9 ha
              obtain ⟨h1, ⟨r', h2⟩, rfl⟩ := ha.no HV.out
              have HS9 := Lib.hid (HS6.out.next h1.from_drew h2)
              clear ha h1 h2 CV
              unfold gaveUp
              go_simp
              exact ⟨rfl, Ate.mkNo HS9.out.t HS9.out.rd HE.out⟩
            | ok z =>
              obtain ⟨vv, r6⟩ := z
              have HE : Hid (res = .ok ((nm, vv), r6)) := by show res = _; rw [hq3, hv]; rfl
              have HV := Lib.hid hv
              clear hq3 hv
              go_enter Tryz.func161, Tryz.ntmps161
              go_upto_region 1 with fail
              rw [← hp, ← hwa]
              clear hwa hp
              go_wp2_with fail
              refine CN.out.mono ?_
              intro en w1 ha
              obtain ⟨h1, h2, rfl⟩ := ha.ok HN.out
              obtain ⟨q, hq⟩ : ∃ q, q = w1.heap.size := ⟨_, rfl⟩
              obtain ⟨wb, hwb⟩ : ∃ wb, wb = w1.alloc (.cells #[.string (mkS nm)] 9) := ⟨_, rfl⟩
              have HS1 : Hid (AtS w0 g p q nm v1 v2 v3 v4 r1 wb) := by
                have hz := h1.size
                have := HPZ.out
                subst hwb hq
                exact ⟨(HTA.out.trans h1 (frG _ _)).alloc _, Blk.alloc h2 _, (HPA.out.turned h1 (by simpa using hpg)).alloc _, Blk.new _ _ _, ⟨hpg, by have := HTA.out.size; omega, by omega⟩, hnew⟩
              clear ha h1 h2 CN
              unfold sV
              go_upto_region 2 with fail
              rw [← hq, ← hwb]
              clear hq hwb
              go_wp2_with fail
              refine (must_yes 104 _).mono ?_
              rintro e wm ⟨rfl, rfl⟩
              have CC := Lib.hid (hasA_any nm q al A c wb (HAL.out wb HS1.out.t) hl hcm (HS1.out.nam.cell 0))
              rw [HANY.out] at CC
              go_wp2_with fail
              refine CC.out.mono ?_
              rintro e w2 ⟨rfl, hb2⟩
              obtain ⟨h1, h2⟩ := RdB.later HS1.out.rd hb2
              have HS2 := Lib.hid (HS1.out.next h2 h1)
              clear h1 h2 hb2 CC
              go_wp2_with fail
              refine (must_yes 100 _).mono ?_
              rintro e wm ⟨rfl, rfl⟩
              have CL := Lib.hid (layout_any HS2.out.rd hr1)
              go_wp2_with fail
              refine CL.out.mono ?_
              intro en w3 ha
              obtain ⟨h1, h2, rfl⟩ := ha.ok HL1.out
              have HS3 := Lib.hid (HS2.out.next h1 h2)
              clear ha h1 h2 CL
              unfold bV
              have CW := Lib.hid (want_any HS3.out.rd [61])
              go_wp2_with fail
              refine CW.out.mono ?_
              intro en w4 ha
              obtain ⟨h1, h2, rfl⟩ := ha.ok HW61.out
              have HS4 := Lib.hid (HS3.out.next h1 h2)
              clear ha h1 h2 CW
              unfold uV
              have CL := Lib.hid (layout_any HS4.out.rd hr3)
              go_wp2_with fail
              refine CL.out.mono ?_
              intro en w5 ha
              obtain ⟨h1, h2, rfl⟩ := ha.ok HL2.out
              have HS5 := Lib.hid (HS4.out.next h1 h2)
              clear ha h1 h2 CL
              unfold bV
              have CT := Lib.hid (takes_any HS5.out.rd [39])
              rw [HQ.out] at CT
              go_wp2_with fail
              refine CT.out.mono ?_
              rintro e w6 ⟨rfl, h1, h2⟩
              have HS6 := Lib.hid (HS5.out.next h1 h2)
              clear h1 h2 CT
              have CV := Lib.hid (value_any (w0 := w6.drew) (B := B) HS6.out.rd (HEN.out _ HS6.out.t.drew) hg hr5 seps39)
              have cq := HS6.out.nam.cell 0
              simp at cq
              go_upto_region 8 with fail
              refine wp_region_S (fun _ w' => w'.cell? ⟨q, 0, none⟩ = some (.string (mkS nm))) (by kernel_rfl) cq (fun hS => ?_)
              refine wpAnyS_take (i := 0) (fun w' => w'.cell? ⟨q, 0, none⟩ = some (.string (mkS nm))) (v := .string (mkS nm)) rfl (by kernel_rfl) (by kernel_rfl) (by kernel_rfl) (fun _ _ _ h => h) (fun l w hw hS => hS) (fun _ _ => Iff.rfl) (by kernel_rfl) hS (fun w' hSw => ?_) (by rfl) (fun hS => ?_)
              · go_simp
              try simp only [Act.put, List.setIfInBounds_toArray, List.set_cons_zero, List.set_cons_succ]
              refine wpAnyS_take (i := 1) (fun _ => True) (v := .pointer (some ⟨g, 0, none⟩)) rfl (by kernel_rfl) (by kernel_rfl) (by kernel_rfl) (fun _ _ _ h => h) (fun _ _ _ _ => trivial) (fun _ _ => Iff.rfl) (by kernel_rfl) hS (fun w' hSw => ?_) (by rfl) (fun hS => ?_)
              · go_simp
              try simp only [Act.put, List.setIfInBounds_toArray, List.set_cons_zero, List.set_cons_succ]
              refine wpAnyS_one (i := 2) (by kernel_rfl) rfl (fun K7 hK7 => ?_)
              go_simp
              refine CV.out.mono ?_
              intro en w9 ha
              obtain ⟨h1, h2, rfl⟩ := ha.ok HV.out
              have HS9 := Lib.hid (HS6.out.next h1.from_drew h2)
              clear ha h1 h2 CV
              unfold sV
              have cq9 := HS9.out.nam.cell 0
              simp at cq9
              refine hK7.out _ _ cq9 (fun hS => ?_)
              clear hK7 K7
              try simp only [Act.put, List.setIfInBounds_toArray, List.set_cons_zero, List.set_cons_succ]
              refine wpAnyS_one (i := 3) (by kernel_rfl) rfl (fun K7 hK7 => ?_)
              go_simp
              refine hK7.out _ _ cq9 (fun hS => ?_)
              clear hK7 K7
              try simp only [Act.put, List.setIfInBounds_toArray, List.set_cons_zero, List.set_cons_succ]
              have d0 := HS9.out.res.cell 0
              have d1 := HS9.out.res.cell 1
              have f0 := HS9.out.res.free 0
              have f1 := HS9.out.res.free 1
              simp at d0 d1
              refine wpAnyS_one (i := 4) (by kernel_rfl) rfl (fun K7 hK7 => ?_)
              go_simp
              obtain ⟨hqq, hBB, hTT, hRR⟩ := HS9.out.done (vv := vv)
              generalize (w9.setCell ⟨p, 0, none⟩ (.string (mkS nm))).setCell ⟨p, 1, none⟩ (.string (mkS vv)) = W at *
              refine hK7.out _ _ (hqq.symm.trans cq9) (fun hS => ?_)
              clear hK7 K7
              try simp only [Act.put, List.setIfInBounds_toArray, List.set_cons_zero, List.set_cons_succ]
              refine wpAnyS_done (by kernel_rfl) ?_ _
              have b0 := hBB.cell 0
              have b1 := hBB.cell 1
              simp at b0 b1
              have HVV : Hid (Ate w0 g v1 v2 v3 v4 res aV (.returned (aV (nm, vv))) W) := Ate.mkOk hTT hRR HE.out
              unfold aV at HVV
              clear hqq hBB hTT hRR d0 d1 f0 f1 cq cq9
              go_wp2_with fail
              refine bodyPost_ret (v := .agg #[.string (mkS nm), .string (mkS vv)]) ?_ rfl HVV.out
              refine (results_one rfl _ (ad := ⟨p, 0, none⟩) rfl).trans ?_
              go_simp
          | false =>
            rw [hpq, if_neg (by decide)] at hq3
            have HQ := Lib.hid hpq
            clear hpq
            cases hw3 : wantR [34] r4 with
            | error e =>
              have HE : Hid (res = .error e) := by show res = _; rw [hq3, hw3]; rfl
              have HW34 := Lib.hid hw3
              clear hq3 hw3
              go_enter Tryz.func161, Tryz.ntmps161
              go_upto_region 1 with fail
              rw [← hp, ← hwa]
              clear hwa hp
              go_wp2_with fail
              refine CN.out.mono ?_
              intro en w1 ha
              obtain ⟨h1, h2, rfl⟩ := ha.ok HN.out
              obtain ⟨q, hq⟩ : ∃ q, q = w1.heap.size := ⟨_, rfl⟩
              obtain ⟨wb, hwb⟩ : ∃ wb, wb = w1.alloc (.cells #[.string (mkS nm)] 9) := ⟨_, rfl⟩
              have HS1 : Hid (AtS w0 g p q nm v1 v2 v3 v4 r1 wb) := by
                have hz := h1.size
                have := HPZ.out
                subst hwb hq
                exact ⟨(HTA.out.trans h1 (frG _ _)).alloc _, Blk.alloc h2 _, (HPA.out.turned h1 (by simpa using hpg)).alloc _, Blk.new _ _ _, ⟨hpg, by have := HTA.out.size; omega, by omega⟩, hnew⟩
              clear ha h1 h2 CN
              unfold sV
              go_upto_region 2 with fail
              rw [← hq, ← hwb]
              clear hq hwb
              go_wp2_with fail
              refine (must_yes 104 _).mono ?_
              rintro e wm ⟨rfl, rfl⟩
              have CC := Lib.hid (hasA_any nm q al A c wb (HAL.out wb HS1.out.t) hl hcm (HS1.out.nam.cell 0))
              rw [HANY.out] at CC
              go_wp2_with fail
              refine CC.out.mono ?_
              rintro e w2 ⟨rfl, hb2⟩
              obtain ⟨h1, h2⟩ := RdB.later HS1.out.rd hb2
              have HS2 := Lib.hid (HS1.out.next h2 h1)
              clear h1 h2 hb2 CC
              go_wp2_with fail
              refine (must_yes 100 _).mono ?_
              rintro e wm ⟨rfl, rfl⟩
              have CL := Lib.hid (layout_any HS2.out.rd hr1)
              go_wp2_with fail
              refine CL.out.mono ?_
              intro en w3 ha
              obtain ⟨h1, h2, rfl⟩ := ha.ok HL1.out
              have HS3 := Lib.hid (HS2.out.next h1 h2)
              clear ha h1 h2 CL
              unfold bV
              have CW := Lib.hid (want_any HS3.out.rd [61])
              go_wp2_with fail
              refine CW.out.mono ?_
              intro en w4 ha
              obtain ⟨h1, h2, rfl⟩ := ha.ok HW61.out
              have HS4 := Lib.hid (HS3.out.next h1 h2)
              clear ha h1 h2 CW
              unfold uV
              have CL := Lib.hid (layout_any HS4.out.rd hr3)
              go_wp2_with fail
              refine CL.out.mono ?_
              intro en w5 ha
              obtain ⟨h1, h2, rfl⟩ := ha.ok HL2.out
              have HS5 := Lib.hid (HS4.out.next h1 h2)
              clear ha h1 h2 CL
              unfold bV
              have CT := Lib.hid (takes_any HS5.out.rd [39])
              rw [HQ.out] at CT
              go_wp2_with fail
              refine CT.out.mono ?_
              rintro e w6 ⟨rfl, h1, h2⟩
              rw [trim_no HQ.out] at h2
              have HS6 := Lib.hid (HS5.out.next h1 h2)
              clear h1 h2 CT
              have CW := Lib.hid (want_any HS6.out.rd [34])
              go_wp2_with fail
              refine CW.out.mono ?_
              intro en w7 ha
              obtain ⟨h1, ⟨r', h2⟩, rfl⟩ := ha.no HW34.out
              have HS7 := Lib.hid (HS6.out.next h1 h2)
              clear ha h1 h2 CW
              unfold gaveUp
              go_wp2_with fail
              exact ⟨rfl, Ate.mkNo HS7.out.t HS7.out.rd HE.out⟩
            | ok y =>
              obtain ⟨uu3, r5⟩ := y
              have hr5 : r5.length ≤ 40000 := by have := (wantR_len hw3).1; simp at this; omega
              have HW34 := Lib.hid hw3
              cases hv : valueQ [34] r5 with
              | error e =>
                have HE : Hid (res = .error e) := by show res = _; rw [hq3, hw3]; show ((valueQ [34] r5).map _ : RR (Bs × Bs)) = _; rw [hv]; rfl
                have HV := Lib.hid hv
                clear hq3 hv hw3
                go_enter Tryz.func161, Tryz.ntmps161
                go_upto_region 1 with fail
                rw [← hp, ← hwa]
                clear hwa hp
                go_wp2_with fail
                refine CN.out.mono ?_
                intro en w1 ha
                obtain ⟨h1, h2, rfl⟩ := ha.ok HN.out
                obtain ⟨q, hq⟩ : ∃ q, q = w1.heap.size := ⟨_, rfl⟩
                obtain ⟨wb, hwb⟩ : ∃ wb, wb = w1.alloc (.cells #[.string (mkS nm)] 9) := ⟨_, rfl⟩
                have HS1 : Hid (AtS w0 g p q nm v1 v2 v3 v4 r1 wb) := by
                  have hz := h1.size
                  have := HPZ.out
                  subst hwb hq
                  exact ⟨(HTA.out.trans h1 (frG _ _)).alloc _, Blk.alloc h2 _, (HPA.out.turned h1 (by simpa using hpg)).alloc _, Blk.new _ _ _, ⟨hpg, by have := HTA.out.size; omega, by omega⟩, hnew⟩
                clear ha h1 h2 CN
                unfold sV
                go_upto_region 2 with fail
                rw [← hq, ← hwb]
                clear hq hwb
                go_wp2_with fail
                refine (must_yes 104 _).mono ?_
                rintro e wm ⟨rfl, rfl⟩
                have CC := Lib.hid (hasA_any nm q al A c wb (HAL.out wb HS1.out.t) hl hcm (HS1.out.nam.cell 0))
                rw [HANY.out] at CC
                go_wp2_with fail
                refine CC.out.mono ?_
                rintro e w2 ⟨rfl, hb2⟩
                obtain ⟨h1, h2⟩ := RdB.later HS1.out.rd hb2
                have HS2 := Lib.hid (HS1.out.next h2 h1)
                clear h1 h2 hb2 CC
                go_wp2_with fail
                refine (must_yes 100 _).mono ?_
                rintro e wm ⟨rfl, rfl⟩
                have CL := Lib.hid (layout_any HS2.out.rd hr1)
                go_wp2_with fail
                refine CL.out.mono ?_
                intro en w3 ha
                obtain ⟨h1, h2, rfl⟩ := ha.ok HL1.out
                have HS3 := Lib.hid (HS2.out.next h1 h2)
                clear ha h1 h2 CL
                unfold bV
                have CW := Lib.hid (want_any HS3.out.rd [61])
                go_wp2_with fail
                refine CW.out.mono ?_
                intro en w4 ha
                obtain ⟨h1, h2, rfl⟩ := ha.ok HW61.out
                have HS4 := Lib.hid (HS3.out.next h1 h2)
                clear ha h1 h2 CW
                unfold uV
                have CL := Lib.hid (layout_any HS4.out.rd hr3)
                go_wp2_with fail
                refine CL.out.mono ?_
                intro en w5 ha
                obtain ⟨h1, h2, rfl⟩ := ha.ok HL2.out
                have HS5 := Lib.hid (HS4.out.next h1 h2)
                clear ha h1 h2 CL
                unfold bV
                have CT := Lib.hid (takes_any HS5.out.rd [39])
                rw [HQ.out] at CT
                go_wp2_with fail
                refine CT.out.mono ?_
                rintro e w6 ⟨rfl, h1, h2⟩
                rw [trim_no HQ.out] at h2
                have HS6 := Lib.hid (HS5.out.next h1 h2)
                clear h1 h2 CT
                have CW := Lib.hid (want_any HS6.out.rd [34])
                go_wp2_with fail
                refine CW.out.mono ?_
                intro en w7 ha
                obtain ⟨h1, h2, rfl⟩ := ha.ok HW34.out
                have HS7 := Lib.hid (HS6.out.next h1 h2)
                clear ha h1 h2 CW
                unfold uV
                have CV := Lib.hid (value_any (w0 := w7.drew) (B := B) HS7.out.rd (HEN.out _ HS7.out.t.drew) hg hr5 seps34)
                have cq := HS7.out.nam.cell 0
                simp at cq
                go_upto_region 10 with fail
                refine wp_region_S (fun _ w' => w'.cell? ⟨q, 0, none⟩ = some (.string (mkS nm))) (by kernel_rfl) cq (fun hS => ?_)
                refine wpAnyS_take (i := 0) (fun w' => w'.cell? ⟨q, 0, none⟩ = some (.string (mkS nm))) (v := .string (mkS nm)) rfl (by kernel_rfl) (by kernel_rfl) (by kernel_rfl) (fun _ _ _ h => h) (fun l w hw hS => hS) (fun _ _ => Iff.rfl) (by kernel_rfl) hS (fun w' hSw => ?_) (by rfl) (fun hS => ?_)
                · go_simp
                try simp only [Act.put, List.setIfInBounds_toArray, List.set_cons_zero, List.set_cons_succ]
                refine wpAnyS_take (i := 1) (fun _ => True) (v := .pointer (some ⟨g, 0, none⟩)) rfl (by kernel_rfl) (by kernel_rfl) (by kernel_rfl) (fun _ _ _ h => h) (fun _ _ _ _ => trivial) (fun _ _ => Iff.rfl) (by kernel_rfl) hS (fun w' hSw => ?_) (by rfl) (fun hS => ?_)
                · go_simp
                try simp only [Act.put, List.setIfInBounds_toArray, List.set_cons_zero, List.set_cons_succ]
                refine wpAnyS_one (i := 2) (by kernel_rfl) rfl (fun K7 hK7 => ?_)
                go_simp
                refine CV.out.mono ?_
                intro en w9 ha
                obtain ⟨h1, ⟨r', h2⟩, rfl⟩ := ha.no HV.out
                have HS9 := Lib.hid (HS7.out.next h1.from_drew h2)
                clear ha h1 h2 CV
                unfold gaveUp
                go_simp
                exact ⟨rfl, Ate.mkNo HS9.out.t HS9.out.rd HE.out⟩
              | ok z =>
                obtain ⟨vv, r6⟩ := z
                have HE : Hid (res = .ok ((nm, vv), r6)) := by show res = _; rw [hq3, hw3]; show ((valueQ [34] r5).map _ : RR (Bs × Bs)) = _; rw [hv]; rfl
                have HV := Lib.hid hv
                clear hq3 hv hw3
                go_enter Tryz.func161, Tryz.ntmps161
                go_upto_region 1 with fail
                rw [← hp, ← hwa]
                clear hwa hp
                go_wp2_with fail
                refine CN.out.mono ?_
                intro en w1 ha
                obtain ⟨h1, h2, rfl⟩ := ha.ok HN.out
                obtain ⟨q, hq⟩ : ∃ q, q = w1.heap.size := ⟨_, rfl⟩
                obtain ⟨wb, hwb⟩ : ∃ wb, wb = w1.alloc (.cells #[.string (mkS nm)] 9) := ⟨_, rfl⟩
                have HS1 : Hid (AtS w0 g p q nm v1 v2 v3 v4 r1 wb) := by
                  have hz := h1.size
                  have := HPZ.out
                  subst hwb hq
                  exact ⟨(HTA.out.trans h1 (frG _ _)).alloc _, Blk.alloc h2 _, (HPA.out.turned h1 (by simpa using hpg)).alloc _, Blk.new _ _ _, ⟨hpg, by have := HTA.out.size; omega, by omega⟩, hnew⟩
                clear ha h1 h2 CN
                unfold sV
                go_upto_region 2 with fail
                rw [← hq, ← hwb]
                clear hq hwb
                go_wp2_with fail
                refine (must_yes 104 _).mono ?_
                rintro e wm ⟨rfl, rfl⟩
                have CC := Lib.hid (hasA_any nm q al A c wb (HAL.out wb HS1.out.t) hl hcm (HS1.out.nam.cell 0))
                rw [HANY.out] at CC
                go_wp2_with fail
                refine CC.out.mono ?_
                rintro e w2 ⟨rfl, hb2⟩
                obtain ⟨h1, h2⟩ := RdB.later HS1.out.rd hb2
                have HS2 := Lib.hid (HS1.out.next h2 h1)
                clear h1 h2 hb2 CC
                go_wp2_with fail
                refine (must_yes 100 _).mono ?_
                rintro e wm ⟨rfl, rfl⟩
                have CL := Lib.hid (layout_any HS2.out.rd hr1)
                go_wp2_with fail
                refine CL.out.mono ?_
                intro en w3 ha
                obtain ⟨h1, h2, rfl⟩ := ha.ok HL1.out
                have HS3 := Lib.hid (HS2.out.next h1 h2)
                clear ha h1 h2 CL
                unfold bV
                have CW := Lib.hid (want_any HS3.out.rd [61])
                go_wp2_with fail
                refine CW.out.mono ?_
                intro en w4 ha
                obtain ⟨h1, h2, rfl⟩ := ha.ok HW61.out
                have HS4 := Lib.hid (HS3.out.next h1 h2)
                clear ha h1 h2 CW
                unfold uV
                have CL := Lib.hid (layout_any HS4.out.rd hr3)
                go_wp2_with fail
                refine CL.out.mono ?_
                intro en w5 ha
                obtain ⟨h1, h2, rfl⟩ := ha.ok HL2.out
                have HS5 := Lib.hid (HS4.out.next h1 h2)
                clear ha h1 h2 CL
                unfold bV
                have CT := Lib.hid (takes_any HS5.out.rd [39])
                rw [HQ.out] at CT
                go_wp2_with fail
                refine CT.out.mono ?_
                rintro e w6 ⟨rfl, h1, h2⟩
                rw [trim_no HQ.out] at h2
                have HS6 := Lib.hid (HS5.out.next h1 h2)
                clear h1 h2 CT
                have CW := Lib.hid (want_any HS6.out.rd [34])
                go_wp2_with fail
                refine CW.out.mono ?_
                intro en w7 ha
                obtain ⟨h1, h2, rfl⟩ := ha.ok HW34.out
                have HS7 := Lib.hid (HS6.out.next h1 h2)
                clear ha h1 h2 CW
                unfold uV
                have CV := Lib.hid (value_any (w0 := w7.drew) (B := B) HS7.out.rd (HEN.out _ HS7.out.t.drew) hg hr5 seps34)
                have cq := HS7.out.nam.cell 0
                simp at cq
                go_upto_region 10 with fail
                refine wp_region_S (fun _ w' => w'.cell? ⟨q, 0, none⟩ = some (.string (mkS nm))) (by kernel_rfl) cq (fun hS => ?_)
                refine wpAnyS_take (i := 0) (fun w' => w'.cell? ⟨q, 0, none⟩ = some (.string (mkS nm))) (v := .string (mkS nm)) rfl (by kernel_rfl) (by kernel_rfl) (by kernel_rfl) (fun _ _ _ h => h) (fun l w hw hS => hS) (fun _ _ => Iff.rfl) (by kernel_rfl) hS (fun w' hSw => ?_) (by rfl) (fun hS => ?_)
                · go_simp
                try simp only [Act.put, List.setIfInBounds_toArray, List.set_cons_zero, List.set_cons_succ]
                refine wpAnyS_take (i := 1) (fun _ => True) (v := .pointer (some ⟨g, 0, none⟩)) rfl (by kernel_rfl) (by kernel_rfl) (by kernel_rfl) (fun _ _ _ h => h) (fun _ _ _ _ => trivial) (fun _ _ => Iff.rfl) (by kernel_rfl) hS (fun w' hSw => ?_) (by rfl) (fun hS => ?_)
                · go_simp
                try simp only [Act.put, List.setIfInBounds_toArray, List.set_cons_zero, List.set_cons_succ]
                refine wpAnyS_one (i := 2) (by kernel_rfl) rfl (fun K7 hK7 => ?_)
                go_simp
                refine CV.out.mono ?_
                intro en w9 ha
                obtain ⟨h1, h2, rfl⟩ := ha.ok HV.out
                have HS9 := Lib.hid (HS7.out.next h1.from_drew h2)
                clear ha h1 h2 CV
                unfold sV
                have cq9 := HS9.out.nam.cell 0
                simp at cq9
                refine hK7.out _ _ cq9 (fun hS => ?_)
                clear hK7 K7
                try simp only [Act.put, List.setIfInBounds_toArray, List.set_cons_zero, List.set_cons_succ]
                refine wpAnyS_one (i := 3) (by kernel_rfl) rfl (fun K7 hK7 => ?_)
                go_simp
                refine hK7.out _ _ cq9 (fun hS => ?_)
                clear hK7 K7
                try simp only [Act.put, List.setIfInBounds_toArray, List.set_cons_zero, List.set_cons_succ]
                have d0 := HS9.out.res.cell 0
                have d1 := HS9.out.res.cell 1
                have f0 := HS9.out.res.free 0
                have f1 := HS9.out.res.free 1
                simp at d0 d1
                refine wpAnyS_one (i := 4) (by kernel_rfl) rfl (fun K7 hK7 => ?_)
                go_simp
                obtain ⟨hqq, hBB, hTT, hRR⟩ := HS9.out.done (vv := vv)
                generalize (w9.setCell ⟨p, 0, none⟩ (.string (mkS nm))).setCell ⟨p, 1, none⟩ (.string (mkS vv)) = W at *
                refine hK7.out _ _ (hqq.symm.trans cq9) (fun hS => ?_)
                clear hK7 K7
                try simp only [Act.put, List.setIfInBounds_toArray, List.set_cons_zero, List.set_cons_succ]
                refine wpAnyS_done (by kernel_rfl) ?_ _
                have b0 := hBB.cell 0
                have b1 := hBB.cell 1
                simp at b0 b1
                have HVV : Hid (Ate w0 g v1 v2 v3 v4 res aV (.returned (aV (nm, vv))) W) := Ate.mkOk hTT hRR HE.out
                unfold aV at HVV
                clear hqq hBB hTT hRR d0 d1 f0 f1 cq cq9
                go_wp2_with fail
                refine bodyPost_ret (v := .agg #[.string (mkS nm), .string (mkS vv)]) ?_ rfl HVV.out
                refine (results_one rfl _ (ad := ⟨p, 0, none⟩) rfl).trans ?_
                go_simp
    · rw [if_neg h16] at hq
      have HE := Lib.hid hq
      have hz16 : ¬ (al.length : Int) < 16 := by omega
      have hd16 : decide ((al.length : Int) < 16) = false := decide_eq_false hz16
      clear h16 hq
      go_enter Tryz.func161, Tryz.ntmps161
      go_upto_region 1 with fail
      rw [← hp, ← hwa]
      clear hwa hp
      go_wp2_with fail
      refine CN.out.mono ?_
      intro en w1 ha
      obtain ⟨h1, h2, rfl⟩ := ha.ok HN.out
      obtain ⟨q, hq⟩ : ∃ q, q = w1.heap.size := ⟨_, rfl⟩
      obtain ⟨wb, hwb⟩ : ∃ wb, wb = w1.alloc (.cells #[.string (mkS nm)] 9) := ⟨_, rfl⟩
      have HS1 : Hid (AtS w0 g p q nm v1 v2 v3 v4 r1 wb) := by
        have hz := h1.size
        have := HPZ.out
        subst hwb hq
        exact ⟨(HTA.out.trans h1 (frG _ _)).alloc _, Blk.alloc h2 _, (HPA.out.turned h1 (by simpa using hpg)).alloc _, Blk.new _ _ _, ⟨hpg, by have := HTA.out.size; omega, by omega⟩, hnew⟩
      clear ha h1 h2 CN
      unfold sV
      go_upto_region 2 with fail
      rw [← hq, ← hwb]
      clear hq hwb
      go_wp2_with fail
      refine (must_no 104 _).mono ?_
      rintro e wm ⟨rfl, rfl⟩
      unfold gaveUp
      go_wp2_with fail
      exact ⟨rfl, Ate.mkNo HS1.out.t HS1.out.rd HE.out⟩
end
end Go.Proofs.YtljldbdjkjllhaaGreatDoor

/- A reader with what is open; an element ends. -/
namespace Go.Proofs.YtljldbdjkjllhaaGreatDoor
set_option linter.unusedSimpArgs false
set_option linter.unusedVariables false
open Go.RowKit

def strL (l : List Bs) : List Value := l.map fun n => .string (mkS n)
theorem own_cut {w : World} {base n c : Nat} {e : TypeId} {A : Option Addr} {xs : List Value} (h : w.ownsRow base e 1 (.slice A (n + 1) c) (n + 1) xs) : w.ownsRow base e 1 (.slice A n c) n (xs.take n) := by
  have hl := h.1
  refine ⟨by rw [List.length_take]; omega, ?_⟩
  rcases h.2 with ⟨_, h0⟩ | ⟨g, cap, cur, hv, hb, hg, h1, h2, h3, ht⟩
  · omega
  · injection hv with e1 e2 e3
    subst e1; subst e3
    refine .inr ⟨g, c, cur, rfl, hb, hg, by omega, h2, h3, ?_⟩
    rw [← ht, List.take_take, show min n ((n + 1) * 1) = n * 1 by omega]
/-- The attributes of a piece lie in a block of their own kind. -/
def AlK (w : World) (A : Option Addr) (l : Al) : Prop := 0 < l.length → ∃ b cs, A = some ⟨b, 0, none⟩ ∧ Blk w b 172 cs ∧ PairsAt w b 0 l
theorem AlK.turned {w w' : World} {F : List Nat} {A : Option Addr} {l : Al} (h : AlK w A l) (ht : Turned F w w') (hF : ∀ k ∈ F, ∀ cs, ¬ Blk w k 172 cs) : AlK w' A l := fun hl => by
  obtain ⟨b, cs, rfl, hb, hp⟩ := h hl
  have hn : b ∉ F := fun hm => hF b hm cs hb
  have e := ht.block b hb.lt hn
  exact ⟨b, cs, rfl, hb.turned ht hn, fun k a hk => ⟨(World.cell?_of_block (a := ⟨b, 0 + k * 2, none⟩) e).trans (hp k a hk).1, (World.cell?_of_block (a := ⟨b, 0 + k * 2 + 1, none⟩) e).trans (hp k a hk).2⟩⟩
theorem AlK.nil {w : World} {A : Option Addr} : AlK w A [] := fun h => by simp at h
theorem own_alK {w : World} {base : Nat} {A : Option Addr} {m c : Nat} {l : Al} (h : w.ownsRow base 172 2 (.slice A m c) l.length (alL l)) : AlK w A l := fun hl => by
  rcases h.2 with ⟨_, h0⟩ | ⟨g, cap, cur, hv, hb, hg, h1, h2, h3, ht⟩
  · omega
  · injection hv with e1 e2 e3
    subst e1
    refine ⟨g, cur, rfl, hg, fun k a hk => ?_⟩
    obtain ⟨b', e, c1⟩ := own_ats h (alL_at hk).1
    obtain ⟨b'', e', c2⟩ := own_ats h (alL_at hk).2
    injection e with e; injection e with e; subst e
    injection e' with e'; injection e' with e'; subst e'
    rw [Nat.zero_add]
    exact ⟨c1, c2⟩
/-- A piece as a value. -/
def pcV (pc : Pc) (A : Option Addr) (c : Nat) : Value := .agg #[.int .i64 pc.kind, .string (mkS pc.name), .slice A pc.attrs.length c, .string (mkS pc.text)]
def PcV (w : World) (pc : Pc) (v : Value) : Prop := ∃ A c, v = pcV pc A c ∧ pc.attrs.length ≤ c ∧ c ≤ maxLen ∧ AlK w A pc.attrs
def fOf (g : Nat) (vo : Value) : List Nat := match vo.ownBlock with
  | some k => [g, k]
  | none => [g]
theorem fOf_mem {g : Nat} {vo : Value} {k : Nat} : k ∈ fOf g vo ↔ k = g ∨ vo.ownBlock = some k := by
  unfold fOf
  cases h : vo.ownBlock with
  | none => simp
  | some b => simp; constructor <;> (intro h; rcases h with h | h <;> simp [h])
/-- A reader in memory. -/
structure XRd (w : World) (base g : Nat) (vo : Value) (s : XS) (wr : Int) : Prop where
  blk : RdB w g s.rest vo (.bool s.begun) (.bool s.short) (.int .i64 wr)
  row : w.ownsRow base 9 1 vo s.opn.length (strL s.opn)
  far : base ≤ g
section
variable {w w' : World} {base g : Nat} {vo : Value} {s : XS} {wr : Int}
theorem XRd.drew (h : XRd w base g vo s wr) : XRd w.drew base g vo s wr := ⟨h.blk, h.row, h.far⟩
theorem XRd.vo_ne (h : XRd w base g vo s wr) : vo.ownBlock ≠ some g := own_kind h.row h.blk (by decide)
theorem XRd.base_le (h : XRd w base g vo s wr) {k : Nat} (hk : k ∈ fOf g vo) : base ≤ k := by
  rcases fOf_mem.1 hk with rfl | hk
  · exact h.far
  · exact (h.row.lt k hk).1
theorem XRd.not_kind (h : XRd w base g vo s wr) {k : Nat} (hk : k ∈ fOf g vo) {t : TypeId} {cs : Array Value} (h1 : t ≠ 98) (h2 : t ≠ 9) : ¬ Blk w k t cs := fun hb => by
  rcases fOf_mem.1 hk with rfl | hk
  · exact Blk.kind hb h.blk h1 rfl
  · exact own_kind h.row hb (Ne.symm h2) hk
theorem XRd.turned {F : List Nat} (h : XRd w base g vo s wr) (ht : Turned F w w') (hF : ∀ k ∈ F, k ∉ fOf g vo) : XRd w' base g vo s wr :=
  ⟨Blk.turned h.blk ht (fun hm => hF g hm (fOf_mem.2 (.inl rfl))), own_turned h.row ht (fun k hk hm => hF k hm (fOf_mem.2 (.inr hk))), h.far⟩
/-- What took from the rest alone. -/
theorem XRd.ate (h : XRd w base g vo s wr) (ht : Turned [g] w w') {r' : Bs} (hr : RdB w' g r' vo (.bool s.begun) (.bool s.short) (.int .i64 wr)) : XRd w' base g vo { s with rest := r' } wr :=
  ⟨hr, own_turned h.row ht (fun k hk hm => by simp at hm; subst hm; exact h.vo_ne hk), h.far⟩
theorem one_of {F : List Nat} {g : Nat} (hg : g ∈ F) (ht : Turned [g] w w') : Turned F w w' := ht.more fun k hk => by simp at hk; subst hk; exact hg
theorem g_mem (g : Nat) (vo : Value) : g ∈ fOf g vo := fOf_mem.2 (.inl rfl)
end
/-- A call told a piece, or gave up. -/
def Told (w : World) (base g : Nat) (vo : Value) (wr : Int) (res : Except Int (Pc × XS)) (e : Ending) (w' : World) : Prop :=
  Turned (fOf g vo) w w' ∧ ∃ vo' s', XRd w' base g vo' s' wr ∧ Fresh w (fOf g vo) (fOf g vo') ∧
    ((∃ pc v, res = .ok (pc, s') ∧ e = .returned v ∧ PcV w' pc v) ∨ ∃ k, res = .error k ∧ e = gaveUp k)
section
variable {w : World} {base g : Nat} {vo : Value} {s : XS} {wr : Int}
theorem last_of {l : List Bs} {n : Nat} (hn : l.length = n + 1) : (strL l)[n]? = some (.string (mkS (l.getLastD []))) ∧ (strL l).take n = strL l.dropLast ∧ l.dropLast.length = n := by
  have hne : l ≠ [] := fun h => by rw [h] at hn; cases hn
  refine ⟨?_, ?_, by simp; omega⟩
  · unfold strL
    rw [List.getElem?_map]
    have : l[n]? = some (l.getLastD []) := by
      have h1 := List.getLast?_eq_getElem? (l := l)
      rw [hn] at h1
      simp at h1
      rw [← h1, List.getLastD_eq_getLast?, List.getLast?_eq_some_getLast hne]
      rfl
    rw [this]; rfl
  · unfold strL
    rw [← List.map_take, List.dropLast_eq_take, hn]
    simp
set_option maxHeartbeats 2000000 in
set_option maxRecDepth 100000 in
theorem leave_any (h : XRd w base g vo s wr) (ho : 0 < s.opn.length) (ho2 : s.opn.length ≤ 17) :
    Calls Tryz.prog 85 #[.pointer (some ⟨g, 0, none⟩)] w (Told w base g vo wr (.ok (leaveR s))) := by
  obtain ⟨n, hn⟩ : ∃ n, s.opn.length = n + 1 := ⟨s.opn.length - 1, by omega⟩
  obtain ⟨hl1, hl2, hl3⟩ := last_of hn
  have hrow := h.row
  rw [hn] at hrow
  obtain ⟨A, c, rfl, hnc, hcm⟩ := own_form' hrow
  obtain ⟨b, rfl, hcell⟩ := own_at_ hrow hl1
  have hglt := Blk.lt h.blk
  have c1 := Blk.cell h.blk 1
  have f1 := Blk.free h.blk 1
  have hcut := own_cut hrow
  rw [hl2] at hcut
  simp at c1
  have hblt : b < w.heap.size := cell_lt hcell
  have hbg : ¬ b = g := fun e => h.vo_ne (by rw [e]; rfl)
  obtain ⟨nm, hnm⟩ : ∃ nm, nm = s.opn.getLastD [] := ⟨_, rfl⟩
  rw [← hnm] at hcell
  have HV : Hid (∀ W, W = (w.setCell ⟨g, 1, none⟩ (.slice (some ⟨b, 0, none⟩) n c)).alloc (.cells #[.int .i64 2, .string (mkS nm), .slice none 0 0, .string ⟨#[]⟩] 68) → Told w base g (.slice (some ⟨b, 0, none⟩) (n + 1) c) wr (.ok (leaveR s)) (.returned (.agg #[.int .i64 2, .string (mkS nm), .slice none 0 0, .string ⟨#[]⟩])) W) := by
    rintro W rfl
    refine ⟨((Turned.refl _ _).setCell (p := ⟨g, 1, none⟩) (.inl (g_mem _ _)) _).alloc _, .slice (some ⟨b, 0, none⟩) n c, { s with opn := s.opn.dropLast }, ⟨?_, ?_, h.far⟩, fun k hk => .inl hk, .inl ⟨⟨2, nm, [], []⟩, _, ?_, rfl, none, 0, rfl, Nat.le_refl _, by unfold maxLen; omega, AlK.nil⟩⟩
    · exact Blk.alloc (Blk.set_ h.blk 1 (.slice (some ⟨b, 0, none⟩) n c)) _
    · show World.ownsRow _ _ _ _ _ s.opn.dropLast.length (strL s.opn.dropLast)
      rw [hl3]
      exact (own_setCell (p := ⟨g, 1, none⟩) hcut (fun e => hbg (by injection e)) _).alloc _
    · unfold leaveR; rw [hnm]
  have hi : (n : Int) < 9223372036854775807 := by omega
  clear hl1 hl2 hl3 hrow hcut hnm hn ho
  have hsz : (w.setCell ⟨g, 1, none⟩ (.slice (some ⟨b, 0, none⟩) n c)).heap.size = w.heap.size := by simp [World.setCell]
  go_enter Tryz.func85, Tryz.ntmps85
  go_wp2_with fail
  refine bodyPost_ret (v := .agg #[.int .i64 2, .string (mkS nm), .slice none 0 0, .string ⟨#[]⟩]) ?_ rfl (HV.out _ rfl)
  refine (results_one rfl _ (ad := ⟨w.heap.size, 0, none⟩) rfl).trans ?_
  go_simp
end
end Go.Proofs.YtljldbdjkjllhaaGreatDoor

/- A piece is stored whole. -/
namespace Go.Proofs.YtljldbdjkjllhaaGreatDoor
set_option linter.unusedSimpArgs false
set_option linter.unusedVariables false
open Go.RowKit

def put4 (w : World) (p : Nat) (a b c d : Value) : World := (((w.setCell ⟨p, 0, none⟩ a).setCell ⟨p, 1, none⟩ b).setCell ⟨p, 2, none⟩ c).setCell ⟨p, 3, none⟩ d
theorem put4_blk {w : World} {p : Nat} {t : TypeId} {x0 x1 x2 x3 a b c d : Value} (h : Blk w p t #[x0, x1, x2, x3]) : Blk (put4 w p a b c d) p t #[a, b, c, d] := (((h.set_ 0 a).set_ 1 b).set_ 2 c).set_ 3 d
theorem put4_turned {w : World} {p : Nat} {a b c d : Value} : Turned [p] w (put4 w p a b c d) :=
  ((((Turned.refl _ _).setCell (p := ⟨p, 0, none⟩) (.inl (by simp)) _).setCell (p := ⟨p, 1, none⟩) (.inl (by simp)) _).setCell (p := ⟨p, 2, none⟩) (.inl (by simp)) _).setCell (p := ⟨p, 3, none⟩) (.inl (by simp)) _
section
variable {w w' w0 : World} {base g : Nat} {vo : Value} {s : XS} {wr : Int}
theorem Turned.new_ {F : List Nat} {p : Nat} (h : Turned F w0 w) (ht : Turned [p] w w') (hp : w0.heap.size ≤ p) : Turned F w0 w' :=
  ⟨ht.os.trans h.os, ht.tape.trans h.tape, ht.output.trans h.output, Nat.le_trans h.size ht.size, fun k hk hn => (ht.block k (Nat.lt_of_lt_of_le hk h.size) (fun hm => by simp at hm; omega)).trans (h.block k hk hn)⟩
theorem pc_load {w : World} {p : Nat} {a b c d : Value} (h : Blk w p 68 #[a, b, c, d]) : (loadVar 68 ⟨p, 0, none⟩).run Tryz.prog w = .ok (.agg #[a, b, c, d]) w := by
  have b0 := h.cell 0
  have b1 := h.cell 1
  have b2 := h.cell 2
  have b3 := h.cell 3
  simp at b0 b1 b2 b3
  clear h
  go_simp
/-- What is told, stored in a block of the call's own. -/
theorem told_put {res : Except Int (Pc × XS)} {p : Nat} {vo' : Value} {s' : XS} {pc : Pc} {A : Option Addr} {c : Nat} {cs : Array Value} (ht : Turned (fOf g vo) w0 w) (hx : XRd w base g vo' s' wr) (hf : Fresh w0 (fOf g vo) (fOf g vo')) (hres : res = .ok (pc, s')) (hb : Blk w p 68 cs) (hp : w0.heap.size ≤ p)
    (hl : pc.attrs.length ≤ c) (hm : c ≤ maxLen) (hA : AlK w A pc.attrs) (htp : Turned [p] w w') : Told w0 base g vo wr res (.returned (pcV pc A c)) w' := by
  have hn : ∀ k ∈ [p], k ∉ fOf g vo' := fun k hk hm => by simp at hk; subst hk; exact hx.not_kind hm (by decide) (by decide) hb
  exact ⟨ht.new_ htp hp, vo', s', hx.turned htp hn, hf, .inl ⟨pc, _, hres, rfl, A, c, rfl, hl, hm, hA.turned htp (fun k hk cs' hb' => by simp at hk; subst hk; exact Blk.kind hb' hb (by decide) rfl)⟩⟩
end
end Go.Proofs.YtljldbdjkjllhaaGreatDoor
