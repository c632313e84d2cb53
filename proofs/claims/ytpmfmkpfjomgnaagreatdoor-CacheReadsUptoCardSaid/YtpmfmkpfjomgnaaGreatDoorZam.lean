/- Whether a repository may be added: mayAdd. A region that draws its order: where two may come up next; the steps of a look-up, of a store into a map, by their runs. -/
import Derived.Test.YtpmfmkpfjomgnaaGreatDoorZal
import Derived.IntWalk
import Derived.Test.YtpmfmkpfjomgnaaGreatDoorZac
/- Whether a repository may be added: mayAdd. -/
namespace Go.Proofs.YtpmfmkpfjomgnaaGreatDoor
set_option linter.unusedSimpArgs false
set_option linter.unusedVariables false
open Go.RowKit

/-- A package as it is handed in: how it lies. -/
structure PkE where
  p : Pkg
  ss : Nat → Value
  fs : Value
/-- Packages in a row, in a block of U. -/
def PacksAt (w : World) (S T U : Nat → Prop) (l : List PkE) (A : Option Addr) : Prop :=
  ∀ i e, l[i]? = some e → ∃ b o, A = some ⟨b, o, none⟩ ∧ U b ∧ (∀ j, j < 12 → w.cell? ⟨b, o + i * 12 + j, none⟩ = (rowP e.p e.ss e.fs)[j]?) ∧ PkgAt w S T e.p e.ss e.fs
theorem PacksAt.stay {w w' : World} {S T U : Nat → Prop} {l : List PkE} {A : Option Addr} (h : PacksAt w S T U l A) (hS : StayS S w w') (hT : StayS T w w') (hU : StayS U w w') : PacksAt w' S T U l A := fun i e hi => by
  obtain ⟨b, o, h1, h2, h3, h4⟩ := h i e hi
  refine ⟨b, o, h1, h2, fun j hj => ?_, h4.stay (fun _ h => h) (fun _ h => h) hS hT⟩
  have hlt : b < w.heap.size := by
    have := h3 0 (by omega)
    exact cell_lt (v := .string e.p.name) (by rw [this]; rfl)
  rw [← h3 j hj]
  exact World.cell?_of_block (hU b h2 hlt)
theorem PacksAt.below {w w' : World} {S T U : Nat → Prop} {l : List PkE} {A : Option Addr} (h : PacksAt w S T U l A) (hb : Below w.heap.size w w') : PacksAt w' S T U l A := h.stay (StayS.below' hb) (StayS.below' hb) (StayS.below' hb)
theorem PacksAt.lt {w : World} {S T U : Nat → Prop} {l : List PkE} {b o : Nat} (h : PacksAt w S T U l (some ⟨b, o, none⟩)) {i : Nat} (hi : i < l.length) : b < w.heap.size := by
  obtain ⟨b', o', h1, h2, h3, h4⟩ := h i _ (List.getElem?_eq_getElem hi)
  injection h1 with h1
  injection h1 with h1
  subst h1
  exact cell_lt (v := .string l[i].p.name) (by rw [h3 0 (by omega)]; rfl)

/-- The errors of a repository ahead of its packages. -/
def addHead (reps : List Rep) (nks : Nat) (nm : ByteArray) (inst : Bool) (m : Nat) : Int :=
  if nameB nm.data.toList = false ∨ reps.any (fun r => decide (r.name = nm)) = true then 66 else if inst = true ∧ reps.any Rep.inst = true then 67 else if 8 ≤ reps.length ∨ 200 < nks + m then 68 else 0
/-- What may be answered of the packages, one by one. -/
def AllR (Q : Dep → Int → Prop) (ps : List Pkg) (n : Int) : Prop := (n = 0 ∧ ∀ p ∈ ps, ChkR Q p 0) ∨ (n ≠ 0 ∧ ∃ i p, ps[i]? = some p ∧ ChkR Q p n ∧ ∀ q ∈ ps.take i, ChkR Q q 0)
def AddR (Q : Dep → Int → Prop) (reps : List Rep) (nks : Nat) (nm : ByteArray) (inst : Bool) (ps : List Pkg) (n : Int) : Prop :=
  (addHead reps nks nm inst ps.length ≠ 0 ∧ n = addHead reps nks nm inst ps.length) ∨ (addHead reps nks nm inst ps.length = 0 ∧ AllR Q ps n)

theorem AddR.rest {Q : Dep → Int → Prop} {reps : List Rep} {nks : Nat} {nm : ByteArray} {inst : Bool} {ps : List Pkg} (hh : ¬ (nameB nm.data.toList = false ∨ reps.any (fun r => decide (r.name = nm)) = true)) (hi : ¬ (inst = true ∧ reps.any Rep.inst = true)) :
    (8 ≤ reps.length ∨ 200 < nks + ps.length → AddR Q reps nks nm inst ps 68) ∧ (¬ (8 ≤ reps.length ∨ 200 < nks + ps.length) → ∀ n, AllR Q ps n → AddR Q reps nks nm inst ps n) := by
  refine ⟨fun h => .inl ?_, fun h n hn => .inr ⟨?_, hn⟩⟩
  · have h0 : addHead reps nks nm inst ps.length = 68 := by unfold addHead; rw [if_neg hh, if_neg hi, if_pos h]
    exact ⟨by rw [h0]; decide, h0.symm⟩
  · unfold addHead; rw [if_neg hh, if_neg hi, if_neg h]
set_option maxHeartbeats 4000000 in
set_option maxRecDepth 100000 in
theorem mayAdd_any (Q : Dep → Int → Prop) {w : World} {base g bm : Nat} {O S T : Nat → Prop} {kind : Int} {reps : List Rep} {ks : List Kep} {vr vp : Value} {f : ByteArray → Value} (h : PSt w base g O S T kind reps ks vr vp bm f)
    (nm : ByteArray) (prio : Int) (inst : Bool) (A : Option Addr) (l : List PkE) (c : Nat) (S0 T0 U0 : Nat → Prop) (hA : PacksAt w S0 T0 U0 l A) (hc : l.length ≤ c ∧ c ≤ maxLen) (hlen : l.length ≤ 140737488355328) (hks : ks.length ≤ 200)
    (hC : ∀ e ∈ l, ChecksAt Q S0 e.p w) (hT : Tabs w) :
    Calls Tryz.prog 45 #[.pointer (some ⟨g, 0, none⟩), .agg #[.string nm, .int .i64 prio, .bool inst, .slice A l.length c]] w fun e w' => NumPost (AddR Q reps ks.length nm inst (l.map PkE.p)) e ∧ Below w.heap.size w w' := by
  have hmf : ∀ (fn : Fn) (first cap : Array Value) (w : World), (Instr.makeFunc fn first cap).run Tryz.prog w = .ok (.func fn first cap) w := fun _ _ _ _ => rfl
  obtain ⟨w1, hw1⟩ : ∃ w1, w1 = w.alloc (.cells #[.string nm, .int .i64 prio, .bool inst, .slice A l.length c] 33) := ⟨_, rfl⟩
  have hb0 : Below w.heap.size w w1 := by rw [hw1]; exact (Below.refl _ _).alloc (Nat.le_refl _) _
  have K0 : Blk w1 w.heap.size 33 #[.string nm, .int .i64 prio, .bool inst, .slice A l.length c] := by rw [hw1]; exact Blk.new _ _ _
  have HF : Hid (∀ wx, Below w1.heap.size w1 wx → Blk wx w.heap.size 33 #[.string nm, .int .i64 prio, .bool inst, .slice A l.length c] ∧ PSt wx base g O S T kind reps ks vr vp bm f ∧ PacksAt wx S0 T0 U0 l A ∧ (∀ e ∈ l, ChecksAt Q S0 e.p wx) ∧ Tabs wx ∧ Below w.heap.size w wx) := fun wx hb => by
    have h1 := hb0.trans (hb.mono hb0.size)
    exact ⟨K0.below hb K0.lt, h.below h1, hA.below h1, fun e he => (hC e he).later h1, hT.below h1 hT.two, h1⟩
  have HW := Lib.hid hw1
  have CN := Lib.hid (name_any nm w1 (hT.below hb0 hT.two))
  have HBr := Lib.hid (Below.refl w1.heap.size w1)
  have eN := enters_of Tryz.func81 (by kernel_rfl) rfl
  have eI := enters_of Tryz.func82 (by kernel_rfl) rfl
  have HE := Lib.hid (And.intro eN eI)
  obtain ⟨Ar, cr, rfl, hr1, hr2⟩ := own_form' h.repo
  obtain ⟨Ap, cp, rfl, hp1, hp2⟩ := own_form' h.pack
  obtain ⟨hc1, hc2⟩ := hc
  unfold maxLen at hc2 hr2 hp2
  have HLm : Hid ((l.map PkE.p).length = l.length) := List.length_map _
  clear hb0 K0 h hA hC hT eN eI hw1
  rw [HW.out] at CN
  go_enter Tryz.func45, Tryz.ntmps45
  go_wp2_with fail
  refine CN.out.mono ?_
  rintro e w2 ⟨rfl, hb2⟩
  have HB2 : Hid (Below w1.heap.size w1 w2) := by rw [HW.out]; exact hb2
  clear hb2 CN HW HBr
  obtain ⟨K2, hP2, hA2, hC2, hT2, hB2⟩ := HF.out w2 HB2.out
  have HB2w := Lib.hid hB2
  cases hn : nameB nm.data.toList with
  | false =>
    have HV : Hid (NumPost (AddR Q reps ks.length nm inst (l.map PkE.p)) (.returned (.int .i64 66))) := by
      have h0 : addHead reps ks.length nm inst (l.map PkE.p).length = 66 := by unfold addHead; rw [if_pos (.inl hn)]
      exact ⟨66, .inl ⟨by rw [h0]; decide, h0.symm⟩, rfl⟩
    clear hn K2 hP2 hA2 hC2 hT2 hB2
    go_wp2_with fail
    go_ret
    exact ⟨HV.out, HB2w.out⟩
  | true =>
  have CH := Lib.hid (hasRepo_any 81 #[.pointer (some ⟨w.heap.size, 0, none⟩)] HE.out.1 (fun r => decide (r.name = nm)) hP2 (askName _ w2 nm _ _ _ _ K2))
  have HN := Lib.hid hn
  clear hn K2 hP2 hA2 hC2 hT2 hB2
  go_wp2_with fail
  refine CH.out.mono ?_
  rintro e w3 ⟨rfl, hb3⟩
  have HB3 : Hid (Below w1.heap.size w1 w3) := HB2.out.trans (hb3.mono HB2.out.size)
  clear hb3 CH HB2 HB2w
  obtain ⟨K3, hP3, hA3, hC3, hT3, hB3⟩ := HF.out w3 HB3.out
  have HB3w := Lib.hid hB3
  cases hnm : reps.any (fun r => decide (r.name = nm)) with
  | true =>
    have HV : Hid (NumPost (AddR Q reps ks.length nm inst (l.map PkE.p)) (.returned (.int .i64 66))) := by
      have h0 : addHead reps ks.length nm inst (l.map PkE.p).length = 66 := by unfold addHead; rw [if_pos (.inr hnm)]
      exact ⟨66, .inl ⟨by rw [h0]; decide, h0.symm⟩, rfl⟩
    clear hnm K3 hP3 hA3 hC3 hT3 hB3
    go_wp2_with fail
    go_ret
    exact ⟨HV.out, HB3w.out⟩
  | false =>
  have k2 := K3.cell 2
  simp at k2
  have HH : Hid (¬ (nameB nm.data.toList = false ∨ reps.any (fun r => decide (r.name = nm)) = true)) := by
    show ¬ _
    rw [HN.out, hnm]
    simp
  have CI := Lib.hid (hasRepo_any 82 #[] HE.out.2 Rep.inst hP3 (askInst w3))
  clear hnm K3 hP3 hA3 hC3 hT3 hB3 HN
  have hpath : inst = false ∨ (inst = true) := by cases inst <;> simp
  rcases hpath with rfl | rfl
  case' inr =>
    go_wp2_with fail
    refine CI.out.mono ?_
    rintro e w4 ⟨rfl, hb4⟩
    have HB4 : Hid (Below w1.heap.size w1 w4) := HB3.out.trans (hb4.mono HB3.out.size)
    clear hb4 CI HB3 HB3w
    obtain ⟨K4, hP4, hA4, hC4, hT4, hB4⟩ := HF.out w4 HB4.out
    have HB4w := Lib.hid hB4
    clear K4 hP4 hA4 hC4 hT4 hB4
    by_cases hin : reps.any Rep.inst = true
    · have HV : Hid (NumPost (AddR Q reps ks.length nm true (l.map PkE.p)) (.returned (.int .i64 67))) := by
        have h0 : addHead reps ks.length nm true (l.map PkE.p).length = 67 := by unfold addHead; rw [if_neg HH.out, if_pos ⟨rfl, hin⟩]
        exact ⟨67, .inl ⟨by rw [h0]; decide, h0.symm⟩, rfl⟩
      rw [hin]
      clear hin
      go_wp2_with fail
      go_ret
      exact ⟨HV.out, HB4w.out⟩
    have HI : Hid (¬ ((true : Bool) = true ∧ reps.any Rep.inst = true)) := by
      show ¬ _
      exact fun h => hin h.2
    rw [show reps.any Rep.inst = false by simpa using hin]
    have HX := Lib.hid (AddR.rest (Q := Q) (nks := ks.length) (ps := l.map PkE.p) HH.out HI.out)
    clear HH HI
    clear hin HB4w k2
    go_upto_region 5 with fail
  case' inl =>
    have HI : Hid (¬ ((false : Bool) = true ∧ reps.any Rep.inst = true)) := by
      show ¬ _
      simp
    have HX := Lib.hid (AddR.rest (Q := Q) (nks := ks.length) (ps := l.map PkE.p) HH.out HI.out)
    clear CI HB3w HH HI
    go_upto_region 5 with fail
    clear k2
    have HB4 := HB3
    clear HB3
    obtain ⟨w4, hw4⟩ : ∃ x, x = w3 := ⟨_, rfl⟩
    subst hw4
  all_goals
    obtain ⟨K4, hP4, hA4, hC4, hT4, hB4⟩ := HF.out w4 HB4.out
    have g1 := hP4.blk.cell 1
    have g2 := hP4.blk.cell 2
    have k3 := K4.cell 3
    simp at g1 g2 k3
    have HB4w := Lib.hid hB4
    clear K4 hP4 hA4 hC4 hT4 hB4
    by_cases h8 : 8 ≤ reps.length
    · have HV : Hid (NumPost _ (.returned (.int .i64 68))) := ⟨68, HX.out.1 (.inl h8), rfl⟩
      have t8 : (8 : Int) ≤ (reps.length : Int) := by omega
      clear h8 HX
      go_quiet (fail)
      go_wp2_with fail
      go_ret
      exact ⟨HV.out, below_drewN' HB4w.out _⟩
    have t8 : ¬ (8 : Int) ≤ (reps.length : Int) := by omega
    have e1 : IntKind.i64.wrap ((ks.length : Int) + (l.length : Int)) = (ks.length : Int) + (l.length : Int) := IntWalk.i64_in _ (by omega)
    have e2 : (0 : Int) ≤ (ks.length : Int) + (l.length : Int) := by omega
    by_cases h200 : 200 < ks.length + l.length
    · have HV : Hid (NumPost _ (.returned (.int .i64 68))) := ⟨68, HX.out.1 (.inr (by rw [HLm.out]; exact h200)), rfl⟩
      have t2 : (200 : Int) < (ks.length : Int) + (l.length : Int) := by omega
      clear h8 h200 HX
      go_quiet (fail)
      go_wp2_with fail
      go_ret
      exact ⟨HV.out, below_drewN' HB4w.out _⟩
    have HZ := Lib.hid (HX.out.2 (by rw [HLm.out]; omega))
    have t2 : ¬ (200 : Int) < (ks.length : Int) + (l.length : Int) := by omega
    clear h8 h200 HX
    go_quiet (fail)
    have HB5 : Hid (Below w1.heap.size w1 (w4.drewN nq)) := below_drewN' HB4.out _
    have k5 : (w4.drewN nq).cell? ⟨w.heap.size, 3, none⟩ = some (.slice A l.length c) := k3
    clear g1 g2 t8 e1 e2 t2 HB4 HB4w k3
    generalize w4.drewN nq = w5 at *
    go_wp2_with fail
    clear k5
    go_loopw [47] (fun v wx => ∃ k : Nat, k ≤ l.length ∧ v = .int .i64 (k : Int) ∧ Hid (∀ q ∈ (l.map PkE.p).take k, ChkR Q q 0) ∧ Hid (Below w1.heap.size w1 wx)) (fun v _ => l.length - (intOf v).toNat)
    case atStart => exact ⟨0, Nat.zero_le _, rfl, (show ∀ q ∈ (l.map PkE.p).take 0, ChkR Q q 0 from by simp), HB5⟩
    case round =>
      clear HB5
      obtain ⟨k, hk, rfl, hok, hb⟩ := hrel
      obtain ⟨K5, hP5, hA5, hC5, hT5, hB5⟩ := HF.out wr hb.out
      have HB5 := Lib.hid hB5
      by_cases hlt : k < l.length
      · obtain ⟨e, he⟩ : ∃ e, l[k]? = some e := ⟨_, List.getElem?_eq_getElem hlt⟩
        obtain ⟨b, o, rfl, hU, hcs, hP⟩ := hA5 k e he
        have hba : Below wr.heap.size wr (wr.alloc (.cells (rowP e.p e.ss e.fs) 44)) := (Below.refl _ _).alloc (Nat.le_refl _) _
        have C := Lib.hid (poolCheck_any Q e.p e.ss e.fs S0 T0 (wr.alloc (.cells (rowP e.p e.ss e.fs) 44)) (hP.below hba) ((hC5 e (List.mem_of_getElem? he)).later hba) (hT5.below hba hT5.two))
        have HBA : Hid (Below w1.heap.size w1 (wr.alloc (.cells (rowP e.p e.ss e.fs) 44))) := hb.out.alloc hb.out.size _
        have HE2 : Hid ((l.map PkE.p)[k]? = some e.p) := by show _ = _; rw [List.getElem?_map, he]; rfl
        obtain ⟨B0, m0, s0, _⟩ := hP.lists 0 (by omega)
        obtain ⟨B1, m1, s1, _⟩ := hP.lists 1 (by omega)
        obtain ⟨B2, m2, s2, _⟩ := hP.lists 2 (by omega)
        obtain ⟨B3, m3, s3, _⟩ := hP.lists 3 (by omega)
        obtain ⟨B4, m4, s4, _⟩ := hP.lists 4 (by omega)
        obtain ⟨B5, m5, s5, _⟩ := hP.lists 5 (by omega)
        obtain ⟨B6, m6, s6, _⟩ := hP.lists 6 (by omega)
        obtain ⟨B7, m7, s7, _⟩ := hP.files
        have q0 : wr.cell? ⟨b, o + k * 12, none⟩ = some (.string e.p.name) := hcs 0 (by omega)
        have q1 : wr.cell? ⟨b, o + k * 12 + 1, none⟩ = some (.string e.p.evr) := hcs 1 (by omega)
        have q2 : wr.cell? ⟨b, o + k * 12 + 2, none⟩ = some (.string e.p.arch) := hcs 2 (by omega)
        have q3 : wr.cell? ⟨b, o + k * 12 + 3, none⟩ = some (.string e.p.vendor) := hcs 3 (by omega)
        have q4 : wr.cell? ⟨b, o + k * 12 + 4, none⟩ = some (e.ss 0) := hcs 4 (by omega)
        have q5 : wr.cell? ⟨b, o + k * 12 + 5, none⟩ = some (e.ss 1) := hcs 5 (by omega)
        have q6 : wr.cell? ⟨b, o + k * 12 + 6, none⟩ = some (e.ss 2) := hcs 6 (by omega)
        have q7 : wr.cell? ⟨b, o + k * 12 + 7, none⟩ = some (e.ss 3) := hcs 7 (by omega)
        have q8 : wr.cell? ⟨b, o + k * 12 + 8, none⟩ = some (e.ss 4) := hcs 8 (by omega)
        have q9 : wr.cell? ⟨b, o + k * 12 + 9, none⟩ = some (e.ss 5) := hcs 9 (by omega)
        have q10 : wr.cell? ⟨b, o + k * 12 + 10, none⟩ = some (e.ss 6) := hcs 10 (by omega)
        have q11 : wr.cell? ⟨b, o + k * 12 + 11, none⟩ = some (e.fs) := hcs 11 (by omega)
        unfold rowP at C HBA
        rw [s0, s1, s2, s3, s4, s5, s6, s7] at C HBA
        rw [s0] at q4
        rw [s1] at q5
        rw [s2] at q6
        rw [s3] at q7
        rw [s4] at q8
        rw [s5] at q9
        rw [s6] at q10
        rw [s7] at q11
        clear s0 s1 s2 s3 s4 s5 s6 s7 hcs hP hba hU K5 hP5 hA5 hC5 hT5 hB5 HB5 he
        go_wp2_with fail
        refine C.out.mono ?_
        rintro e' w6 ⟨⟨n, hn, rfl⟩, hb6⟩
        have HB6 : Hid (Below w1.heap.size w1 w6) := HBA.out.trans (hb6.mono HBA.out.size)
        obtain ⟨_, _, _, _, _, hBw⟩ := HF.out w6 HB6.out
        have HB6w := Lib.hid hBw
        have HNr := Lib.hid hn
        clear hb6 C HBA hn hBw q0 q1 q2 q3 q4 q5 q6 q7 q8 q9 q10 q11
        by_cases hz : n = 0
        · have HN : Hid (∀ q ∈ (l.map PkE.p).take (k + 1), ChkR Q q 0) := alls_snoc hok.out HE2.out (by have := HNr.out; rwa [hz] at this)
          have z1 : (n == 0) = true := by simp [hz]
          have z2 : (n != 0) = false := by simp [hz]
          clear hz hok HNr HE2
          go_wp2_with fail
          go_roundw
          case rel => exact ⟨k + 1, by omega, by go_num, HN, HB6⟩
          case measure => simp [intOf]; omega
        · have HV : Hid (NumPost _ (.returned (.int .i64 n))) := ⟨n, HZ.out n (.inr ⟨hz, k, e.p, HE2.out, HNr.out, hok.out⟩), rfl⟩
          have z1 : (n == 0) = false := by simp [hz]
          have z2 : (n != 0) = true := by simp [hz]
          clear hz hok HNr HE2 HZ
          go_wp2_with fail
          go_ret
          exact ⟨HV.out, HB6w.out⟩
      · have HV : Hid (NumPost _ (.returned (.int .i64 0))) := ⟨0, HZ.out 0 (.inl ⟨rfl, by
          have h := hok.out
          rw [List.take_of_length_le (by rw [HLm.out]; omega)] at h
          exact h⟩), rfl⟩
        clear K5 hP5 hA5 hC5 hT5 hB5 hok HZ
        go_wp2_with fail
        go_ret
        exact ⟨HV.out, HB5.out⟩
end Go.Proofs.YtpmfmkpfjomgnaaGreatDoor

/- A region that draws its order: where two may come up next; the steps of a look-up, of a store into a map, by their runs. -/
namespace Go.Proofs.YtpmfmkpfjomgnaaGreatDoor
set_option linter.unusedSimpArgs false
set_option linter.unusedVariables false
open Go

section
variable {P : Program} {ops : Array Oper} {Q : Exit → Act → World → Prop} {md : Region.Mode} {S : Array Bool → World → Prop}
/-- Either of two comes up. -/
theorem wpAnyS_pick {i j : Nat} {oi oj : Oper} {fuel : Nat} {listed : Array Bool} {a : Act} {w : World} (hr : Region.ready md ops listed = [i, j]) (hi : ops[i]? = some oi) (hj : ops[j]? = some oj)
    (h1 : ∀ K' : Act → World → Prop, Shut (∀ a w, S (listed.setIfInBounds i true) w → (S (listed.setIfInBounds i true) w → wpAnyS P md ops Q S fuel (listed.setIfInBounds i true) a w) → K' a w) →
      if Region.wanted oi (yielded ops a.tmps) = true then Oper.wp P oi a w K' Q else K' (a.put oi.dst undef) w)
    (h2 : ∀ K' : Act → World → Prop, Shut (∀ a w, S (listed.setIfInBounds j true) w → (S (listed.setIfInBounds j true) w → wpAnyS P md ops Q S fuel (listed.setIfInBounds j true) a w) → K' a w) →
      if Region.wanted oj (yielded ops a.tmps) = true then Oper.wp P oj a w K' Q else K' (a.put oj.dst undef) w) : wpAnyS P md ops Q S (fuel + 1) listed a w := by
  refine ⟨fun h0 => (by rw [hr] at h0; cases h0), fun k hk => ?_⟩
  rw [hr] at hk
  have : k = i ∨ k = j := by simpa using hk
  rcases this with rfl | rfl
  · exact wpOp_step hi (fun K' hK => h1 K' (fun a w hS hW => hK a w ⟨hS, hW hS⟩))
  · exact wpOp_step hj (fun K' hK => h2 K' (fun a w hS hW => hK a w ⟨hS, hW hS⟩))
/-- A store into a map, by its run. -/
theorem step_mapUpdate_run {w : World} {o : Oper} {a : Act} {K : Act → World → Prop} {E : Prop} (hg : o.guard = none) (m x v : Operand) (t : TypeId) (hop : o.op = Op.mapUpdate t m x v)
    {mv key val : Value} (hm : a.eval m = mv) (hx : a.eval x = key) (hv : a.eval v = val) {w' : World} (hrun : (Instr.mapUpdate t mv key val).run P w = .ok () w')
    (hK : K (a.put o.dst undef) w') : if Region.wanted o (yielded ops a.tmps) = true then Oper.wp P o a w K Q else E := by
  have hw : Region.wanted o (yielded ops a.tmps) = true := by simp [Region.wanted, hg]
  rw [if_pos hw]
  unfold Oper.wp
  simp [execOp, hop, hm, hx, hv, hrun, Result.andThen]
  exact hK
end
end Go.Proofs.YtpmfmkpfjomgnaaGreatDoor
