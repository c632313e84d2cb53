/- relations: its walk. Maps of functions, known whole. strings.ContainsFunc of closures that allocate. -/
import Derived.Test.YtdhgiammfpjniaaGreatDoorZaar
import Derived.Deep.LoopGhost
import Derived.Test.YtdhgiammfpjniaaGreatDoorZaaa
import Derived.MapKept
import Derived.Shelf.Strings.FuncGrows
import Derived.Test.YtdhgiammfpjniaaGreatDoorZaab
/- relations: its walk. -/
namespace Go.Proofs.YtdhgiammfpjniaaGreatDoor
set_option linter.unusedSimpArgs false
set_option linter.unusedVariables false
open Go.RowKit

/-- What relations answers: the list, in memory of its own, or that there is none. -/
def RelPost (w0 : World) (X : Option (List Ev.Dep)) (e : Ending) (w' : World) : Prop := match X with
  | none => e = .returned (.tuple #[.slice none 0 0, .bool false]) ∧ Below w0.heap.size w0 w'
  | some ds => ∃ v r F, e = .returned (.tuple #[v, .bool true]) ∧ ReM w0 w' v r F ∧ r.map Prod.fst = ds
structure DbS (w : World) : Prop where
  max : MaxAt w
  sgn : SgnAt w
theorem DbS.below {w w' : World} (h : DbS w) (hb : Below w.heap.size w w') : DbS w' := ⟨h.max.below hb, h.sgn.below' hb⟩
theorem oneX_or {ds : List Ev.Dep} (h : ds.length ≠ 1) : oneX ds = .mk 3 ⟨#[]⟩ 0 ⟨#[]⟩ ds := by
  match ds, h with
  | [], _ => rfl
  | [d], h => exact absurd rfl h
  | _ :: _ :: _, _ => rfl
set_option maxHeartbeats 16000000 in
set_option maxRecDepth 1000000 in
theorem relations_any (l : Bs) (hl : l.length ≤ 100000) (w : World) (hS : DbS w) :
    Calls Tryz.prog 49 #[.string (mkS l)] w (RelPost w (depsX l)) := by
  have hem := isEmpty_mkS l
  by_cases h0 : l = []
  · have he : (mkS l).toList.isEmpty = true := by rw [hem, h0]; rfl
    have HV : Hid (RelPost w (depsX l) (.returned (.tuple #[.slice none 0 0, .bool true])) w) := by
      show RelPost w (depsX l) _ w
      unfold depsX
      rw [if_pos h0]
      exact ⟨.slice none 0 0, [], [], rfl, ⟨World.ownsRow_nil _ _ _ _, fun x hx => (by cases hx), fun b hb => (by cases hb), Below.refl _ _⟩, rfl⟩
    clear hem h0 hS
    generalize mkS l = L at *
    go_enter Tryz.func49, Tryz.ntmps49
    go_wp2_with fail
    go_ret2
    exact HV.out
  have he : (mkS l).toList.isEmpty = false := by rw [hem]; simpa using h0
  have hX : depsX l = listX (partsX 44 l) := by unfold depsX; rw [if_neg h0]
  rw [hX]
  have CS := Lib.hid (split_any 44 l (by omega) w hS.max)
  have CT := Lib.hid (fun (p : Bs) (hp : p.length ≤ 100000) w' (hb : Below w.heap.size w w') => split_any 124 p (by omega) w' (hS.max.below hb))
  have CM := Lib.hid (fun (p : Bs) (hp : p.length ≤ 100000) w' => dTrim_any p (by omega) w')
  have CR := Lib.hid (fun (p : Bs) (hp : p.length ≤ 100000) w' (hb : Below w.heap.size w w') => relation_any p (by omega) w' (hS.sgn.below' hb))
  have q1 : (mkS [44] : ByteArray) = ⟨#[44]⟩ := rfl
  have q2 : (mkS [124] : ByteArray) = ⟨#[124]⟩ := rfl
  have q3 : (mkS dLayS : ByteArray) = ⟨#[32, 9]⟩ := rfl
  rw [q1] at CS
  rw [q2] at CT
  rw [q3] at CM
  have HPL : Hid (∀ p ∈ partsX 44 l, p.length ≤ 100000) := fun p hp => Nat.le_trans (parts_short hp) hl
  have hN : (partsX 44 l).length ≤ 100001 := Nat.le_trans (parts_many 44 l) (by omega)
  obtain ⟨i, z, hi, hz0, hz1, hz2, hz3⟩ := Ev.info_dep5
  have HI := Lib.hid hi
  have HS := Lib.hid hS
  clear hem h0 hX q1 q2 q3 hi hS
  generalize partsX 44 l = PS at *
  generalize mkS l = L at *
  go_enter Tryz.func49, Tryz.ntmps49
  go_wp2_with fail
  refine CS.out.mono ?_
  rintro e w1 ⟨b, rfl, hpb, hb1⟩
  have HPB := Lib.hid hpb
  have HR1 : Hid (ReM w w1 (.slice none 0 0) [] []) := ⟨World.ownsRow_nil _ _ _ _, fun x hx => (by cases hx), fun b hb => (by cases hb), hb1⟩
  have HB1 := Lib.hid hb1
  obtain ⟨N, hNN⟩ : ∃ N, N = PS.length := ⟨_, rfl⟩
  have HN := Lib.hid hNN
  rw [← hNN] at hN ⊢
  clear hpb hb1 hNN CS
  have hW1 : Hid (w1.heap.size ≤ w1.heap.size) := Nat.le_refl _
  go_wp2_with fail
  go_loopg [4, 17] N (fun gk v4 v17 wx => ∃ (k : Nat) (r : Ev.Rows5) (F : List Nat), k + gk = N ∧ v17 = .int .i64 (k : Int) ∧ Hid (ReM w wx v4 r F) ∧ Hid (listX (PS.take k) = some (r.map Prod.fst)) ∧ r.length = k ∧ Hid (Blk wx b 9 (strs_ PS)))
  case atStart => exact ⟨0, [], [], by omega, rfl, HR1, rfl, rfl, HPB⟩
  case round =>
    obtain ⟨k, r, F, hkg, rfl, HR, HL, hrk, HPX⟩ := hrel
    subst hrk
    clear HR1 HPB
    obtain ⟨Ao, co, rfl, hno, hmo⟩ := own_form' HR.out.own
    unfold maxLen at hmo
    by_cases hlt : r.length < N
    · have hltI : (r.length : Int) < (N : Int) := by omega
      obtain ⟨p, hp⟩ : ∃ p, PS[r.length]? = some p := ⟨_, List.getElem?_eq_getElem (by have := HN.out; omega)⟩
      have hpl := HPL.out p (List.mem_of_getElem? hp)
      have pc := (HPX.out.cell r.length).trans (strs_at hp)
      have HP := Lib.hid hp
      have CTp := Lib.hid (CT.out p hpl wr HR.out.bel)
      have HQL : Hid (∀ x ∈ partsX 124 p, x.length ≤ 100000) := fun x hx => Nat.le_trans (parts_short hx) hpl
      have hM : (partsX 124 p).length ≤ 100001 := Nat.le_trans (parts_many 124 p) (by omega)
      have HLN := Lib.hid (fun h => listX_bad PS r.length p hp _ HL.out h)
      have HLS := Lib.hid (fun ds h => listX_snoc PS r.length p hp _ ds HL.out h)
      clear hp hpl HL
      generalize partsX 124 p = QS at *
      generalize mkS p = P1 at *
      go_wp2_with fail
      refine CTp.out.mono ?_
      rintro e w2 ⟨b2, rfl, hqb, hb2⟩
      have HQB := Lib.hid hqb
      have HR2 := Lib.hid (HR.out.below hb2)
      have HPX2 := Lib.hid (Blk.mono HPX.out hb2)
      have HE2 : Hid (EiM w w2 (.slice Ao r.length co) (.slice none 0 0) [] F) := ⟨World.ownsRow_nil _ _ _ _, fun k hk => (by cases hk)⟩
      obtain ⟨M, hMM⟩ : ∃ M, M = QS.length := ⟨_, rfl⟩
      have HM := Lib.hid hMM
      rw [← hMM] at hM ⊢
      obtain ⟨G, hG⟩ : ∃ G, G = gk := ⟨_, rfl⟩
      clear hqb hb2 hMM CTp pc HR HPX
      go_wp2_with fail
      go_loopg [7, 24] M (fun gj v7 v24 wx => ∃ (j : Nat) (qs : List Rl), j + gj = M ∧ v24 = .int .i64 (j : Int) ∧ Hid (ReM w wx (.slice Ao r.length co) r F) ∧ Hid (EiM w wx (.slice Ao r.length co) v7 qs F) ∧ Hid (someX (QS.take j) = some (qs.map depR)) ∧ qs.length = j ∧ Hid (Blk wx b 9 (strs_ PS)) ∧ Hid (Blk wx b2 9 (strs_ QS)))
      case atStart => exact ⟨0, [], by omega, rfl, HR2, HE2, rfl, rfl, HPX2, HQB⟩
      case round =>
        obtain ⟨j, qs, hjg, rfl, HR, HE, HT, hqj, HPX, HQX⟩ := hrel
        subst hqj
        clear HR2 HE2 HPX2 HQB
        obtain ⟨Ae, ce, rfl, hne, hme⟩ := own_form' HE.out.own
        unfold maxLen at hme
        by_cases hjl : qs.length < M
        · have hjlI : (qs.length : Int) < (M : Int) := by omega
          obtain ⟨q, hq⟩ : ∃ q, QS[qs.length]? = some q := ⟨_, List.getElem?_eq_getElem (by have := HM.out; omega)⟩
          have hql := HQL.out q (List.mem_of_getElem? hq)
          have qc := (HQX.out.cell qs.length).trans (strs_at hq)
          have CMq := Lib.hid (fun w' => CM.out q hql w')
          have CRq := Lib.hid (CR.out (dTrim q) (Nat.le_trans (dTrim_len q) hql))
          have HTB := Lib.hid (fun h => someX_bad QS qs.length q hq _ HT.out h)
          have HTS := Lib.hid (fun h => someX_snoc QS qs.length q hq _ HT.out h)
          clear hq hql HT
          generalize relX (dTrim q) = R0 at *
          generalize mkS (dTrim q) = T1 at *
          generalize mkS q = Q1 at *
          go_wp2_with fail
          refine (CMq.out _).mono ?_
          rintro e w3 ⟨rfl, hb3⟩
          have HR3 := Lib.hid (HR.out.below hb3)
          have HE3 := Lib.hid (HE.out.below hb3)
          have HPX3 := Lib.hid (Blk.mono HPX.out hb3)
          have HQX3 := Lib.hid (Blk.mono HQX.out hb3)
          clear hb3 CMq HR HE HPX HQX qc
          go_wp2_with fail
          refine (CRq.out _ HR3.out.bel).mono ?_
          rintro e w4 ⟨rfl, hb4⟩
          have HR4 := Lib.hid (HR3.out.below hb4)
          have HE4 := Lib.hid (HE3.out.below hb4)
          have HPX4 := Lib.hid (Blk.mono HPX3.out hb4)
          have HQX4 := Lib.hid (Blk.mono HQX3.out hb4)
          clear hb4 CRq HR3 HE3 HPX3 HQX3
          unfold relC
          cases hok : R0.ok with
          | false =>
            have HV : Hid (listX PS = none) := HLN.out (HTB.out hok)
            have HB5 : Hid (∀ o, Below w.heap.size w (w4.alloc o)) := fun o => HR4.out.bel.alloc HR4.out.bel.size _
            clear HLN HLS HTB HTS hok
            go_wp2_with fail
            go_ret2
            show RelPost w (listX PS) _ _
            rw [HV.out]
            exact ⟨rfl, HB5.out _⟩
          | true =>
            have HTS1 := Lib.hid (HTS.out hok)
            obtain ⟨w5, hw5⟩ : ∃ w5, w5 = (w4.alloc (.cells #[.int .i64 1, .string (mkS R0.nm), .int .i64 R0.op, .string (mkS R0.ev), .slice none 0 0] 39)).alloc (.cells #[.int .i64 1, .string (mkS R0.nm), .int .i64 R0.op, .string (mkS R0.ev), .slice none 0 0] 39) := ⟨_, rfl⟩
            have hb5 : Below w4.heap.size w4 w5 := by rw [hw5]; exact ((Below.refl _ _).alloc (Nat.le_refl _) _).alloc (by simp) _
            have HC5 : Hid (∀ (jj : Nat) u, (relC R0).toList[jj]? = some u → w5.cell? ((⟨w4.heap.size + 1, 0, none⟩ : Addr).add jj) = some u) := fun jj u hj => by
              have h := cells_new (w4.alloc (.cells #[.int .i64 1, .string (mkS R0.nm), .int .i64 R0.op, .string (mkS R0.ev), .slice none 0 0] 39)) (relC R0) 39 jj u hj
              rw [hw5]
              show ((w4.alloc (.cells #[.int .i64 1, .string (mkS R0.nm), .int .i64 R0.op, .string (mkS R0.ev), .slice none 0 0] 39)).alloc (.cells (relC R0) 39)).cell? _ = _
              simpa using h
            have HR5 := Lib.hid (HR4.out.below hb5)
            have HE5 := Lib.hid (HE4.out.below hb5)
            have HPX5 := Lib.hid (Blk.mono HPX4.out hb5)
            have HQX5 := Lib.hid (Blk.mono HQX4.out hb5)
            have HPUT := Lib.hid (fun v'' w' ho hg hat => EiM.put (v'' := v'') (w' := w') (q := R0) HE5.out HR5.out ho hg hat)
            have hsz4 : w.heap.size ≤ w4.heap.size := HR4.out.bel.size
            clear hb5 HR4 HE4 HPX4 HQX4 HTS HTB hok
            subst hw5
            go_wp2_with (at_builtin; refine wpList_append_own_at _ rfl (.tmp 36) (.tmp 38) 35 rfl w.heap.size 39 i z 5 72 Tryz.underlying35 HI.out hz0 hz2 hz3 hz1 (by decide) (.slice Ae qs.length ce) qs.length (Ev.cells5 (qs.map rowR)) rfl HE5.out.own ⟨w4.heap.size + 1, 0, none⟩ 1 1 (relC R0).toList rfl rfl HC5.out (by intro u hu; simp [relC] at hu; rcases hu with rfl | rfl | rfl | rfl | rfl <;> rfl) (by unfold maxLen; omega) (by omega) (by simp; omega) ?_; intro v7' w7 hown7 hg7 hnil7 hat7; have HP7 := Lib.hid (HPUT.out v7' w7 hown7 hg7 hat7); have HPX7 := Lib.hid (HPX5.out.grown hg7 (fun e => own_kind HE5.out.own HPX5.out (by decide) e.symm)); have HQX7 := Lib.hid (HQX5.out.grown hg7 (fun e => own_kind HE5.out.own HQX5.out (by decide) e.symm)); clear hown7 hg7 hnil7 hat7)
            go_roundg (gk - 1)
            case measure => omega
            case rel => exact ⟨qs.length + 1, qs ++ [R0], by omega, by go_num, HP7.out.2, HP7.out.1, by show someX (QS.take (qs.length + 1)) = _; rw [HTS1.out, List.map_append]; rfl, by simp, HPX7, HQX7⟩
        · have hjlI : ¬ (qs.length : Int) < (M : Int) := by omega
          have HTV : Hid (someX QS = some (qs.map depR)) := by
            have h := HT.out
            rw [List.take_of_length_le (by have := HM.out; omega)] at h
            exact h
          have HLS1 := Lib.hid (HLS.out _ HTV.out)
          clear HT HLN HLS HTV
          by_cases hone : qs.length = 1
          · obtain ⟨q0, rfl⟩ : ∃ q0, qs = [q0] := List.length_eq_one_iff.1 hone
            have hl1 : [q0].length = 1 := rfl
            have hrow : ∃ g, Ae = some ⟨g, 0, none⟩ ∧ ∀ jj, jj < 5 → wr.cell? ⟨g, jj, none⟩ = (relC q0)[jj]? := by
              obtain ⟨g, rfl, _⟩ := own_ats HE.out.own (k := 0) (u := .int .i64 1) rfl
              refine ⟨g, rfl, fun jj hj => ?_⟩
              obtain ⟨u, hu⟩ : ∃ u, (relC q0)[jj]? = some u := ⟨_, Array.getElem?_eq_getElem (by show jj < 5; exact hj)⟩
              obtain ⟨g', e, hc⟩ := own_ats HE.out.own (k := jj) (u := u) (by show (relC q0).toList[jj]? = _; rw [Array.getElem?_toList]; exact hu)
              injection e with e
              injection e with e
              subst e
              rw [hu, hc]
            obtain ⟨g, rfl, hcl⟩ := hrow
            have g0 := hcl 0 (by omega)
            have g1 := hcl 1 (by omega)
            have g2 := hcl 2 (by omega)
            have g3 := hcl 3 (by omega)
            have g4 := hcl 4 (by omega)
            unfold relC at g0 g1 g2 g3 g4
            simp at g0 g1 g2 g3 g4
            rw [hl1] at hne hjg hjlI hjl
            clear hcl hone
            obtain ⟨w5, hw5⟩ : ∃ w5, w5 = wr.alloc (.cells #[.int .i64 1, .string (mkS q0.nm), .int .i64 q0.op, .string (mkS q0.ev), .slice none 0 0] 39) := ⟨_, rfl⟩
            have hb5 : Below wr.heap.size wr w5 := by rw [hw5]; exact (Below.refl _ _).alloc (Nat.le_refl _) _
            have HC5 : Hid (∀ (jj : Nat) u, (relC q0).toList[jj]? = some u → w5.cell? ((⟨wr.heap.size, 0, none⟩ : Addr).add jj) = some u) := fun jj u hj => by
              rw [hw5]
              exact cells_new wr #[.int .i64 1, .string (mkS q0.nm), .int .i64 q0.op, .string (mkS q0.ev), .slice none 0 0] 39 jj u hj
            have HR5 := Lib.hid (HR.out.below hb5)
            have HE5 := Lib.hid (HE.out.below hb5)
            have HPX5 := Lib.hid (Blk.mono HPX.out hb5)
            have HPUT := Lib.hid (fun v'' w' ho hg hat => ReM.one (q := q0) HR5.out (v'' := v'') (w' := w') ho hg hat)
            have hszr : w.heap.size ≤ wr.heap.size := HR.out.bel.size
            clear hb5 HR HE HPX HQX
            subst hw5
            go_wp2_with (at_builtin; refine wpList_append_own_at _ rfl (.tmp 44) (.tmp 48) 35 rfl w.heap.size 39 i z 5 72 Tryz.underlying35 HI.out hz0 hz2 hz3 hz1 (by decide) (.slice Ao r.length co) r.length (Ev.cells5 r) rfl HR5.out.own ⟨wr.heap.size, 0, none⟩ 1 1 (relC q0).toList rfl rfl HC5.out (by intro u hu; simp [relC] at hu; rcases hu with rfl | rfl | rfl | rfl | rfl <;> rfl) (by unfold maxLen; omega) (by omega) (by simp; omega) ?_; intro v7' w7 hown7 hg7 hnil7 hat7; have HP7 := Lib.hid (HPUT.out v7' w7 hown7 hg7 hat7); have HPX7 := Lib.hid (HPX5.out.grown hg7 (fun e => own_kind HR5.out.own HPX5.out (by decide) e.symm)); clear hown7 hg7 hnil7 hat7)
            go_roundg (G - 1)
            case measure => omega
            case rel => exact ⟨r.length + 1, r ++ [rowR q0], F, by omega, by go_num, HP7.out, by show listX (PS.take (r.length + 1)) = _; rw [HLS1.out, List.map_append]; rfl, by simp, HPX7⟩
          · have hone1 : ((qs.length : Int) == 1) = false := by simp; omega
            have HOR : Hid (oneX (qs.map depR) = .mk 3 ⟨#[]⟩ 0 ⟨#[]⟩ (qs.map depR)) := oneX_or (by rw [List.length_map]; exact hone)
            clear hone
            obtain ⟨w5, hw5⟩ : ∃ w5, w5 = wr.alloc (.cells #[.int .i64 3, .string ⟨#[]⟩, .int .i64 0, .string ⟨#[]⟩, .slice Ae qs.length ce] 39) := ⟨_, rfl⟩
            have hb5 : Below wr.heap.size wr w5 := by rw [hw5]; exact (Below.refl _ _).alloc (Nat.le_refl _) _
            have HC5 : Hid (∀ (jj : Nat) u, [.int .i64 3, .string ⟨#[]⟩, .int .i64 0, .string ⟨#[]⟩, .slice Ae qs.length ce][jj]? = some u → w5.cell? ((⟨wr.heap.size, 0, none⟩ : Addr).add jj) = some u) := fun jj u hj => by
              rw [hw5]
              exact cells_new wr #[.int .i64 3, .string ⟨#[]⟩, .int .i64 0, .string ⟨#[]⟩, .slice Ae qs.length ce] 39 jj u hj
            have HR5 := Lib.hid (HR.out.below hb5)
            have HE5 := Lib.hid (HE.out.below hb5)
            have HPX5 := Lib.hid (Blk.mono HPX.out hb5)
            have HPUT := Lib.hid (fun v'' w' ho hg hat => ReM.or HR5.out HE5.out (v'' := v'') (w' := w') ho hg hat)
            have hszr : w.heap.size ≤ wr.heap.size := HR.out.bel.size
            clear hb5 HR HE HPX HQX
            subst hw5
            go_wp2_with (at_builtin; refine wpList_append_own_at _ rfl (.tmp 50) (.tmp 53) 35 rfl w.heap.size 39 i z 5 72 Tryz.underlying35 HI.out hz0 hz2 hz3 hz1 (by decide) (.slice Ao r.length co) r.length (Ev.cells5 r) rfl HR5.out.own ⟨wr.heap.size, 0, none⟩ 1 1 [.int .i64 3, .string ⟨#[]⟩, .int .i64 0, .string ⟨#[]⟩, .slice Ae qs.length ce] rfl rfl HC5.out (by intro u hu; simp at hu; rcases hu with rfl | rfl | rfl | rfl | rfl <;> rfl) (by unfold maxLen; omega) (by omega) (by simp; omega) ?_; intro v7' w7 hown7 hg7 hnil7 hat7; have HP7 := Lib.hid (HPUT.out v7' w7 hown7 hg7 hat7); have HPX7 := Lib.hid (HPX5.out.grown hg7 (fun e => own_kind HR5.out.own HPX5.out (by decide) e.symm)); clear hown7 hg7 hnil7 hat7)
            go_roundg (G - 1)
            case measure => omega
            case rel => exact ⟨r.length + 1, r ++ [(Ev.Dep.mk 3 ⟨#[]⟩ 0 ⟨#[]⟩ (qs.map depR), Value.slice Ae qs.length ce)], (Value.slice Ae qs.length ce).ownBlock.toList ++ F, by omega, by go_num, HP7.out, by show listX (PS.take (r.length + 1)) = _; rw [HLS1.out, HOR.out, List.map_append]; rfl, by simp, HPX7⟩
    · have hltI : ¬ (r.length : Int) < (N : Int) := by omega
      have HV : Hid (listX PS = some (r.map Prod.fst)) := by
        have h := HL.out
        rw [List.take_of_length_le (by have := HN.out; omega)] at h
        exact h
      clear HL
      go_wp2_with fail
      go_ret2
      show RelPost w (listX PS) _ _
      rw [HV.out]
      exact ⟨.slice Ao r.length co, r, F, rfl, HR.out, rfl⟩
end Go.Proofs.YtdhgiammfpjniaaGreatDoor

/- Maps of functions, known whole. -/
namespace Go.Proofs.YtdhgiammfpjniaaGreatDoor
set_option linter.unusedSimpArgs false
set_option linter.unusedVariables false
open Go.RowKit Go.MapKept

def mapEs : List (ByteArray × Value) → Nat → List MapEntry
  | [], _ => []
  | (k, v) :: r, i => ⟨.string k, v, i⟩ :: mapEs r (i + 1)
def mapO (l : List (ByteArray × Value)) : Obj := .map (mapEs l 0).toArray l.length
def lookO (k : ByteArray) : List (ByteArray × Value) → Option Value
  | [] => none
  | (a, v) :: r => if k = a then some v else lookO k r
theorem mapEs_snoc (k : ByteArray) (v : Value) : ∀ (l : List (ByteArray × Value)) (i : Nat), mapEs (l ++ [(k, v)]) i = mapEs l i ++ [⟨.string k, v, i + l.length⟩]
  | [], i => rfl
  | (a, u) :: r, i => by
    show (⟨.string a, u, i⟩ : MapEntry) :: mapEs (r ++ [(k, v)]) (i + 1) = _
    rw [mapEs_snoc k v r (i + 1)]
    show _ = (⟨.string a, u, i⟩ : MapEntry) :: (mapEs r (i + 1) ++ [⟨.string k, v, i + (r.length + 1)⟩])
    rw [show i + 1 + r.length = i + (r.length + 1) from by omega]
theorem same_str (a b : ByteArray) : Instr.sameNow .string (.string a) (.string b) = some (decide (a = b)) := by
  show some (a == b) = _
  congr 1
  rw [Bool.eq_iff_iff, bytes_beq]
  simp
theorem find_es (k : ByteArray) : ∀ (l : List (ByteArray × Value)) (i j : Nat), (lookO k l = none ∧ Instr.findNow .string (.string k) (mapEs l i) j = some none) ∨ ∃ p v, lookO k l = some v ∧ Instr.findNow .string (.string k) (mapEs l i) j = some (some (p, v))
  | [], i, j => .inl ⟨rfl, rfl⟩
  | (a, v) :: r, i, j => by
    unfold mapEs Instr.findNow lookO
    rw [same_str]
    by_cases h : k = a
    · rw [decide_eq_true h, if_pos h]
      exact .inr ⟨j, v, rfl, rfl⟩
    · rw [decide_eq_false h, if_neg h]
      exact find_es k r (i + 1) (j + 1)
section
variable {P : Program} {w : World} {mty kt et : TypeId} {m : Nat} {l : List (ByteArray × Value)} {k : ByteArray} {v : Value}
theorem run_look (hm : P.underlying mty = some (.map kt et)) (hd : P.underlying kt = some .string) (hz : ∀ w, (zeroValue et).run P w = .ok .nilFunc w) (hb : w.heap[m]? = some (mapO l)) :
    (Instr.lookup mty (.map (some m)) (.string k) false).run P w = .ok ((lookO k l).getD .nilFunc) w := by
  have hk : IsKey .string (.string k) := by simp [IsKey]
  unfold mapO at hb
  rcases find_es k l 0 0 with ⟨h1, h2⟩ | ⟨p, u, h1, h2⟩
  · rw [h1]
    simp [Instr.lookup, run_underlying hm, Go.MapKept.run_getObj_map hb, run_checkKey hd hk, run_findKey hd h2, hz, Result.andThen]
  · rw [h1]
    simp [Instr.lookup, run_underlying hm, Go.MapKept.run_getObj_map hb, run_checkKey hd hk, run_findKey hd h2, Result.andThen]
theorem run_put (hm : P.underlying mty = some (.map kt et)) (hd : P.underlying kt = some .string) (hb : w.heap[m]? = some (mapO l)) (hn : lookO k l = none) :
    ∃ w', (Instr.mapUpdate mty (.map (some m)) (.string k) v).run P w = .ok () w' ∧ w'.heap[m]? = some (mapO (l ++ [(k, v)])) ∧ Turned [m] w w' := by
  have hk : IsKey .string (.string k) := by simp [IsKey]
  have hb' := hb
  unfold mapO at hb
  rcases find_es k l 0 0 with ⟨h1, h2⟩ | ⟨p, u, h1, h2⟩
  rotate_left
  · rw [hn] at h1; cases h1
  refine ⟨{ w with heap := w.heap.setIfInBounds m (mapO (l ++ [(k, v)])) }, ?_, (heap_set hb').1, ⟨rfl, rfl, rfl, by simp, fun j hj hjm => (heap_set hb').2 j (fun e => hjm (by simp [e]))⟩⟩
  have he : mapO (l ++ [(k, v)]) = .map ((mapEs l 0).toArray.push ⟨.string k, v, l.length⟩) (l.length + 1) := by
    unfold mapO
    rw [mapEs_snoc]
    simp
  rw [he]
  simp [Instr.mapUpdate, run_underlying hm, Go.MapKept.run_getObj_map hb, run_checkKey hd hk, run_findKey hd h2, run_setObj_map _ hb, Result.andThen]
end
theorem wpList_insert_map {P : Program} (w : World) {ops : Array Oper} {rest : List Oper} {o : Oper} {a : Act} {Q : Exit → Act → World → Prop}
    (hg : o.guard = none) (m x v : Operand) (t : TypeId) (hop : o.op = Op.insert t m x v)
    (kt et : TypeId) (ht : P.underlying t = some (.map kt et)) (hd : P.underlying kt = some .string) (b : Nat) (l : List (ByteArray × Value)) (hm : a.eval m = .map (some b)) (hb : w.heap[b]? = some (mapO l))
    (key : ByteArray) (val : Value) (hx : a.eval x = .string key) (hv : a.eval v = val) (hn : lookO key l = none)
    (hK : ∀ w', w'.heap[b]? = some (mapO (l ++ [(key, val)])) → Turned [b] w w' → wpList P ops Q rest (a.put o.dst undef) w') :
    wpList P ops Q (o :: rest) a w := by
  refine wpList_plain hg fun K' hK' => ?_
  obtain ⟨w', hrun, r1, r2⟩ := run_put (v := val) ht hd hb hn
  unfold Oper.wp
  simp [execOp, hop, hm, hx, hv, hrun, Result.andThen]
  exact hK' _ _ (hK w' r1 r2)
theorem map_new (w : World) : (w.alloc (.map #[] 0)).heap[w.heap.size]? = some (mapO []) := (heap_alloc w _).1
theorem map_turned' {w w' : World} {F : List Nat} {m : Nat} {l : List (ByteArray × Value)} (h : w.heap[m]? = some (mapO l)) (ht : Turned F w w') (hF : m ∉ F) : w'.heap[m]? = some (mapO l) := by
  rw [ht.block m (Array.getElem?_eq_some_iff.1 h).1 hF]; exact h
theorem map_below {w w' : World} {m : Nat} {l : List (ByteArray × Value)} (h : w.heap[m]? = some (mapO l)) (hb : Below w.heap.size w w') : w'.heap[m]? = some (mapO l) := map_turned' h (Turned.of_below hb []) (fun hk => by cases hk)
theorem map_not_blk {w : World} {m g : Nat} {l : List (ByteArray × Value)} {t : TypeId} {cs : Array Value} (h : w.heap[m]? = some (mapO l)) (hb : Blk w g t cs) : m ≠ g := fun e => by
  subst e
  have h1 : some (mapO l) = some (Obj.cells cs t (0, 0)) := h.symm.trans hb
  cases h1
end Go.Proofs.YtdhgiammfpjniaaGreatDoor

/- strings.ContainsFunc of closures that allocate. -/
namespace Go.Proofs.YtdhgiammfpjniaaGreatDoor
open Go.Shelf
open Go.RowKit Go.Lib in
theorem Tryz.strings_ContainsFunc_grows (g : Nat) (lb : Array Value) (eg : ∀ args w, (callFunc g args).run Tryz.prog w = .ok (.enter g args) w) (p : Nat → Bool) (s : ByteArray) (w : World) (hp : PredGrows Tryz.prog g lb p w) :
    Calls Tryz.prog 122 #[.string s, .func (.func g) #[] lb] w fun e w' => e = .returned (.bool (decide (0 ≤ Lib.idxFunc p true s))) ∧ Below w.heap.size w w' := Any.strings_ContainsFunc_grows Tryz.laysGw17 g lb eg p s w hp
end Go.Proofs.YtdhgiammfpjniaaGreatDoor
