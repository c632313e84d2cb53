/- The walk of AttrsGlobs. -/
import Derived.Test.YthgagobdkcikiaaDoorFits
namespace Go.Proofs.YthgagobdkcikiaaDoor
set_option linter.unusedSimpArgs false
set_option linter.unusedVariables false
open Go.RowKit

def plainC (c : UInt8) : Bool := c != 42 && c != 63
theorem prefix_within {t p : List UInt8} (h : Lib.hasPrefix t p = true) : Lib.contains t p = true := by
  obtain ⟨h1, h2⟩ := has_prefix.1 h
  exact contains_iff.2 ⟨0, by omega, by simpa using h2⟩
theorem app_list (a b : ByteArray) : (a ++ b).data.toList = a.data.toList ++ b.data.toList := bl_app a b
theorem app_size (a b : ByteArray) : (a ++ b).size = a.size + b.size := by simp
set_option maxHeartbeats 40000000 in
set_option maxRecDepth 100000 in
theorem attrsGlobs_walk {H : Type} {enc : TypeId × Value → H} (W : World) {v0 v1 v2 v3 : Value} {d0 d1 d2 d3 : DataW H} (h0 : In enc Tryd.prog W 9 v0 d0) (h1 : In enc Tryd.prog W 9 v1 d1) (h2 : In enc Tryd.prog W 9 v2 d2) (h3 : In enc Tryd.prog W 9 v3 d3)
    (hL : laidMetH Tryd.prog Rows.attrsGlobsUptoRow.laid W) (hk : Rows.uptoBulkAll ([d0, d1, d2, d3] ++ []) ≤ 1048576) (hSh : W.ShapedOpen Tryd.prog) :
    Calls Tryd.prog 5 #[v0, v1, v2, v3] W (TrueBelow W) := by
  obtain ⟨p, rfl, e0, _⟩ := h0.string Tryd.underlying9
  obtain ⟨s, rfl, e1, _⟩ := h1.string Tryd.underlying9
  obtain ⟨q, rfl, e2, _⟩ := h2.string Tryd.underlying9
  obtain ⟨t, rfl, e3, _⟩ := h3.string Tryd.underlying9
  have hsum : p.size + s.size + q.size + t.size + 4 ≤ 1048576 := by
    subst e0; subst e1; subst e2; subst e3
    simp only [List.cons_append, List.nil_append, Rows.uptoBulkAll, Rows.uptoBulk, size_len] at hk
    omega
  have hp : p.size ≤ 1048576 := by omega
  have hs : s.size ≤ 1048576 := by omega
  have hq : q.size ≤ 1048576 := by omega
  have ht : t.size ≤ 1048576 := by omega
  have hpq : (p ++ q).size ≤ 1048576 := by rw [app_size]; omega
  have hst : (s ++ t).size ≤ 1048576 := by rw [app_size]; omega
  have hts : (t ++ s).size ≤ 1048576 := by rw [app_size]; omega
  have hps : (p ++ (⟨#[42]⟩ : ByteArray)).size ≤ 1048576 := by rw [app_size]; show p.size + 1 ≤ _; omega
  have hsp : ((⟨#[42]⟩ : ByteArray) ++ p).size ≤ 1048576 := by rw [app_size]; show 1 + p.size ≤ _; omega
  have CA := Lib.hid (awake_at W hSh)
  have HSH := Lib.hid hSh
  clear hL hk hSh h0 h1 h2 h3 e0 e1 e2 e3
  go_enter Tryd.func5, Tryd.ntmps5
  go_wp2_with fail
  refine CA.out.mono ?_
  rintro e w1 ⟨rfl, hb1⟩
  have CF : Hid (∀ (how : Int) (a b : ByteArray), a.size ≤ 1048576 → b.size ≤ 1048576 → ∀ n, Calls Tryd.prog 9 #[.int .i64 how, .string a, .string b] (w1.drewN n) fun e w' => e = .returned (.bool (fitsB how a b)) ∧ ∃ m, w' = w1.drewN m) := fun how a b ha hb n =>
    (fits_any how a b ha hb (w1.drewN n) ((MaxAt.at_ HSH.out hb1).drewN n)).mono fun e w' ⟨h1, m, h2⟩ => ⟨h1, n + m, by rw [h2]; simp [World.drewN, Nat.add_assoc]⟩
  have HB1 := Lib.hid hb1
  have HSELF : Hid (s.data.toList.all plainC = true → fitsB 4 s s = true) := fun h => gm_self fun c hc => by
    have := List.all_eq_true.1 h c hc
    unfold plainC at this
    rw [Bool.and_eq_true] at this
    simpa using this.1
  have HPQ : Hid (fitsB 4 p s = true → fitsB 4 q t = true → fitsB 4 (p ++ q) (s ++ t) = true) := fun h1 h2 => by
    show gm (p ++ q).data.toList (s ++ t).data.toList = true
    rw [app_list, app_list]
    exact gm_two h1 h2
  have HPS : Hid (fitsB 4 p s = true → fitsB 4 (p ++ (⟨#[42]⟩ : ByteArray)) (s ++ t) = true) := fun h1 => by
    show gm (p ++ _).data.toList (s ++ t).data.toList = true
    rw [app_list, app_list]
    exact gm_two h1 (gm_any _)
  have HSP : Hid (fitsB 4 p s = true → fitsB 4 ((⟨#[42]⟩ : ByteArray) ++ p) (t ++ s) = true) := fun h1 => by
    show gm (_ ++ p).data.toList (t ++ s).data.toList = true
    rw [app_list, app_list]
    exact gm_two (gm_any _) h1
  have HBW : Hid (fitsB 2 t s = true → fitsB 3 t s = true) := fun h => prefix_within h
  have HEB : Hid (fitsB 1 t s = true → fitsB 2 t s = true) := fun h => by
    have h' : s.data.toList = t.data.toList := of_decide_eq_true h
    exact has_prefix.2 ⟨by rw [h'] <;> omega, by rw [h']; exact List.take_length⟩
  clear hb1 CA hsum
  go_wp2_with fail
  go_loopw [10, 11] (fun v10 v11 wx => ∃ (i : Nat) (pl : Bool), v10 = .bool pl ∧ v11 = .int .i64 (i : Int) ∧ i ≤ s.size ∧ Hid (pl = (s.data.toList.take i).all plainC) ∧ wx = w1.drewN 0) (fun _ v11 _ => s.size - (intOf v11).toNat)
  case atStart => exact ⟨0, true, rfl, rfl, Nat.zero_le _, rfl, rfl⟩
  case round =>
    obtain ⟨i, pl, rfl, rfl, hi, hpl, rfl⟩ := hrel
    by_cases hlt : i < s.size
    · have hii : (i : Int) < (s.size : Int) := by omega
      have HC := Lib.hid (byte_at hlt)
      have HNX : Hid ((s.data.toList.take (i + 1)).all plainC = (pl && plainC s[i])) := by
        show _ = _
        rw [List.take_add_one, HC.out, List.all_append, ← hpl.out]
        simp
      by_cases h42 : s[i] = 42
      · have e42 : ((s[i].toNat : Int) == 42) = true := by rw [h42]; rfl
        have HN : Hid (false = (s.data.toList.take (i + 1)).all plainC) := by rw [HNX.out, h42]; simp [plainC, Hid]
        clear hpl HNX h42
        go_wp2_with fail
        go_roundw
        case rel => exact ⟨i + 1, false, rfl, by go_num, by omega, HN, (by first | trivial | rfl)⟩
        case measure => simp [intOf]; omega
      · have e42 : ((s[i].toNat : Int) == 42) = false := by
          rw [beq_eq_false_iff_ne]; intro e; exact h42 (UInt8.toNat_inj.1 (by show _ = 42; omega))
        by_cases h63 : s[i] = 63
        · have e63 : ((s[i].toNat : Int) == 63) = true := by rw [h63]; rfl
          have HN : Hid (false = (s.data.toList.take (i + 1)).all plainC) := by rw [HNX.out, h63]; simp [plainC, Hid]
          clear hpl HNX h42 h63
          go_wp2_with fail
          go_roundw
          case rel => exact ⟨i + 1, false, rfl, by go_num, by omega, HN, (by first | trivial | rfl)⟩
          case measure => simp [intOf]; omega
        · have e63 : ((s[i].toNat : Int) == 63) = false := by
            rw [beq_eq_false_iff_ne]; intro e; exact h63 (UInt8.toNat_inj.1 (by show _ = 63; omega))
          have HN : Hid (pl = (s.data.toList.take (i + 1)).all plainC) := by rw [HNX.out]; simp [plainC, h42, h63, Hid]
          clear hpl HNX h42 h63
          go_wp2_with fail
          go_roundw
          case rel => exact ⟨i + 1, pl, rfl, by go_num, by omega, HN, (by first | trivial | rfl)⟩
          case measure => simp [intOf]; omega
    · have hii : ¬ (i : Int) < (s.size : Int) := by omega
      have HPL : Hid (pl = true → fitsB 4 s s = true) := fun h => HSELF.out (by
        have h2 := hpl.out
        rw [List.take_of_length_le (by rw [size_len]; omega)] at h2
        rw [← h2]; exact h)
      clear hpl HSELF
      cases pl with
      | false =>
        clear HPL
        go_wp2_with fail
        have CPS := Lib.hid (CF.out 4 p s hp hs)
        have CQT := Lib.hid (CF.out 4 q t hq ht)
        cases hA : fitsB 4 p s with
        | false =>
          rw [hA] at CPS
          clear hA
          generalize fitsB 4 q t = xb at *
          refine (CPS.out _).mono ?_
          rintro e w9 ⟨rfl, nn, rfl⟩
          go_wp2_with fail
          refine (CQT.out _).mono ?_
          rintro e w9 ⟨rfl, nn, rfl⟩
          go_wp2_with fail
          refine (CF.out 3 (t) (s) ht hs _).mono ?_
          rintro e w9 ⟨rfl, nn, rfl⟩
          go_wp2_with fail
          refine (CF.out 2 (t) (s) ht hs _).mono ?_
          rintro e w9 ⟨rfl, nn, rfl⟩
          cases hB : fitsB 2 t s with
          | false =>
            have hE : fitsB 1 t s = false := by
              cases hE : fitsB 1 t s with
              | false => rfl
              | true => have := HEB.out hE; rw [hB] at this; cases this
            have CE := Lib.hid (CF.out 1 t s ht hs)
            rw [hE] at CE
            clear hB hE
            generalize fitsB 3 t s = x3 at *
            go_wp2_with fail
            refine (CE.out _).mono ?_
            rintro e w9 ⟨rfl, nn, rfl⟩
            go_wp2_with fail
            go_ret
            exact ⟨rfl, below_drewN' HB1.out _⟩
          | true =>
            have hW := HBW.out hB
            rw [hW]
            clear hB hW
            have CE := Lib.hid (CF.out 1 t s ht hs)
            generalize fitsB 1 t s = xE at *
            go_wp2_with fail
            refine (CE.out _).mono ?_
            rintro e w9 ⟨rfl, nn, rfl⟩
            cases xE
            all_goals
              go_wp2_with fail
              go_ret
              exact ⟨rfl, below_drewN' HB1.out _⟩
        | true =>
          rw [hA] at CPS
          have CX1 := Lib.hid (CF.out 4 (p ++ (⟨#[42]⟩ : ByteArray)) (s ++ t) hps hst)
          rw [HPS.out hA] at CX1
          have CX2 := Lib.hid (CF.out 4 ((⟨#[42]⟩ : ByteArray) ++ p) (t ++ s) hsp hts)
          rw [HSP.out hA] at CX2
          cases hBB : fitsB 4 q t with
          | false =>
            rw [hBB] at CQT
            clear hA hBB
            refine (CPS.out _).mono ?_
            rintro e w9 ⟨rfl, nn, rfl⟩
            go_wp2_with fail
            refine (CQT.out _).mono ?_
            rintro e w9 ⟨rfl, nn, rfl⟩
            go_wp2_with fail
            refine (CX1.out _).mono ?_
            rintro e w9 ⟨rfl, nn, rfl⟩
            go_wp2_with fail
            refine (CX2.out _).mono ?_
            rintro e w9 ⟨rfl, nn, rfl⟩
            go_wp2_with fail
            refine (CF.out 3 (t) (s) ht hs _).mono ?_
            rintro e w9 ⟨rfl, nn, rfl⟩
            go_wp2_with fail
            refine (CF.out 2 (t) (s) ht hs _).mono ?_
            rintro e w9 ⟨rfl, nn, rfl⟩
            cases hB : fitsB 2 t s with
            | false =>
              have hE : fitsB 1 t s = false := by
                cases hE : fitsB 1 t s with
                | false => rfl
                | true => have := HEB.out hE; rw [hB] at this; cases this
              have CE := Lib.hid (CF.out 1 t s ht hs)
              rw [hE] at CE
              clear hB hE
              generalize fitsB 3 t s = x3 at *
              go_wp2_with fail
              refine (CE.out _).mono ?_
              rintro e w9 ⟨rfl, nn, rfl⟩
              go_wp2_with fail
              go_ret
              exact ⟨rfl, below_drewN' HB1.out _⟩
            | true =>
              have hW := HBW.out hB
              rw [hW]
              clear hB hW
              have CE := Lib.hid (CF.out 1 t s ht hs)
              generalize fitsB 1 t s = xE at *
              go_wp2_with fail
              refine (CE.out _).mono ?_
              rintro e w9 ⟨rfl, nn, rfl⟩
              cases xE
              all_goals
                go_wp2_with fail
                go_ret
                exact ⟨rfl, below_drewN' HB1.out _⟩
          | true =>
            rw [hBB] at CQT
            have CX0 := Lib.hid (CF.out 4 (p ++ q) (s ++ t) hpq hst)
            rw [HPQ.out hA hBB] at CX0
            clear hA hBB
            refine (CPS.out _).mono ?_
            rintro e w9 ⟨rfl, nn, rfl⟩
            go_wp2_with fail
            refine (CQT.out _).mono ?_
            rintro e w9 ⟨rfl, nn, rfl⟩
            go_wp2_with fail
            refine (CX0.out _).mono ?_
            rintro e w9 ⟨rfl, nn, rfl⟩
            go_wp2_with fail
            refine (CX1.out _).mono ?_
            rintro e w9 ⟨rfl, nn, rfl⟩
            go_wp2_with fail
            refine (CX2.out _).mono ?_
            rintro e w9 ⟨rfl, nn, rfl⟩
            go_wp2_with fail
            refine (CF.out 3 (t) (s) ht hs _).mono ?_
            rintro e w9 ⟨rfl, nn, rfl⟩
            go_wp2_with fail
            refine (CF.out 2 (t) (s) ht hs _).mono ?_
            rintro e w9 ⟨rfl, nn, rfl⟩
            cases hB : fitsB 2 t s with
            | false =>
              have hE : fitsB 1 t s = false := by
                cases hE : fitsB 1 t s with
                | false => rfl
                | true => have := HEB.out hE; rw [hB] at this; cases this
              have CE := Lib.hid (CF.out 1 t s ht hs)
              rw [hE] at CE
              clear hB hE
              generalize fitsB 3 t s = x3 at *
              go_wp2_with fail
              refine (CE.out _).mono ?_
              rintro e w9 ⟨rfl, nn, rfl⟩
              go_wp2_with fail
              go_ret
              exact ⟨rfl, below_drewN' HB1.out _⟩
            | true =>
              have hW := HBW.out hB
              rw [hW]
              clear hB hW
              have CE := Lib.hid (CF.out 1 t s ht hs)
              generalize fitsB 1 t s = xE at *
              go_wp2_with fail
              refine (CE.out _).mono ?_
              rintro e w9 ⟨rfl, nn, rfl⟩
              cases xE
              all_goals
                go_wp2_with fail
                go_ret
                exact ⟨rfl, below_drewN' HB1.out _⟩
      | true =>
        have CSS := Lib.hid (CF.out 4 s s hs hs)
        rw [HPL.out rfl] at CSS
        clear HPL
        go_wp2_with fail
        refine (CSS.out _).mono ?_
        rintro e w9 ⟨rfl, nn, rfl⟩
        go_wp2_with fail
        have CPS := Lib.hid (CF.out 4 p s hp hs)
        have CQT := Lib.hid (CF.out 4 q t hq ht)
        cases hA : fitsB 4 p s with
        | false =>
          rw [hA] at CPS
          clear hA
          generalize fitsB 4 q t = xb at *
          refine (CPS.out _).mono ?_
          rintro e w9 ⟨rfl, nn, rfl⟩
          go_wp2_with fail
          refine (CQT.out _).mono ?_
          rintro e w9 ⟨rfl, nn, rfl⟩
          go_wp2_with fail
          refine (CF.out 3 (t) (s) ht hs _).mono ?_
          rintro e w9 ⟨rfl, nn, rfl⟩
          go_wp2_with fail
          refine (CF.out 2 (t) (s) ht hs _).mono ?_
          rintro e w9 ⟨rfl, nn, rfl⟩
          cases hB : fitsB 2 t s with
          | false =>
            have hE : fitsB 1 t s = false := by
              cases hE : fitsB 1 t s with
              | false => rfl
              | true => have := HEB.out hE; rw [hB] at this; cases this
            have CE := Lib.hid (CF.out 1 t s ht hs)
            rw [hE] at CE
            clear hB hE
            generalize fitsB 3 t s = x3 at *
            go_wp2_with fail
            refine (CE.out _).mono ?_
            rintro e w9 ⟨rfl, nn, rfl⟩
            go_wp2_with fail
            go_ret
            exact ⟨rfl, below_drewN' HB1.out _⟩
          | true =>
            have hW := HBW.out hB
            rw [hW]
            clear hB hW
            have CE := Lib.hid (CF.out 1 t s ht hs)
            generalize fitsB 1 t s = xE at *
            go_wp2_with fail
            refine (CE.out _).mono ?_
            rintro e w9 ⟨rfl, nn, rfl⟩
            cases xE
            all_goals
              go_wp2_with fail
              go_ret
              exact ⟨rfl, below_drewN' HB1.out _⟩
        | true =>
          rw [hA] at CPS
          have CX1 := Lib.hid (CF.out 4 (p ++ (⟨#[42]⟩ : ByteArray)) (s ++ t) hps hst)
          rw [HPS.out hA] at CX1
          have CX2 := Lib.hid (CF.out 4 ((⟨#[42]⟩ : ByteArray) ++ p) (t ++ s) hsp hts)
          rw [HSP.out hA] at CX2
          cases hBB : fitsB 4 q t with
          | false =>
            rw [hBB] at CQT
            clear hA hBB
            refine (CPS.out _).mono ?_
            rintro e w9 ⟨rfl, nn, rfl⟩
            go_wp2_with fail
            refine (CQT.out _).mono ?_
            rintro e w9 ⟨rfl, nn, rfl⟩
            go_wp2_with fail
            refine (CX1.out _).mono ?_
            rintro e w9 ⟨rfl, nn, rfl⟩
            go_wp2_with fail
            refine (CX2.out _).mono ?_
            rintro e w9 ⟨rfl, nn, rfl⟩
            go_wp2_with fail
            refine (CF.out 3 (t) (s) ht hs _).mono ?_
            rintro e w9 ⟨rfl, nn, rfl⟩
            go_wp2_with fail
            refine (CF.out 2 (t) (s) ht hs _).mono ?_
            rintro e w9 ⟨rfl, nn, rfl⟩
            cases hB : fitsB 2 t s with
            | false =>
              have hE : fitsB 1 t s = false := by
                cases hE : fitsB 1 t s with
                | false => rfl
                | true => have := HEB.out hE; rw [hB] at this; cases this
              have CE := Lib.hid (CF.out 1 t s ht hs)
              rw [hE] at CE
              clear hB hE
              generalize fitsB 3 t s = x3 at *
              go_wp2_with fail
              refine (CE.out _).mono ?_
              rintro e w9 ⟨rfl, nn, rfl⟩
              go_wp2_with fail
              go_ret
              exact ⟨rfl, below_drewN' HB1.out _⟩
            | true =>
              have hW := HBW.out hB
              rw [hW]
              clear hB hW
              have CE := Lib.hid (CF.out 1 t s ht hs)
              generalize fitsB 1 t s = xE at *
              go_wp2_with fail
              refine (CE.out _).mono ?_
              rintro e w9 ⟨rfl, nn, rfl⟩
              cases xE
              all_goals
                go_wp2_with fail
                go_ret
                exact ⟨rfl, below_drewN' HB1.out _⟩
          | true =>
            rw [hBB] at CQT
            have CX0 := Lib.hid (CF.out 4 (p ++ q) (s ++ t) hpq hst)
            rw [HPQ.out hA hBB] at CX0
            clear hA hBB
            refine (CPS.out _).mono ?_
            rintro e w9 ⟨rfl, nn, rfl⟩
            go_wp2_with fail
            refine (CQT.out _).mono ?_
            rintro e w9 ⟨rfl, nn, rfl⟩
            go_wp2_with fail
            refine (CX0.out _).mono ?_
            rintro e w9 ⟨rfl, nn, rfl⟩
            go_wp2_with fail
            refine (CX1.out _).mono ?_
            rintro e w9 ⟨rfl, nn, rfl⟩
            go_wp2_with fail
            refine (CX2.out _).mono ?_
            rintro e w9 ⟨rfl, nn, rfl⟩
            go_wp2_with fail
            refine (CF.out 3 (t) (s) ht hs _).mono ?_
            rintro e w9 ⟨rfl, nn, rfl⟩
            go_wp2_with fail
            refine (CF.out 2 (t) (s) ht hs _).mono ?_
            rintro e w9 ⟨rfl, nn, rfl⟩
            cases hB : fitsB 2 t s with
            | false =>
              have hE : fitsB 1 t s = false := by
                cases hE : fitsB 1 t s with
                | false => rfl
                | true => have := HEB.out hE; rw [hB] at this; cases this
              have CE := Lib.hid (CF.out 1 t s ht hs)
              rw [hE] at CE
              clear hB hE
              generalize fitsB 3 t s = x3 at *
              go_wp2_with fail
              refine (CE.out _).mono ?_
              rintro e w9 ⟨rfl, nn, rfl⟩
              go_wp2_with fail
              go_ret
              exact ⟨rfl, below_drewN' HB1.out _⟩
            | true =>
              have hW := HBW.out hB
              rw [hW]
              clear hB hW
              have CE := Lib.hid (CF.out 1 t s ht hs)
              generalize fitsB 1 t s = xE at *
              go_wp2_with fail
              refine (CE.out _).mono ?_
              rintro e w9 ⟨rfl, nn, rfl⟩
              cases xE
              all_goals
                go_wp2_with fail
                go_ret
                exact ⟨rfl, below_drewN' HB1.out _⟩
end Go.Proofs.YthgagobdkcikiaaDoor
