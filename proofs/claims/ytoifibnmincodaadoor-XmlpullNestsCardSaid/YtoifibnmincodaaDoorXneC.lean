/- XmlpullNests: its law. -/
import Derived.Test.YtoifibnmincodaaDoorXneB
import Derived.Test.YtoifibnmincodaaDoorPhase2
import Derived.Test.YtoifibnmincodaaDoorPhase4
import Derived.StillTailTactics
namespace Go.Proofs.YtoifibnmincodaaDoor
set_option linter.unusedSimpArgs false
set_option linter.unusedVariables false
open Go.RowKit

theorem wrap_nat (n : Int) (h0 : -9223372036854775808 ≤ n) (h1 : n ≤ 9223372036854775807) : IntKind.i64.wrap n = n := by
  simp only [IntKind.wrap, IntKind.bits, IntKind.signed]
  simp
  split <;> omega
theorem Lk.most {ps : List Pc} {e : Int} {i : Nat} {opn : List Bs} {last : Int} (h : Lk ps e i opn last) : opn.length ≤ 16 := by
  obtain ⟨-, ⟨s, m, ha, hm, hN, ho⟩ | ⟨-, -, ho⟩⟩ := h
  · rw [← ho]; exact hN.ok.opn
  · rw [ho]; exact Nat.zero_le _
theorem str_none {l : Bs} (h : l ≠ []) : ((mkS l).toList == ([] : List UInt8)) = false := by
  have h1 := str_ne (a := mkS l) (b := mkS []) (fun e => h (mkS_inj e))
  have h2 : (mkS []).toList = [] := by first | rfl | kernel_rfl | decide +kernel
  rw [h2] at h1
  exact h1
theorem Lk.pos {ps : List Pc} {e : Int} {i : Nat} {opn : List Bs} {last : Int} (h : Lk ps e i opn last) (ho : opn ≠ []) : 0 < i := by
  obtain ⟨-, ⟨s, m, ha, hm, hN, h1⟩ | ⟨-, -, h1⟩⟩ := h
  · rcases Nat.eq_zero_or_pos i with h0 | h0
    · exact absurd (h1.symm.trans (hN.zero h0)) ho
    · exact h0
  · exact absurd h1 ho
set_option maxHeartbeats 8000000 in
set_option maxRecDepth 1000000 in
theorem nests_law (l : Bs) (W : World) {B : Nat} (hE : XEnv B W) : Calls Tryd.prog 3 #[.string (mkS l)] W fun e w' => e = .returned (.bool true) ∧ Below W.heap.size W w' := by
  have CA := Lib.hid (awake_any W hE)
  have C1 := Lib.hid (fun w' (hb : Below W.heap.size W w') => all_any l (hE.below hb))
  have HST := Lib.hid (Lk.start l)
  obtain ⟨is_, zs, his, hzs, hzs1, hzs2, hzs3⟩ := info_str
  have HIS := Lib.hid his
  unfold AllPost at C1
  clear hE his
  generalize allX l = ax at *
  obtain ⟨ps, e0⟩ := ax
  generalize mkS l = S at *
  simp only at C1 HST
  go_enter Tryd.func3, Tryd.ntmps3
  go_wp2_with fail
  refine CA.out.mono ?_
  rintro e w1 ⟨rfl, hb1⟩
  have HB1 := Lib.hid hb1
  have C1' := Lib.hid (C1.out w1 hb1)
  clear hb1 CA C1
  go_wp2_with fail
  refine C1'.out.mono ?_
  rintro e w2 ⟨v, cs, rfl, hown, hpc, hb2⟩
  obtain ⟨Av, cv, rfl, hnc, hcm⟩ := own_form' hown
  have HB2 := Lib.hid (HB1.out.trans (hb2.mono HB1.out.size))
  have HP2 := Lib.hid (pcsR_of hown hpc)
  have HO2 : Hid (w2.ownsRow w2.heap.size 9 1 (.slice none 0 0) 0 []) := World.ownsRow_nil _ _ _ _
  have HBZ : Hid (Below w2.heap.size w2 w2) := Below.refl _ _
  unfold maxLen at hcm
  obtain ⟨N, hN⟩ : ∃ N, N = ps.length := ⟨_, rfl⟩
  have HN := Lib.hid hN
  rw [← hN] at hnc ⊢
  clear hown hpc hb2 HB1 C1' hN
  go_wp2_with fail
  go_loopg [6, 7, 8] N (fun gk v6 v7 v8 wy => ∃ (wx : World) (i : Nat) (opn : List Bs) (last : Int), wx = wy ∧ i + gk = N ∧ v7 = .int .i64 (i : Int) ∧ Hid (Lk ps e0 i opn last) ∧ Hid (wx.ownsRow w2.heap.size 9 1 v6 opn.length (strL opn)) ∧ Hid (Below w2.heap.size w2 wx))
  case atStart => exact ⟨_, 0, [], 0, rfl, by omega, rfl, HST, HO2, HBZ⟩
  case round =>
    obtain ⟨wx, i, opn, last, rfl, hig, rfl, HL, HO, HBX⟩ := hrel
    clear HST HO2 HBZ
    by_cases hlt : i < N
    · have hlt' : (i : Int) < (N : Int) := by omega
      have hi0 : (0 : Int) ≤ (i : Int) := by omega
      obtain ⟨p, hp⟩ : ∃ p, ps[i]? = some p := ⟨_, List.getElem?_eq_getElem (by rw [← HN.out]; exact hlt)⟩
      have HPX := Lib.hid (HP2.out.below HBX.out)
      obtain ⟨b, o, A, c, hAv, ka, na, aa, ta, hla, hma, hra⟩ := HPX.out i p hp
      subst hAv
      have HSTEP := Lib.hid (HL.out.step hp)
      have hmost := HL.out.most
      obtain ⟨A6, c6, hv6, hn6, hm6⟩ := own_form' HO.out
      subst hv6
      unfold maxLen at hm6
      obtain ⟨w5, hw5⟩ : ∃ w5, w5 = wx.alloc (.cells #[.int .i64 p.kind, .string (mkS p.name), .slice A p.attrs.length c, .string (mkS p.text)] 30) := ⟨_, rfl⟩
      have K5 : Hid (Blk w5 wx.heap.size 30 #[.int .i64 p.kind, .string (mkS p.name), .slice A p.attrs.length c, .string (mkS p.text)]) := by rw [hw5]; exact Blk.new _ _ _
      have HB5 : Hid (Below w2.heap.size w2 w5) := by rw [hw5]; exact HBX.out.alloc HBX.out.size _
      have HO5 : Hid (w5.ownsRow w2.heap.size 9 1 (.slice A6 opn.length c6) opn.length (strL opn)) := by rw [hw5]; exact HO.out.alloc _
      clear hra hla hma HO HBX
      have HP5 : Hid (PcsR w5 (some ⟨b, o, none⟩) ps) := by rw [hw5]; exact HPX.out.below ((Below.refl _ _).alloc (Nat.le_refl _) _)
      go_upto_region 8 with fail
      rw [← hw5]
      clear hw5 ka na aa ta
      have l0 : w5.cell? ⟨wx.heap.size, 0, none⟩ = some (.int .i64 p.kind) := K5.out.cell 0
      have l1 : w5.cell? ⟨wx.heap.size, 1, none⟩ = some (.string (mkS p.name)) := K5.out.cell 1
      have l2 : w5.cell? ⟨wx.heap.size, 2, none⟩ = some (.slice A p.attrs.length c) := K5.out.cell 2
      have l3 : w5.cell? ⟨wx.heap.size, 3, none⟩ = some (.string (mkS p.text)) := K5.out.cell 3
      rcases HSTEP.out with ⟨k1, k2, k3, k4, k5, kL⟩ | ⟨k1, k2, k3, kL⟩ | ⟨k1, k2, k3, k4, kL⟩
      · have HLK := Lib.hid kL
        rw [k1] at l0
        have k4' : ¬ (16 : Int) < (p.attrs.length : Int) := by omega
        have tn : ((mkS p.name).toList == ([] : List UInt8)) = false := str_none k5
        have hi9 : opn.length = 0 → i = 0 := fun h => k2 (List.length_eq_zero_iff.1 h)
        have hz5 : w2.heap.size ≤ w5.heap.size := HB5.out.size
        have h5b : w2.heap.size ≤ (w5.alloc (.cells #[.string (mkS p.name)] 9)).heap.size := Nat.le_trans hz5 (by simp)
        have HOWN := Lib.hid (HO5.out.alloc (.cells #[.string (mkS p.name)] 9))
        have HCN := Lib.hid (cell_one_new w5 (.string (mkS p.name)) 9)
        have HPUT : Hid (∀ v' w', (w5.alloc (.cells #[.string (mkS p.name)] 9)).grownBy w' (Value.slice A6 opn.length c6).ownBlock → w'.ownsRow w2.heap.size 9 1 v' (opn.length + 1) (strL opn ++ [.string (mkS p.name)]) → Hid (w'.ownsRow w2.heap.size 9 1 v' (opn ++ [p.name]).length (strL (opn ++ [p.name]))) ∧ Hid (Below w2.heap.size w2 w')) := by
          intro v' w' hg ho
          have hb := HB5.out.alloc HB5.out.size (.cells #[.string (mkS p.name)] 9)
          refine ⟨?_, hb.trans ((turned_grown hg).below (fun k hk => (HO5.out.lt k (by simpa using hk)).1) hb.size)⟩
          show World.ownsRow _ _ _ _ _ _ _
          rw [List.length_append, show strL (opn ++ [p.name]) = strL opn ++ [.string (mkS p.name)] from by simp [strL]]
          exact ho
        clear kL k5 k4 k2 HSTEP HL hp HO5
        generalize hD : opn.length = D at *
        have hDI : ¬ (16 : Int) ≤ (D : Int) := by omega
        by_cases h0 : D = 0
        · have tD : ((D : Int) == 0) = true := by rw [h0]; rfl
          have hi00 := hi9 h0
          subst hi00
          clear h0 hi9
          go_wp2_with (at_builtin; refine wpList_append_own_at _ rfl (.tmp 52) (.tmp 55) 27 rfl w2.heap.size 9 is_ zs 1 16 Tryd.underlying27 HIS.out hzs hzs2 hzs3 hzs1 (by decide) (.slice A6 D c6) D (strL opn) rfl HOWN.out ⟨w5.heap.size, 0, none⟩ 1 1 [.string (mkS p.name)] rfl rfl HCN.out (by intro u hu; simp at hu; subst hu; rfl) (by unfold maxLen; omega) (by omega) (by simp; omega) ?_; intro v7 w7 hown7 hg7 hnil7 hat7; have HX := HPUT.out v7 w7 hg7 hown7; clear hown7 hg7 hnil7 hat7)
          go_roundg (gk - 1)
          case measure => omega
          case rel => exact ⟨_, 1, opn ++ [p.name], 1, rfl, by omega, rfl, HLK, HX.1, HX.2⟩
        · have tD : ((D : Int) == 0) = false := by simp; omega
          clear h0 hi9
          go_wp2_with (at_builtin; refine wpList_append_own_at _ rfl (.tmp 52) (.tmp 55) 27 rfl w2.heap.size 9 is_ zs 1 16 Tryd.underlying27 HIS.out hzs hzs2 hzs3 hzs1 (by decide) (.slice A6 D c6) D (strL opn) rfl HOWN.out ⟨w5.heap.size, 0, none⟩ 1 1 [.string (mkS p.name)] rfl rfl HCN.out (by intro u hu; simp at hu; subst hu; rfl) (by unfold maxLen; omega) (by omega) (by simp; omega) ?_; intro v7 w7 hown7 hg7 hnil7 hat7; have HX := HPUT.out v7 w7 hg7 hown7; clear hown7 hg7 hnil7 hat7)
          go_roundg (gk - 1)
          case measure => omega
          case rel => exact ⟨_, i + 1, opn ++ [p.name], 1, rfl, by omega, rfl, HLK, HX.1, HX.2⟩
      · have HLK := Lib.hid kL
        rw [k1] at l0
        have hD0 : 0 < opn.length := by
          cases hq : opn with
          | nil => rw [hq] at k2; cases k2
          | cons a t => simp
        obtain ⟨n, hn⟩ : ∃ n, opn.length = n + 1 := ⟨opn.length - 1, by omega⟩
        obtain ⟨hl1, hl2, hl3⟩ := last_of hn
        have hnm : opn.getLastD [] = p.name := by rw [List.getLastD_eq_getLast?, k2]; rfl
        rw [hnm] at hl1
        have HOX := HO5.out
        rw [hn] at HOX hmost hn6 ⊢
        obtain ⟨b6, rfl, hcell⟩ := own_at_ HOX hl1
        have hcut := own_cut HOX
        rw [hl2] at hcut
        have HV : Hid (w5.ownsRow w2.heap.size 9 1 (.slice (some ⟨b6, 0, none⟩) n c6) opn.dropLast.length (strL opn.dropLast)) := by
          show World.ownsRow _ _ _ _ _ _ _
          rw [hl3]; exact hcut
        rw [k3] at l2
        simp at l2
        have hn16 : n ≤ 15 := by omega
        clear kL k3 k2 k1 HSTEP HL hp HO5 HOX hcut hl1 hl2 hl3 hnm hD0
        have hi : (n : Int) < 9223372036854775807 := by omega
        have hi0 : (0 : Int) ≤ (n : Int) := by omega
        have hi1 : (n : Int) < ((n + 1 : Nat) : Int) := by omega
        have hi2 : n < n + 1 := by omega
        have hw := wrap_nat (n : Int) (by omega) (by omega)
        have t0 : ((n : Int) + 1 == 0) = false := by rw [beq_eq_false_iff_ne]; omega
        go_wp2_with fail
        go_upto_region 15 with fail
        go_quiet (fail)
        have HV2 : Hid ((w5.drewN nq).ownsRow w2.heap.size 9 1 (.slice (some ⟨b6, 0, none⟩) n c6) opn.dropLast.length (strL opn.dropLast)) := HV.out
        have HBQ : Hid (Below w2.heap.size w2 (w5.drewN nq)) := below_drewN' (n := nq) HB5.out
        clear HV l0 l1 l2 l3 K5
        generalize w5.drewN nq = w6 at HV2 HBQ ⊢
        go_wp2_with fail
        go_roundg (gk - 1)
        case measure => omega
        case rel => exact ⟨_, i + 1, opn.dropLast, 2, rfl, by omega, rfl, HLK, HV2, HBQ⟩
      · have HLK := Lib.hid kL
        rw [k1] at l0
        have hD0 : 0 < opn.length := by
          cases hq : opn with
          | nil => exact absurd hq k2
          | cons a t => simp
        obtain ⟨n, hn⟩ : ∃ n, opn.length = n + 1 := ⟨opn.length - 1, by omega⟩
        have hip := HL.out.pos k2
        obtain ⟨j, rfl⟩ : ∃ j, i = j + 1 := ⟨i - 1, by omega⟩
        obtain ⟨qp, hqp⟩ : ∃ qp, ps[j]? = some qp := ⟨_, List.getElem?_eq_getElem (by rw [← HN.out]; omega)⟩
        have hqk : qp.kind = last := HL.out.1 qp (by omega) (by rw [Nat.add_sub_cancel]; exact hqp)
        have t3 : (qp.kind == 3) = false := by rw [beq_eq_false_iff_ne, hqk]; exact k4
        obtain ⟨b', o', A', c', he, kq, -⟩ := HP5.out j qp hqp
        injection he with he
        injection he with he1 he2
        subst he1; subst he2
        have tn : ((mkS p.text).toList == ([] : List UInt8)) = false := str_none k3
        have HOX := HO5.out
        rw [hn] at HOX hmost hn6 ⊢
        have HV : Hid (w5.ownsRow w2.heap.size 9 1 (.slice A6 (n + 1) c6) opn.length (strL opn)) := by
          show World.ownsRow _ _ _ _ _ _ _
          rw [hn]; exact HOX
        have t0 : ((n : Int) + 1 == 0) = false := by rw [beq_eq_false_iff_ne]; omega
        have hw := wrap_nat (j : Int) (by omega) (by omega)
        have hj0 : (0 : Int) ≤ (j : Int) := by omega
        have hj1 : (j : Int) < (N : Int) := by omega
        have hj2 : j < N := by omega
        clear kL k3 k4 k1 k2 HSTEP HL hp HO5 HOX hD0 hqk hqp hn hip
        generalize qp.kind = qk at *
        go_wp2_with fail
        go_roundg (gk - 1)
        case measure => omega
        case rel => exact ⟨_, j + 1 + 1, opn, 3, rfl, by omega, rfl, HLK, HV, HB5⟩
    · have hiN : i = N := by omega
      have hst := HL.out.stop (by rw [← HN.out]; omega)
      obtain ⟨A6, c6, hv6, hn6, hm6⟩ := own_form' HO.out
      subst hv6
      have HV := Lib.hid (HB2.out.trans (HBX.out.mono HB2.out.size))
      subst hiN
      have hlt' : ¬ (i : Int) < (i : Int) := by omega
      clear HO HL HBX HP2 HN hlt
      rcases hst with he0 | ⟨ho, h2⟩
      · have te : (e0 != 0) = true := by simpa using he0
        have te' : (e0 == 0) = false := by simpa using he0
        clear he0
        go_wp2_with fail
        go_ret
        exact ⟨rfl, HV.out⟩
      · subst ho
        have h2' : (2 : Int) ≤ (i : Int) := by omega
        have h2'' : ¬ (i : Int) < 2 := by omega
        by_cases he0 : e0 = 0
        · subst he0
          go_wp2_with fail
          go_ret
          exact ⟨rfl, HV.out⟩
        · have te : (e0 != 0) = true := by simpa using he0
          have te' : (e0 == 0) = false := by simpa using he0
          clear he0
          go_wp2_with fail
          go_ret
          exact ⟨rfl, HV.out⟩
end Go.Proofs.YtoifibnmincodaaDoor
