/- A text of stanzas is read: the walk. What all laws of debctl begin with: awake; the law of its names. What the packages ahead do to the reading of a text: pure. -/
import Derived.Test.YtdhgiammfpjniaaGreatDoorZabc
/- A text of stanzas is read: the walk. -/
namespace Go.Proofs.YtdhgiammfpjniaaGreatDoor
set_option linter.unusedSimpArgs false
set_option linter.unusedVariables false
open Go.RowKit Go.MapKept

theorem info_pk : ∃ i z, Tryz.prog.info? 37 = some i ∧ i.zero = some z ∧ z.cells.size = 12 ∧ i.size = 12 ∧ i.bytes = 256 := by
  have h : (Tryz.prog.info? 37).map (fun i => (i.zero.map fun z => z.cells.size, i.size, i.bytes)) = some (some 12, 12, 256) := by kernel_rfl
  obtain ⟨i, hi, h2⟩ := Option.map_eq_some_iff.1 h
  simp only [Prod.mk.injEq] at h2
  obtain ⟨z, hz, hz1⟩ := Option.map_eq_some_iff.1 h2.1
  exact ⟨i, z, hi, hz, hz1, h2.2.1, h2.2.2⟩
def parseT (l : Bs) : Except Int (List Fs) := if l.length ≤ 40000 then parseX (l.length + 1) l [] else .error 122
set_option maxHeartbeats 16000000 in
set_option maxRecDepth 1000000 in
theorem dparse_any (l : Bs) (w : World) (hW : DbW w) : Calls Tryz.prog 12 #[.string (mkS l)] w (ParsePost w (parseT l)) := by
  unfold parseT
  by_cases hl : l.length ≤ 40000
  rotate_left
  · rw [if_neg hl]
    have hgt : (40000 : Int) < ((mkS l).size : Int) := by rw [mkS_size]; omega
    clear hl hW
    generalize mkS l = L at *
    go_enter Tryz.func12, Tryz.ntmps12
    go_wp2_with fail
    go_ret2
    exact ⟨rfl, by decide, Below.refl _ _⟩
  rw [if_pos hl]
  have hgt : ¬ (40000 : Int) < ((mkS l).size : Int) := by rw [mkS_size]; omega
  obtain ⟨i, z, hi, hz0, hz1, hz2, hz3⟩ := info_pk
  have HI := Lib.hid hi
  have HW := Lib.hid hW
  have CRd := Lib.hid (fun (t : Bs) (ht : t.length ≤ 40000) wx (h : MaxAt wx) => read_any t ht wx h)
  have CPk := Lib.hid (fun (s : Stz) (sm B : Nat) (vs : List Value) (wx : World) h1 h2 h3 h4 => pack_any s sm B vs wx h1 h2 h3 h4)
  have HP0 : Hid (PsV w w (.slice none 0 0) []) := ⟨World.ownsRow_nil _ _ _ _, fun x hx => (by cases hx), Below.refl _ _⟩
  obtain ⟨X, hX⟩ : ∃ X, X = parseX (l.length + 1) l [] := ⟨_, rfl⟩
  rw [← hX]
  have HX : Hid (parseX (l.length + 1) l [] = X) := hX.symm
  clear hX hW hi
  have hN : l.length < l.length + 1 := by omega
  generalize l.length + 1 = N at *
  go_enter Tryz.func12, Tryz.ntmps12
  go_wp2_with fail
  go_loopg [0, 4] N (fun gk v0 v4 wx => ∃ (t : Bs) (xs : List Pk5), v0 = .string (mkS t) ∧ Hid (PsV w wx v4 xs) ∧ t.length < gk ∧ t.length ≤ 40000 ∧ xs.length ≤ 200 ∧ Hid (parseX gk t (xs.map Pk5.S) = X))
  case atStart => exact ⟨l, [], rfl, HP0, hN, hl, by simp, HX⟩
  case round =>
    obtain ⟨t, xs, rfl, HP, hlt, ht4, hx2, HXk⟩ := hrel
    clear HP0 HX hN hgt
    obtain ⟨g1, hg1⟩ : ∃ g1, gk = g1 + 1 := ⟨gk - 1, by omega⟩
    have hXk := HXk.out
    rw [hg1] at hXk
    clear HXk
    obtain ⟨Av, cv, rfl, hcv1, hcv2⟩ := own_form' HP.out.row
    by_cases ht0 : t = []
    · have he : (mkS t).toList.isEmpty = true := by rw [isEmpty_mkS, ht0]; rfl
      rw [ht0, parseX_nil] at hXk
      have HXe := Lib.hid hXk.symm
      clear hXk ht0
      generalize mkS t = T at *
      go_wp2_with fail
      go_ret2
      show ParsePost w X _ _
      rw [HXe.out]
      exact ⟨_, xs, rfl, rfl, HP.out⟩
    have he : (mkS t).toList.isEmpty = false := by rw [isEmpty_mkS]; simpa using ht0
    rw [parseX_cons ht0] at hXk
    have CRk := Lib.hid (CRd.out t ht4 wr (HW.out.below HP.out.bel).base.max)
    have hle := fun s' r' h => (readX_le (t.length + 1) t [] [] s' r' h).2 (by omega) ht0
    clear CRd ht0
    generalize readX (t.length + 1) t [] [] = R at *
    cases R with
    | none =>
      have HXe := Lib.hid hXk.symm
      clear hXk hle
      go_wp2_with fail
      refine CRk.out.mono ?_
      rintro e w5 ⟨rfl, hb⟩
      have HB5 := Lib.hid (HP.out.bel.trans (hb.mono HP.out.bel.size))
      clear hb CRk HP
      go_wp2_with fail
      go_ret2
      show ParsePost w X _ _
      rw [HXe.out]
      exact ⟨rfl, by decide, HB5.out⟩
    | some sr =>
      obtain ⟨s, rest⟩ := sr
      have hrl := hle s rest rfl
      clear hle
      go_wp2_with fail
      refine CRk.out.mono ?_
      rintro e w5 ⟨sm, vs, rfl, hS, hge, hwt, hb⟩
      have HP5 := Lib.hid (HP.out.below hb)
      have HS5 := Lib.hid hS
      have hln := len_stz hS
      have hXk : (if s = [] then parseX g1 rest (xs.map Pk5.S) else if 200 ≤ (xs.map Pk5.S).length then .error 121 else match packX s with
        | .error e => .error e
        | .ok S => parseX g1 rest (xs.map Pk5.S ++ [S])) = X := hXk
      clear hb hS CRk HP
      by_cases hs0 : s = []
      · have hln0 : ∀ ty, (Builtin.len_ #[41] ty #[.map (some sm)]).run Tryz.prog w5 = .ok (.int .i64 0) w5 := fun ty => by rw [hln ty, hs0]; rfl
        rw [if_pos hs0] at hXk
        have HXk := Lib.hid hXk
        clear hln hXk hs0
        go_wp2_with fail
        go_roundg g1
        case measure => omega
        case rel => exact ⟨rest, xs, rfl, HP5, by omega, by omega, hx2, HXk⟩
      rw [if_neg hs0, List.length_map] at hXk
      have hl0 : ((s.length : Int) == 0) = false := by
        have : s.length ≠ 0 := fun e => hs0 (List.length_eq_zero_iff.1 e)
        simp
        omega
      clear hs0
      by_cases h200 : 200 ≤ xs.length
      · have h2I : (200 : Int) ≤ (xs.length : Int) := by omega
        rw [if_pos h200] at hXk
        have HXe := Lib.hid hXk.symm
        clear hXk h200
        go_wp2_with fail
        go_ret2
        show ParsePost w X _ _
        rw [HXe.out]
        exact ⟨rfl, by decide, HP5.out.bel⟩
      · have h2I : ¬ (200 : Int) ≤ (xs.length : Int) := by omega
        rw [if_neg h200] at hXk
        have CPw := Lib.hid (CPk.out s sm wr.heap.size vs w5 HS5.out (fun n => Nat.le_trans (join_len _) (Nat.le_trans (wt_get n s) (by omega))) (fun n => Nat.le_trans (wt_len _) (Nat.le_trans (wt_get n s) (by omega))) (HW.out.below HP5.out.bel))
        clear CPk
        generalize packX s = PX at *
        cases PX with
        | error n =>
          have HXe := Lib.hid hXk.symm
          clear hXk
          go_wp2_with fail
          refine CPw.out.mono ?_
          rintro e w6 ⟨rfl, hn, hb⟩
          have HB6 := Lib.hid (HP5.out.bel.trans (hb.mono HP5.out.bel.size))
          have HN := Lib.hid hn
          have t1 : (n != 0) = true := by simp [hn]
          have t2 : (n == 0) = false := by simp [hn]
          clear hb CPw HP5 hn
          unfold zero12
          go_wp2_with fail
          go_ret2
          show ParsePost w X _ _
          rw [HXe.out]
          exact ⟨rfl, HN.out, by first | exact HB6.out.alloc HB6.out.size _ | exact (HB6.out.alloc HB6.out.size _)⟩
        | ok S =>
          have HXk : Hid (parseX g1 rest (xs.map Pk5.S ++ [S]) = X) := Lib.hid hXk
          clear hXk
          go_wp2_with fail
          refine CPw.out.mono ?_
          rintro e w6 ⟨ss, rs, F, pb, rfl, hM⟩
          obtain ⟨A0, c0, e0, _, _⟩ := own_form' (hM.own 0 (by omega))
          obtain ⟨A1, c1, e1, _, _⟩ := own_form' (hM.own 1 (by omega))
          obtain ⟨A2, c2, e2, _, _⟩ := own_form' (hM.own 2 (by omega))
          obtain ⟨A3, c3, e3, _, _⟩ := own_form' (hM.own 3 (by omega))
          obtain ⟨A4, c4, e4, _, _⟩ := own_form' (hM.own 4 (by omega))
          obtain ⟨A5, c5, e5, _, _⟩ := own_form' (hM.own 5 (by omega))
          obtain ⟨A6, c6, e6, _, _⟩ := own_form' (hM.own 6 (by omega))
          have hrow : rowT S.T ss = #[.string (mkS (S.T 0)), .string (mkS (S.T 1)), .string (mkS (S.T 2)), .string (mkS (S.T 3)), .slice A0 (rs 0).length c0, .slice A1 (rs 1).length c1, .slice A2 (rs 2).length c2, .slice A3 (rs 3).length c3, .slice A4 (rs 4).length c4, .slice A5 (rs 5).length c5, .slice A6 (rs 6).length c6, .slice none 0 0] := by unfold rowT; rw [e0, e1, e2, e3, e4, e5, e6]
          rw [hrow]
          have hb6 : Below w5.heap.size w5 w6 := hM.bel
          have HP6 := Lib.hid (HP5.out.below hb6)
          obtain ⟨w7, hw7⟩ : ∃ w7, w7 = (w6.alloc (.cells #[.string (mkS (S.T 0)), .string (mkS (S.T 1)), .string (mkS (S.T 2)), .string (mkS (S.T 3)), .slice A0 (rs 0).length c0, .slice A1 (rs 1).length c1, .slice A2 (rs 2).length c2, .slice A3 (rs 3).length c3, .slice A4 (rs 4).length c4, .slice A5 (rs 5).length c5, .slice A6 (rs 6).length c6, .slice none 0 0] 37)).alloc (.cells #[.string (mkS (S.T 0)), .string (mkS (S.T 1)), .string (mkS (S.T 2)), .string (mkS (S.T 3)), .slice A0 (rs 0).length c0, .slice A1 (rs 1).length c1, .slice A2 (rs 2).length c2, .slice A3 (rs 3).length c3, .slice A4 (rs 4).length c4, .slice A5 (rs 5).length c5, .slice A6 (rs 6).length c6, .slice none 0 0] 37) := ⟨_, rfl⟩
          have hb7 : Below w6.heap.size w6 w7 := by rw [hw7]; exact ((Below.refl _ _).alloc (Nat.le_refl _) _).alloc (by simp) _
          have HC7 : Hid (∀ (jj : Nat) u, [.string (mkS (S.T 0)), .string (mkS (S.T 1)), .string (mkS (S.T 2)), .string (mkS (S.T 3)), .slice A0 (rs 0).length c0, .slice A1 (rs 1).length c1, .slice A2 (rs 2).length c2, .slice A3 (rs 3).length c3, .slice A4 (rs 4).length c4, .slice A5 (rs 5).length c5, .slice A6 (rs 6).length c6, .slice none 0 0][jj]? = some u → w7.cell? ((⟨w6.heap.size + 1, 0, none⟩ : Addr).add jj) = some u) := fun jj u hj => by
            have h := cells_new (w6.alloc (.cells #[.string (mkS (S.T 0)), .string (mkS (S.T 1)), .string (mkS (S.T 2)), .string (mkS (S.T 3)), .slice A0 (rs 0).length c0, .slice A1 (rs 1).length c1, .slice A2 (rs 2).length c2, .slice A3 (rs 3).length c3, .slice A4 (rs 4).length c4, .slice A5 (rs 5).length c5, .slice A6 (rs 6).length c6, .slice none 0 0] 37)) #[.string (mkS (S.T 0)), .string (mkS (S.T 1)), .string (mkS (S.T 2)), .string (mkS (S.T 3)), .slice A0 (rs 0).length c0, .slice A1 (rs 1).length c1, .slice A2 (rs 2).length c2, .slice A3 (rs 3).length c3, .slice A4 (rs 4).length c4, .slice A5 (rs 5).length c5, .slice A6 (rs 6).length c6, .slice none 0 0] 37 jj u hj
            rw [hw7]
            simpa using h
          have HP7 := Lib.hid (HP6.out.below hb7)
          have hV : PkV w7 ⟨S, ss, rs, F⟩ := hM.val.below hb7
          have HPUT := Lib.hid (fun (v' : Value) (w' : World) ho hg => PsV.put (x := ⟨S, ss, rs, F⟩) (v' := v') (w2 := w') HP7.out hV (by show w'.ownsRow _ _ _ _ _ (rowsC xs ++ (rowT S.T ss).toList); rw [hrow]; exact ho) hg)
          have hszr : w.heap.size ≤ w6.heap.size := HP6.out.bel.size
          clear hb6 hb7 hV hM CPw HP5 HP6 HS5 hrow e0 e1 e2 e3 e4 e5 e6
          subst hw7
          go_wp2_with (at_builtin; refine wpList_append_own_at _ rfl (.tmp 38) (.tmp 40) 23 rfl w.heap.size 37 i z 12 256 Tryz.underlying23 HI.out hz0 hz2 hz3 hz1 (by decide) (.slice Av xs.length cv) xs.length (rowsC xs) rfl HP7.out.row ⟨w6.heap.size + 1, 0, none⟩ 1 1 [.string (mkS (S.T 0)), .string (mkS (S.T 1)), .string (mkS (S.T 2)), .string (mkS (S.T 3)), .slice A0 (rs 0).length c0, .slice A1 (rs 1).length c1, .slice A2 (rs 2).length c2, .slice A3 (rs 3).length c3, .slice A4 (rs 4).length c4, .slice A5 (rs 5).length c5, .slice A6 (rs 6).length c6, .slice none 0 0] rfl rfl HC7.out (by intro u hu; simp at hu; rcases hu with rfl | rfl | rfl | rfl | rfl | rfl | rfl | rfl | rfl | rfl | rfl | rfl <;> rfl) (by unfold maxLen; omega) (by omega) (by simp; omega) ?_; intro v7' w8 hown7 hg7 hnil7 hat7; have HP8 := Lib.hid (HPUT.out v7' w8 hown7 hg7); clear hown7 hg7 hnil7 hat7)
          go_roundg g1
          case measure => omega
          case rel => exact ⟨rest, xs ++ [⟨S, ss, rs, F⟩], rfl, HP8, by omega, by omega, by simp; omega, by rw [List.map_append]; exact HXk⟩
end Go.Proofs.YtdhgiammfpjniaaGreatDoor

/- What all laws of debctl begin with: awake; the law of its names. -/
namespace Go.Proofs.YtdhgiammfpjniaaGreatDoor
set_option linter.unusedSimpArgs false
set_option linter.unusedVariables false
open Go.RowKit Go.MapKept

def awD1 : Bs := [80, 97, 99, 107, 97, 103, 101, 58, 32, 97, 10, 86, 101, 114, 115, 105, 111, 110, 58, 32, 49, 45, 50, 10, 65, 114, 99, 104, 105, 116, 101, 99, 116, 117, 114, 101, 58, 32, 97, 108, 108, 10, 68, 101, 112, 101, 110, 100, 115, 58, 32, 98, 32, 40, 62, 61, 32, 51, 41, 44, 32, 99, 32, 124, 32, 100, 40, 60, 60, 49, 41, 10]
def awD2 : Bs := [120, 10]
def awChk : Bool := match parseT awD1 with
  | .ok [S] => decide (S.T 2 = noarN) && (match S.D 1 with
    | [.mk _ _ op _ _, .mk k _ _ _ _] => decide (op = 6) && decide (k = 3)
    | _ => false)
  | _ => false
set_option maxRecDepth 1000000 in
theorem awChk_is : awChk = true := by kernel_rfl
set_option maxRecDepth 1000000 in
theorem aw2_is : parseT awD2 = .error 120 := by kernel_rfl
theorem aw1_is : ∃ S, parseT awD1 = .ok [S] ∧ S.T 2 = noarN ∧ ∃ k1 n1 v1 a1 n2 o2 v2 a2, S.D 1 = [.mk k1 n1 6 v1 a1, .mk 3 n2 o2 v2 a2] := by
  have h := awChk_is
  unfold awChk at h
  generalize parseT awD1 = R at *
  match R, h with
  | .ok [S], h =>
    refine ⟨S, rfl, ?_⟩
    have h : (decide (S.T 2 = noarN) && (match S.D 1 with
      | [.mk _ _ op _ _, .mk k _ _ _ _] => decide (op = 6) && decide (k = 3)
      | _ => false)) = true := h
    rw [Bool.and_eq_true] at h
    obtain ⟨h1, h2⟩ := h
    refine ⟨of_decide_eq_true h1, ?_⟩
    generalize S.D 1 = L at *
    match L, h2 with
    | [.mk k1 n1 o1 v1 a1, .mk k2 n2 o2 v2 a2], h2 =>
      have h2 : (decide (o1 = 6) && decide (k2 = 3)) = true := h2
      rw [Bool.and_eq_true] at h2
      have e1 := of_decide_eq_true h2.1
      have e2 := of_decide_eq_true h2.2
      subst e1
      subst e2
      exact ⟨_, _, _, _, _, _, _, _, rfl⟩
set_option maxHeartbeats 8000000 in
set_option maxRecDepth 1000000 in
theorem dbAwake_any (W : World) (hE : DbW W) : Calls Tryz.prog 11 #[] W fun e w' => e = .returned (.bool true) ∧ Below W.heap.size W w' := by
  obtain ⟨S, hS, hT, k1, n1, v1, a1, n2, o2, v2, a2, hD⟩ := aw1_is
  have C1 := Lib.hid (fun (s : ByteArray) (h : s = mkS awD1) => (h.symm ▸ dparse_any awD1 W hE : Calls Tryz.prog 12 #[.string s] W (ParsePost W (parseT awD1))))
  have C2 := Lib.hid (fun (s : ByteArray) (h : s = mkS awD2) w' (hb : Below W.heap.size W w') => (h.symm ▸ dparse_any awD2 w' (hE.below hb) : Calls Tryz.prog 12 #[.string s] w' (ParsePost w' (parseT awD2))))
  rw [hS] at C1
  rw [aw2_is] at C2
  have HT := Lib.hid hT
  have HD := Lib.hid hD
  clear hE hS hT hD
  go_enter Tryz.func11, Tryz.ntmps11
  go_wp2_with fail
  refine (C1.out _ (by kernel_rfl)).mono ?_
  rintro e w1 ⟨v, xs, rfl, hxs, hP⟩
  have hx : ∃ x, xs = [x] ∧ x.S = S := by
    match xs, hxs with
    | [x], h =>
      injection h with h _
      exact ⟨x, rfl, h⟩
  obtain ⟨x, rfl, hxS⟩ := hx
  obtain ⟨A, m, rfl, hm1, hm2⟩ := own_form' hP.row
  have HP := Lib.hid hP
  have HXS := Lib.hid hxS
  have HB1 := Lib.hid hP.bel
  have hlen : List.length [x] = 1 := rfl
  rw [hlen] at hm1 ⊢
  clear hP hxs hxS hlen C1
  go_wp2_with fail
  refine (C2.out _ (by kernel_rfl) w1 HB1.out).mono ?_
  rintro e w2 ⟨rfl, -, hb2⟩
  have hP := HP.out.below hb2
  have hrow : w2.ownsRow W.heap.size 37 12 (.slice A 1 m) 1 (rowT x.S.T x.ss).toList := by
    have h := hP.row
    have e : rowsC [x] = (rowT x.S.T x.ss).toList := by show _ ++ [] = _; rw [List.append_nil]
    rw [e] at h
    exact h
  have hV := hP.all x (by simp)
  have h1 := hV.own 1 (by omega)
  have hD1 : (x.rs 1).map Prod.fst = [.mk k1 n1 6 v1 a1, .mk 3 n2 o2 v2 a2] := by rw [hV.is 1 (by omega), HXS.out, HD.out]
  have hrs : ∃ t1 t2, x.rs 1 = [(.mk k1 n1 6 v1 a1, t1), (.mk 3 n2 o2 v2 a2, t2)] := by
    match h : x.rs 1, hD1 with
    | [(d1, t1), (d2, t2)], h2 =>
      injection h2 with h2 h3
      injection h3 with h3 _
      have h2 : d1 = _ := h2
      have h3 : d2 = _ := h3
      subst h2
      subst h3
      exact ⟨t1, t2, rfl⟩
  obtain ⟨t1, t2, hrs⟩ := hrs
  obtain ⟨A1, m1, hv1, hn1, hn2⟩ := own_form' h1
  rw [hv1] at h1
  rw [hrs] at h1 hn1 hv1
  have hl2 : List.length [((.mk k1 n1 6 v1 a1 : Ev.Dep), t1), (.mk 3 n2 o2 v2 a2, t2)] = 2 := rfl
  rw [hl2] at h1 hn1 hv1
  obtain ⟨b, rfl, p2⟩ := own_ats hrow (k := 2) (u := .string (mkS (x.S.T 2))) rfl
  obtain ⟨b', e', p5⟩ := own_ats hrow (k := 5) (u := x.ss 1) rfl
  injection e' with e'
  injection e' with e'
  subst e'
  rw [hv1] at p5
  obtain ⟨g, rfl, d2⟩ := own_ats h1 (k := 2) (u := .int .i64 6) rfl
  obtain ⟨g', e', d5⟩ := own_ats h1 (k := 5) (u := .int .i64 3) rfl
  injection e' with e'
  injection e' with e'
  subst e'
  rw [HXS.out, HT.out, show mkS noarN = ⟨#[110, 111, 97, 114, 99, 104]⟩ from rfl] at p2
  have HB2 := Lib.hid (HB1.out.trans (hb2.mono HB1.out.size))
  have s1 : ((⟨#[110, 111, 97, 114, 99, 104]⟩ : ByteArray).toList == ([110, 111, 97, 114, 99, 104] : List UInt8)) = true := by decide +kernel
  unfold maxLen at hm2 hn2
  clear hb2 hP hrow hV h1 hD1 hrs hv1 hl2 HP HXS HT HD C2 HB1
  go_wp2_with fail
  go_ret
  exact ⟨rfl, HB2.out⟩
end Go.Proofs.YtdhgiammfpjniaaGreatDoor

/- What the packages ahead do to the reading of a text: pure. -/
namespace Go.Proofs.YtdhgiammfpjniaaGreatDoor
set_option linter.unusedSimpArgs false
set_option linter.unusedVariables false
open Go.RowKit Go.MapKept

def AccR (a : List Fs) (X Y : Except Int (List Fs)) : Prop := match X with
  | .ok l => (a.length + l.length ≤ 200 → Y = .ok (a ++ l)) ∧ (200 < a.length + l.length → Y = .error 121)
  | .error e => Y = .error e ∨ Y = .error 121
theorem endS_mono {k : List Fs → Except Int (List Fs)} (hk : ∀ acc l, k acc = .ok l → acc.length ≤ l.length) {s : Stz} {acc l : List Fs} (h : endS s acc k = .ok l) : acc.length ≤ l.length := by
  unfold endS at h
  split at h
  · exact hk _ _ h
  · split at h
    · cases h
    · cases hp : packX s with
      | error e => rw [hp] at h; cases h
      | ok S =>
        rw [hp] at h
        have := hk _ _ h
        simp at this
        omega
theorem parseL_mono : ∀ (L : List Bs) (s : Stz) (last : Bs) (acc l : List Fs), parseL L s last acc = .ok l → acc.length ≤ l.length
  | [], s, last, acc, l, h => endS_mono (k := .ok) (fun a l h => by injection h with h; rw [h]; exact Nat.le_refl _) h
  | ln :: r, s, last, acc, l, h => by
    have h : (match stepX ln s last with
      | .stop => endS s acc (parseL r [] [])
      | .bad => .error 120
      | .go s' l' => parseL r s' l' acc) = .ok l := h
    cases hs : stepX ln s last with
    | stop =>
      rw [hs] at h
      exact endS_mono (k := parseL r [] []) (fun a l h => parseL_mono r [] [] a l h) h
    | bad => rw [hs] at h; cases h
    | go s' l' =>
      rw [hs] at h
      exact parseL_mono r s' l' acc l h
theorem endS_acc (a : List Fs) {k : List Fs → Except Int (List Fs)} (hk : ∀ acc, a.length + acc.length ≤ 200 → AccR a (k acc) (k (a ++ acc))) (hm : ∀ acc l, k acc = .ok l → acc.length ≤ l.length) (s : Stz) (acc : List Fs) (h : a.length + acc.length ≤ 200) : AccR a (endS s acc k) (endS s (a ++ acc) k) := by
  unfold endS
  by_cases hs : s = []
  · rw [if_pos hs, if_pos hs]
    exact hk acc h
  · rw [if_neg hs, if_neg hs]
    by_cases h1 : 200 ≤ acc.length
    · rw [if_pos h1, if_pos (by rw [List.length_append]; omega)]
      exact .inl rfl
    · rw [if_neg h1]
      cases packX s with
      | error e =>
        by_cases h2 : 200 ≤ (a ++ acc).length
        · rw [if_pos h2]
          exact .inr rfl
        · rw [if_neg h2]
          exact .inl rfl
      | ok S =>
        show AccR a (k (acc ++ [S])) _
        by_cases h2 : 200 ≤ (a ++ acc).length
        · rw [if_pos h2]
          rw [List.length_append] at h2
          cases hx : k (acc ++ [S]) with
          | error e => exact .inr rfl
          | ok l =>
            have := hm _ _ hx
            rw [List.length_append, List.length_singleton] at this
            exact ⟨fun h3 => by omega, fun _ => rfl⟩
        · rw [if_neg h2]
          rw [List.length_append] at h2
          show AccR a (k (acc ++ [S])) (k (a ++ acc ++ [S]))
          rw [List.append_assoc]
          exact hk (acc ++ [S]) (by rw [List.length_append, List.length_singleton]; omega)
theorem parseL_acc (a : List Fs) : ∀ (L : List Bs) (s : Stz) (last : Bs) (acc : List Fs), a.length + acc.length ≤ 200 → AccR a (parseL L s last acc) (parseL L s last (a ++ acc))
  | [], s, last, acc, h => endS_acc a (k := .ok) (fun acc h => ⟨fun _ => rfl, fun h2 => by omega⟩) (fun a l h => by injection h with h; rw [h]; exact Nat.le_refl _) s acc h
  | ln :: r, s, last, acc, h => by
    show AccR a (match stepX ln s last with
      | .stop => endS s acc (parseL r [] [])
      | .bad => .error 120
      | .go s' l' => parseL r s' l' acc) (match stepX ln s last with
      | .stop => endS s (a ++ acc) (parseL r [] [])
      | .bad => .error 120
      | .go s' l' => parseL r s' l' (a ++ acc))
    cases stepX ln s last with
    | stop => exact endS_acc a (fun acc h => parseL_acc a r [] [] acc h) (fun acc l h => parseL_mono r [] [] acc l h) s acc h
    | bad => exact .inl rfl
    | go s' l' => exact parseL_acc a r s' l' acc h
/-- Two texts, one behind the other. -/
theorem parse_two (t u : Bs) (h : (t ++ 10 :: 10 :: u).length ≤ 40000) : parseT' (t ++ 10 :: 10 :: u) = thenL (parseT' t) (parseL (linesX u) [] []) := by
  have h1 : t.length ≤ 40000 := by simp at h; omega
  rw [parseT_fold h, parseT_fold h1, parseL_two]
theorem parse_two_acc (a : List Fs) (u : Bs) (hu : u.length ≤ 40000) (ha : a.length ≤ 200) : AccR a (parseT' u) (parseL (linesX u) [] [] a) := by
  have := parseL_acc a (linesX u) [] [] [] (by simpa using ha)
  rw [List.append_nil] at this
  rw [parseT_fold hu]
  exact this
end Go.Proofs.YtdhgiammfpjniaaGreatDoor
