/- SuseJoins. What all laws of suse begin with: awake; the law of its names. -/
import Derived.Test.YtdhgiammfpjniaaGreatDoorZabk
import Derived.Test.YtdhgiammfpjniaaGreatDoorZaay
import Derived.Laws.AppendOwnNone
/- SuseJoins. -/
namespace Go.Proofs.YtdhgiammfpjniaaGreatDoor
set_option linter.unusedSimpArgs false
set_option linter.unusedVariables false
open Go.RowKit Go.MapKept

/-- What the laws' world has. -/
structure SuW (w : World) : Prop where
  tabs : Ev.Tabs w
  max : MaxAt w
theorem SuW.below {w w' : World} (h : SuW w) (hb : Below w.heap.size w w') : SuW w' := ⟨h.tabs.below hb h.tabs.two, h.max.below hb⟩
def AwakeOk : Prop := ∀ W, SuW W → Calls Tryz.prog 16 #[] W fun e w' => e = .returned (.bool true) ∧ Below W.heap.size W w'
theorem rows_oneS {w : World} {b1 : Nat} : ∀ {xs : List Sk5}, (∀ x ∈ xs, OldM w b1 x) → ∀ u ∈ rowsK xs, u.oneCell' = true
  | [], _, u, hu => by cases hu
  | x :: r, h, u, hu => by
    have hu : u ∈ x.row ++ rowsK r := hu
    rcases List.mem_append.1 hu with hu | hu
    · have hV := h x (by simp)
      have f : ∀ i, i < 7 → (x.ss i).oneCell' = true := fun i hi => by
        obtain ⟨A, c, e, _, _⟩ := own_form' (hV.own i hi)
        rw [e]
        rfl
      have ff : x.fs.oneCell' = true := by
        obtain ⟨A, c, e, _, _⟩ := own_form' hV.fil
        rw [e]
        rfl
      unfold Sk5.row rowK at hu
      simp at hu
      rcases hu with rfl | rfl | rfl | rfl | rfl | rfl | rfl | rfl | rfl | rfl | rfl | rfl
      · rfl
      · rfl
      · rfl
      · rfl
      · exact f 0 (by omega)
      · exact f 1 (by omega)
      · exact f 2 (by omega)
      · exact f 3 (by omega)
      · exact f 4 (by omega)
      · exact f 5 (by omega)
      · exact f 6 (by omega)
      · exact ff
    · exact rows_oneS (fun y hy => h y (List.mem_cons_of_mem _ hy)) u hu
theorem row_cellS {w : World} {base n g c : Nat} {xs : List Value} {jj : Nat} {u : Value} (h : w.ownsRow base 37 12 (.slice (some ⟨g, 0, none⟩) n c) n xs) (hj : xs[jj]? = some u) : w.cell? ((⟨g, 0, none⟩ : Addr).add jj) = some u := by
  obtain ⟨b, e, hc⟩ := own_ats h hj
  injection e with e
  injection e with e
  subst e
  exact cell_add_ hc
theorem PsS.join {w0 w0' w w8 : World} {va vb v8 : Value} {xs ys : List Sk5} (hx : PsS w0 w va xs) (hy : PsS w0' w vb ys) (hb : Below w.heap.size w w8) (ho : w8.ownsRow w.heap.size 37 12 v8 (xs.length + ys.length) (rowsK xs ++ rowsK ys)) : PsS w w8 v8 (xs ++ ys) :=
  ⟨by rw [List.length_append, rowsK_app]; exact ho, fun x h => by
    rcases List.mem_append.1 h with h | h
    · exact ((hx.old x h).below hb).mono hb.size
    · exact ((hy.old x h).below hb).mono hb.size, hb⟩
theorem parse_weakS {w0 : World} {R : Except Int (List Sk)} {e : Ending} {w' : World} (h : ParseS w0 R e w') : ∃ A n k er, e = .returned (.tuple #[.slice A n k, .int .i64 er]) ∧ Below w0.heap.size w0 w' := by
  cases R with
  | error n => exact ⟨none, 0, 0, n, h.1, h.2.2⟩
  | ok l =>
    obtain ⟨v, xs, rfl, _, hP⟩ := h
    obtain ⟨A, c, rfl, _, _⟩ := own_form' hP.row
    exact ⟨A, _, c, 0, rfl, hP.bel⟩
theorem row_nilS {w : World} {base n : Nat} {v : Value} {xs : List Value} (h : w.ownsRow base 37 12 v n xs) : w.ownsRow base 37 12 v (n + ([] : List Sk5).length) (xs ++ rowsK ([] : List Sk5)) := by
  rw [show rowsK ([] : List Sk5) = [] from rfl, List.append_nil]
  exact h
theorem cat_one (a b : Bs) : mkS a ++ ⟨#[10]⟩ ++ mkS b = mkS (a ++ 10 :: b) := s_ext (by simp [mkS])
set_option maxHeartbeats 16000000 in
set_option maxRecDepth 1000000 in
theorem suJoins_any (hR : ReadOk) (hAw : AwakeOk) (t u : Bs) (ht : t.length ≤ 1048576) (hu : u.length ≤ 1048576) (W : World) (hE : SuW W) :
    Calls Tryz.prog 9 #[.string (mkS t), .string (mkS u)] W fun e w' => e = .returned (.bool true) ∧ Below W.heap.size W w' := by
  obtain ⟨i, z, hi, hz0, hz1, hz2, hz3⟩ := info_pkS
  have HI := Lib.hid hi
  have C0 := Lib.hid (hAw W hE)
  have C1 := Lib.hid (fun wx (hb : Below W.heap.size W wx) => suParse_any hR t wx (hE.below hb).tabs (hE.below hb).max)
  have C2 := Lib.hid (fun wx (hb : Below W.heap.size W wx) => suParse_any hR u wx (hE.below hb).tabs (hE.below hb).max)
  have C3 := Lib.hid (fun wx (hb : Below W.heap.size W wx) => suParse_any hR (t ++ 10 :: u) wx (hE.below hb).tabs (hE.below hb).max)
  have hcat := cat_one t u
  have hts : (mkS t).size ≤ 1048576 := by rw [mkS_size]; exact ht
  have hus : (mkS u).size ≤ 1048576 := by rw [mkS_size]; exact hu
  have hsz : (mkS (t ++ 10 :: u)).size = (t ++ 10 :: u).length := mkS_size _
  by_cases hbig : (t ++ 10 :: u).length ≤ 40000
  rotate_left
  · have h3 : parseS (t ++ 10 :: u) = .error 132 := if_neg hbig
    have hbI : (40000 : Int) < ((mkS (t ++ 10 :: u)).size : Int) := by omega
    rw [h3] at C3
    clear h3 hE hi hbig hsz ht hu hR hAw
    generalize parseS t = R1 at *
    generalize parseS u = R2 at *
    generalize mkS (t ++ 10 :: u) = S3 at *
    generalize mkS t = S1 at *
    generalize mkS u = S2 at *
    go_enter Tryz.func9, Tryz.ntmps9
    go_wp2_with fail
    refine C0.out.mono ?_
    rintro e w1 ⟨rfl, hb1⟩
    have C1w := Lib.hid (C1.out w1 hb1)
    have HB1 := Lib.hid hb1
    clear hb1 C0 C1
    go_wp2_with fail
    refine C1w.out.mono ?_
    intro e w2 hp
    obtain ⟨A1, n1, k1, er1, rfl, hb⟩ := parse_weakS hp
    have HB2 := Lib.hid (HB1.out.trans (hb.mono HB1.out.size))
    have C2w := Lib.hid (C2.out w2 HB2.out)
    clear hb hp C1w C2 HB1
    go_wp2_with fail
    refine C2w.out.mono ?_
    intro e w3 hp
    obtain ⟨A2, n2, k2, er2, rfl, hb⟩ := parse_weakS hp
    have HB3 := Lib.hid (HB2.out.trans (hb.mono HB2.out.size))
    have C3w := Lib.hid (C3.out w3 HB3.out)
    clear hb hp C2w C3 HB2
    go_wp2_with fail
    refine C3w.out.mono ?_
    rintro e w4 ⟨rfl, -, hb⟩
    have HB4 := Lib.hid (HB3.out.trans (hb.mono HB3.out.size))
    clear hb C3w HB3
    go_wp2_with fail
    go_ret
    exact ⟨rfl, HB4.out⟩
  have hbI : ¬ (40000 : Int) < ((mkS (t ++ 10 :: u)).size : Int) := by omega
  have hT2 := fun a b => parseS_two (t := t) (u := u) (a := a) (b := b) hbig
  have hR1 := fun a => parseS_len (t := t) (b := a)
  have hR2 := fun a => parseS_len (t := u) (b := a)
  have hW1 := fun a => parseS_whole (t := t) (b := a)
  have hW2 := fun a => parseS_whole (t := u) (b := a)
  clear hE hi hbig hsz ht hu hR hAw
  generalize parseS (t ++ 10 :: u) = R3 at *
  generalize parseS t = R1 at *
  generalize parseS u = R2 at *
  generalize mkS (t ++ 10 :: u) = S3 at *
  generalize mkS t = S1 at *
  generalize mkS u = S2 at *
  cases R1 with
  | error n1 =>
    clear hT2 hR1 hR2 hW1 hW2
    go_enter Tryz.func9, Tryz.ntmps9
    go_wp2_with fail
    refine C0.out.mono ?_
    rintro e w1 ⟨rfl, hb1⟩
    have C1w := Lib.hid (C1.out w1 hb1)
    have HB1 := Lib.hid hb1
    clear hb1 C0 C1
    go_wp2_with fail
    refine C1w.out.mono ?_
    rintro e w2 ⟨rfl, hn1, hb⟩
    have q1 : (n1 != 0) = true := by simp [hn1]
    have HB2 := Lib.hid (HB1.out.trans (hb.mono HB1.out.size))
    have C2w := Lib.hid (C2.out w2 HB2.out)
    clear hb hn1 C1w C2 HB1
    go_wp2_with fail
    refine C2w.out.mono ?_
    intro e w3 hp
    obtain ⟨A2, n2, k2, er2, rfl, hb⟩ := parse_weakS hp
    have HB3 := Lib.hid (HB2.out.trans (hb.mono HB2.out.size))
    have C3w := Lib.hid (C3.out w3 HB3.out)
    clear hb hp C2w C3 HB2
    go_wp2_with fail
    refine C3w.out.mono ?_
    intro e w4 hp
    obtain ⟨A3, n3, k3, er3, rfl, hb⟩ := parse_weakS hp
    have HB4 := Lib.hid (HB3.out.trans (hb.mono HB3.out.size))
    clear hb hp C3w HB3
    go_wp2_with fail
    go_ret
    exact ⟨rfl, HB4.out⟩
  | ok a =>
    have hla := hR1 a rfl
    have hwa := hW1 a rfl
    clear hR1 hW1
    go_enter Tryz.func9, Tryz.ntmps9
    go_wp2_with fail
    refine C0.out.mono ?_
    rintro e w1 ⟨rfl, hb1⟩
    have C1w := Lib.hid (C1.out w1 hb1)
    have HB1 := Lib.hid hb1
    clear hb1 C0 C1
    go_wp2_with fail
    refine C1w.out.mono ?_
    rintro e w2 ⟨va, xs, rfl, hxm, hPx⟩
    obtain ⟨Ax, kx, rfl, hkx1, hkx2⟩ := own_form' hPx.row
    have hlx : xs.length ≤ 200 := by rw [← hxm, List.length_map] at hla; exact hla
    have HPx0 := Lib.hid hPx
    have HB2 := Lib.hid (HB1.out.trans (hPx.bel.mono HB1.out.size))
    have C2w := Lib.hid (C2.out w2 HB2.out)
    clear hPx C1w C2 HB1
    cases R2 with
    | error n2 =>
      clear hT2 hR2 hW2
      go_wp2_with fail
      refine C2w.out.mono ?_
      rintro e w3 ⟨rfl, hn2, hb⟩
      have q2 : (n2 != 0) = true := by simp [hn2]
      have HB3 := Lib.hid (HB2.out.trans (hb.mono HB2.out.size))
      have C3w := Lib.hid (C3.out w3 HB3.out)
      clear hb hn2 C2w C3 HB2
      go_wp2_with fail
      refine C3w.out.mono ?_
      intro e w4 hp
      obtain ⟨A3, n3, k3, er3, rfl, hb⟩ := parse_weakS hp
      have HB4 := Lib.hid (HB3.out.trans (hb.mono HB3.out.size))
      clear hb hp C3w HB3
      go_wp2_with fail
      go_ret
      exact ⟨rfl, HB4.out⟩
    | ok b =>
      have hlb := hR2 b rfl
      have hwb := hW2 b rfl
      have hac := hT2 a b rfl rfl
      clear hT2 hR2 hW2
      go_wp2_with fail
      refine C2w.out.mono ?_
      rintro e w3 ⟨vb, ys, rfl, hym, hPy⟩
      obtain ⟨Ay, ky, rfl, hky1, hky2⟩ := own_form' hPy.row
      have hly : ys.length ≤ 200 := by rw [← hym, List.length_map] at hlb; exact hlb
      have HPx3 := Lib.hid (HPx0.out.below hPy.bel)
      have HPy3 := Lib.hid hPy
      have HB3 := Lib.hid (HB2.out.trans (hPy.bel.mono HB2.out.size))
      have C3w := Lib.hid (C3.out w3 HB3.out)
      clear hPy C2w C3 HB2 HPx0
      have hla' : a.length = xs.length := by rw [← hxm, List.length_map]
      have hlb' : b.length = ys.length := by rw [← hym, List.length_map]
      rw [hla', hlb'] at hac
      by_cases h2 : xs.length + ys.length ≤ 200
      rotate_left
      · have h2I : (200 : Int) < (xs.length : Int) + (ys.length : Int) := by omega
        rw [if_neg h2] at hac
        rw [hac] at C3w
        clear hac
        go_wp2_with fail
        refine C3w.out.mono ?_
        rintro e w4 ⟨rfl, -, hb⟩
        have HB4 := Lib.hid (HB3.out.trans (hb.mono HB3.out.size))
        clear hb C3w HB3
        go_wp2_with fail
        go_ret
        exact ⟨rfl, HB4.out⟩
      · have h2I : ¬ (200 : Int) < (xs.length : Int) + (ys.length : Int) := by omega
        rw [if_pos h2] at hac
        rw [hac] at C3w
        clear hac
        go_wp2_with fail
        refine C3w.out.mono ?_
        rintro e w5 ⟨vc, zs, rfl, hzm, hPz⟩
        obtain ⟨Az, kz, rfl, hkz1, hkz2⟩ := own_form' hPz.row
        have HPx := Lib.hid (HPx3.out.below hPz.bel)
        have HPy := Lib.hid (HPy3.out.below hPz.bel)
        have HPz := Lib.hid hPz
        have HBW := Lib.hid (HB3.out.trans (hPz.bel.mono HB3.out.size))
        have HMM : Hid ((zs.map fun x => pkgS x.S) = (xs ++ ys).map fun x => pkgS x.S) := by
          have h := congrArg (List.map pkgS) (hzm.trans (by rw [← hxm, ← hym, ← List.map_append]))
          rw [List.map_map, List.map_map] at h
          exact h
        have HLZ : Hid (zs.length = (xs ++ ys).length) := by
          have := congrArg List.length HMM.out
          rw [List.length_map, List.length_map] at this
          exact this
        have HWX : Hid (∀ x ∈ xs ++ ys, chkS x.S = 0) := fun x hx => by
          rcases List.mem_append.1 hx with hx | hx
          · exact hwa _ (by rw [← hxm]; exact List.mem_map_of_mem hx)
          · exact hwb _ (by rw [← hym]; exact List.mem_map_of_mem hx)
        have HWZ : Hid (∀ x ∈ zs, chkS x.S = 0) := fun x hx => by
          have h1 : x.S ∈ a ++ b := by rw [← hzm]; exact List.mem_map_of_mem hx
          rcases List.mem_append.1 h1 with h1 | h1
          · exact hwa _ h1
          · exact hwb _ h1
        have hb6 : Below w5.heap.size w5 (w5.alloc (.cells #[] 37)) := (Below.refl _ _).alloc (Nat.le_refl _) _
        have HB6 := Lib.hid hb6
        have HO6 : Hid ((w5.alloc (.cells #[] 37)).ownsRow w5.heap.size 37 12 (.slice (some ⟨w5.heap.size, 0, none⟩) 0 0) 0 []) :=
          ⟨rfl, .inr ⟨w5.heap.size, 0, #[], rfl, Nat.le_refl _, Blk.new _ _ _, Nat.le_refl _, by simp [maxLen], rfl, rfl⟩⟩
        have hs6 := HB6.out.size
        have HLx : Hid ((rowsK xs).length = xs.length * 12) := HPx.out.row.1
        have HLy : Hid ((rowsK ys).length = ys.length * 12) := HPy.out.row.1
        have HOx := Lib.hid (rows_oneS HPx.out.old)
        have HOy := Lib.hid (rows_oneS HPy.out.old)
        unfold maxLen at hkx2 hky2
        clear hb6 hPz hzm HPx3 HPy3 C3w HB3 hxm hym hwa hwb
        rcases HPx.out.row.2 with ⟨hvx, hx0⟩ | ⟨gx, capx, curx, hvx, -, -, -, -, -, -⟩
        · rcases HPy.out.row.2 with ⟨hvy, hy0⟩ | ⟨gy, capy, cury, hvy, -, -, -, -, -, -⟩
          · injection hvx with hvx _ hkx0
            injection hvy with hvy _ hky0
            subst hvx hvy hkx0 hky0
            have hxe : xs = [] := List.length_eq_zero_iff.1 hx0
            have hye : ys = [] := List.length_eq_zero_iff.1 hy0
            subst hxe hye
            go_wp2_with (first | (at_builtin; refine wpList_append_own_none rfl (.tmp 68) (.tmp 69) 23 rfl w5.heap.size 37 i 12 Tryz.underlying23 HI.out (.slice (some ⟨w5.heap.size, 0, none⟩) 0 0) 0 [] rfl HO6.out rfl ?_) | (at_builtin; refine wpList_append_own_none rfl (.tmp 66) (.tmp 67) 23 rfl w5.heap.size 37 i 12 Tryz.underlying23 HI.out (.slice (some ⟨w5.heap.size, 0, none⟩) 0 0) 0 [] rfl HO6.out rfl ?_))
            have hps := PsS.join (v8 := _) HPx.out HPy.out HB6.out (by first | done | skip; first | exact HO6.out | exact row_nilS HO6.out)
            have hpx := hps.pks HWX.out
            have hpc := (HPz.out.below hps.bel).pks HWZ.out
            rw [HMM.out] at hpc
            have CS := Lib.hid (Ev.same_any ((([] : List Sk5) ++ ([] : List Sk5)).map fun x => pkgS x.S) _ (some ⟨w5.heap.size, 0, none⟩) (([] : List Sk5) ++ ([] : List Sk5)).length kz 0 (w5.alloc (.cells #[] 37)) (List.length_map _) hpc hpx (by rw [List.length_append]; omega))
            have HB9 := Lib.hid (HBW.out.trans (hps.bel.mono HBW.out.size))
            rw [HLZ.out]
            clear hps hpx hpc
            refine (CS.out).mono ?_
            rintro e w9 ⟨rfl, hb9⟩
            have HB10 := Lib.hid (HB9.out.trans (hb9.mono HB9.out.size))
            clear hb9 CS HB9
            go_wp2_with fail
            go_ret
            exact ⟨by simp, HB10.out⟩
          · injection hvx with hvx _ hkx0
            injection hvy with hvy _ hky0
            subst hvx hvy hkx0 hky0
            have hxe : xs = [] := List.length_eq_zero_iff.1 hx0
            subst hxe
            have HCy : Hid (∀ w7, Below w5.heap.size w5 w7 → ∀ (jj : Nat) u, (rowsK ys)[jj]? = some u → w7.cell? ((⟨gy, 0, none⟩ : Addr).add jj) = some u) := fun w7 hb jj u hj => row_cellS (HPy.out.below hb).row hj
            go_wp2_with (first | (at_builtin; refine wpList_append_own_at _ rfl (.tmp 68) (.tmp 69) 23 rfl w5.heap.size 37 i z 12 256 Tryz.underlying23 HI.out hz0 hz2 hz3 hz1 (by decide) (.slice (some ⟨w5.heap.size, 0, none⟩) 0 0) 0 [] rfl HO6.out ⟨gy, 0, none⟩ ys.length ky (rowsK ys) rfl HLy.out (HCy.out _ HB6.out) HOy.out (by unfold maxLen; omega) (by omega) (by first | omega | (simp; done) | (simp; omega)) ?_; intro v8 w8 hown8 hg8 hnil8 hat8; have HB8 := Lib.hid (HB6.out.trans ((grown_turned hg8).below (B := w5.heap.size) (fun k hk => (HO6.out.lt k (by simpa using hk)).1) HB6.out.size)); obtain ⟨A8, c8, hv8, hn8, hm8⟩ := own_form' hown8; subst hv8; have HO8 := Lib.hid hown8; clear hown8 hg8 hnil8 hat8) | (at_builtin; refine wpList_append_own_none rfl (.tmp 66) (.tmp 67) 23 rfl w5.heap.size 37 i 12 Tryz.underlying23 HI.out (.slice (some ⟨w5.heap.size, 0, none⟩) 0 0) 0 [] rfl HO6.out rfl ?_))
            have hps := PsS.join (v8 := _) HPx.out HPy.out HB8.out (by first | done | skip; first | exact HO8.out | exact row_nilS HO8.out)
            have hpx := hps.pks HWX.out
            have hpc := (HPz.out.below hps.bel).pks HWZ.out
            rw [HMM.out] at hpc
            have CS := Lib.hid (Ev.same_any ((([] : List Sk5) ++ ys).map fun x => pkgS x.S) _ A8 (([] : List Sk5) ++ ys).length kz c8 w8 (List.length_map _) hpc hpx (by rw [List.length_append]; omega))
            have HB9 := Lib.hid (HBW.out.trans (hps.bel.mono HBW.out.size))
            rw [HLZ.out]
            clear hps hpx hpc
            refine (CS.out).mono ?_
            rintro e w9 ⟨rfl, hb9⟩
            have HB10 := Lib.hid (HB9.out.trans (hb9.mono HB9.out.size))
            clear hb9 CS HB9
            go_wp2_with fail
            go_ret
            exact ⟨by simp, HB10.out⟩
        · rcases HPy.out.row.2 with ⟨hvy, hy0⟩ | ⟨gy, capy, cury, hvy, -, -, -, -, -, -⟩
          · injection hvx with hvx _ hkx0
            injection hvy with hvy _ hky0
            subst hvx hvy hkx0 hky0
            have hye : ys = [] := List.length_eq_zero_iff.1 hy0
            subst hye
            have HCx : Hid (∀ (jj : Nat) u, (rowsK xs)[jj]? = some u → (w5.alloc (.cells #[] 37)).cell? ((⟨gx, 0, none⟩ : Addr).add jj) = some u) := fun jj u hj => row_cellS (HPx.out.below HB6.out).row hj
            go_wp2_with (first | (at_builtin; refine wpList_append_own_none rfl (.tmp 68) (.tmp 69) 23 rfl w5.heap.size 37 i 12 Tryz.underlying23 HI.out (.slice A7 xs.length c7) xs.length (rowsK xs) rfl HO7.out rfl ?_) | (at_builtin; refine wpList_append_own_at _ rfl (.tmp 66) (.tmp 67) 23 rfl w5.heap.size 37 i z 12 256 Tryz.underlying23 HI.out hz0 hz2 hz3 hz1 (by decide) (.slice (some ⟨w5.heap.size, 0, none⟩) 0 0) 0 [] rfl HO6.out ⟨gx, 0, none⟩ xs.length kx (rowsK xs) rfl HLx.out HCx.out HOx.out (by unfold maxLen; omega) (by omega) (by first | omega | (simp; done) | (simp; omega)) ?_; intro v7 w7 hown7 hg7 hnil7 hat7; rw [Nat.zero_add, List.nil_append] at hown7; have HB7 := Lib.hid (HB6.out.trans ((grown_turned hg7).below (B := w5.heap.size) (fun k hk => (HO6.out.lt k (by simpa using hk)).1) HB6.out.size)); obtain ⟨A7, c7, hv7, hn7, hm7⟩ := own_form' hown7; subst hv7; have HO7 := Lib.hid hown7; have hs7 := HB7.out.size; clear hown7 hg7 hnil7 hat7))
            have hps := PsS.join (v8 := _) HPx.out HPy.out HB7.out (by first | done | skip; first | exact HO7.out | exact row_nilS HO7.out)
            have hpx := hps.pks HWX.out
            have hpc := (HPz.out.below hps.bel).pks HWZ.out
            rw [HMM.out] at hpc
            have CS := Lib.hid (Ev.same_any ((xs ++ ([] : List Sk5)).map fun x => pkgS x.S) _ A7 (xs ++ ([] : List Sk5)).length kz c7 w7 (List.length_map _) hpc hpx (by rw [List.length_append]; omega))
            have HB9 := Lib.hid (HBW.out.trans (hps.bel.mono HBW.out.size))
            rw [HLZ.out]
            have hxl : (xs ++ ([] : List Sk5)).length = xs.length := by rw [List.append_nil]
            rw [hxl] at CS ⊢
            clear hps hpx hpc
            refine (CS.out).mono ?_
            rintro e w9 ⟨rfl, hb9⟩
            have HB10 := Lib.hid (HB9.out.trans (hb9.mono HB9.out.size))
            clear hb9 CS HB9
            go_wp2_with fail
            go_ret
            exact ⟨by simp, HB10.out⟩
          · injection hvx with hvx _ hkx0
            injection hvy with hvy _ hky0
            subst hvx hvy hkx0 hky0
            have HCx : Hid (∀ (jj : Nat) u, (rowsK xs)[jj]? = some u → (w5.alloc (.cells #[] 37)).cell? ((⟨gx, 0, none⟩ : Addr).add jj) = some u) := fun jj u hj => row_cellS (HPx.out.below HB6.out).row hj
            have HCy : Hid (∀ w7, Below w5.heap.size w5 w7 → ∀ (jj : Nat) u, (rowsK ys)[jj]? = some u → w7.cell? ((⟨gy, 0, none⟩ : Addr).add jj) = some u) := fun w7 hb jj u hj => row_cellS (HPy.out.below hb).row hj
            go_wp2_with (first | (at_builtin; refine wpList_append_own_at _ rfl (.tmp 68) (.tmp 69) 23 rfl w5.heap.size 37 i z 12 256 Tryz.underlying23 HI.out hz0 hz2 hz3 hz1 (by decide) (.slice A7 xs.length c7) xs.length (rowsK xs) rfl HO7.out ⟨gy, 0, none⟩ ys.length ky (rowsK ys) rfl HLy.out (HCy.out _ HB7.out) HOy.out (by unfold maxLen; omega) (by omega) (by first | omega | (simp; done) | (simp; omega)) ?_; intro v8 w8 hown8 hg8 hnil8 hat8; have HB8 := Lib.hid (HB7.out.trans ((grown_turned hg8).below (B := w5.heap.size) (fun k hk => (HO7.out.lt k (by simpa using hk)).1) HB7.out.size)); obtain ⟨A8, c8, hv8, hn8, hm8⟩ := own_form' hown8; subst hv8; have HO8 := Lib.hid hown8; clear hown8 hg8 hnil8 hat8) | (at_builtin; refine wpList_append_own_at _ rfl (.tmp 66) (.tmp 67) 23 rfl w5.heap.size 37 i z 12 256 Tryz.underlying23 HI.out hz0 hz2 hz3 hz1 (by decide) (.slice (some ⟨w5.heap.size, 0, none⟩) 0 0) 0 [] rfl HO6.out ⟨gx, 0, none⟩ xs.length kx (rowsK xs) rfl HLx.out HCx.out HOx.out (by unfold maxLen; omega) (by omega) (by first | omega | (simp; done) | (simp; omega)) ?_; intro v7 w7 hown7 hg7 hnil7 hat7; rw [Nat.zero_add, List.nil_append] at hown7; have HB7 := Lib.hid (HB6.out.trans ((grown_turned hg7).below (B := w5.heap.size) (fun k hk => (HO6.out.lt k (by simpa using hk)).1) HB6.out.size)); obtain ⟨A7, c7, hv7, hn7, hm7⟩ := own_form' hown7; subst hv7; have HO7 := Lib.hid hown7; have hs7 := HB7.out.size; clear hown7 hg7 hnil7 hat7))
            have hps := PsS.join (v8 := _) HPx.out HPy.out HB8.out (by first | done | skip; first | exact HO8.out | exact row_nilS HO8.out)
            have hpx := hps.pks HWX.out
            have hpc := (HPz.out.below hps.bel).pks HWZ.out
            rw [HMM.out] at hpc
            have CS := Lib.hid (Ev.same_any ((xs ++ ys).map fun x => pkgS x.S) _ A8 (xs ++ ys).length kz c8 w8 (List.length_map _) hpc hpx (by rw [List.length_append]; omega))
            have HB9 := Lib.hid (HBW.out.trans (hps.bel.mono HBW.out.size))
            rw [HLZ.out]
            have hxl : (xs ++ ys).length = xs.length + ys.length := List.length_append
            rw [hxl] at CS ⊢
            clear hps hpx hpc
            refine (CS.out).mono ?_
            rintro e w9 ⟨rfl, hb9⟩
            have HB10 := Lib.hid (HB9.out.trans (hb9.mono HB9.out.size))
            clear hb9 CS HB9
            go_wp2_with fail
            go_ret
            exact ⟨by simp, HB10.out⟩
end Go.Proofs.YtdhgiammfpjniaaGreatDoor

/- What all laws of suse begin with: awake; the law of its names. -/
namespace Go.Proofs.YtdhgiammfpjniaaGreatDoor
set_option linter.unusedSimpArgs false
set_option linter.unusedVariables false
open Go.RowKit Go.MapKept

def suT1 : Bs := [61, 80, 107, 103, 58, 32, 97, 32, 49, 32, 50, 32, 110, 111, 97, 114, 99, 104, 10, 61, 82, 101, 113, 58, 32, 98, 32, 62, 61, 32, 51, 10, 43, 80, 114, 118, 58, 10, 120, 10, 121, 32, 61, 32, 49, 10, 45, 80, 114, 118, 58, 10]
def suT2 : Bs := [120, 10]
def suChk : Bool := match parseS suT1 with
  | .ok [S] => decide (S.T 1 = [49, 45, 50]) && (decide ((S.D 1).length = 1) && decide ((S.D 0).length = 2))
  | _ => false
set_option maxRecDepth 1000000 in
theorem suChk_is : suChk = true := by kernel_rfl
set_option maxRecDepth 1000000 in
theorem su2_is : parseS suT2 = .error 130 := by kernel_rfl
theorem su1_is : ∃ S, parseS suT1 = .ok [S] ∧ S.T 1 = [49, 45, 50] ∧ (S.D 1).length = 1 ∧ (S.D 0).length = 2 := by
  have h := suChk_is
  unfold suChk at h
  generalize parseS suT1 = R at *
  match R, h with
  | .ok [S], h =>
    have h : (decide (S.T 1 = [49, 45, 50]) && (decide ((S.D 1).length = 1) && decide ((S.D 0).length = 2))) = true := h
    rw [Bool.and_eq_true, Bool.and_eq_true] at h
    exact ⟨S, rfl, of_decide_eq_true h.1, of_decide_eq_true h.2.1, of_decide_eq_true h.2.2⟩
set_option maxHeartbeats 8000000 in
set_option maxRecDepth 1000000 in
theorem suAwake_any (hR : ReadOk) : AwakeOk := by
  intro W hE
  obtain ⟨S, hS, hT, hD1, hD0⟩ := su1_is
  have C1 := Lib.hid (fun (s : ByteArray) (h : s = mkS suT1) => (h.symm ▸ suParse_any hR suT1 W hE.tabs hE.max : Calls Tryz.prog 17 #[.string s] W (ParseS W (parseS suT1))))
  have C2 := Lib.hid (fun (s : ByteArray) (h : s = mkS suT2) w' (hb : Below W.heap.size W w') => (h.symm ▸ suParse_any hR suT2 w' (hE.below hb).tabs (hE.below hb).max : Calls Tryz.prog 17 #[.string s] w' (ParseS w' (parseS suT2))))
  rw [hS] at C1
  rw [su2_is] at C2
  have HT := Lib.hid hT
  have HD1 := Lib.hid hD1
  have HD0 := Lib.hid hD0
  clear hE hS hT hD1 hD0 hR
  go_enter Tryz.func16, Tryz.ntmps16
  go_wp2_with fail
  refine (C1.out _ (by kernel_rfl)).mono ?_
  rintro e w1 ⟨v, xs, rfl, hxs, hP⟩
  have hx : ∃ x, xs = [x] ∧ x.S = S := by
    match xs, hxs with
    | [x], h =>
      injection h with h _
      exact ⟨x, rfl, h⟩
  obtain ⟨x, rfl, hxS⟩ := hx
  obtain ⟨A, m, rfl, hm1, hm2⟩ := own_form' hP.row
  have HP := Lib.hid hP
  have HXS := Lib.hid hxS
  have HB1 := Lib.hid hP.bel
  have hlen : List.length [x] = 1 := rfl
  rw [hlen] at hm1 ⊢
  clear hP hxs hxS hlen C1
  go_wp2_with fail
  refine (C2.out _ (by kernel_rfl) w1 HB1.out).mono ?_
  rintro e w2 ⟨rfl, -, hb2⟩
  have hP := HP.out.below hb2
  have hrow : w2.ownsRow W.heap.size 37 12 (.slice A 1 m) 1 x.row := by
    have h := hP.row
    have e : rowsK [x] = x.row := List.append_nil _
    rw [e] at h
    exact h
  have hV := hP.old x (by simp)
  have hl1 : (x.rs 1).length = 1 := by
    have h := congrArg List.length (hV.is 1 (by omega))
    rw [List.length_map, HXS.out, HD1.out] at h
    exact h
  have hl0 : (x.rs 0).length = 2 := by
    have h := congrArg List.length (hV.is 0 (by omega))
    rw [List.length_map, HXS.out, HD0.out] at h
    exact h
  obtain ⟨A1, m1, hv1, hn1, hq1⟩ := own_form' (hV.own 1 (by omega))
  obtain ⟨A0, m0, hv0, hn0, hq0⟩ := own_form' (hV.own 0 (by omega))
  rw [hl1] at hv1 hn1
  rw [hl0] at hv0 hn0
  obtain ⟨b, rfl, p1⟩ := own_ats hrow (k := 1) (u := .string (mkS (x.S.T 1))) rfl
  obtain ⟨b', e', p5⟩ := own_ats hrow (k := 5) (u := x.ss 1) rfl
  injection e' with e'
  injection e' with e'
  subst e'
  obtain ⟨b', e', p4⟩ := own_ats hrow (k := 4) (u := x.ss 0) rfl
  injection e' with e'
  injection e' with e'
  subst e'
  rw [hv1] at p5
  rw [hv0] at p4
  rw [HXS.out, HT.out, show mkS [49, 45, 50] = ⟨#[49, 45, 50]⟩ from rfl] at p1
  have HB2 := Lib.hid (HB1.out.trans (hb2.mono HB1.out.size))
  have s1 : ((⟨#[49, 45, 50]⟩ : ByteArray).toList == ([49, 45, 50] : List UInt8)) = true := by decide +kernel
  unfold maxLen at hm2 hq1 hq0
  clear hb2 hP hrow hV hl1 hl0 hv1 hv0 HP HXS HT HD1 HD0 C2 HB1
  go_wp2_with fail
  go_ret
  exact ⟨rfl, HB2.out⟩
set_option maxHeartbeats 2000000 in
set_option maxRecDepth 100000 in
theorem suseNames_any (hR : ReadOk) (W : World) (hE : SuW W) : Calls Tryz.prog 6 #[] W fun e w' => e = .returned (.bool true) ∧ Below W.heap.size W w' := by
  have C := Lib.hid (suAwake_any hR W hE)
  clear hE hR
  go_enter Tryz.func6, Tryz.ntmps6
  go_wp2_with fail
  refine C.out.mono ?_
  rintro e w1 ⟨rfl, hb1⟩
  have HB := Lib.hid hb1
  clear hb1 C
  go_wp2_with fail
  go_ret
  exact ⟨rfl, HB.out⟩
end Go.Proofs.YtdhgiammfpjniaaGreatDoor
