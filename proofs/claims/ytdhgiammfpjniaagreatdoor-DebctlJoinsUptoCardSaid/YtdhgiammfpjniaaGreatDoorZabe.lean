/- DebctlJoins. -/
import Derived.Test.YtdhgiammfpjniaaGreatDoorZabc
import Derived.Test.YtdhgiammfpjniaaGreatDoorZabd
import Derived.Laws.AppendOwnNone
/- DebctlJoins. -/
namespace Go.Proofs.YtdhgiammfpjniaaGreatDoor
set_option linter.unusedSimpArgs false
set_option linter.unusedVariables false
open Go.RowKit Go.MapKept

theorem rowsC_app (m : List Pk5) : ∀ l : List Pk5, rowsC (l ++ m) = rowsC l ++ rowsC m
  | [] => rfl
  | x :: r => by show _ ++ rowsC (r ++ m) = (_ ++ rowsC r) ++ _; rw [rowsC_app m r, List.append_assoc]
theorem rows_one {w : World} : ∀ {xs : List Pk5}, (∀ x ∈ xs, PkV w x) → ∀ u ∈ rowsC xs, u.oneCell' = true
  | [], _, u, hu => by cases hu
  | x :: r, h, u, hu => by
    have hu : u ∈ (rowT x.S.T x.ss).toList ++ rowsC r := hu
    rcases List.mem_append.1 hu with hu | hu
    · have hV := h x (by simp)
      have f : ∀ i, i < 7 → (x.ss i).oneCell' = true := fun i hi => by
        obtain ⟨A, c, e, _, _⟩ := own_form' (hV.own i hi)
        rw [e]
        rfl
      unfold rowT at hu
      simp at hu
      rcases hu with rfl | rfl | rfl | rfl | rfl | rfl | rfl | rfl | rfl | rfl | rfl | rfl
      · rfl
      · rfl
      · rfl
      · rfl
      · exact f 0 (by omega)
      · exact f 1 (by omega)
      · exact f 2 (by omega)
      · exact f 3 (by omega)
      · exact f 4 (by omega)
      · exact f 5 (by omega)
      · exact f 6 (by omega)
      · rfl
    · exact rows_one (fun y hy => h y (List.mem_cons_of_mem _ hy)) u hu
theorem row_cell {w : World} {base n g c : Nat} {xs : List Value} {jj : Nat} {u : Value} (h : w.ownsRow base 37 12 (.slice (some ⟨g, 0, none⟩) n c) n xs) (hj : xs[jj]? = some u) : w.cell? ((⟨g, 0, none⟩ : Addr).add jj) = some u := by
  obtain ⟨b, e, hc⟩ := own_ats h hj
  injection e with e
  injection e with e
  subst e
  exact cell_add_ hc
theorem PsV.join {w0 w0' w w8 : World} {va vb v8 : Value} {xs ys : List Pk5} (hx : PsV w0 w va xs) (hy : PsV w0' w vb ys) (hb : Below w.heap.size w w8) (ho : w8.ownsRow w.heap.size 37 12 v8 (xs.length + ys.length) (rowsC xs ++ rowsC ys)) : PsV w w8 v8 (xs ++ ys) :=
  ⟨by rw [List.length_append, rowsC_app]; exact ho, fun x h => by
    rcases List.mem_append.1 h with h | h
    · exact (hx.all x h).below hb
    · exact (hy.all x h).below hb, hb⟩
theorem parse_weak {w0 : World} {R : Except Int (List Fs)} {e : Ending} {w' : World} (h : ParsePost w0 R e w') : ∃ A n k er, e = .returned (.tuple #[.slice A n k, .int .i64 er]) ∧ Below w0.heap.size w0 w' := by
  cases R with
  | error n => exact ⟨none, 0, 0, n, h.1, h.2.2⟩
  | ok l =>
    obtain ⟨v, xs, rfl, _, hP⟩ := h
    obtain ⟨A, c, rfl, _, _⟩ := own_form' hP.row
    exact ⟨A, _, c, 0, rfl, hP.bel⟩
theorem row_nil {w : World} {base n : Nat} {v : Value} {xs : List Value} (h : w.ownsRow base 37 12 v n xs) : w.ownsRow base 37 12 v (n + ([] : List Pk5).length) (xs ++ rowsC ([] : List Pk5)) := by
  rw [show rowsC ([] : List Pk5) = [] from rfl, List.append_nil]
  exact h
theorem parseX_lenJ : ∀ (n : Nat) (t : Bs) (acc l : List Fs), parseX n t acc = .ok l → acc.length ≤ 200 → l.length ≤ 200
  | 0, t, acc, l, h, ha => by
    injection h with h
    rw [← h]
    exact ha
  | n + 1, t, acc, l, h, ha => by
    by_cases ht : t = []
    · subst ht
      rw [parseX_nil] at h
      injection h with h
      rw [← h]
      exact ha
    · rw [parseX_cons ht] at h
      cases hr : readX (t.length + 1) t [] [] with
      | none => rw [hr] at h; cases h
      | some sr =>
        obtain ⟨s, rest⟩ := sr
        rw [hr] at h
        have h : (if s = [] then parseX n rest acc else if 200 ≤ acc.length then .error 121 else match packX s with
          | .error e => .error e
          | .ok S => parseX n rest (acc ++ [S])) = .ok l := h
        split at h
        · exact parseX_lenJ n rest acc l h ha
        · split at h
          · cases h
          · cases hp : packX s with
            | error e => rw [hp] at h; cases h
            | ok S =>
              rw [hp] at h
              exact parseX_lenJ n rest (acc ++ [S]) l h (by simp; omega)
theorem parseT_lenJ (t : Bs) : ∀ l, parseT t = .ok l → l.length ≤ 200 := fun l h => by
  unfold parseT at h
  split at h
  · exact parseX_lenJ _ t [] l h (by simp)
  · cases h
theorem cat_two (a b : Bs) : mkS a ++ ⟨#[10, 10]⟩ ++ mkS b = mkS (a ++ 10 :: 10 :: b) := s_ext (by simp [mkS])
set_option maxHeartbeats 16000000 in
set_option maxRecDepth 1000000 in
theorem joins_any (t u : Bs) (ht : t.length ≤ 1048576) (hu : u.length ≤ 1048576) (W : World) (hE : DbW W) :
    Calls Tryz.prog 5 #[.string (mkS t), .string (mkS u)] W fun e w' => e = .returned (.bool true) ∧ Below W.heap.size W w' := by
  obtain ⟨i, z, hi, hz0, hz1, hz2, hz3⟩ := info_pk
  have HI := Lib.hid hi
  have C0 := Lib.hid (dbAwake_any W hE)
  have C1 := Lib.hid (fun wx (hb : Below W.heap.size W wx) => dparse_any t wx (hE.below hb))
  have C2 := Lib.hid (fun wx (hb : Below W.heap.size W wx) => dparse_any u wx (hE.below hb))
  have C3 := Lib.hid (fun wx (hb : Below W.heap.size W wx) => dparse_any (t ++ 10 :: 10 :: u) wx (hE.below hb))
  have hcat := cat_two t u
  have hts : (mkS t).size ≤ 1048576 := by rw [mkS_size]; exact ht
  have hus : (mkS u).size ≤ 1048576 := by rw [mkS_size]; exact hu
  have hsz : (mkS (t ++ 10 :: 10 :: u)).size = (t ++ 10 :: 10 :: u).length := mkS_size _
  by_cases hbig : (t ++ 10 :: 10 :: u).length ≤ 40000
  rotate_left
  · have h3 : parseT (t ++ 10 :: 10 :: u) = .error 122 := if_neg hbig
    have hbI : (40000 : Int) < ((mkS (t ++ 10 :: 10 :: u)).size : Int) := by omega
    rw [h3] at C3
    clear h3 hE hi hbig hsz ht hu
    generalize parseT t = R1 at *
    generalize parseT u = R2 at *
    generalize mkS (t ++ 10 :: 10 :: u) = S3 at *
    generalize mkS t = S1 at *
    generalize mkS u = S2 at *
    go_enter Tryz.func5, Tryz.ntmps5
    go_wp2_with fail
    refine C0.out.mono ?_
    rintro e w1 ⟨rfl, hb1⟩
    have C1w := Lib.hid (C1.out w1 hb1)
    have HB1 := Lib.hid hb1
    clear hb1 C0 C1
    go_wp2_with fail
    refine C1w.out.mono ?_
    intro e w2 hp
    obtain ⟨A1, n1, k1, er1, rfl, hb⟩ := parse_weak hp
    have HB2 := Lib.hid (HB1.out.trans (hb.mono HB1.out.size))
    have C2w := Lib.hid (C2.out w2 HB2.out)
    clear hb hp C1w C2 HB1
    go_wp2_with fail
    refine C2w.out.mono ?_
    intro e w3 hp
    obtain ⟨A2, n2, k2, er2, rfl, hb⟩ := parse_weak hp
    have HB3 := Lib.hid (HB2.out.trans (hb.mono HB2.out.size))
    have C3w := Lib.hid (C3.out w3 HB3.out)
    clear hb hp C2w C3 HB2
    go_wp2_with fail
    refine C3w.out.mono ?_
    rintro e w4 ⟨rfl, -, hb⟩
    have HB4 := Lib.hid (HB3.out.trans (hb.mono HB3.out.size))
    clear hb C3w HB3
    go_wp2_with fail
    go_ret
    exact ⟨rfl, HB4.out⟩
  have hbI : ¬ (40000 : Int) < ((mkS (t ++ 10 :: 10 :: u)).size : Int) := by omega
  have hul : u.length ≤ 40000 := by simp at hbig; omega
  have h3 : parseT (t ++ 10 :: 10 :: u) = thenL (parseT t) (parseL (linesX u) [] []) := parse_two t u hbig
  have hacc := fun a ha => parse_two_acc a u hul ha
  have hR1 := parseT_lenJ t
  have hR2 := parseT_lenJ u
  rw [h3] at C3
  clear h3 hE hi hbig hsz ht hu hul
  change ∀ a : List Fs, a.length ≤ 200 → AccR a (parseT u) _ at hacc
  generalize parseT t = R1 at *
  generalize parseT u = R2 at *
  generalize parseL (linesX u) [] [] = K at *
  generalize mkS (t ++ 10 :: 10 :: u) = S3 at *
  generalize mkS t = S1 at *
  generalize mkS u = S2 at *
  cases R1 with
  | error n1 =>
    change Hid (∀ wx, Below W.heap.size W wx → Calls _ _ _ wx (ParsePost wx (.error n1))) at C3
    go_enter Tryz.func5, Tryz.ntmps5
    go_wp2_with fail
    refine C0.out.mono ?_
    rintro e w1 ⟨rfl, hb1⟩
    have C1w := Lib.hid (C1.out w1 hb1)
    have HB1 := Lib.hid hb1
    clear hb1 C0 C1
    go_wp2_with fail
    refine C1w.out.mono ?_
    rintro e w2 ⟨rfl, hn1, hb⟩
    have q1 : (n1 != 0) = true := by simp [hn1]
    have HB2 := Lib.hid (HB1.out.trans (hb.mono HB1.out.size))
    have C2w := Lib.hid (C2.out w2 HB2.out)
    clear hb hn1 C1w C2 HB1 hacc hR1 hR2
    go_wp2_with fail
    refine C2w.out.mono ?_
    intro e w3 hp
    obtain ⟨A2, n2, k2, er2, rfl, hb⟩ := parse_weak hp
    have HB3 := Lib.hid (HB2.out.trans (hb.mono HB2.out.size))
    have C3w := Lib.hid (C3.out w3 HB3.out)
    clear hb hp C2w C3 HB2
    go_wp2_with fail
    refine C3w.out.mono ?_
    rintro e w4 ⟨rfl, -, hb⟩
    have HB4 := Lib.hid (HB3.out.trans (hb.mono HB3.out.size))
    clear hb C3w HB3
    go_wp2_with fail
    go_ret
    exact ⟨by simp, HB4.out⟩
  | ok a =>
    have hla := hR1 a rfl
    have hac := hacc a hla
    change Hid (∀ wx, Below W.heap.size W wx → Calls _ _ _ wx (ParsePost wx (K a))) at C3
    go_enter Tryz.func5, Tryz.ntmps5
    go_wp2_with fail
    refine C0.out.mono ?_
    rintro e w1 ⟨rfl, hb1⟩
    have C1w := Lib.hid (C1.out w1 hb1)
    have HB1 := Lib.hid hb1
    clear hb1 C0 C1
    go_wp2_with fail
    refine C1w.out.mono ?_
    rintro e w2 ⟨va, xs, rfl, hxm, hPx⟩
    obtain ⟨Ax, kx, rfl, hkx1, hkx2⟩ := own_form' hPx.row
    have hlx : xs.length ≤ 200 := by rw [← hxm, List.length_map] at hla; exact hla
    have HPx0 := Lib.hid hPx
    have HB2 := Lib.hid (HB1.out.trans (hPx.bel.mono HB1.out.size))
    have C2w := Lib.hid (C2.out w2 HB2.out)
    clear hPx C1w C2 HB1 hacc hR1
    cases R2 with
    | error n2 =>
      go_wp2_with fail
      refine C2w.out.mono ?_
      rintro e w3 ⟨rfl, hn2, hb⟩
      have q2 : (n2 != 0) = true := by simp [hn2]
      have HB3 := Lib.hid (HB2.out.trans (hb.mono HB2.out.size))
      have C3w := Lib.hid (C3.out w3 HB3.out)
      have hk : K a = .error n2 ∨ K a = .error 121 := hac
      have hxI : ¬ (200 : Int) < (xs.length : Int) := by omega
      clear hb hn2 C2w C3 HB2 hac hR2
      rcases hk with hk | hk
      · rw [hk] at C3w
        go_wp2_with fail
        refine C3w.out.mono ?_
        rintro e w4 ⟨rfl, -, hb⟩
        have HB4 := Lib.hid (HB3.out.trans (hb.mono HB3.out.size))
        clear hb C3w HB3
        go_wp2_with fail
        go_ret
        exact ⟨by simp, HB4.out⟩
      · rw [hk] at C3w
        go_wp2_with fail
        refine C3w.out.mono ?_
        rintro e w4 ⟨rfl, -, hb⟩
        have HB4 := Lib.hid (HB3.out.trans (hb.mono HB3.out.size))
        clear hb C3w HB3
        go_wp2_with fail
        all_goals go_ret
        all_goals exact ⟨by first | rfl | simp, HB4.out⟩
    | ok b =>
      have hlb := hR2 b rfl
      go_wp2_with fail
      refine C2w.out.mono ?_
      rintro e w3 ⟨vb, ys, rfl, hym, hPy⟩
      obtain ⟨Ay, ky, rfl, hky1, hky2⟩ := own_form' hPy.row
      have hly : ys.length ≤ 200 := by rw [← hym, List.length_map] at hlb; exact hlb
      have HPx3 := Lib.hid (HPx0.out.below hPy.bel)
      have HPy3 := Lib.hid hPy
      have HB3 := Lib.hid (HB2.out.trans (hPy.bel.mono HB2.out.size))
      have C3w := Lib.hid (C3.out w3 HB3.out)
      clear hPy C2w C3 HB2 HPx0 hR2
      have hla' : a.length = xs.length := by rw [← hxm, List.length_map]
      have hlb' : b.length = ys.length := by rw [← hym, List.length_map]
      by_cases h2 : 200 < xs.length + ys.length
      · have h2I : (200 : Int) < (xs.length : Int) + (ys.length : Int) := by omega
        have hk : K a = .error 121 := hac.2 (by omega)
        rw [hk] at C3w
        clear hac
        go_wp2_with fail
        refine C3w.out.mono ?_
        rintro e w4 ⟨rfl, -, hb⟩
        have HB4 := Lib.hid (HB3.out.trans (hb.mono HB3.out.size))
        clear hb C3w HB3
        go_wp2_with fail
        go_ret
        exact ⟨rfl, HB4.out⟩
      · have h2I : ¬ (200 : Int) < (xs.length : Int) + (ys.length : Int) := by omega
        have hk : K a = .ok (a ++ b) := hac.1 (by omega)
        rw [hk] at C3w
        clear hac
        go_wp2_with fail
        refine C3w.out.mono ?_
        rintro e w5 ⟨vc, zs, rfl, hzm, hPz⟩
        obtain ⟨Az, kz, rfl, hkz1, hkz2⟩ := own_form' hPz.row
        have HPx := Lib.hid (HPx3.out.below hPz.bel)
        have HPy := Lib.hid (HPy3.out.below hPz.bel)
        have HPz := Lib.hid hPz
        have HBW := Lib.hid (HB3.out.trans (hPz.bel.mono HB3.out.size))
        have HMM : Hid ((zs.map fun x => pkgT x.S) = (xs ++ ys).map fun x => pkgT x.S) := by
          have h := congrArg (List.map pkgT) (hzm.trans (by rw [← hxm, ← hym, ← List.map_append]))
          rw [List.map_map, List.map_map] at h
          exact h
        have HLZ : Hid (zs.length = (xs ++ ys).length) := by
          have := congrArg List.length HMM.out
          rw [List.length_map, List.length_map] at this
          exact this
        have hb6 : Below w5.heap.size w5 (w5.alloc (.cells #[] 37)) := (Below.refl _ _).alloc (Nat.le_refl _) _
        have HB6 := Lib.hid hb6
        have HO6 : Hid ((w5.alloc (.cells #[] 37)).ownsRow w5.heap.size 37 12 (.slice (some ⟨w5.heap.size, 0, none⟩) 0 0) 0 []) :=
          ⟨rfl, .inr ⟨w5.heap.size, 0, #[], rfl, Nat.le_refl _, Blk.new _ _ _, Nat.le_refl _, by simp [maxLen], rfl, rfl⟩⟩
        have hs6 := HB6.out.size
        have HLx : Hid ((rowsC xs).length = xs.length * 12) := HPx.out.row.1
        have HLy : Hid ((rowsC ys).length = ys.length * 12) := HPy.out.row.1
        have HOx := Lib.hid (rows_one HPx.out.all)
        have HOy := Lib.hid (rows_one HPy.out.all)
        unfold maxLen at hkx2 hky2
        clear hb6 hPz hzm HPx3 HPy3 C3w HB3 hxm hym hk
        rcases HPx.out.row.2 with ⟨hvx, hx0⟩ | ⟨gx, capx, curx, hvx, -, -, -, -, -, -⟩
        · rcases HPy.out.row.2 with ⟨hvy, hy0⟩ | ⟨gy, capy, cury, hvy, -, -, -, -, -, -⟩
          · injection hvx with hvx _ hkx0
            injection hvy with hvy _ hky0
            subst hvx hvy hkx0 hky0
            have hxe : xs = [] := List.length_eq_zero_iff.1 hx0
            have hye : ys = [] := List.length_eq_zero_iff.1 hy0
            subst hxe hye
            go_wp2_with (first | (at_builtin; refine wpList_append_own_none rfl (.tmp 91) (.tmp 92) 23 rfl w5.heap.size 37 i 12 Tryz.underlying23 HI.out (.slice (some ⟨w5.heap.size, 0, none⟩) 0 0) 0 [] rfl HO6.out rfl ?_) | (at_builtin; refine wpList_append_own_none rfl (.tmp 89) (.tmp 90) 23 rfl w5.heap.size 37 i 12 Tryz.underlying23 HI.out (.slice (some ⟨w5.heap.size, 0, none⟩) 0 0) 0 [] rfl HO6.out rfl ?_))
            have hps := PsV.join (v8 := _) HPx.out HPy.out HB6.out (by first | done | skip; first | exact HO6.out | exact row_nil HO6.out)
            have hpx := hps.pks
            have hpc := (HPz.out.below hps.bel).pks
            rw [HMM.out] at hpc
            have CS := Lib.hid (Ev.same_any ((([] : List Pk5) ++ ([] : List Pk5)).map fun x => pkgT x.S) _ (some ⟨w5.heap.size, 0, none⟩) (([] : List Pk5) ++ ([] : List Pk5)).length kz 0 (w5.alloc (.cells #[] 37)) (List.length_map _) hpc hpx (by rw [List.length_append]; omega))
            have HB9 := Lib.hid (HBW.out.trans (hps.bel.mono HBW.out.size))
            rw [HLZ.out]
            clear hps hpx hpc
            refine (CS.out).mono ?_
            rintro e w9 ⟨rfl, hb9⟩
            have HB10 := Lib.hid (HB9.out.trans (hb9.mono HB9.out.size))
            clear hb9 CS HB9
            go_wp2_with fail
            go_ret
            exact ⟨by simp, HB10.out⟩
          · injection hvx with hvx _ hkx0
            injection hvy with hvy _ hky0
            subst hvx hvy hkx0 hky0
            have hxe : xs = [] := List.length_eq_zero_iff.1 hx0
            subst hxe
            have HCy : Hid (∀ w7, Below w5.heap.size w5 w7 → ∀ (jj : Nat) u, (rowsC ys)[jj]? = some u → w7.cell? ((⟨gy, 0, none⟩ : Addr).add jj) = some u) := fun w7 hb jj u hj => row_cell (HPy.out.below hb).row hj
            go_wp2_with (first | (at_builtin; refine wpList_append_own_at _ rfl (.tmp 91) (.tmp 92) 23 rfl w5.heap.size 37 i z 12 256 Tryz.underlying23 HI.out hz0 hz2 hz3 hz1 (by decide) (.slice (some ⟨w5.heap.size, 0, none⟩) 0 0) 0 [] rfl HO6.out ⟨gy, 0, none⟩ ys.length ky (rowsC ys) rfl HLy.out (HCy.out _ HB6.out) HOy.out (by unfold maxLen; omega) (by omega) (by first | omega | (simp; done) | (simp; omega)) ?_; intro v8 w8 hown8 hg8 hnil8 hat8; have HB8 := Lib.hid (HB6.out.trans ((grown_turned hg8).below (B := w5.heap.size) (fun k hk => (HO6.out.lt k (by simpa using hk)).1) HB6.out.size)); obtain ⟨A8, c8, hv8, hn8, hm8⟩ := own_form' hown8; subst hv8; have HO8 := Lib.hid hown8; clear hown8 hg8 hnil8 hat8) | (at_builtin; refine wpList_append_own_none rfl (.tmp 89) (.tmp 90) 23 rfl w5.heap.size 37 i 12 Tryz.underlying23 HI.out (.slice (some ⟨w5.heap.size, 0, none⟩) 0 0) 0 [] rfl HO6.out rfl ?_))
            have hps := PsV.join (v8 := _) HPx.out HPy.out HB8.out (by first | done | skip; first | exact HO8.out | exact row_nil HO8.out)
            have hpx := hps.pks
            have hpc := (HPz.out.below hps.bel).pks
            rw [HMM.out] at hpc
            have CS := Lib.hid (Ev.same_any ((([] : List Pk5) ++ ys).map fun x => pkgT x.S) _ A8 (([] : List Pk5) ++ ys).length kz c8 w8 (List.length_map _) hpc hpx (by rw [List.length_append]; omega))
            have HB9 := Lib.hid (HBW.out.trans (hps.bel.mono HBW.out.size))
            rw [HLZ.out]
            clear hps hpx hpc
            refine (CS.out).mono ?_
            rintro e w9 ⟨rfl, hb9⟩
            have HB10 := Lib.hid (HB9.out.trans (hb9.mono HB9.out.size))
            clear hb9 CS HB9
            go_wp2_with fail
            go_ret
            exact ⟨by simp, HB10.out⟩
        · rcases HPy.out.row.2 with ⟨hvy, hy0⟩ | ⟨gy, capy, cury, hvy, -, -, -, -, -, -⟩
          · injection hvx with hvx _ hkx0
            injection hvy with hvy _ hky0
            subst hvx hvy hkx0 hky0
            have hye : ys = [] := List.length_eq_zero_iff.1 hy0
            subst hye
            have HCx : Hid (∀ (jj : Nat) u, (rowsC xs)[jj]? = some u → (w5.alloc (.cells #[] 37)).cell? ((⟨gx, 0, none⟩ : Addr).add jj) = some u) := fun jj u hj => row_cell (HPx.out.below HB6.out).row hj
            go_wp2_with (first | (at_builtin; refine wpList_append_own_none rfl (.tmp 91) (.tmp 92) 23 rfl w5.heap.size 37 i 12 Tryz.underlying23 HI.out (.slice A7 xs.length c7) xs.length (rowsC xs) rfl HO7.out rfl ?_) | (at_builtin; refine wpList_append_own_at _ rfl (.tmp 89) (.tmp 90) 23 rfl w5.heap.size 37 i z 12 256 Tryz.underlying23 HI.out hz0 hz2 hz3 hz1 (by decide) (.slice (some ⟨w5.heap.size, 0, none⟩) 0 0) 0 [] rfl HO6.out ⟨gx, 0, none⟩ xs.length kx (rowsC xs) rfl HLx.out HCx.out HOx.out (by unfold maxLen; omega) (by omega) (by first | omega | (simp; done) | (simp; omega)) ?_; intro v7 w7 hown7 hg7 hnil7 hat7; rw [Nat.zero_add, List.nil_append] at hown7; have HB7 := Lib.hid (HB6.out.trans ((grown_turned hg7).below (B := w5.heap.size) (fun k hk => (HO6.out.lt k (by simpa using hk)).1) HB6.out.size)); obtain ⟨A7, c7, hv7, hn7, hm7⟩ := own_form' hown7; subst hv7; have HO7 := Lib.hid hown7; have hs7 := HB7.out.size; clear hown7 hg7 hnil7 hat7))
            have hps := PsV.join (v8 := _) HPx.out HPy.out HB7.out (by first | done | skip; first | exact HO7.out | exact row_nil HO7.out)
            have hpx := hps.pks
            have hpc := (HPz.out.below hps.bel).pks
            rw [HMM.out] at hpc
            have CS := Lib.hid (Ev.same_any ((xs ++ ([] : List Pk5)).map fun x => pkgT x.S) _ A7 (xs ++ ([] : List Pk5)).length kz c7 w7 (List.length_map _) hpc hpx (by rw [List.length_append]; omega))
            have HB9 := Lib.hid (HBW.out.trans (hps.bel.mono HBW.out.size))
            rw [HLZ.out]
            have hxl : (xs ++ ([] : List Pk5)).length = xs.length := by rw [List.append_nil]
            rw [hxl] at CS ⊢
            clear hps hpx hpc
            refine (CS.out).mono ?_
            rintro e w9 ⟨rfl, hb9⟩
            have HB10 := Lib.hid (HB9.out.trans (hb9.mono HB9.out.size))
            clear hb9 CS HB9
            go_wp2_with fail
            go_ret
            exact ⟨by simp, HB10.out⟩
          · injection hvx with hvx _ hkx0
            injection hvy with hvy _ hky0
            subst hvx hvy hkx0 hky0
            have HCx : Hid (∀ (jj : Nat) u, (rowsC xs)[jj]? = some u → (w5.alloc (.cells #[] 37)).cell? ((⟨gx, 0, none⟩ : Addr).add jj) = some u) := fun jj u hj => row_cell (HPx.out.below HB6.out).row hj
            have HCy : Hid (∀ w7, Below w5.heap.size w5 w7 → ∀ (jj : Nat) u, (rowsC ys)[jj]? = some u → w7.cell? ((⟨gy, 0, none⟩ : Addr).add jj) = some u) := fun w7 hb jj u hj => row_cell (HPy.out.below hb).row hj
            go_wp2_with (first | (at_builtin; refine wpList_append_own_at _ rfl (.tmp 91) (.tmp 92) 23 rfl w5.heap.size 37 i z 12 256 Tryz.underlying23 HI.out hz0 hz2 hz3 hz1 (by decide) (.slice A7 xs.length c7) xs.length (rowsC xs) rfl HO7.out ⟨gy, 0, none⟩ ys.length ky (rowsC ys) rfl HLy.out (HCy.out _ HB7.out) HOy.out (by unfold maxLen; omega) (by omega) (by first | omega | (simp; done) | (simp; omega)) ?_; intro v8 w8 hown8 hg8 hnil8 hat8; have HB8 := Lib.hid (HB7.out.trans ((grown_turned hg8).below (B := w5.heap.size) (fun k hk => (HO7.out.lt k (by simpa using hk)).1) HB7.out.size)); obtain ⟨A8, c8, hv8, hn8, hm8⟩ := own_form' hown8; subst hv8; have HO8 := Lib.hid hown8; clear hown8 hg8 hnil8 hat8) | (at_builtin; refine wpList_append_own_at _ rfl (.tmp 89) (.tmp 90) 23 rfl w5.heap.size 37 i z 12 256 Tryz.underlying23 HI.out hz0 hz2 hz3 hz1 (by decide) (.slice (some ⟨w5.heap.size, 0, none⟩) 0 0) 0 [] rfl HO6.out ⟨gx, 0, none⟩ xs.length kx (rowsC xs) rfl HLx.out HCx.out HOx.out (by unfold maxLen; omega) (by omega) (by first | omega | (simp; done) | (simp; omega)) ?_; intro v7 w7 hown7 hg7 hnil7 hat7; rw [Nat.zero_add, List.nil_append] at hown7; have HB7 := Lib.hid (HB6.out.trans ((grown_turned hg7).below (B := w5.heap.size) (fun k hk => (HO6.out.lt k (by simpa using hk)).1) HB6.out.size)); obtain ⟨A7, c7, hv7, hn7, hm7⟩ := own_form' hown7; subst hv7; have HO7 := Lib.hid hown7; have hs7 := HB7.out.size; clear hown7 hg7 hnil7 hat7))
            have hps := PsV.join (v8 := _) HPx.out HPy.out HB8.out (by first | done | skip; first | exact HO8.out | exact row_nil HO8.out)
            have hpx := hps.pks
            have hpc := (HPz.out.below hps.bel).pks
            rw [HMM.out] at hpc
            have CS := Lib.hid (Ev.same_any ((xs ++ ys).map fun x => pkgT x.S) _ A8 (xs ++ ys).length kz c8 w8 (List.length_map _) hpc hpx (by rw [List.length_append]; omega))
            have HB9 := Lib.hid (HBW.out.trans (hps.bel.mono HBW.out.size))
            rw [HLZ.out]
            have hxl : (xs ++ ys).length = xs.length + ys.length := List.length_append
            rw [hxl] at CS ⊢
            clear hps hpx hpc
            refine (CS.out).mono ?_
            rintro e w9 ⟨rfl, hb9⟩
            have HB10 := Lib.hid (HB9.out.trans (hb9.mono HB9.out.size))
            clear hb9 CS HB9
            go_wp2_with fail
            go_ret
            exact ⟨by simp, HB10.out⟩
end Go.Proofs.YtdhgiammfpjniaaGreatDoor
