/- The walk of AttrsWider. -/
import Derived.Test.YthgagobdkcikiaaDoorWiderM
import Derived.Test.YthgagobdkcikiaaDoorFits
import Derived.Test.YthgagobdkcikiaaDoorCards
import Derived.Stop.LaidErr
import Derived.MakeChecks
namespace Go.Proofs.YthgagobdkcikiaaDoor
set_option linter.unusedSimpArgs false
set_option linter.unusedVariables false
open Go.RowKit

theorem pow_of_wider {W : World} (hL : laidMetH Tryd.prog Rows.attrsWiderUptoRow.laid W) : PowAt W := by
  rw [MakeChecks.laidMetH_plain _ _ _ (by kernel_rfl)] at hL
  have h2 := hL.tail.tail
  have e : (Rows.laid_internal_strconv_uint64pow10 : DataW Unit) = Lib.tabData .u64 Lib.pow10Tab := by kernel_rfl
  rw [e] at h2
  exact Lib.tabIs_of_head (g := 1) (t := 131) (e := 101) (n := 20) (by kernel_rfl) (by kernel_rfl) Tryd.underlying131 Tryd.underlying101 (by kernel_rfl) (by kernel_rfl) h2
theorem long_small {H : Type} {d : DataW H} {n c : Nat} {ds : List (DataW H)} (hlong : Long d n c) (hd : d ∈ ds) (hk : Rows.uptoBulkAll ds ≤ 1048576) : n ≤ 1048576 := by
  rcases hlong with ⟨_, h, _⟩ | ⟨a, b, rfl, h, _⟩
  · omega
  · have h1 := Ids.bulk_slice a b
    have h2 := Ids.bulk_part hd
    omega
theorem rd_on {w w' : World} {A : Option Addr} {xs : List Value} (h : Ids.Rd w w.heap.size A xs) (hb : Below w.heap.size w w') : Ids.Rd w' w'.heap.size A xs := (h.below hb (Nat.le_refl _)).more hb.size
set_option maxHeartbeats 8000000 in
set_option maxRecDepth 100000 in
theorem attrsWider_walk {H : Type} {enc : TypeId × Value → H} (W : World) {v0 v1 v2 : Value} {d0 d1 d2 : DataW H} (h0 : In enc Tryd.prog W 35 v0 d0) (h1 : In enc Tryd.prog W 9 v1 d1) (h2 : In enc Tryd.prog W 9 v2 d2)
    (hL : laidMetH Tryd.prog Rows.attrsWiderUptoRow.laid W) (hk : Rows.uptoBulkAll ([d0, d1, d2] ++ []) ≤ 1048576) (hSh : W.ShapedOpen Tryd.prog) :
    Calls Tryd.prog 7 #[v0, v1, v2] W (TrueBelow W) := by
  obtain ⟨A, n, c, rfl, hnc, hcm, hlong, hops⟩ := ops_in h0
  have hn := long_small hlong (by simp) hk
  obtain ⟨key, rfl, e1, hkey⟩ := h1.string Tryd.underlying9
  obtain ⟨txt, rfl, e2, hs⟩ := h2.string Tryd.underlying9
  have ht := small_str e2 (by simp) hk
  have CA := Lib.hid (awake_at W hSh)
  have HSH := Lib.hid hSh
  have HP := Lib.hid (pow_of_wider hL)
  have HOPS := Lib.hid hops
  unfold maxLen at hcm
  clear hL hk hSh h0 h1 h2 e1 e2 hs hlong hops
  go_enter Tryd.func7, Tryd.ntmps7
  go_wp2_with fail
  refine CA.out.mono ?_
  rintro e w1 ⟨rfl, hb1⟩
  have hs1 := hb1.size
  have HB1 := Lib.hid hb1
  clear hb1 CA
  go_wp2_with fail
  refine (new_any _).mono ?_
  rintro e w2 ⟨bs, mk, mv, vd, mp, rfl, hb2, hB, hD, hV, l1, l2, l3, l4, l5, -, -⟩
  have HK := Lib.hid (show WK w1 w2 w1.heap.size bs mk mv vd (.map (some mp)) (.slice none 0 0) S0 0 from ⟨hB, hV, fun k hk => by
    unfold vfeet at hk
    simp [S0, Value.ownBlock] at hk
    omega, hb2, hb2.size⟩)
  clear hb2 hB hD hV l1 l2 l3 l4 l5
  go_wp2_with fail
  go_loopw [9] (fun i wr => ∃ (k : Nat) (vk : Value) (S : VSt) (N : Nat), i = .int .i64 (k : Int) ∧ k ≤ n ∧ N ≤ k ∧ Hid (WK w1 wr w1.heap.size bs mk mv vd (.map (some mp)) vk S N)) (fun i _ => n - (intOf i).toNat)
  case atStart => exact ⟨0, _, _, 0, rfl, by omega, by omega, HK⟩
  case round =>
    clear HK
    obtain ⟨k, vk, S, N, rfl, hk, hNk, hK⟩ := hrel
    by_cases hlt : k < n
    · have hlt' : (k : Int) < (n : Int) := by omega
      obtain ⟨b, o, kind, id, ky, kk, m, s, A', l, c', how, tx, rfl, hbl, hcells, hop⟩ := HOPS.out k hlt
      have HC : Hid (∀ wy, Below w1.heap.size w1 wy → ∀ j u, (opCells kind id ky kk m s A' l c' how tx)[j]? = some u → wy.cell? ⟨b, o + k * 9 + j, none⟩ = some u) := fun wy hb j u hj => by
        rw [Nat.add_assoc]
        exact (World.cell?_of_block (hb.block b (by omega))).trans ((World.cell?_of_block (HB1.out.block b hbl)).trans (hcells j u hj))
      have HOP := Lib.hid hop
      have q0 := HC.out _ hK.out.bel 0 _ rfl
      rw [Nat.add_zero] at q0
      have q1 := HC.out _ hK.out.bel 1 _ rfl
      have q2 := HC.out _ hK.out.bel 2 _ rfl
      have q3 := HC.out _ hK.out.bel 3 _ rfl
      have q4 := HC.out _ hK.out.bel 4 _ rfl
      have q5 := HC.out _ hK.out.bel 5 _ rfl
      have q6 := HC.out _ hK.out.bel 6 _ rfl
      clear hcells hop
      by_cases hkd : kind = 1
      · subst hkd
        have hKd := hK.out.below ((Below.refl _ _).drew)
        have HKd := Lib.hid hKd
        have hbW : Below W.heap.size W wr.drew := HB1.out.trans (hKd.bel.mono hs1)
        have hrd := HOP.out.rd
        have CS := Lib.hid (set_any wr.drew bs vk mk mv vd (.map (some mp)) S N hKd.blk hKd.val (by omega) id ky HOP.out.key_ kk m HOP.out.k_ HOP.out.n_ s A' c' l (rd_more (hrd.below hbW (Nat.le_refl _)) hbW.size) HOP.out.le HOP.out.max HOP.out.nil (fun hne b2 o2 s2 e hm => by
          obtain ⟨x, l', rfl⟩ : ∃ x l', l = x :: l' := by cases l with
            | nil => exact absurd rfl hne
            | cons x l' => exact ⟨x, l', rfl⟩
          obtain ⟨b3, o3, e3, h3, -⟩ := hrd 0 (.string x) rfl
          rw [e] at e3
          injection e3 with e3
          injection e3 with e3 _ _
          have := hKd.high b2 hm
          omega))
        clear hKd hbW hrd hK
        go_wp2_with fail
        go_still_tail 16, (by kernel_rfl)
        change wpList _ _ _ _ _ (World.drew _)
        go_wp2_with fail
        refine CS.out.mono ?_
        intro e w3 hp
        obtain ⟨⟨z, rfl⟩, vk', S', N', hN', hK'⟩ := HKd.out.set_ hp
        have HK' := Lib.hid hK'
        clear hp hK' CS HKd q0 q1 q2 q3 q4 q5 q6
        go_wp2_with fail
        go_roundw
        case rel => go_light; exact ⟨k + 1, vk', S', N', by go_num, by omega, by omega, HK'.out⟩
        case measure => go_light; simp only [intOf]; omega
      · go_wp2_with fail
        go_roundw
        case rel => go_light; exact ⟨k + 1, vk, S, N, by go_num, by omega, by omega, hK.out⟩
        case measure => go_light; simp only [intOf]; omega
    · have hlt' : ¬ (k : Int) < (n : Int) := by omega
      obtain rfl : k = n := by omega
      clear hlt
      have hbW : Below W.heap.size W wr := HB1.out.trans (hK.out.bel.mono hs1)
      have hM3 := MaxAt.at_ HSH.out hbW
      have hms : 0 < wr.heap.size := by have := (max_of HSH.out).2; have := hbW.size; omega
      have hpw := HP.out.below hbW
      have HBW := Lib.hid hbW
      clear hbW
      cases hi : S.inner key with
      | none =>
        have HS := Lib.hid (search_none hK.out (by omega) hkey hi hM3 hms hpw)
        clear hM3 hpw hi
        go_wp2_with fail
        refine (HS.out wr (Below.refl _ _) 1 (by decide) (by decide) txt ht).mono ?_
        rintro e w4 ⟨rfl, hb4⟩
        have HB4 := Lib.hid hb4
        clear hb4
        go_wp2_with fail
        refine (HS.out w4 HB4.out 2 (by decide) (by decide) txt ht).mono ?_
        rintro e w5 ⟨rfl, hb5⟩
        have HB5 : Hid (Below wr.heap.size wr w5) := HB4.out.trans (hb5.mono HB4.out.size)
        clear hb5
        go_wp2_with fail
        refine (HS.out w5 HB5.out 3 (by decide) (by decide) txt ht).mono ?_
        rintro e w6 ⟨rfl, hb6⟩
        have HB6 : Hid (Below wr.heap.size wr w6) := HB5.out.trans (hb6.mono HB5.out.size)
        clear hb6
        go_wp2_with fail
        refine (HS.out w6 HB6.out 4 (by decide) (by decide) ⟨#[42]⟩ (by decide)).mono ?_
        rintro e w7 ⟨rfl, hb7⟩
        have HB7 : Hid (Below wr.heap.size wr w7) := HB6.out.trans (hb7.mono HB6.out.size)
        clear hb7
        go_wp2_with fail
        go_ret
        exact ⟨rfl, HBW.out.trans (HB7.out.mono HBW.out.size)⟩
      | some ib =>
        have HS := Lib.hid (search_some hK.out (by omega) hkey hi hM3 hms hpw)
        clear hM3 hpw hi
        go_wp2_with fail
        refine (HS.out wr (Below.refl _ _) 1 (by decide) (by decide) txt ht).mono ?_
        rintro e w4 ⟨hb4, A1, c1, ids1, rfl, hr1, hp1, hm1, hz1⟩
        have HB4 := Lib.hid hb4
        have HR1 : Hid (∀ wx, Below w4.heap.size w4 wx → Ids.Rd wx wx.heap.size A1 (Ids.i64s ids1)) := fun wx hb => rd_on hr1 hb
        have HP1 := Lib.hid hp1
        have HM1 := Lib.hid hm1
        clear hb4 hr1 hp1 hm1
        go_wp2_with fail
        refine (HS.out w4 HB4.out 2 (by decide) (by decide) txt ht).mono ?_
        rintro e w5 ⟨hb5, A2, c2, ids2, rfl, hr2, hp2, hm2, hz2⟩
        have HB5 : Hid (Below w4.heap.size w4 w5) := hb5
        have HR2 : Hid (∀ wx, Below w5.heap.size w5 wx → Ids.Rd wx wx.heap.size A2 (Ids.i64s ids2)) := fun wx hb => rd_on hr2 hb
        have HP2 := Lib.hid hp2
        have HM2 := Lib.hid hm2
        clear hb5 hr2 hp2 hm2
        go_wp2_with fail
        refine (HS.out w5 (HB4.out.trans (HB5.out.mono HB4.out.size)) 3 (by decide) (by decide) txt ht).mono ?_
        rintro e w6 ⟨hb6, A3, c3, ids3, rfl, hr3, hp3, hm3, hz3⟩
        have HB6 : Hid (Below w5.heap.size w5 w6) := hb6
        have HR3 : Hid (∀ wx, Below w6.heap.size w6 wx → Ids.Rd wx wx.heap.size A3 (Ids.i64s ids3)) := fun wx hb => rd_on hr3 hb
        have HP3 := Lib.hid hp3
        have HM3 := Lib.hid hm3
        clear hb6 hr3 hp3 hm3
        go_wp2_with fail
        refine (HS.out w6 ((HB4.out.trans (HB5.out.mono HB4.out.size)).trans (HB6.out.mono (Nat.le_trans HB4.out.size HB5.out.size))) 4 (by decide) (by decide) ⟨#[42]⟩ (by decide)).mono ?_
        rintro e w7 ⟨hb7, A4, c4, ids4, rfl, hr4, hp4, hm4, hz4⟩
        have HB7 : Hid (Below w6.heap.size w6 w7) := hb7
        have HR4 : Hid (∀ wx, Below w7.heap.size w7 wx → Ids.Rd wx wx.heap.size A4 (Ids.i64s ids4)) := fun wx hb => rd_on hr4 hb
        have HM4 := Lib.hid hm4
        clear hb7 hr4 hp4 hm4 HS
        have S12 : Hid (∀ x, x ∈ ids1 → x ∈ ids2) := fun x hx => (HM2.out x).2 ⟨((HM1.out x).1 hx).1, ((HM1.out x).1 hx).2.more fun t => fits12⟩
        have S23 : Hid (∀ x, x ∈ ids2 → x ∈ ids3) := fun x hx => (HM3.out x).2 ⟨((HM2.out x).1 hx).1, ((HM2.out x).1 hx).2.more fun t => fits23⟩
        have S34 : Hid (∀ x, x ∈ ids3 → x ∈ ids4) := fun x hx => (HM4.out x).2 ⟨((HM3.out x).1 hx).1, ((HM3.out x).1 hx).2.more fun t => fits34⟩
        have B57 : Hid (Below w5.heap.size w5 w7) := HB6.out.trans (HB7.out.mono HB6.out.size)
        have B47 : Hid (Below w4.heap.size w4 w7) := HB5.out.trans (B57.out.mono HB5.out.size)
        have BW7 : Hid (Below W.heap.size W w7) := HBW.out.trans ((HB4.out.trans (B47.out.mono HB4.out.size)).mono HBW.out.size)
        clear HM1 HM2 HM3 HM4
        have C1 := Lib.hid (meet_sub A1 A2 c1 c2 ids1 ids2 w7 hz1 hz2 (HR1.out w7 B47.out) (HR2.out w7 B57.out) HP1.out S12.out)
        go_wp2_with fail
        refine C1.out.mono ?_
        rintro e w8 ⟨Am1, cm1, rfl, -, -, hr8, hb8⟩
        have B8 : Hid (Below w7.heap.size w7 w8) := hb8
        have C2 := Lib.hid (same_self Am1 A1 cm1 c1 ids1 w8 hz1 hr8 (HR1.out w8 (B47.out.trans (B8.out.mono B47.out.size))))
        clear hr8 hb8 C1
        go_wp2_with fail
        refine C2.out.mono ?_
        rintro e w9 ⟨rfl, j1, rfl⟩
        have B9 : Hid (Below w7.heap.size w7 (w8.drewN j1)) := below_drewN' B8.out j1
        obtain ⟨w9, hw9⟩ : ∃ w9, w9 = w8.drewN j1 := ⟨_, rfl⟩
        rw [← hw9] at B9 ⊢
        clear hw9 C2 B8
        have C3 := Lib.hid (meet_sub A2 A3 c2 c3 ids2 ids3 w9 hz2 hz3 (HR2.out w9 (B57.out.trans (B9.out.mono B57.out.size))) (HR3.out w9 (HB7.out.trans (B9.out.mono HB7.out.size))) HP2.out S23.out)
        go_wp2_with fail
        refine C3.out.mono ?_
        rintro e w10 ⟨Am2, cm2, rfl, -, -, hr10, hb10⟩
        have B10 : Hid (Below w7.heap.size w7 w10) := B9.out.trans (hb10.mono B9.out.size)
        have C4 := Lib.hid (same_self Am2 A2 cm2 c2 ids2 w10 hz2 hr10 (HR2.out w10 (B57.out.trans (B10.out.mono B57.out.size))))
        clear hr10 hb10 C3 B9
        go_wp2_with fail
        refine C4.out.mono ?_
        rintro e w11 ⟨rfl, j2, rfl⟩
        have B11 : Hid (Below w7.heap.size w7 (w10.drewN j2)) := below_drewN' B10.out j2
        obtain ⟨w11, hw11⟩ : ∃ w11, w11 = w10.drewN j2 := ⟨_, rfl⟩
        rw [← hw11] at B11 ⊢
        clear hw11 C4 B10
        have C5 := Lib.hid (meet_sub A3 A4 c3 c4 ids3 ids4 w11 hz3 hz4 (HR3.out w11 (HB7.out.trans (B11.out.mono HB7.out.size))) (HR4.out w11 B11.out) HP3.out S34.out)
        go_wp2_with fail
        refine C5.out.mono ?_
        rintro e w12 ⟨Am3, cm3, rfl, -, -, hr12, hb12⟩
        have B12 : Hid (Below w7.heap.size w7 w12) := B11.out.trans (hb12.mono B11.out.size)
        have C6 := Lib.hid (same_self Am3 A3 cm3 c3 ids3 w12 hz3 hr12 (HR3.out w12 (HB7.out.trans (B12.out.mono HB7.out.size))))
        clear hr12 hb12 C5 B11
        go_wp2_with fail
        refine C6.out.mono ?_
        rintro e w13 ⟨rfl, j3, rfl⟩
        have B13 : Hid (Below w7.heap.size w7 (w12.drewN j3)) := below_drewN' B12.out j3
        obtain ⟨w13, hw13⟩ : ∃ w13, w13 = w12.drewN j3 := ⟨_, rfl⟩
        rw [← hw13] at B13 ⊢
        clear hw13 C6 B12
        go_wp2_with fail
        go_ret
        exact ⟨rfl, BW7.out.trans (B13.out.mono BW7.out.size)⟩
end Go.Proofs.YthgagobdkcikiaaDoor
