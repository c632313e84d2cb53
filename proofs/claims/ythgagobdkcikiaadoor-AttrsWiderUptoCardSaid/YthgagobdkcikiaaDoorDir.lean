/- The contract of Dir. -/
import Derived.Test.YthgagobdkcikiaaDoorDirM
import Derived.Deep.Cut
import Derived.Deep.CutRange
import Derived.Deep.CutBlock
import Derived.Deep.LoopGhost
namespace Go.Proofs.YthgagobdkcikiaaDoor
set_option linter.unusedSimpArgs false
set_option linter.unusedVariables false
open Go.RowKit

theorem place_run {w : World} {mp n : Nat} {D : DataW Unit} {ds : List DirE} (hM : w.ownsMap Tryd.prog 50 (plainElem Tryd.prog 3) mp n D) (hA : Agrees kdD okD D (ixI ds)) (d : DirE) (hok : okD d) :
    (Instr.lookup 54 (.map (some mp)) (.agg #[.int .i64 (d.1 : Int), .string d.2]) true).run Tryd.prog w = .ok (.tuple #[.int .i64 ((ixI ds d).getD 0), .bool (ixI ds d).isSome]) w := by
  obtain ⟨v, ps, hrun, hv⟩ := hM.look_ok lawD Tryd.underlying54 (zeroI w) (plainElem_int (a := 0) Tryd.underlying3 (by decide)) (keyD d hok)
  obtain ⟨c, rfl, hc, _⟩ := plainElem_int_inv Tryd.underlying3 hv
  have h1 := hA.at_ d hok (congrArg Prod.fst hc)
  have h2 := hA.has d hok
  rw [h1, h2] at hrun
  exact hrun
def DirPost (w : World) (F : List Nat) (bs : Nat) (vk : Value) (mk mv : Nat) (r : (Nat × Int) × List DirE) (e : Ending) (w' : World) : Prop :=
  e = .returned (.tuple #[.int .i64 (r.1.1 : Int), .int .i64 r.1.2]) ∧ ∃ F', DirAt w' F' bs vk mk mv r.2 ∧ Turned F w w' ∧ Fresh w F F'
/-- Texts in a row, one behind the other: the first, the rest. -/
theorem rd_tail {w : World} {B b o : Nat} {v : Value} {xs : List Value} (h : Rd w B (some ⟨b, o, none⟩) (v :: xs)) : Rd w B (some ⟨b, o + 1, none⟩) xs := fun k u hk => by
  obtain ⟨b', o', e, h1, h2⟩ := h (k + 1) u (by simpa using hk)
  injection e with e
  injection e with e1 e2
  subst e1; subst e2
  exact ⟨b, o + 1, rfl, h1, by rw [Nat.add_assoc, Nat.add_comm 1 k]; exact h2⟩
/-- Cells one behind the other, in a block from a place on. -/
def RdA (w : World) (lo : Nat) (A : Option Addr) (xs : List Value) : Prop := Rd w w.heap.size A xs ∧ ∀ b o s, A = some ⟨b, o, s⟩ → lo ≤ b
theorem drewN_two (w : World) (a b : Nat) : (w.drewN a).drewN b = w.drewN (a + b) := by simp [World.drewN, Nat.add_assoc]
theorem mkd_nil (ds : List DirE) (n : Nat) : mkd ds n [] = (n, ds) := rfl
set_option maxHeartbeats 4000000 in
set_option maxRecDepth 100000 in
theorem dir_any (w : World) (F : List Nat) (bs : Nat) (vk : Value) (mk mv : Nat) (ds : List DirE) (path : ByteArray) (h : DirAt w F bs vk mk mv ds) (hm : MaxAt w) :
    Calls Tryd.prog 12 #[.pointer (some ⟨bs, 0, none⟩), .string path] w (DirPost w F bs vk mk mv (dirAns ds path)) := by
  have CP := Lib.hid (parts_any path w hm)
  obtain ⟨ans, hans⟩ : ∃ ans, ans = dirAns ds path := ⟨_, rfl⟩
  rw [← hans]
  have HANS := Lib.hid hans
  have H := Lib.hid h
  clear hans h hm
  unfold dirAns at HANS
  cases ho : partsOf path with
  | none =>
    rw [ho] at HANS CP
    have HV : Hid (ans = ((0, 85), ds)) := HANS.out
    clear HANS ho
    go_enter Tryd.func12, Tryd.ntmps12
    go_wp2_with fail
    refine CP.out.mono ?_
    rintro e w1 ⟨hb, rfl⟩
    have HB := Lib.hid hb
    clear hb CP
    go_wp2_with fail
    go_ret2
    rw [HV.out]
    exact ⟨rfl, _, H.out.turned (G := []) (Turned.of_below HB.out []) (fun k _ => by simp), (Turned.of_below HB.out _), Fresh.refl _ _⟩
  | some l =>
    rw [ho] at HANS CP
    have HV : Hid (ans = if 2000 < ds.length + (wk ds 0 l).2.length then ((0, 83), ds) else ((((mkd ds (wk ds 0 l).1 (wk ds 0 l).2).1 : Nat), 0), (mkd ds (wk ds 0 l).1 (wk ds 0 l).2).2)) := HANS.out
    have HSP : Hid (∀ q, q ∈ l → q.size ≤ 200) := fun q hq => by
      rcases parts_spec ho with ⟨_, rfl⟩ | ⟨_, _, h3⟩
      · cases hq
      · exact (h3 q hq).2.1
    clear HANS ho
    obtain ⟨vd, mp, hB, hd, rfl⟩ := id H.out
    have hok := hd.ok
    have hfew := hok.few
    have hr0 := root_lt hok
    have HD := Lib.hid hd
    obtain ⟨An, cn, rfl, hn1, hn2⟩ := own_form' hd.row
    obtain ⟨D, hM, hA⟩ := hd.map
    have HB := Lib.hid hB
    have HM := Lib.hid hM
    have HA := Lib.hid hA
    have HOK := Lib.hid hok
    have hbl := hB.lt
    clear hB hd hM hA hok
    go_enter Tryd.func12, Tryd.ntmps12
    go_wp2_with fail
    refine CP.out.mono ?_
    rintro e w1 ⟨hb1, A, rfl, hrd, hl200, hlo⟩
    have hs1 := hb1.size
    have T1 : Hid (Turned [] w w1) := Turned.of_below hb1 []
    have HB1 := Lib.hid (HB.out.below hb1 hbl)
    have HM1 := Lib.hid (map_turned HM.out T1.out (fun hk => by cases hk))
    have HRD : Hid (RdA w1 w.heap.size A (l.map Value.string)) := ⟨hrd, hlo⟩
    have c3 : ∀ N, (w1.drewN N).cell? ⟨bs, 3, none⟩ = some (.slice An ds.length cn) := fun N => (HB1.out.drewN N).cell 3
    have c4 : ∀ N, (w1.drewN N).cell? ⟨bs, 4, none⟩ = some (.map (some mp)) := fun N => (HB1.out.drewN N).cell 4
    have HLK : Hid (∀ (d : DirE), okD d → ∀ N, (Instr.lookup 54 (.map (some mp)) (.agg #[.int .i64 (d.1 : Int), .string d.2]) true).run Tryd.prog (w1.drewN N) = .ok (.tuple #[.int .i64 ((ixI ds d).getD 0), .bool (ixI ds d).isSome]) (w1.drewN N)) := fun d hd N =>
      place_run (map_drewN HM1.out N) HA.out d hd
    clear hb1 hrd hlo CP
    have HSK : Hid (∀ q, q ∈ (wk ds 0 l).2 → q.size ≤ 200) := fun q hq => HSP.out q (wk_suffix l 0 q hq)
    have HLT : Hid ((wk ds 0 l).1 < ds.length) := wk_lt l 0 hr0
    have HLEFT : Hid ((wk ds 0 l).2 = [] ∨ ∃ p r, (wk ds 0 l).2 = p :: r ∧ ix ds ((wk ds 0 l).1, p) = none) := wk_left l 0
    have HSH : Hid ((wk ds 0 l).2.length ≤ 200) := Nat.le_trans (wk_short l 0) hl200
    obtain ⟨W, hW⟩ : ∃ W, W = wk ds 0 l := ⟨_, rfl⟩
    rw [← hW] at HV HSK HLT HLEFT HSH
    have HWK := Lib.hid hW
    clear hW
    go_upto_block 0 with fail
    go_cut [6, 8, 9, 10] from 22 to 42 (fun v6 v8 v9 v10 wx => ∃ (N c : Nat) (A' : Option Addr), v6 = .slice A' W.2.length c ∧ v8 = .int .i64 (W.1 : Int) ∧ Hid (RdA w1 w.heap.size A' (W.2.map Value.string)) ∧ W.2.length ≤ c ∧ c ≤ 200 ∧ wx = w1.drewN N)
    case first =>
      go_wp2_with fail
      go_loopg [6, 8] (l.length + 1) (fun g v6 v8 wx => ∃ (n : Nat) (r : List ByteArray) (N c : Nat) (A' : Option Addr), v6 = .slice A' r.length c ∧ v8 = .int .i64 (n : Int) ∧ r.length < g ∧ n < ds.length ∧ r.length ≤ c ∧ c ≤ 200 ∧ Hid (W = wk ds n r) ∧ Hid (∀ q, q ∈ r → q.size ≤ 200) ∧ Hid (RdA w1 w.heap.size A' (r.map Value.string)) ∧ wx = w1.drewN N)
      case atStart => exact ⟨0, l, 0, l.length, A, rfl, rfl, by omega, hr0, Nat.le_refl _, hl200, HWK, HSP, HRD, rfl⟩
      case round =>
        obtain ⟨n, r, N, c, A', rfl, rfl, hg, hn, hrc, hc, hwk, hsp, hrd, rfl⟩ := hrel
        cases r with
        | nil =>
          have HR : Hid (W = (n, [])) := hwk.out
          clear hwk hsp
          go_wp2_with fail
          go_meet
          case rel => exact ⟨N, c, A', by rw [HR.out], by rw [HR.out], by rw [HR.out]; exact hrd, by rw [HR.out]; simp, hc, rfl⟩
        | cons q r =>
          obtain ⟨b, o, rfl, hbl2, hq⟩ := hrd.out.1 0 (.string q) rfl
          have c0 : ∀ M, (w1.drewN M).cell? ⟨b, o, none⟩ = some (.string q) := fun M => hq
          have HTL : Hid (RdA w1 w.heap.size (some ⟨b, o + 1, none⟩) (r.map Value.string)) := ⟨rd_tail hrd.out.1, fun b' o' s' e => by injection e with e; injection e with e; subst e; exact hrd.out.2 _ _ _ rfl⟩
          have hokq : okD (n, q) := ⟨by simp only; omega, by have := hsp.out q (by simp); unfold maxLen; simp only; omega⟩
          have HLQ := Lib.hid (HLK.out (n, q) hokq)
          have HSR : Hid (∀ x, x ∈ r → x.size ≤ 200) := fun x hx => hsp.out x (by simp [hx])
          obtain ⟨L, hL⟩ : ∃ L, r.length = L := ⟨_, rfl⟩
          simp only [List.length_cons, hL] at hg hrc ⊢
          have hL0 : (0 : Int) < ((L + 1 : Nat) : Int) := by omega
          have HL := Lib.hid hL
          clear hL hq hokq
          cases hix : ix ds (n, q) with
          | none =>
            have hlk : ∀ N, (Instr.lookup 54 (.map (some mp)) (.agg #[.int .i64 (n : Int), .string q]) true).run Tryd.prog (w1.drewN N) = .ok (.tuple #[.int .i64 0, .bool false]) (w1.drewN N) := fun N => by
              have := HLQ.out N
              rw [ixI, hix] at this
              exact this
            have HR : Hid (W = (n, q :: r)) := hwk.out.trans (by rw [wk, hix])
            clear hwk hsp hix HLQ HSR HTL
            go_wp2_with fail
            go_quiet (fail)
            go_wp2_with fail
            go_meet
            case rel => exact ⟨N + nq, c, some ⟨b, o, none⟩, by rw [HR.out, ← HL.out]; rfl, by rw [HR.out], by rw [HR.out]; exact hrd, by rw [HR.out]; simp only [List.length_cons]; have := HL.out; omega, hc, by simp [World.drewN, Nat.add_assoc]⟩
          | some k =>
            have hlk : ∀ N, (Instr.lookup 54 (.map (some mp)) (.agg #[.int .i64 (n : Int), .string q]) true).run Tryd.prog (w1.drewN N) = .ok (.tuple #[.int .i64 (k : Int), .bool true]) (w1.drewN N) := fun N => by
              have := HLQ.out N
              rw [ixI, hix] at this
              exact this
            have HR : Hid (W = wk ds k r) := hwk.out.trans (by rw [wk, hix])
            have hk := ix_lt hix
            clear hwk hsp hix HLQ hrd
            go_wp2_with fail
            go_quiet (fail)
            go_wp2_with fail
            by_cases hc1 : c = 1
            · subst hc1
              go_quiet (fail)
              go_wp2_with fail
              have hL00 : L = 0 := by omega
              go_roundg 1
              case measure => omega
              case rel => exact ⟨k, [], _, 0, some ⟨b, o, none⟩, rfl, rfl, by simp, hk, Nat.le_refl _, by omega, by
                have hr : r = [] := List.eq_nil_of_length_eq_zero (HL.out.trans hL00)
                have := HR.out
                rwa [hr] at this, fun x hx => (by cases hx), ⟨Rd.nil, fun b' o' s' e => by injection e with e; injection e with e; subst e; exact HTL.out.2 _ _ _ rfl⟩, drewN_two _ _ _⟩
            · go_quiet (fail)
              go_wp2_with fail
              go_roundg (L + 1)
              case measure => omega
              case rel => exact ⟨k, r, _, c - 1, some ⟨b, o + 1, none⟩, by rw [HL.out], rfl, by have := HL.out; omega, hk, by have := HL.out; omega, by omega, HR, HSR, HTL, drewN_two _ _ _⟩
    case rest =>
      obtain ⟨N, c, A', rfl, rfl, hrd, hlc, hc, rfl⟩ := hcut
      have hsh := HSH.out
      have T1N : Hid (Turned [] w (w1.drewN N)) := T1.out.drewN N
      have hz1 : w.heap.size ≤ (w1.drewN N).heap.size := hs1
      have HRD2 : Hid (RdA (w1.drewN N) w.heap.size A' (W.2.map Value.string)) := hrd.out
      have c3N := c3 N
      have HD1 : Hid (DirAt (w1.drewN N) (bs :: mp :: (Value.slice An ds.length cn).ownBlock.toList) bs vk mk mv ds) := H.out.turned T1N.out (fun k _ => by simp)
      clear hrd HB1 HM1 HLK T1 HRD c3 c4
      generalize w1.drewN N = w2 at *
      obtain ⟨M, hM⟩ : ∃ M, W.2.length = M := ⟨_, rfl⟩
      rw [hM] at HV hsh hlc ⊢
      by_cases h2000 : 2000 < ds.length + M
      · have h2000' : (2000 : Int) < (ds.length : Int) + (M : Int) := by omega
        have HR : Hid (ans = ((0, 83), ds)) := HV.out.trans (if_pos h2000)
        clear hM HV
        go_wp2_with fail
        go_ret2
        rw [HR.out]
        exact ⟨rfl, _, HD1.out, T1N.out.more (fun k hk => by cases hk), Fresh.refl _ _⟩
      · have h2000' : ¬ (2000 : Int) < (ds.length : Int) + (M : Int) := by omega
        have HR : Hid (ans = ((((mkd ds W.1 W.2).1 : Nat), 0), (mkd ds W.1 W.2).2)) := HV.out.trans (if_neg h2000)
        have HMM := Lib.hid hM
        clear hM HV
        go_wp2_with fail
        go_loopg [8, 54] M (fun g v8 v54 wx => ∃ (i n : Nat) (dx : List DirE) (Fx : List Nat), v8 = .int .i64 (n : Int) ∧ v54 = .int .i64 (i : Int) ∧ i + g = M ∧ n < dx.length ∧ dx.length + (M - i) ≤ 2000 ∧ Hid (mkd ds W.1 W.2 = mkd dx n (W.2.drop i)) ∧ Hid (W.2.drop i = [] ∨ ∃ p r, W.2.drop i = p :: r ∧ ix dx (n, p) = none) ∧ Hid (DirAt wx Fx bs vk mk mv dx ∧ Turned (bs :: mp :: (Value.slice An ds.length cn).ownBlock.toList) w2 wx ∧ Fresh w2 (bs :: mp :: (Value.slice An ds.length cn).ownBlock.toList) Fx))
        case atStart =>
          refine ⟨0, W.1, ds, _, rfl, rfl, by omega, HLT.out, by omega, ?_, ?_, HD1.out, Turned.refl _ _, Fresh.refl _ _⟩
          · show mkd ds W.1 W.2 = _; rw [List.drop_zero]
          · show _ ∨ _; rw [List.drop_zero]; exact HLEFT.out
        case round =>
          obtain ⟨i, n, dx, Fx, rfl, rfl, hi, hn, hdx, hmk, hnx, hst⟩ := hrel
          by_cases hlt : i < M
          · have hii : (i : Int) < (M : Int) := by omega
            have hlw : i < W.2.length := by have := HMM.out; omega
            obtain ⟨q, hq⟩ : ∃ q, W.2[i]? = some q := ⟨_, List.getElem?_eq_getElem hlw⟩
            have hdr : W.2.drop i = q :: W.2.drop (i + 1) := by
              rw [List.getElem?_eq_getElem hlw] at hq
              injection hq with hq
              rw [← hq, List.getElem_cons_drop hlw]
            have hixq : ix dx (n, q) = none := by
              rcases hnx.out with e | ⟨p, r, e, e2⟩
              · rw [hdr] at e; cases e
              · rw [hdr] at e; injection e with e _; rw [e]; exact e2
            have hqs : q.size ≤ 200 := HSK.out q (List.mem_of_getElem? hq)
            obtain ⟨b, o, rfl, hb2, hcq⟩ := HRD2.out.1 i (.string q) (by rw [List.getElem?_map, hq]; rfl)
            have hbw := HRD2.out.2 b o none rfl
            have hcx : wr.cell? ⟨b, o + i, none⟩ = some (.string q) := (World.cell?_of_block (hst.out.2.1.block b hb2 (fun hm => by have := H.out.lt b hm; omega))).trans hcq
            have C := Lib.hid (addDir_any wr Fx bs vk mk mv dx n q hst.out.1 hn hqs (by omega) hixq)
            have HNX : Hid (W.2.drop (i + 1) = [] ∨ ∃ p r, W.2.drop (i + 1) = p :: r ∧ ix (dx ++ [(n, q)]) (dx.length, p) = none) := by
              cases hx : W.2.drop (i + 1) with
              | nil => exact .inl rfl
              | cons p r =>
                obtain ⟨_, _, _, hdp, _⟩ := hst.out.1
                exact .inr ⟨p, r, rfl, new_none hdp.ok hn p⟩
            have HMK : Hid (mkd ds W.1 W.2 = mkd (dx ++ [(n, q)]) dx.length (W.2.drop (i + 1))) := hmk.out.trans (by rw [hdr, mkd])
            clear hixq hq hdr hcq hnx hmk hlw
            go_wp2_with fail
            refine C.out.mono ?_
            rintro e w3 ⟨rfl, F3, hd3, ht3, hf3⟩
            have HST3 : Hid (DirAt w3 F3 bs vk mk mv (dx ++ [(n, q)]) ∧ Turned (bs :: mp :: (Value.slice An ds.length cn).ownBlock.toList) w2 w3 ∧ Fresh w2 (bs :: mp :: (Value.slice An ds.length cn).ownBlock.toList) F3) :=
              ⟨hd3, hst.out.2.1.trans ht3 hst.out.2.2, hst.out.2.2.trans hst.out.2.1.size hf3⟩
            clear hd3 ht3 hf3 hst hcx C
            go_wp2_with fail
            go_roundg (gk - 1)
            case measure => omega
            case rel => exact ⟨i + 1, dx.length, dx ++ [(n, q)], F3, rfl, by go_num, by omega, by simp, by simp; omega, HMK, HNX, HST3⟩
          · have hii : ¬ (i : Int) < (M : Int) := by omega
            have HR2 : Hid (ans = ((n, 0), dx)) := HR.out.trans (by
              have := hmk.out
              rw [List.drop_eq_nil_of_le (by have := HMM.out; omega), mkd_nil] at this
              rw [this])
            clear hmk hnx
            go_wp2_with fail
            go_ret2
            rw [HR2.out]
            exact ⟨rfl, Fx, hst.out.1, (T1N.out.more (fun k hk => by cases hk)).trans hst.out.2.1 (Fresh.refl _ _), (Fresh.refl _ _).trans hz1 hst.out.2.2⟩
end Go.Proofs.YthgagobdkcikiaaDoor
