/- The walk of IdsSets. -/
import Derived.Test.YtfnfiaonaeopkaaDoorSetA
namespace Go.Proofs.YtfnfiaonaeopkaaDoor
set_option linter.unusedSimpArgs false
set_option linter.unusedVariables false
open Go.RowKit Go.Shelf

theorem long_le {H : Type} {d : DataW H} {n c : Nat} {ds : List (DataW H)} (hlong : Long d n c) (hd : d ∈ ds) (hk : Rows.uptoBulkAll ds ≤ 1048576) : n ≤ 1048576 := by
  rcases hlong with ⟨_, h, _⟩ | ⟨a, b, rfl, h, _⟩
  · omega
  · have h1 := bulk_slice a b
    have h2 := bulk_part hd
    omega
theorem st_start {W w1 : World} (hb : Below W.heap.size W w1) : St W w1.heap.size (w1.alloc (.cells (cellsW fun _ => 0) 27)) (.slice none 0 0) [] (fun _ => 0) :=
  ⟨hb.alloc hb.size _, hb.size, ⟨Blk.new _ _ _, fun _ => by decide⟩, World.ownsRow_nil _ _ _ _, in_zero⟩
theorem cell_of_rd {w : World} {B : Nat} {A : Option Addr} {l : List Int} (h : old.Rd w B A (old.i64s l)) {k : Nat} {z : Int} (hz : l[k]? = some z) : ∃ b o, A = some ⟨b, o, none⟩ ∧ b < B ∧ w.cell? ⟨b, o + k, none⟩ = some (.int .i64 z) :=
  h k (.int .i64 z) (by unfold old.i64s; rw [List.getElem?_map, hz]; rfl)

theorem srt_nil : old.srt [] = [] := List.eq_nil_iff_forall_not_mem.2 fun z hz => by rw [old.srt_mem] at hz; cases hz
/-- A piece of code that goes on, and in no other way. -/
theorem wp_only {P : Program} {c : Code} {K : Act → World → Prop} {Q : Exit → Act → World → Prop} {a : Act} {w : World} (h : Code.wp P c (Exit.then K fun _ _ _ => False) a w) : Code.wp P c (Exit.then K Q) a w :=
  Code.wp_mono (fun e a w h => by
    cases e
    case normal => exact h
    all_goals exact False.elim h) h

attribute [local go_sem] Oper.semAt_some

set_option maxHeartbeats 8000000 in
set_option maxRecDepth 1000000 in
theorem idsSets_walk {H : Type} {enc : TypeId × Value → H} (W : World) {v0 v1 : Value} {d0 d1 : DataW H} (h0 : In enc Tryd.prog W 28 v0 d0) (h1 : In enc Tryd.prog W 28 v1 d1)
    (hT : Tabled W) (hk : Rows.uptoBulkAll [d0, d1] ≤ 1048576) :
    Calls Tryd.prog 4 #[v0, v1] W (TrueBelow W) := by
  obtain ⟨A, n, c, zs, rfl, hl, hnc, hcm, hrd, _, hlong⟩ := h0.ints Tryd.underlying28 Tryd.underlying3 (by kernel_rfl)
  obtain ⟨A', m, c', ys, rfl, hl', hmc, hcm', hrd', _, hlong'⟩ := h1.ints Tryd.underlying28 Tryd.underlying3 (by kernel_rfl)
  have hn : n ≤ 1048576 := long_le hlong (by simp) hk
  have hm : m ≤ 1048576 := long_le hlong' (by simp) hk
  have hR0 : old.Rd W W.heap.size A (old.i64s zs) := hrd
  have hR1 : old.Rd W W.heap.size A' (old.i64s ys) := hrd'
  unfold maxLen at hcm hcm'
  have HR0 := Lib.hid hR0
  have HR1 := Lib.hid hR1
  have HL := Lib.hid hl
  have HL' := Lib.hid hl'
  have HT := Lib.hid hT
  obtain ⟨i0, hi, hz0, hz1, hz2⟩ := info_parts infoI
  have INF := Lib.hid (show _ ∧ _ ∧ _ ∧ _ from ⟨hi, hz0, hz1, hz2⟩)
  clear h0 h1 hk hl hl' hrd hrd' hlong hlong' hT hR0 hR1 hi hz0 hz1 hz2
  have hzB := zeroBits
  refine (callsIn_wide (n := 9)).1 ?_
  refine callsIn_of_wp_marks Tryd.func4 rfl trivial ?_ rfl
  simp only [Tryd.ntmps4, List.size_toArray, List.length_cons, List.length_nil, Nat.reduceAdd, Nat.reduceSub, Array.replicate_succ, Array.replicate_zero, List.push_toArray, List.append_toArray, List.nil_append, List.cons_append]
  refine wpIn_wide.2 ?_
  go_wp2_with (go_at_call 5; refine (old.awake_any _).mono ?_; rintro e w1 ⟨rfl, hb1⟩)
  have HD0 := Lib.hid (st_start hb1)
  clear hb1 hzB
  generalize w1.alloc (.cells (cellsW fun _ => 0) 27) = w2 at *
  generalize w1.heap.size = bb at *
  go_loopw [7, 8] (fun v7 v8 wx => ∃ (i : Nat) (g : List Int) (ws : Nat → Nat), i ≤ n ∧ v8 = .int .i64 (i : Int) ∧ g.length ≤ i ∧ St W bb wx v7 g ws) (fun _ v8 _ => n - (intOf v8).toNat)
  case atStart => exact ⟨0, [], fun _ => 0, Nat.zero_le _, rfl, Nat.le_refl _, HD0.out⟩
  case round =>
    obtain ⟨i, g, ws, hi, rfl, hgi, hst⟩ := hrel
    obtain ⟨Ag, cg, rfl, hcg, hcg2⟩ := own_form' hst.own
    unfold maxLen at hcg2
    by_cases hlt : i < n
    · obtain ⟨z, hz⟩ : ∃ z, zs[i]? = some z := ⟨_, List.getElem?_eq_getElem (by rw [HL.out]; exact hlt)⟩
      obtain ⟨b, o, rfl, hb, hc0⟩ := cell_of_rd HR0.out hz
      have hltI : (i : Int) < (n : Int) := by omega
      have hc1 : wr.cell? ⟨b, o + i, none⟩ = some (.int .i64 z) := (hst.below.cell (p := ⟨b, _, none⟩) hb).trans hc0
      have CS := Lib.hid (set_all wr bb ws hst.bits z true)
      have HS := Lib.hid hst
      have hbb : b < bb := Nat.lt_of_lt_of_le hb hst.far
      clear hst hz hc0 hb HD0
      go_wp2_with fail
      refine CS.out.mono ?_
      rintro e w3 ⟨⟨x, rfl⟩, hB3, ht3⟩
      have hc3 : w3.cell? ⟨b, o + i, none⟩ = some (.int .i64 z) := (World.cell?_of_block (ht3.block b (cell_lt hc1) (by simp; omega))).trans hc1
      by_cases hok : ok z
      · rw [if_pos hok]
        have H3 : Hid (St W bb wr (.slice Ag g.length cg) g ws ∧ Turned [bb] wr w3 ∧ BitsAt w3 bb (putZ ws z true)) := ⟨HS.out, ht3, hB3⟩
        have OW : Hid (w3.ownsRow (bb + 1) 3 1 (.slice Ag g.length cg) g.length (old.i64s g)) := own_turned HS.out.own ht3 (fun k hk hm => by
          simp at hm
          have := (HS.out.own.lt k hk).1
          omega)
        have hs3 : bb + 1 ≤ w3.heap.size := hB3.blk.lt
        have HOK := Lib.hid hok
        clear hc1 hB3 ht3 hok CS HS
        go_wp2_with (at_builtin; refine wpList_append_own_at _ rfl (.tmp 37) (.tmp 42) 28 rfl (bb + 1) 3 i0 _ 1 8 Tryd.underlying28 INF.out.1 INF.out.2.1 INF.out.2.2.1 INF.out.2.2.2 rfl (by decide) (.slice Ag g.length cg) g.length (old.i64s g) rfl (OW.out.alloc _) ⟨w3.heap.size, 0, none⟩ 1 1 [.int .i64 z] rfl rfl (cell_one_new _ _ _) (fun u hu => by simp at hu; subst hu; rfl) (by unfold maxLen; omega) (by omega) (by simp; omega) ?_; intro v4 w4 hown4 hg4 hnil4 hat4; have H4 := Lib.hid (St.app H3.out.1 H3.out.2.1 H3.out.2.2 HOK.out hown4 hg4); clear hown4 hg4 hnil4 hat4)
        go_roundw
        case rel => exact ⟨i + 1, g ++ [z], putZ ws z true, by omega, by go_num, by simp; omega, H4.out⟩
        case measure => simp [intOf]; omega
      · rw [if_neg hok]
        have H3 := Lib.hid (HS.out.set_ ht3 hB3 hok)
        clear hc1 hB3 ht3 hok CS HS
        go_wp2_with fail
        go_roundw
        case rel => exact ⟨i + 1, g, putZ ws z true, by omega, by go_num, by omega, H3.out⟩
        case measure => simp [intOf]; omega
    · have hltI : ¬ (i : Int) < (n : Int) := by omega
      have hgl : g.length ≤ 1048576 := by omega
      have hbs := hst.below.size
      have hbb := hst.bits.blk.lt
      have hfar := hst.far
      have HST := Lib.hid hst
      have HI0 : Hid (InvS wr wr.heap.size [] ((wr.alloc (.cells #[.slice none 0 0] 28)).alloc (.cells #[.pointer (some ⟨bb, 0, none⟩)] 49))) :=
        ⟨((Below.refl _ wr).alloc (Nat.le_refl _) _).alloc (by simp) _, none, 0, (Blk.new wr _ _).alloc _, World.ownsRow_nil _ _ _ _⟩
      have HSQ : Hid (SeqStopsK Fence.wide (9 - 1) Tryd.prog 19 #[.pointer (some ⟨wr.heap.size + 1, 0, none⟩)] (fun x : Nat => #[Value.int .i64 (x : Int)]) (Below W.heap.size) (fun ys => ys = allTo ws 1024) (fun pre => pre <+: allTo ws 1024) (popTo ws 1024) ((wr.alloc (.cells #[.slice none 0 0] 28)).alloc (.cells #[.pointer (some ⟨bb, 0, none⟩)] 49))) := by
        have hb2 : Below W.heap.size W ((wr.alloc (.cells #[.slice none 0 0] 28)).alloc (.cells #[.pointer (some ⟨bb, 0, none⟩)] 49)) := (hst.below.alloc hbs _).alloc (by simp; omega) _
        have hp : 0 < W.heap.size := cell_lt (HT.out 0 (by decide))
        refine all_stops (9 - 1) (by decide) (wr.heap.size + 1) W.heap.size bb ws _ (by simp) hb2.size ?_ ⟨(hst.bits.blk.alloc _).alloc _, hst.bits.small⟩ (HT.out.below hb2 hp) hp
        exact (Blk.new' (w := wr.alloc (.cells #[.slice none 0 0] 28)) (by simp)).cell 0
      clear hst HD0 HT HR0
      go_wp2_with (go_at_call 12; refine (all_any _ _).mono ?_; rintro e w3 ⟨rfl, rfl⟩)
      refine (wpIn_wide (n := 9)).1 ?_
      apply wpIn_rangeFunc_ownF (F := Fence.wide) (n := 9) rfl (by decide) (gf := 19) (lb := #[.pointer (some ⟨wr.heap.size + 1, 0, none⟩)]) (by simp [Act.eval]) trivial (enters_of Tryd.func19 (by kernel_rfl) rfl) HSQ.out belowK_t (belowK_b (by simp; omega)) (Below.refl _ _) (fun _ => rfl) (InvS wr wr.heap.size) (fun _ _ _ => False) (invS_own (by simp; omega) (Nat.le_refl _)) (fun _ _ _ _ _ h => h.elim) HI0.out
      case hassign =>
        intro l' x Wx K hK
        gi_wp2
        exact hK
      case hstop =>
        intro D co xs Wx hD hS hI hK
        exact False.elim hI
      case hbody =>
        intro l' pre x Wx hI hlen
        obtain ⟨hb, A5, c5, hB5, hO5⟩ := hI
        have hpl : pre.length < 65536 := by have := popTo_le ws 1024; omega
        have cb0 : Wx.cell? ⟨wr.heap.size, 0, none⟩ = some (.slice A5 pre.length c5) := hB5.cell 0
        have HH : Hid (Below wr.heap.size wr Wx ∧ Blk Wx wr.heap.size 28 #[.slice A5 pre.length c5] ∧ Wx.ownsRow (wr.heap.size + 1) 3 1 (.slice A5 pre.length c5) pre.length (old.i64s (ints pre))) := ⟨hb, hB5, hO5⟩
        have hsx : wr.heap.size + 1 ≤ Wx.heap.size := hB5.lt
        clear hb hB5 hO5
        gi_wp2_with (gi_at_builtin; refine wpListIn_append_own_at _ rfl (.tmp 46) (.tmp 48) 28 rfl (wr.heap.size + 1) 3 i0 _ 1 8 Tryd.underlying28 INF.out.1 INF.out.2.1 INF.out.2.2.1 INF.out.2.2.2 rfl (by decide) (.slice A5 pre.length c5) pre.length (old.i64s (ints pre)) rfl (HH.out.2.2.alloc _) ⟨Wx.heap.size, 0, none⟩ 1 1 [.int .i64 (x : Int)] rfl rfl (cell_one_new _ _ _) (fun u hu => by simp at hu; subst hu; rfl) (by unfold maxLen; omega) (by omega) (by simp; omega) ?_; intro v4 w4 hown4 hg4 hnil4 hat4; have H4 := invS_step (Nat.le_refl _) HH.out.1 HH.out.2.1 HH.out.2.2 hown4 hg4; obtain ⟨A6, c6, rfl, hc6, hm6⟩ := own_form' hown4; obtain ⟨cb4, fb4, hI4, hK4, hb4⟩ := H4; have HI4 := Lib.hid hI4; have HK4 := Lib.hid hK4; have HB4 := Lib.hid hb4; clear hown4 hg4 hnil4 hat4 hI4 hK4 hb4)
        exact ⟨HK4.out, HB4.out.mono hbs, HI4.out⟩
      case hdone =>
        intro D xs Wx hD hS hI hK
        have hS' : xs = allTo ws 1024 := hS
        obtain ⟨hb, A5, c5, hB5, hO5⟩ := hI
        have hx : ints xs = old.srt g := by rw [hS']; exact same_all (same_of HST.out.mem)
        have hlen : (old.srt g).length = xs.length := by rw [← hx, ints_len]
        have rd5 : old.Rd Wx Wx.heap.size A5 (old.i64s (old.srt g)) := by rw [← hx]; exact old.Rd.own hO5
        have HA : Hid (Aft W bb wr.heap.size D Ag g g Wx ws) := ⟨HST.out.below.trans (hb.mono hbs), hfar, ⟨HST.out.bits.blk.below hb hbb, HST.out.bits.small⟩, (old.Rd.own HST.out.own).below hb (Nat.le_refl _), hb.size, hbb, by simp at hD; omega, hK, HST.out.mem⟩
        have cb0 : Wx.cell? ⟨wr.heap.size, 0, none⟩ = some (.slice A5 xs.length c5) := hB5.cell 0
        have HR5 := Lib.hid rd5
        have hsx : wr.heap.size < Wx.heap.size := hB5.lt
        have hxl : xs.length ≤ 65536 := by rw [hS', allTo_len]; exact popTo_le ws 1024
        have HXL := Lib.hid hlen
        clear hS hS' hb hB5 hO5 hx hlen rd5 hK HSQ HI0
        go_upto_region 16 with fail
        go_cut [13] from 50 to 53 (fun v13 wx => v13 = .bool true ∧ Hid (Aft W bb wr.heap.size D Ag g g wx ws))
        case first =>
          have CSO := Lib.hid (old.sort_any Ag g.length cg _ g Wx.drew rfl (by omega) HA.out.rd)
          have cbd : Wx.drew.cell? ⟨wr.heap.size, 0, none⟩ = some (.slice A5 xs.length c5) := cb0
          apply wp_only
          go_region_with (first | (go_at_call 14; refine CSO.out.mono ?_; rintro e w6 ⟨v6, rfl, hO6, hb6'⟩; have hb6 : Below Wx.heap.size Wx w6 := (Below.refl Wx.heap.size Wx).drew.trans hb6'; have cb6 : w6.cell? ⟨wr.heap.size, 0, none⟩ = some (.slice A5 xs.length c5) := (World.cell?_of_block (hb6.block _ hsx)).trans cb0; have HA6 := Lib.hid (HA.out.below_ hb6); have RA6 : Hid (old.Rd w6 Wx.heap.size A5 (old.i64s (old.srt g))) := HR5.out.below hb6 (Nat.le_refl _); obtain ⟨A6, c6, rfl, hc6, hm6⟩ := own_form' hO6; have RB6 := Lib.hid (old.Rd.own hO6); clear hb6 hb6' hO6) | (go_at_call 13; refine (old.same_any A5 A6 c5 c6 _ _ xs.length (old.srt g).length (old.srt g) (old.srt g) _ HXL.out rfl (by omega) RA6.out RB6.out).mono ?_; rintro e w7 ⟨rfl, q, rfl⟩; rw [decide_eq_true rfl]))
          all_goals
            have HA7 := Lib.hid (HA6.out.below_ (((Turned.refl [] w6).drewN q).of_nil))
            go_wp2_with fail
            go_meet
            exact ⟨rfl, HA7⟩
        case rest =>
          obtain ⟨rfl, HC⟩ := hcut
          clear HA cb0 HR5 hsx hxl HXL HST
          go_wp2_with fail
          have H0 : Hid (Aft W bb wr.heap.size D Ag g (old.kOut (ys.take 0) g) wc ws) := by
            rw [List.take_zero, kOut_nil]
            exact HC.out
          clear HC
          generalize wr.heap.size = ba at *
          go_loopw [14] (fun v14 wx => ∃ (j : Nat) (ws' : Nat → Nat), j ≤ m ∧ v14 = .int .i64 (j : Int) ∧ Hid (Aft W bb ba D Ag g (old.kOut (ys.take j) g) wx ws')) (fun v14 _ => m - (intOf v14).toNat)
          case atStart => exact ⟨0, ws, Nat.zero_le _, rfl, H0⟩
          case round =>
            obtain ⟨j, ws2, hj, rfl, HA⟩ := hrel
            by_cases hlt2 : j < m
            · obtain ⟨z, hz⟩ : ∃ z, ys[j]? = some z := ⟨_, List.getElem?_eq_getElem (by rw [HL'.out]; exact hlt2)⟩
              obtain ⟨b, o, rfl, hb, hc0⟩ := cell_of_rd HR1.out hz
              have hltJ : (j : Int) < (m : Int) := by omega
              have hc1 : wr.cell? ⟨b, o + j, none⟩ = some (.int .i64 z) := (HA.out.below.cell (p := ⟨b, _, none⟩) hb).trans hc0
              have CS := Lib.hid (set_all wr bb ws2 HA.out.bits z false)
              have HTK := Lib.hid (take_snoc hz)
              clear hz hc0 hb
              go_wp2_with fail
              refine CS.out.mono ?_
              rintro e w3 ⟨⟨x, rfl⟩, hB3, ht3⟩
              have H3 : Hid (Aft W bb ba D Ag g (old.kOut (ys.take (j + 1)) g) w3 (putZ ws2 z false)) := by
                rw [HTK.out]
                exact HA.out.turned ht3 hB3 (in_out HA.out.mem)
              clear hc1 CS hB3 ht3 HA
              go_wp2_with fail
              go_roundw
              case rel => exact ⟨j + 1, _, by omega, by go_num, H3⟩
              case measure => simp [intOf]; omega
            · have hltJ : ¬ (j : Int) < (m : Int) := by omega
              have hjm : j = m := by omega
              have HA2 : Hid (Aft W bb ba D Ag g (old.kOut ys g) wr ws2) := by
                have := HA.out
                rw [hjm, ← HL'.out, List.take_length] at this
                exact this
              have hle : popTo ws2 1024 = (old.srt (old.kOut ys g)).length := same_len (same_of HA2.out.mem)
              have CC := Lib.hid (count_any wr bb ws2 HA2.out.bits)
              rw [hle] at CC
              have CM := Lib.hid (iminus_any Ag A' cg c' _ g.length m g ys wr rfl HL'.out (by omega) (by omega) (Nat.le_refl wr.heap.size) (HA2.out.rd.more HA2.out.size) ((HR1.out.below HA2.out.below (Nat.le_refl _)).more HA2.out.below.size))
              have HKS := Lib.hid (kOut_self ys g)
              clear HA hle hjm
              generalize old.kOut ys g = X at *
              go_wp2_with fail
              refine CC.out.mono ?_
              rintro e w3 ⟨rfl, rfl⟩
              go_wp2_with fail
              refine CM.out.mono ?_
              rintro e w4 ⟨A4, c4, rfl, h41, h42, h43, h44⟩
              have H4 := Lib.hid (HA2.out.below_ h44)
              clear CC CM h43 h44 HA2
              go_wp2_with fail
              have H5 : Hid (Aft W bb ba D Ag g (old.kOut (g.take 0) X) w4 ws2) := by
                rw [List.take_zero, kOut_nil]
                exact H4.out
              clear H4
              go_loopw [17] (fun v17 wx => ∃ (k : Nat) (ws' : Nat → Nat), k ≤ g.length ∧ v17 = .int .i64 (k : Int) ∧ Hid (Aft W bb ba D Ag g (old.kOut (g.take k) X) wx ws')) (fun v17 _ => g.length - (intOf v17).toNat)
              case atStart => exact ⟨0, ws2, Nat.zero_le _, rfl, H5⟩
              case round =>
                obtain ⟨k, ws3, hk, rfl, HA⟩ := hrel
                by_cases hlt3 : k < g.length
                · obtain ⟨z, hz⟩ : ∃ z, g[k]? = some z := ⟨_, List.getElem?_eq_getElem hlt3⟩
                  obtain ⟨b, o, rfl, hb, hc1⟩ := cell_of_rd HA.out.rd hz
                  have hltK : (k : Int) < (g.length : Int) := by omega
                  have CS := Lib.hid (set_all wr bb ws3 HA.out.bits z false)
                  have HTK := Lib.hid (take_snoc hz)
                  clear hz hb
                  go_wp2_with fail
                  refine CS.out.mono ?_
                  rintro e w5 ⟨⟨x, rfl⟩, hB5, ht5⟩
                  have H6 : Hid (Aft W bb ba D (some ⟨b, o, none⟩) g (old.kOut (g.take (k + 1)) X) w5 (putZ ws3 z false)) := by
                    rw [HTK.out]
                    exact HA.out.turned ht5 hB5 (in_out HA.out.mem)
                  clear hc1 CS hB5 ht5 HA
                  go_wp2_with fail
                  go_roundw
                  case rel => exact ⟨k + 1, _, by omega, by go_num, H6⟩
                  case measure => simp [intOf]; omega
                · have hltK : ¬ (k : Int) < (g.length : Int) := by omega
                  have hkm : k = g.length := by omega
                  have HA6 : Hid (Aft W bb ba D Ag g [] wr ws3) := by
                    have := HA.out
                    rw [hkm, List.take_length, HKS.out] at this
                    exact this
                  have hle : popTo ws3 1024 = 0 := by rw [same_len (same_of HA6.out.mem), srt_nil]; rfl
                  have CC := Lib.hid (count_any wr bb ws3 HA6.out.bits)
                  rw [hle] at CC
                  have HF := Lib.hid (show _ ∧ _ from ⟨HA6.out.defs, HA6.out.fin⟩)
                  clear HA HA6 hle hkm
                  go_wp2_with (go_at_call 11; refine CC.out.mono ?_; rintro e w6 ⟨rfl, rfl⟩)
                  obtain ⟨hK1, hb1⟩ := HF.out
                  refine ⟨by simp, .inl ⟨_, _, rfl, run_takeDeferred hK1, ?_⟩⟩
                  refine ⟨.bool true, ?_, rfl, hb1⟩
                  simp [results, Tryd.f4, go_sem]
theorem idsSets_tabled {W : World} (hL : laidMetH Tryd.prog Rows.idsSetsUptoRow.laid W) : Tabled W := by
  rw [MakeChecks.laidMetH_plain _ _ _ (by kernel_rfl)] at hL
  exact tabled_of hL
theorem idsSets_law {H : Type} {enc : TypeId × Value → H} (W : World) {v0 v1 : Value} {d0 d1 : DataW H} (h0 : In enc Tryd.prog W 28 v0 d0) (h1 : In enc Tryd.prog W 28 v1 d1)
    (hL : laidMetH Tryd.prog Rows.idsSetsUptoRow.laid W) (hk : Rows.uptoBulkAll [d0, d1] ≤ 1048576) : Calls Tryd.prog 4 #[v0, v1] W (TrueBelow W) := idsSets_walk W h0 h1 (idsSets_tabled hL) hk
end Go.Proofs.YtfnfiaonaeopkaaDoor
