/- Parts of the proof. -/
import Derived.Test.YtdhgiammfpjniaaGreatDoorZrbf
namespace Go.Proofs.YtdhgiammfpjniaaGreatDoor.Ev
set_option linter.unusedSimpArgs false
set_option linter.unusedVariables false
open Go.RowKit
set_option maxHeartbeats 8000000 in
set_option maxRecDepth 1000000 in
theorem aoQp (ls : List ByteArray) (hl : ls.length ≤ 4194304) (deep n : Nat) (hd : deep ≤ 4194304) (A : Option Addr) (c : Nat) (w : World) (hn : n ≤ ls.length) (hR : RowW w A ls) (h40 : (atS ls n).data.toList = [40]) (IH : aeQe ls deep) (first : Dep) (n1 : Nat) (hrd : readR (wl ls) deep (n + 1) = some (first, n1)) (hk1 : (atS ls n1).data.toList = [119, 105, 116, 104]) :
 Calls Tryz.prog 191 #[.slice A ls.length c, .int .i64 (n : Int), .int .i64 ((deep : Int) + 1)] w (GotR w (nodeR (readR (wl ls) deep) (wl ls) n)) := by
 obtain ⟨RES, hRES⟩ : ∃ RES, Hid (RES = nodeR (readR (wl ls) deep) (wl ls) n) := ⟨_, rfl⟩
 rw [← hRES.out]
 have hlt0 : n < ls.length := at_lt (by rw [h40]; decide)
 have hW : atS ls n = ⟨#[40]⟩ := aaQx h40
 have hb1 : Below w.heap.size w (w.alloc (.cells #[.int .i64 0, .string ⟨#[]⟩, .int .i64 0, .string ⟨#[]⟩, .slice none 0 0] 39)) := (Below.refl _ _).alloc (Nat.le_refl _) _
 have C0 := hQQ (aaQl ls A c n (w.alloc (.cells #[.int .i64 0, .string ⟨#[]⟩, .int .i64 0, .string ⟨#[]⟩, .slice none 0 0] 39)) (hR.below hb1) (by omega))
 rw [hW] at C0
 have CI := hQQ (IH (n + 1) A c (w.alloc (.cells #[.int .i64 0, .string ⟨#[]⟩, .int .i64 0, .string ⟨#[]⟩, .slice none 0 0] 39)) (by omega) (hR.below hb1))
 rw [show ((n + 1 : Nat) : Int) = (n : Int) + 1 by omega] at CI
 have HR := hQQ hR
 have HIH := hQQ IH
 have hdp : ¬ (deep : Int) + 1 ≤ 0 := by omega
 rw [hrd] at CI
 obtain ⟨hn11, hn12⟩ := abQv hrd
 have hat1 : atW (wl ls) n1 = wWith := by rw [← atS_w]; exact hk1
 have HRes1 : Hid (RES = acQd (readR (wl ls) deep) (wl ls) wWith (loopR (readR (wl ls) deep) (wl ls) wWith (ls.length + 1) [first] n1)) := by
  show _ = _
  rw [hRES.out, acQg hrd (by rw [hat1]; decide), hat1, afQ3]
 have hW1 : atS ls n1 = ⟨#[119, 105, 116, 104]⟩ := aaQx hk1
 have hn10 : ¬ (n1 : Int) < 0 := by omega
 obtain ⟨i0, z0, hi0, hz0⟩ := aaQ7
 have hi := hQQ hi0
 have HZ := hQQ hz0
 clear hi0 hz0 hRES hR IH h40 hW hb1 hrd hat1 hk1
 go_enter Tryz.func191, Tryz.ntmps191
 go_wp2_with fail
 with_reducible refine C0.out.mono ?_
 rintro e w' ⟨rfl, rfl⟩
 clear C0
 go_wp2_with fail
 with_reducible refine CI.out.mono ?_
 rintro e w2 hG
 obtain ⟨hb2, Af, cf, S, rfl, hLf, hCf, hSf⟩ := hG.yes
 have hbx : Below w2.heap.size w2 ((w2.alloc (.cells (rowD first (.slice Af first.args.length cf)) 39)).alloc (.cells (rowD first (.slice Af first.args.length cf)) 39)) := ((Below.refl _ _).alloc (Nat.le_refl _) _).alloc (by simp) _
 have hstx := StayS.below' (S := S) hbx
 have H0 : Hid (NSt (w.alloc (.cells #[.int .i64 0, .string ⟨#[]⟩, .int .i64 0, .string ⟨#[]⟩, .slice none 0 0] 39)) (((w2.alloc (.cells (rowD first (.slice Af first.args.length cf)) 39)).alloc (.cells (rowD first (.slice Af first.args.length cf)) 39)).alloc (.cells #[.int .i64 5, .string ⟨#[]⟩, .int .i64 0, .string ⟨#[]⟩, .slice (some ⟨w2.heap.size + 1, 0, none⟩) 1 1] 39)) (w2.heap.size + 1 + 1) 5 [(first, .slice Af first.args.length cf)] (.slice (some ⟨w2.heap.size + 1, 0, none⟩) 1 1) S) := by
  have h := NSt.first (k := 5) (w0 := w.alloc (.cells #[.int .i64 0, .string ⟨#[]⟩, .int .i64 0, .string ⟨#[]⟩, .slice none 0 0] 39)) (bs := w2.heap.size + 1) (hb2.trans (hbx.mono hb2.size)) (hLf.stay (fun _ h => h) hstx) (hCf.stay hstx) hSf (Blk.new' (by simp)) (by have := hb2.size; omega) (fun h => by
   obtain ⟨cs, hc⟩ := hCf _ h
   have := hc.lt
   omega)
  rw [show ((w2.alloc (.cells (rowD first (.slice Af first.args.length cf)) 39)).alloc (.cells (rowD first (.slice Af first.args.length cf)) 39)).heap.size = w2.heap.size + 1 + 1 by simp] at h
  exact h
 have hb5 : ∀ cs, Below w.heap.size w (((w2.alloc (.cells (rowD first (.slice Af first.args.length cf)) 39)).alloc (.cells (rowD first (.slice Af first.args.length cf)) 39)).alloc (.cells cs 39)) := fun cs => by
  have h1 : Below w.heap.size w w2 := ((Below.refl w.heap.size w).alloc (Nat.le_refl _) _).trans (hb2.mono (by simp))
  have h2 := h1.size
  exact (h1.trans (hbx.mono h2)).alloc (by simp; omega) _
 have C1 := hQQ (aaQl ls A c n1 (((w2.alloc (.cells (rowD first (.slice Af first.args.length cf)) 39)).alloc (.cells (rowD first (.slice Af first.args.length cf)) 39)).alloc (.cells #[.int .i64 0, .string ⟨#[]⟩, .int .i64 0, .string ⟨#[]⟩, .slice (some ⟨w2.heap.size + 1, 0, none⟩) 1 1] 39)) (HR.out.below (hb5 _)) (by omega))
 rw [hW1] at C1
 clear hb2 hLf hCf hSf hbx hstx hb5 CI hG hW1
 unfold rowD at C1 H0 ⊢
 go_wp2_with fail
 with_reducible refine C1.out.mono ?_
 rintro e w' ⟨rfl, rfl⟩
 clear C1
 go_wp2_with fail
 go_loopw [1] (fun v1 wx => ∃ (n' : Nat) (r : Rows5) (v : Value) (Sr : Nat → Prop) (f : Nat), v1 = .int .i64 (n' : Int) ∧ Hid (NSt (w.alloc (.cells #[.int .i64 0, .string ⟨#[]⟩, .int .i64 0, .string ⟨#[]⟩, .slice none 0 0] 39)) wx (w2.heap.size + 1 + 1) 5 r v Sr) ∧ Hid (RES = acQd (readR (wl ls) deep) (wl ls) wWith (loopR (readR (wl ls) deep) (wl ls) wWith f (r.map Prod.fst) n')) ∧ n' ≤ ls.length + 2 ∧ r.length ≤ n' ∧ ls.length < f + n' ∧ 1 ≤ r.length) (fun v1 _ => ls.length + 3 - (intOf v1).toNat)
 case atStart => exact ⟨n1, _, _, S, ls.length + 1, rfl, H0, HRes1, hn12, by simp; omega, by omega, by simp⟩
 case round =>
  clear H0 HRes1
  obtain ⟨n', r, v, Sr, f, rfl, HN, HRes, hn', hr', hf', hr1⟩ := hrel
  obtain ⟨Av, cv, rfl, hcv1, hcv2⟩ := aaQc HN.out.own
  unfold maxLen at hcv2
  obtain ⟨X, HX⟩ : ∃ X, Hid (X = atS ls n') := ⟨_, rfl⟩
  by_cases hk : X.data.toList = [119, 105, 116, 104]
  ·
   have hat : atW (wl ls) n' = wWith := by rw [← atS_w, ← HX.out]; exact hk
   have hlt : n' < ls.length := at_lt (by rw [← HX.out, hk]; decide)
   obtain ⟨f', rfl⟩ : ∃ f', f = f' + 1 := ⟨f - 1, by omega⟩
   have CA := hQQ (aaQl ls A c n' wr (HR.out.below HN.out.bw) (by omega))
   rw [← HX.out] at CA
   obtain rfl := aaQx hk
   clear hk HX
   have CR := hQQ (HIH.out (n' + 1) A c wr (by omega) (HR.out.below HN.out.bw))
   rw [show ((n' + 1 : Nat) : Int) = (n' : Int) + 1 by omega] at CR
   cases hrx : readR (wl ls) deep (n' + 1) with
   | none =>
     rw [hrx] at CR
     have HRN : Hid (RES = none) := HRes.out.trans (by rw [acQs hat (by rintro ⟨h | h, _⟩ <;> revert h <;> decide) hrx]; rfl)
     have hbw := hQQ HN.out.bw
     have hbk := hQQ (abQh HN.out)
     have hltw := hbk.out.lt
     clear HRes HN hrx hat
     go_wp2_with fail
     with_reducible refine CA.out.mono ?_
     rintro e wq ⟨rfl, rfl⟩
     clear CA
     go_wp2_with fail
     with_reducible refine CR.out.mono ?_
     rintro e w3 hG3
     obtain ⟨hb3, rfl⟩ := hG3.no
     have hz0 := aaQz (hbw.out.trans (hb3.mono hbw.out.size))
     have hz1 := hz0.alloc (o := .cells #[.int .i64 0, .string ⟨#[]⟩, .int .i64 0, .string ⟨#[]⟩, .slice none 0 0] 39) hz0.size
     have HP : Hid (GotR w RES zeroE ((five w3 w.heap.size zeroD (.slice none 0 0)).alloc (.cells #[.int .i64 0, .string ⟨#[]⟩, .int .i64 0, .string ⟨#[]⟩, .slice none 0 0] 39))) := ⟨hz1, .inl ⟨HRN.out, rfl⟩⟩
     have HBk : Hid (Blk w3 w.heap.size 39 #[.int .i64 0, .string ⟨#[]⟩, .int .i64 0, .string ⟨#[]⟩, .slice none 0 0]) := hbk.out.below hb3 hltw
     have zc0 := HBk.out.cell 0
     have zc1 := HBk.out.cell 1
     have zc2 := HBk.out.cell 2
     have zc3 := HBk.out.cell 3
     have zc4 := HBk.out.cell 4
     have fzc0 := HBk.out.free 0
     have fzc1 := HBk.out.free 1
     have fzc2 := HBk.out.free 2
     have fzc3 := HBk.out.free 3
     have fzc4 := HBk.out.free 4
     simp at zc0 zc1 zc2 zc3 zc4
     have HL : Hid _ := load5 ((aaQt HBk.out zeroD (.slice none 0 0)).alloc (.cells #[.int .i64 0, .string ⟨#[]⟩, .int .i64 0, .string ⟨#[]⟩, .slice none 0 0] 39))
     clear HBk hz0 hz1
     unfold five zeroD at HP HL
     dsimp only [Dep.kind, Dep.name, Dep.op, Dep.evr] at HP HL
     unfold zeroE at HP
     have hltz : w.heap.size < w3.heap.size := by have := hb3.size; omega
     clear CR hG3 hb3 hbw hbk HRN
     go_wp2_with fail
     refine bodyPost_ret (v := .tuple #[.agg #[.int .i64 0, .string ⟨#[]⟩, .int .i64 0, .string ⟨#[]⟩, .slice none 0 0], .int .i64 (-1)]) ?_ rfl HP.out
     exact aaQe rfl _ rfl rfl HL.out
   | some q =>
     obtain ⟨x, nx⟩ := q
     rw [hrx] at CR
     obtain ⟨hnx1, hnx2⟩ := abQv hrx
     have HRs2 := hQQ (HRes.out.trans (by rw [acQt hat (by rintro ⟨h | h, _⟩ <;> revert h <;> decide) hrx]))
     clear HRes hrx hat
     go_wp2_with fail
     with_reducible refine CA.out.mono ?_
     rintro e wq ⟨rfl, rfl⟩
     clear CA
     go_wp2_with fail
     with_reducible refine CR.out.mono ?_
     rintro e w3 hG3
     obtain ⟨hb3, Ax, cx, Sx, rfl, hL3, hC3, hS3⟩ := hG3.yes
     have hnx0 : ¬ (nx : Int) < 0 := by omega
     have HNx := hQQ (((HN.out.below_ hb3).alloc (.cells (rowD x (.slice Ax x.args.length cx)) 39)).alloc (.cells (rowD x (.slice Ax x.args.length cx)) 39))
     have hbx : Below w3.heap.size w3 ((w3.alloc (.cells (rowD x (.slice Ax x.args.length cx)) 39)).alloc (.cells (rowD x (.slice Ax x.args.length cx)) 39)) := ((Below.refl _ _).alloc (Nat.le_refl _) _).alloc (by simp) _
     have HPut : Hid (∀ w4 v4, w4.ownsRow (w.heap.size + 1) 39 5 v4 (r.length + 1) (cells5 r ++ [.int .i64 x.kind, .string x.name, .int .i64 x.op, .string x.evr, .slice Ax x.args.length cx]) → ((w3.alloc (.cells (rowD x (.slice Ax x.args.length cx)) 39)).alloc (.cells (rowD x (.slice Ax x.args.length cx)) 39)).grownBy w4 ((Value.slice Av r.length cv)).ownBlock → (v4.ownBlock = ((Value.slice Av r.length cv)).ownBlock ∨ v4.ownBlock = some ((w3.alloc (.cells (rowD x (.slice Ax x.args.length cx)) 39)).alloc (.cells (rowD x (.slice Ax x.args.length cx)) 39)).heap.size) →
      Hid (NSt (w.alloc (.cells #[.int .i64 0, .string ⟨#[]⟩, .int .i64 0, .string ⟨#[]⟩, .slice none 0 0] 39)) (w4.setCell ⟨w2.heap.size + 1 + 1, 4, none⟩ v4) (w2.heap.size + 1 + 1) 5 (r ++ [(x, .slice Ax x.args.length cx)]) v4 (fun b => Sr b ∨ Sx b)) ∧ Hid (w4.cell? ⟨w2.heap.size + 1 + 1, 4, none⟩ = some ((Value.slice Av r.length cv))) ∧ w4.frozen? ⟨w2.heap.size + 1 + 1, 4, none⟩ = false) := by
      intro w4 v4 hown hg hat
      have hown' : w4.ownsRow (w.alloc (.cells #[.int .i64 0, .string ⟨#[]⟩, .int .i64 0, .string ⟨#[]⟩, .slice none 0 0] 39)).heap.size 39 5 v4 (r.length + 1) (cells5 r ++ [.int .i64 x.kind, .string x.name, .int .i64 x.op, .string x.evr, .slice Ax x.args.length cx]) := by
       rw [show (w.alloc (.cells #[.int .i64 0, .string ⟨#[]⟩, .int .i64 0, .string ⟨#[]⟩, .slice none 0 0] 39)).heap.size = w.heap.size + 1 by simp]; exact hown
      have hfar : ∀ b, Sx b → (w.alloc (.cells #[.int .i64 0, .string ⟨#[]⟩, .int .i64 0, .string ⟨#[]⟩, .slice none 0 0] 39)).heap.size ≤ b ∧ b ≠ w2.heap.size + 1 + 1 ∧ ((Value.slice Av r.length cv)).ownBlock ≠ some b := fun b hb => by
       have h1 := hS3 b hb
       have h2 := HN.out.blk.lt
       have h3 := HN.out.below.size
       refine ⟨by omega, by omega, fun e => ?_⟩
       have h4 := (HN.out.own.lt b e).2
       omega
      have hst := StayS.below' (S := Sx) hbx
      have hbdk := HNx.out.blk.turned (F := ((Value.slice Av r.length cv)).ownBlock.toList) ((Turned.refl _ _).grown hg fun k hk => .inl (by simp [hk])) (fun hm => HNx.out.apart (by simpa using hm))
      exact ⟨HNx.out.put (hL3.stay (fun _ h => h) hst) (hC3.stay hst) hfar hown' hg hat, hQQ (by have := hbdk.cell 4; simpa using this), hbdk.free 4⟩
     have HOwn : Hid (((w3.alloc (.cells (rowD x (.slice Ax x.args.length cx)) 39)).alloc (.cells (rowD x (.slice Ax x.args.length cx)) 39)).ownsRow (w.heap.size + 1) 39 5 ((Value.slice Av r.length cv)) r.length (cells5 r)) := by
      have := HNx.out.own
      rw [show (w.alloc (.cells #[.int .i64 0, .string ⟨#[]⟩, .int .i64 0, .string ⟨#[]⟩, .slice none 0 0] 39)).heap.size = w.heap.size + 1 by simp] at this
      exact this
     have HGe : Hid (w.heap.size + 1 ≤ w3.heap.size) := by
      have h3 := (HN.out.below_ hb3).below.size
      simp at h3
      exact h3
     have hbk3 := ((HN.out.below_ hb3).blk)
     have px4 := hbk3.cell 4
     have plt := hbk3.lt
     simp at px4
     unfold rowD at HPut HOwn
     clear hbk3 HNx hbx hL3 hC3 hS3 hb3
     clear CR hG3 HN
     unfold rowD
     go_wp2_with (at_builtin; refine wpList_append_own_at _ rfl (.tmp 117) (.tmp 119) 35 rfl (w.heap.size + 1) 39 i0 z0 5 72 Tryz.underlying35 hi.out HZ.out.1 HZ.out.2.2.1 HZ.out.2.2.2 HZ.out.2.1 (by decide) (Value.slice Av r.length cv) r.length (cells5 r) rfl HOwn.out ⟨w3.heap.size + 1, 0, none⟩ 1 1 [.int .i64 x.kind, .string x.name, .int .i64 x.op, .string x.evr, .slice Ax x.args.length cx] rfl rfl (adQi (by simp)) (by intro u hu; simp at hu; rcases hu with rfl | rfl | rfl | rfl | rfl <;> rfl) (by unfold maxLen; omega) (by omega) (by have := HGe.out; simp; omega) ?_; intro v4 w4 hown4 hg4 hnil4 hat4; obtain ⟨A4, c4, rfl, _, _⟩ := aaQc hown4; obtain ⟨HN4, hb4, hf4⟩ := HPut.out w4 _ hown4 hg4 hat4; have hb40 := hb4.out; clear hown4 hg4 hnil4 hat4 hb4)
     go_roundw
     case rel =>
      refine ⟨nx, _, _, _, f', rfl, HN4, ?_, hnx2, by simp; omega, by omega, by simp⟩
      have := HRs2.out
      show _ = _
      rw [this, List.map_append]
      rfl
     case measure => simp [intOf]; omega
  ·
   obtain ⟨nk1, nk2⟩ := isnt2 hk
   have nk3 := aaQr hk
   have hnat : atW (wl ls) n' ≠ wWith := by rw [← atS_w, ← HX.out]; exact hk
   have HRes0 := hQQ (HRes.out.trans (by rw [adQf hnat]))
   have CA := hQQ (aaQl ls A c n' wr (HR.out.below HN.out.bw) (by omega))
   rw [← HX.out] at CA
   clear hk hnat HRes
   have HRes := hQQ (HRes0.out.trans (abQ5 (fun h => absurd h.1 (by decide))))
   clear HRes0
   go_wp2_with fail
   with_reducible refine CA.out.mono ?_
   rintro e wq ⟨rfl, rfl⟩
   clear CA
   have CC := hQQ (aaQl ls A c n' wr (HR.out.below HN.out.bw) (by omega))
   rw [← HX.out] at CC
   by_cases hcl : X.data.toList = [41]
   ·obtain rfl := aaQx hcl
    have HRS : Hid (RES = some (node 5 ((r).map Prod.fst), n' + 1)) := HRes.out.trans (by
     unfold abQo
     rw [if_pos (by rw [← atS_w, ← HX.out])]
     rfl)
    obtain ⟨Ay, cy, hv, hp⟩ := aeQl HN.out HRS.out
    have HP := hQQ hp
    have HBk := hQQ (abQh HN.out)
    have zc0 := HBk.out.cell 0
    have zc1 := HBk.out.cell 1
    have zc2 := HBk.out.cell 2
    have zc3 := HBk.out.cell 3
    have zc4 := HBk.out.cell 4
    have fzc0 := HBk.out.free 0
    have fzc1 := HBk.out.free 1
    have fzc2 := HBk.out.free 2
    have fzc3 := HBk.out.free 3
    have fzc4 := HBk.out.free 4
    simp at zc0 zc1 zc2 zc3 zc4
    have HBd := hQQ HN.out.blk
    have dc0 := HBd.out.cell 0
    have dc1 := HBd.out.cell 1
    have dc2 := HBd.out.cell 2
    have dc3 := HBd.out.cell 3
    have dc4 := HBd.out.cell 4
    simp at dc0 dc1 dc2 dc3 dc4
    rw [hv] at dc4
    have HL : Hid _ := load5 (aaQt HBk.out (node 5 ((r).map Prod.fst)) (.slice Ay (r).length cy))
    clear hp hv HBk HBd hcl HRS HRes HX
    unfold five node at HP HL
    dsimp only [Dep.kind, Dep.name, Dep.op, Dep.evr] at HP HL
    go_wp2_with fail
    with_reducible refine CC.out.mono ?_
    rintro e wq ⟨rfl, rfl⟩
    clear CC
    go_wp2_with fail
    refine bodyPost_ret (v := .tuple #[.agg #[.int .i64 5, .string ⟨#[]⟩, .int .i64 0, .string ⟨#[]⟩, .slice Ay (r).length cy], .int .i64 ((n' + 1 : Nat) : Int)]) ?_ rfl HP.out
    exact aaQe rfl _ rfl (by go_num) HL.out
   ·obtain ⟨cl1, cl2⟩ := isnt2 hcl
    have cl3 := aaQr hcl
    have HRN : Hid (RES = none) := HRes.out.trans (by
     unfold abQo
     rw [if_neg (by rw [← atS_w, ← HX.out]; exact hcl)])
    have hz0 := aaQz (HN.out.bw)
    have HP : Hid (GotR w RES zeroE (five wr w.heap.size zeroD (.slice none 0 0))) := ⟨hz0, .inl ⟨HRN.out, rfl⟩⟩
    have HBk : Hid (Blk wr w.heap.size 39 #[.int .i64 0, .string ⟨#[]⟩, .int .i64 0, .string ⟨#[]⟩, .slice none 0 0]) := abQh HN.out
    have zc0 := HBk.out.cell 0
    have zc1 := HBk.out.cell 1
    have zc2 := HBk.out.cell 2
    have zc3 := HBk.out.cell 3
    have zc4 := HBk.out.cell 4
    have fzc0 := HBk.out.free 0
    have fzc1 := HBk.out.free 1
    have fzc2 := HBk.out.free 2
    have fzc3 := HBk.out.free 3
    have fzc4 := HBk.out.free 4
    simp at zc0 zc1 zc2 zc3 zc4
    have HL : Hid _ := load5 (aaQt HBk.out zeroD (.slice none 0 0))
    clear HBk hz0
    unfold five zeroD at HP HL
    dsimp only [Dep.kind, Dep.name, Dep.op, Dep.evr] at HP HL
    unfold zeroE at HP
    clear hcl HRN HRes HX HN
    go_wp2_with fail
    with_reducible refine CC.out.mono ?_
    rintro e wq ⟨rfl, rfl⟩
    clear CC
    go_wp2_with fail
    refine bodyPost_ret (v := .tuple #[.agg #[.int .i64 0, .string ⟨#[]⟩, .int .i64 0, .string ⟨#[]⟩, .slice none 0 0], .int .i64 (-1)]) ?_ rfl HP.out
    exact aaQe rfl _ rfl rfl HL.out
end Go.Proofs.YtdhgiammfpjniaaGreatDoor.Ev
