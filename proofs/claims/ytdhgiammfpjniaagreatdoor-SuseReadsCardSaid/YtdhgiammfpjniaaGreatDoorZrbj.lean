/- Parts of the proof. -/
import Derived.Test.YtdhgiammfpjniaaGreatDoorZrbf
import Derived.Test.YtdhgiammfpjniaaGreatDoorZrbg
import Derived.Test.YtdhgiammfpjniaaGreatDoorZrbh
import Derived.Test.YtdhgiammfpjniaaGreatDoorZrbi
namespace Go.Proofs.YtdhgiammfpjniaaGreatDoor.Ev
set_option linter.unusedSimpArgs false
set_option linter.unusedVariables false
open Go.RowKit
set_option maxHeartbeats 8000000 in
set_option maxRecDepth 1000000 in
theorem aoQo (ls : List ByteArray) (hl : ls.length ≤ 4194304) (deep n : Nat) (hd : deep ≤ 4194304) (A : Option Addr) (c : Nat) (w : World) (hn : n ≤ ls.length) (hR : RowW w A ls) (h40 : (atS ls n).data.toList = [40]) (IH : aeQe ls deep) (first : Dep) (n1 : Nat) (hrd : readR (wl ls) deep (n + 1) = some (first, n1)) (hk1 : (atS ls n1).data.toList = [119, 105, 116, 104, 111, 117, 116]) :
 Calls Tryz.prog 191 #[.slice A ls.length c, .int .i64 (n : Int), .int .i64 ((deep : Int) + 1)] w (GotR w (nodeR (readR (wl ls) deep) (wl ls) n)) := by
 obtain ⟨RES, hRES⟩ : ∃ RES, Hid (RES = nodeR (readR (wl ls) deep) (wl ls) n) := ⟨_, rfl⟩
 rw [← hRES.out]
 have hlt0 : n < ls.length := at_lt (by rw [h40]; decide)
 have hW : atS ls n = ⟨#[40]⟩ := aaQx h40
 have hb1 : Below w.heap.size w (w.alloc (.cells #[.int .i64 0, .string ⟨#[]⟩, .int .i64 0, .string ⟨#[]⟩, .slice none 0 0] 39)) := (Below.refl _ _).alloc (Nat.le_refl _) _
 have C0 := hQQ (aaQl ls A c n (w.alloc (.cells #[.int .i64 0, .string ⟨#[]⟩, .int .i64 0, .string ⟨#[]⟩, .slice none 0 0] 39)) (hR.below hb1) (by omega))
 rw [hW] at C0
 have CI := hQQ (IH (n + 1) A c (w.alloc (.cells #[.int .i64 0, .string ⟨#[]⟩, .int .i64 0, .string ⟨#[]⟩, .slice none 0 0] 39)) (by omega) (hR.below hb1))
 rw [show ((n + 1 : Nat) : Int) = (n : Int) + 1 by omega] at CI
 have HR := hQQ hR
 have HIH := hQQ IH
 have hdp : ¬ (deep : Int) + 1 ≤ 0 := by omega
 rw [hrd] at CI
 obtain ⟨hn11, hn12⟩ := abQv hrd
 have hat1 : atW (wl ls) n1 = aaQ1 := by rw [← atS_w]; exact hk1
 have HRes1 : Hid (RES = acQd (readR (wl ls) deep) (wl ls) aaQ1 (loopR (readR (wl ls) deep) (wl ls) aaQ1 (ls.length + 1) [first] n1)) := by
  show _ = _
  rw [hRES.out, acQg hrd (by rw [hat1]; decide), hat1, afQ3]
 have hW1 : atS ls n1 = ⟨#[119, 105, 116, 104, 111, 117, 116]⟩ := aaQx hk1
 have hn10 : ¬ (n1 : Int) < 0 := by omega
 obtain ⟨i0, z0, hi0, hz0⟩ := aaQ7
 have hi := hQQ hi0
 have HZ := hQQ hz0
 clear hi0 hz0 hRES hR IH h40 hW hb1 hrd hat1 hk1
 go_enter Tryz.func191, Tryz.ntmps191
 go_wp2_with fail
 with_reducible refine C0.out.mono ?_
 rintro e w' ⟨rfl, rfl⟩
 clear C0
 go_wp2_with fail
 with_reducible refine CI.out.mono ?_
 rintro e w2 hG
 obtain ⟨hb2, Af, cf, S, rfl, hLf, hCf, hSf⟩ := hG.yes
 have hbx : Below w2.heap.size w2 ((w2.alloc (.cells (rowD first (.slice Af first.args.length cf)) 39)).alloc (.cells (rowD first (.slice Af first.args.length cf)) 39)) := ((Below.refl _ _).alloc (Nat.le_refl _) _).alloc (by simp) _
 have hstx := StayS.below' (S := S) hbx
 have H0 : Hid (NSt (w.alloc (.cells #[.int .i64 0, .string ⟨#[]⟩, .int .i64 0, .string ⟨#[]⟩, .slice none 0 0] 39)) (((w2.alloc (.cells (rowD first (.slice Af first.args.length cf)) 39)).alloc (.cells (rowD first (.slice Af first.args.length cf)) 39)).alloc (.cells #[.int .i64 6, .string ⟨#[]⟩, .int .i64 0, .string ⟨#[]⟩, .slice (some ⟨w2.heap.size + 1, 0, none⟩) 1 1] 39)) (w2.heap.size + 1 + 1) 6 [(first, .slice Af first.args.length cf)] (.slice (some ⟨w2.heap.size + 1, 0, none⟩) 1 1) S) := by
  have h := NSt.first (k := 6) (w0 := w.alloc (.cells #[.int .i64 0, .string ⟨#[]⟩, .int .i64 0, .string ⟨#[]⟩, .slice none 0 0] 39)) (bs := w2.heap.size + 1) (hb2.trans (hbx.mono hb2.size)) (hLf.stay (fun _ h => h) hstx) (hCf.stay hstx) hSf (Blk.new' (by simp)) (by have := hb2.size; omega) (fun h => by
   obtain ⟨cs, hc⟩ := hCf _ h
   have := hc.lt
   omega)
  rw [show ((w2.alloc (.cells (rowD first (.slice Af first.args.length cf)) 39)).alloc (.cells (rowD first (.slice Af first.args.length cf)) 39)).heap.size = w2.heap.size + 1 + 1 by simp] at h
  exact h
 have hb5 : ∀ cs, Below w.heap.size w (((w2.alloc (.cells (rowD first (.slice Af first.args.length cf)) 39)).alloc (.cells (rowD first (.slice Af first.args.length cf)) 39)).alloc (.cells cs 39)) := fun cs => by
  have h1 : Below w.heap.size w w2 := ((Below.refl w.heap.size w).alloc (Nat.le_refl _) _).trans (hb2.mono (by simp))
  have h2 := h1.size
  exact (h1.trans (hbx.mono h2)).alloc (by simp; omega) _
 have C1 := hQQ (aaQl ls A c n1 (((w2.alloc (.cells (rowD first (.slice Af first.args.length cf)) 39)).alloc (.cells (rowD first (.slice Af first.args.length cf)) 39)).alloc (.cells #[.int .i64 0, .string ⟨#[]⟩, .int .i64 0, .string ⟨#[]⟩, .slice (some ⟨w2.heap.size + 1, 0, none⟩) 1 1] 39)) (HR.out.below (hb5 _)) (by omega))
 rw [hW1] at C1
 clear hb2 hLf hCf hSf hbx hstx hb5 CI hG hW1
 unfold rowD at C1 H0 ⊢
 go_wp2_with fail
 with_reducible refine C1.out.mono ?_
 rintro e w' ⟨rfl, rfl⟩
 clear C1
 go_wp2_with fail
 go_loopw [1] (fun v1 wx => ∃ (n' : Nat) (r : Rows5) (v : Value) (Sr : Nat → Prop) (f : Nat), v1 = .int .i64 (n' : Int) ∧ Hid (NSt (w.alloc (.cells #[.int .i64 0, .string ⟨#[]⟩, .int .i64 0, .string ⟨#[]⟩, .slice none 0 0] 39)) wx (w2.heap.size + 1 + 1) 6 r v Sr) ∧ Hid (RES = acQd (readR (wl ls) deep) (wl ls) aaQ1 (loopR (readR (wl ls) deep) (wl ls) aaQ1 f (r.map Prod.fst) n')) ∧ n' ≤ ls.length + 2 ∧ r.length ≤ n' ∧ ls.length < f + n' ∧ 1 ≤ r.length) (fun v1 _ => ls.length + 3 - (intOf v1).toNat)
 case atStart => exact ⟨n1, _, _, S, ls.length + 1, rfl, H0, HRes1, hn12, by simp; omega, by omega, by simp⟩
 case round =>
  clear H0 HRes1
  obtain ⟨n', r, v, Sr, f, rfl, HN, HRes, hn', hr', hf', hr1⟩ := hrel
  obtain ⟨Av, cv, rfl, hcv1, hcv2⟩ := aaQc HN.out.own
  unfold maxLen at hcv2
  obtain ⟨X, HX⟩ : ∃ X, Hid (X = atS ls n') := ⟨_, rfl⟩
  by_cases hk : X.data.toList = [119, 105, 116, 104, 111, 117, 116]
  ·
   have hat : atW (wl ls) n' = aaQ1 := by rw [← atS_w, ← HX.out]; exact hk
   have hlt : n' < ls.length := at_lt (by rw [← HX.out, hk]; decide)
   obtain ⟨f', rfl⟩ : ∃ f', f = f' + 1 := ⟨f - 1, by omega⟩
   have CA := hQQ (aaQl ls A c n' wr (HR.out.below HN.out.bw) (by omega))
   rw [← HX.out] at CA
   obtain rfl := aaQx hk
   clear hk HX
   by_cases hmany : 1 < r.length
   ·have HRN : Hid (RES = none) := HRes.out.trans (by rw [afQy hat ⟨by decide, by simpa using hmany⟩]; rfl)
    have hmI : (1 : Int) < (r.length : Int) := by omega
    have hbd4 := HN.out.blk.cell 4
    simp at hbd4
    have hz0 := aaQz (HN.out.bw)
    have HP : Hid (GotR w RES zeroE (five wr w.heap.size zeroD (.slice none 0 0))) := ⟨hz0, .inl ⟨HRN.out, rfl⟩⟩
    have HBk : Hid (Blk wr w.heap.size 39 #[.int .i64 0, .string ⟨#[]⟩, .int .i64 0, .string ⟨#[]⟩, .slice none 0 0]) := abQh HN.out
    have zc0 := HBk.out.cell 0
    have zc1 := HBk.out.cell 1
    have zc2 := HBk.out.cell 2
    have zc3 := HBk.out.cell 3
    have zc4 := HBk.out.cell 4
    have fzc0 := HBk.out.free 0
    have fzc1 := HBk.out.free 1
    have fzc2 := HBk.out.free 2
    have fzc3 := HBk.out.free 3
    have fzc4 := HBk.out.free 4
    simp at zc0 zc1 zc2 zc3 zc4
    have HL : Hid _ := load5 (aaQt HBk.out zeroD (.slice none 0 0))
    clear HBk hz0
    unfold five zeroD at HP HL
    dsimp only [Dep.kind, Dep.name, Dep.op, Dep.evr] at HP HL
    unfold zeroE at HP
    clear HRN HRes HN hat
    go_wp2_with fail
    with_reducible refine CA.out.mono ?_
    rintro e wq ⟨rfl, rfl⟩
    clear CA
    go_wp2_with fail
    refine bodyPost_ret (v := .tuple #[.agg #[.int .i64 0, .string ⟨#[]⟩, .int .i64 0, .string ⟨#[]⟩, .slice none 0 0], .int .i64 (-1)]) ?_ rfl HP.out
    exact aaQe rfl _ rfl rfl HL.out
   ·have hmI : ¬ (1 : Int) < (r.length : Int) := by omega
    have CR := hQQ (HIH.out (n' + 1) A c wr (by omega) (HR.out.below HN.out.bw))
    rw [show ((n' + 1 : Nat) : Int) = (n' : Int) + 1 by omega] at CR
    cases hrx : readR (wl ls) deep (n' + 1) with
    | none =>
      rw [hrx] at CR
      have HRN : Hid (RES = none) := HRes.out.trans (by rw [acQs hat (fun h => hmany (by simpa using h.2)) hrx]; rfl)
      have hbw := hQQ HN.out.bw
      have hbk := hQQ (abQh HN.out)
      have hltw := hbk.out.lt
      have hbd4 := HN.out.blk.cell 4
      simp at hbd4
      clear HRes HN hrx hat
      go_wp2_with fail
      with_reducible refine CA.out.mono ?_
      rintro e wq ⟨rfl, rfl⟩
      clear CA
      go_wp2_with fail
      with_reducible refine CR.out.mono ?_
      rintro e w3 hG3
      obtain ⟨hb3, rfl⟩ := hG3.no
      have hz0 := aaQz (hbw.out.trans (hb3.mono hbw.out.size))
      have hz1 := hz0.alloc (o := .cells #[.int .i64 0, .string ⟨#[]⟩, .int .i64 0, .string ⟨#[]⟩, .slice none 0 0] 39) hz0.size
      have HP : Hid (GotR w RES zeroE ((five w3 w.heap.size zeroD (.slice none 0 0)).alloc (.cells #[.int .i64 0, .string ⟨#[]⟩, .int .i64 0, .string ⟨#[]⟩, .slice none 0 0] 39))) := ⟨hz1, .inl ⟨HRN.out, rfl⟩⟩
      have HBk : Hid (Blk w3 w.heap.size 39 #[.int .i64 0, .string ⟨#[]⟩, .int .i64 0, .string ⟨#[]⟩, .slice none 0 0]) := hbk.out.below hb3 hltw
      have zc0 := HBk.out.cell 0
      have zc1 := HBk.out.cell 1
      have zc2 := HBk.out.cell 2
      have zc3 := HBk.out.cell 3
      have zc4 := HBk.out.cell 4
      have fzc0 := HBk.out.free 0
      have fzc1 := HBk.out.free 1
      have fzc2 := HBk.out.free 2
      have fzc3 := HBk.out.free 3
      have fzc4 := HBk.out.free 4
      simp at zc0 zc1 zc2 zc3 zc4
      have HL : Hid _ := load5 ((aaQt HBk.out zeroD (.slice none 0 0)).alloc (.cells #[.int .i64 0, .string ⟨#[]⟩, .int .i64 0, .string ⟨#[]⟩, .slice none 0 0] 39))
      clear HBk hz0 hz1
      unfold five zeroD at HP HL
      dsimp only [Dep.kind, Dep.name, Dep.op, Dep.evr] at HP HL
      unfold zeroE at HP
      have hltz : w.heap.size < w3.heap.size := by have := hb3.size; omega
      clear CR hG3 hb3 hbw hbk HRN
      go_wp2_with fail
      refine bodyPost_ret (v := .tuple #[.agg #[.int .i64 0, .string ⟨#[]⟩, .int .i64 0, .string ⟨#[]⟩, .slice none 0 0], .int .i64 (-1)]) ?_ rfl HP.out
      exact aaQe rfl _ rfl rfl HL.out
    | some q =>
      obtain ⟨x, nx⟩ := q
      rw [hrx] at CR
      obtain ⟨hnx1, hnx2⟩ := abQv hrx
      have HRs2 := hQQ (HRes.out.trans (by rw [acQt hat (fun h => hmany (by simpa using h.2)) hrx]))
      have hbd4 := HN.out.blk.cell 4
      simp at hbd4
      clear HRes hrx hat
      go_wp2_with fail
      with_reducible refine CA.out.mono ?_
      rintro e wq ⟨rfl, rfl⟩
      clear CA
      go_wp2_with fail
      with_reducible refine CR.out.mono ?_
      rintro e w3 hG3
      obtain ⟨hb3, Ax, cx, Sx, rfl, hL3, hC3, hS3⟩ := hG3.yes
      have hnx0 : ¬ (nx : Int) < 0 := by omega
      have HNx := hQQ (((HN.out.below_ hb3).alloc (.cells (rowD x (.slice Ax x.args.length cx)) 39)).alloc (.cells (rowD x (.slice Ax x.args.length cx)) 39))
      have hbx : Below w3.heap.size w3 ((w3.alloc (.cells (rowD x (.slice Ax x.args.length cx)) 39)).alloc (.cells (rowD x (.slice Ax x.args.length cx)) 39)) := ((Below.refl _ _).alloc (Nat.le_refl _) _).alloc (by simp) _
      have HPut : Hid (∀ w4 v4, w4.ownsRow (w.heap.size + 1) 39 5 v4 (r.length + 1) (cells5 r ++ [.int .i64 x.kind, .string x.name, .int .i64 x.op, .string x.evr, .slice Ax x.args.length cx]) → ((w3.alloc (.cells (rowD x (.slice Ax x.args.length cx)) 39)).alloc (.cells (rowD x (.slice Ax x.args.length cx)) 39)).grownBy w4 ((Value.slice Av r.length cv)).ownBlock → (v4.ownBlock = ((Value.slice Av r.length cv)).ownBlock ∨ v4.ownBlock = some ((w3.alloc (.cells (rowD x (.slice Ax x.args.length cx)) 39)).alloc (.cells (rowD x (.slice Ax x.args.length cx)) 39)).heap.size) →
       Hid (NSt (w.alloc (.cells #[.int .i64 0, .string ⟨#[]⟩, .int .i64 0, .string ⟨#[]⟩, .slice none 0 0] 39)) (w4.setCell ⟨w2.heap.size + 1 + 1, 4, none⟩ v4) (w2.heap.size + 1 + 1) 6 (r ++ [(x, .slice Ax x.args.length cx)]) v4 (fun b => Sr b ∨ Sx b)) ∧ Hid (w4.cell? ⟨w2.heap.size + 1 + 1, 4, none⟩ = some ((Value.slice Av r.length cv))) ∧ w4.frozen? ⟨w2.heap.size + 1 + 1, 4, none⟩ = false) := by
       intro w4 v4 hown hg hat
       have hown' : w4.ownsRow (w.alloc (.cells #[.int .i64 0, .string ⟨#[]⟩, .int .i64 0, .string ⟨#[]⟩, .slice none 0 0] 39)).heap.size 39 5 v4 (r.length + 1) (cells5 r ++ [.int .i64 x.kind, .string x.name, .int .i64 x.op, .string x.evr, .slice Ax x.args.length cx]) := by
        rw [show (w.alloc (.cells #[.int .i64 0, .string ⟨#[]⟩, .int .i64 0, .string ⟨#[]⟩, .slice none 0 0] 39)).heap.size = w.heap.size + 1 by simp]; exact hown
       have hfar : ∀ b, Sx b → (w.alloc (.cells #[.int .i64 0, .string ⟨#[]⟩, .int .i64 0, .string ⟨#[]⟩, .slice none 0 0] 39)).heap.size ≤ b ∧ b ≠ w2.heap.size + 1 + 1 ∧ ((Value.slice Av r.length cv)).ownBlock ≠ some b := fun b hb => by
        have h1 := hS3 b hb
        have h2 := HN.out.blk.lt
        have h3 := HN.out.below.size
        refine ⟨by omega, by omega, fun e => ?_⟩
        have h4 := (HN.out.own.lt b e).2
        omega
       have hst := StayS.below' (S := Sx) hbx
       have hbdk := HNx.out.blk.turned (F := ((Value.slice Av r.length cv)).ownBlock.toList) ((Turned.refl _ _).grown hg fun k hk => .inl (by simp [hk])) (fun hm => HNx.out.apart (by simpa using hm))
       exact ⟨HNx.out.put (hL3.stay (fun _ h => h) hst) (hC3.stay hst) hfar hown' hg hat, hQQ (by have := hbdk.cell 4; simpa using this), hbdk.free 4⟩
      have HOwn : Hid (((w3.alloc (.cells (rowD x (.slice Ax x.args.length cx)) 39)).alloc (.cells (rowD x (.slice Ax x.args.length cx)) 39)).ownsRow (w.heap.size + 1) 39 5 ((Value.slice Av r.length cv)) r.length (cells5 r)) := by
       have := HNx.out.own
       rw [show (w.alloc (.cells #[.int .i64 0, .string ⟨#[]⟩, .int .i64 0, .string ⟨#[]⟩, .slice none 0 0] 39)).heap.size = w.heap.size + 1 by simp] at this
       exact this
      have HGe : Hid (w.heap.size + 1 ≤ w3.heap.size) := by
       have h3 := (HN.out.below_ hb3).below.size
       simp at h3
       exact h3
      have hbk3 := ((HN.out.below_ hb3).blk)
      have px4 := hbk3.cell 4
      have plt := hbk3.lt
      simp at px4
      unfold rowD at HPut HOwn
      clear hbk3 HNx hbx hL3 hC3 hS3 hb3
      clear CR hG3 HN
      unfold rowD
      go_wp2_with (at_builtin; refine wpList_append_own_at _ rfl (.tmp 117) (.tmp 119) 35 rfl (w.heap.size + 1) 39 i0 z0 5 72 Tryz.underlying35 hi.out HZ.out.1 HZ.out.2.2.1 HZ.out.2.2.2 HZ.out.2.1 (by decide) (Value.slice Av r.length cv) r.length (cells5 r) rfl HOwn.out ⟨w3.heap.size + 1, 0, none⟩ 1 1 [.int .i64 x.kind, .string x.name, .int .i64 x.op, .string x.evr, .slice Ax x.args.length cx] rfl rfl (adQi (by simp)) (by intro u hu; simp at hu; rcases hu with rfl | rfl | rfl | rfl | rfl <;> rfl) (by unfold maxLen; omega) (by omega) (by have := HGe.out; simp; omega) ?_; intro v4 w4 hown4 hg4 hnil4 hat4; obtain ⟨A4, c4, rfl, _, _⟩ := aaQc hown4; obtain ⟨HN4, hb4, hf4⟩ := HPut.out w4 _ hown4 hg4 hat4; have hb40 := hb4.out; clear hown4 hg4 hnil4 hat4 hb4)
      go_roundw
      case rel =>
       refine ⟨nx, _, _, _, f', rfl, HN4, ?_, hnx2, by simp; omega, by omega, by simp⟩
       have := HRs2.out
       show _ = _
       rw [this, List.map_append]
       rfl
      case measure => simp [intOf]; omega
  ·
   obtain ⟨nk1, nk2⟩ := isnt2 hk
   have nk3 := aaQr hk
   have hnat : atW (wl ls) n' ≠ aaQ1 := by rw [← atS_w, ← HX.out]; exact hk
   have HRes0 := hQQ (HRes.out.trans (by rw [adQf hnat]))
   have CA := hQQ (aaQl ls A c n' wr (HR.out.below HN.out.bw) (by omega))
   rw [← HX.out] at CA
   clear hk hnat HRes
   have HRes := hQQ (HRes0.out.trans (abQ5 (fun h => absurd h.1 (by decide))))
   clear HRes0
   go_wp2_with fail
   with_reducible refine CA.out.mono ?_
   rintro e wq ⟨rfl, rfl⟩
   clear CA
   have CC := hQQ (aaQl ls A c n' wr (HR.out.below HN.out.bw) (by omega))
   rw [← HX.out] at CC
   by_cases hcl : X.data.toList = [41]
   ·obtain rfl := aaQx hcl
    have HRS : Hid (RES = some (node 6 ((r).map Prod.fst), n' + 1)) := HRes.out.trans (by
     unfold abQo
     rw [if_pos (by rw [← atS_w, ← HX.out])]
     rfl)
    obtain ⟨Ay, cy, hv, hp⟩ := aeQl HN.out HRS.out
    have HP := hQQ hp
    have HBk := hQQ (abQh HN.out)
    have zc0 := HBk.out.cell 0
    have zc1 := HBk.out.cell 1
    have zc2 := HBk.out.cell 2
    have zc3 := HBk.out.cell 3
    have zc4 := HBk.out.cell 4
    have fzc0 := HBk.out.free 0
    have fzc1 := HBk.out.free 1
    have fzc2 := HBk.out.free 2
    have fzc3 := HBk.out.free 3
    have fzc4 := HBk.out.free 4
    simp at zc0 zc1 zc2 zc3 zc4
    have HBd := hQQ HN.out.blk
    have dc0 := HBd.out.cell 0
    have dc1 := HBd.out.cell 1
    have dc2 := HBd.out.cell 2
    have dc3 := HBd.out.cell 3
    have dc4 := HBd.out.cell 4
    simp at dc0 dc1 dc2 dc3 dc4
    rw [hv] at dc4
    have HL : Hid _ := load5 (aaQt HBk.out (node 6 ((r).map Prod.fst)) (.slice Ay (r).length cy))
    clear hp hv HBk HBd hcl HRS HRes HX
    unfold five node at HP HL
    dsimp only [Dep.kind, Dep.name, Dep.op, Dep.evr] at HP HL
    go_wp2_with fail
    with_reducible refine CC.out.mono ?_
    rintro e wq ⟨rfl, rfl⟩
    clear CC
    go_wp2_with fail
    refine bodyPost_ret (v := .tuple #[.agg #[.int .i64 6, .string ⟨#[]⟩, .int .i64 0, .string ⟨#[]⟩, .slice Ay (r).length cy], .int .i64 ((n' + 1 : Nat) : Int)]) ?_ rfl HP.out
    exact aaQe rfl _ rfl (by go_num) HL.out
   ·obtain ⟨cl1, cl2⟩ := isnt2 hcl
    have cl3 := aaQr hcl
    have HRN : Hid (RES = none) := HRes.out.trans (by
     unfold abQo
     rw [if_neg (by rw [← atS_w, ← HX.out]; exact hcl)])
    have hz0 := aaQz (HN.out.bw)
    have HP : Hid (GotR w RES zeroE (five wr w.heap.size zeroD (.slice none 0 0))) := ⟨hz0, .inl ⟨HRN.out, rfl⟩⟩
    have HBk : Hid (Blk wr w.heap.size 39 #[.int .i64 0, .string ⟨#[]⟩, .int .i64 0, .string ⟨#[]⟩, .slice none 0 0]) := abQh HN.out
    have zc0 := HBk.out.cell 0
    have zc1 := HBk.out.cell 1
    have zc2 := HBk.out.cell 2
    have zc3 := HBk.out.cell 3
    have zc4 := HBk.out.cell 4
    have fzc0 := HBk.out.free 0
    have fzc1 := HBk.out.free 1
    have fzc2 := HBk.out.free 2
    have fzc3 := HBk.out.free 3
    have fzc4 := HBk.out.free 4
    simp at zc0 zc1 zc2 zc3 zc4
    have HL : Hid _ := load5 (aaQt HBk.out zeroD (.slice none 0 0))
    clear HBk hz0
    unfold five zeroD at HP HL
    dsimp only [Dep.kind, Dep.name, Dep.op, Dep.evr] at HP HL
    unfold zeroE at HP
    clear hcl HRN HRes HX HN
    go_wp2_with fail
    with_reducible refine CC.out.mono ?_
    rintro e wq ⟨rfl, rfl⟩
    clear CC
    go_wp2_with fail
    refine bodyPost_ret (v := .tuple #[.agg #[.int .i64 0, .string ⟨#[]⟩, .int .i64 0, .string ⟨#[]⟩, .slice none 0 0], .int .i64 (-1)]) ?_ rfl HP.out
    exact aaQe rfl _ rfl rfl HL.out
set_option maxHeartbeats 8000000 in
set_option maxRecDepth 1000000 in
theorem akQj (ls : List ByteArray) (hl : ls.length ≤ 4194304) (deep n : Nat) (hd : deep ≤ 4194304) (A : Option Addr) (c : Nat) (w : World) (hn : n ≤ ls.length) (hR : RowW w A ls) (h40 : (atS ls n).data.toList = [40]) (IH : aeQe ls deep) (hrd : readR (wl ls) deep (n + 1) = none) :
 Calls Tryz.prog 191 #[.slice A ls.length c, .int .i64 (n : Int), .int .i64 ((deep : Int) + 1)] w (GotR w (nodeR (readR (wl ls) deep) (wl ls) n)) := by
 obtain ⟨RES, hRES⟩ : ∃ RES, Hid (RES = nodeR (readR (wl ls) deep) (wl ls) n) := ⟨_, rfl⟩
 rw [← hRES.out]
 have hlt0 : n < ls.length := at_lt (by rw [h40]; decide)
 have hW : atS ls n = ⟨#[40]⟩ := aaQx h40
 have hb1 : Below w.heap.size w (w.alloc (.cells #[.int .i64 0, .string ⟨#[]⟩, .int .i64 0, .string ⟨#[]⟩, .slice none 0 0] 39)) := (Below.refl _ _).alloc (Nat.le_refl _) _
 have C0 := hQQ (aaQl ls A c n (w.alloc (.cells #[.int .i64 0, .string ⟨#[]⟩, .int .i64 0, .string ⟨#[]⟩, .slice none 0 0] 39)) (hR.below hb1) (by omega))
 rw [hW] at C0
 have CI := hQQ (IH (n + 1) A c (w.alloc (.cells #[.int .i64 0, .string ⟨#[]⟩, .int .i64 0, .string ⟨#[]⟩, .slice none 0 0] 39)) (by omega) (hR.below hb1))
 rw [show ((n + 1 : Nat) : Int) = (n : Int) + 1 by omega] at CI
 have HR := hQQ hR
 have HIH := hQQ IH
 have hdp : ¬ (deep : Int) + 1 ≤ 0 := by omega
 rw [hrd] at CI
 have HRN : Hid (RES = none) := hRES.out.trans (afQx hrd)
 clear hRES hR IH h40 hW hb1 hrd
 go_enter Tryz.func191, Tryz.ntmps191
 go_wp2_with fail
 with_reducible refine C0.out.mono ?_
 rintro e w' ⟨rfl, rfl⟩
 clear C0
 go_wp2_with fail
 with_reducible refine CI.out.mono ?_
 rintro e w2 hG
 obtain ⟨hb2, rfl⟩ := hG.no
 have hb02 : Below w.heap.size w w2 := ((Below.refl w.heap.size w).alloc (Nat.le_refl _) _).trans (hb2.mono (by simp))
 have hbk2 : Blk w2 w.heap.size 39 #[.int .i64 0, .string ⟨#[]⟩, .int .i64 0, .string ⟨#[]⟩, .slice none 0 0] := (Blk.new w _ _).below hb2 (by simp)
 have hz0 := aaQz (hb02)
 have hz1 := hz0.alloc (o := .cells #[.int .i64 0, .string ⟨#[]⟩, .int .i64 0, .string ⟨#[]⟩, .slice none 0 0] 39) hz0.size
 have HP : Hid (GotR w RES zeroE ((five w2 w.heap.size zeroD (.slice none 0 0)).alloc (.cells #[.int .i64 0, .string ⟨#[]⟩, .int .i64 0, .string ⟨#[]⟩, .slice none 0 0] 39))) := ⟨hz1, .inl ⟨HRN.out, rfl⟩⟩
 have HBk : Hid (Blk w2 w.heap.size 39 #[.int .i64 0, .string ⟨#[]⟩, .int .i64 0, .string ⟨#[]⟩, .slice none 0 0]) := hbk2
 have zc0 := HBk.out.cell 0
 have zc1 := HBk.out.cell 1
 have zc2 := HBk.out.cell 2
 have zc3 := HBk.out.cell 3
 have zc4 := HBk.out.cell 4
 have fzc0 := HBk.out.free 0
 have fzc1 := HBk.out.free 1
 have fzc2 := HBk.out.free 2
 have fzc3 := HBk.out.free 3
 have fzc4 := HBk.out.free 4
 simp at zc0 zc1 zc2 zc3 zc4
 have HL : Hid _ := load5 ((aaQt HBk.out zeroD (.slice none 0 0)).alloc (.cells #[.int .i64 0, .string ⟨#[]⟩, .int .i64 0, .string ⟨#[]⟩, .slice none 0 0] 39))
 clear HBk hz0 hz1
 unfold five zeroD at HP HL
 dsimp only [Dep.kind, Dep.name, Dep.op, Dep.evr] at HP HL
 unfold zeroE at HP
 have hltz : w.heap.size < w2.heap.size := hbk2.lt
 clear hb2 hb02 hbk2 CI hG HRN
 go_wp2_with fail
 refine bodyPost_ret (v := .tuple #[.agg #[.int .i64 0, .string ⟨#[]⟩, .int .i64 0, .string ⟨#[]⟩, .slice none 0 0], .int .i64 (-1)]) ?_ rfl HP.out
 exact aaQe rfl _ rfl rfl HL.out
set_option maxHeartbeats 8000000 in
set_option maxRecDepth 1000000 in
theorem amQf (ls : List ByteArray) (hl : ls.length ≤ 4194304) (deep n : Nat) (hd : deep ≤ 4194304) (A : Option Addr) (c : Nat) (w : World) (hn : n ≤ ls.length) (hR : RowW w A ls) (h40 : (atS ls n).data.toList = [40]) (IH : aeQe ls deep) (first : Dep) (n1 : Nat) (hrd : readR (wl ls) deep (n + 1) = some (first, n1)) (hk1 : numW (atW (wl ls) n1) = 0) :
 Calls Tryz.prog 191 #[.slice A ls.length c, .int .i64 (n : Int), .int .i64 ((deep : Int) + 1)] w (GotR w (nodeR (readR (wl ls) deep) (wl ls) n)) := by
 obtain ⟨RES, hRES⟩ : ∃ RES, Hid (RES = nodeR (readR (wl ls) deep) (wl ls) n) := ⟨_, rfl⟩
 rw [← hRES.out]
 have hlt0 : n < ls.length := at_lt (by rw [h40]; decide)
 have hW : atS ls n = ⟨#[40]⟩ := aaQx h40
 have hb1 : Below w.heap.size w (w.alloc (.cells #[.int .i64 0, .string ⟨#[]⟩, .int .i64 0, .string ⟨#[]⟩, .slice none 0 0] 39)) := (Below.refl _ _).alloc (Nat.le_refl _) _
 have C0 := hQQ (aaQl ls A c n (w.alloc (.cells #[.int .i64 0, .string ⟨#[]⟩, .int .i64 0, .string ⟨#[]⟩, .slice none 0 0] 39)) (hR.below hb1) (by omega))
 rw [hW] at C0
 have CI := hQQ (IH (n + 1) A c (w.alloc (.cells #[.int .i64 0, .string ⟨#[]⟩, .int .i64 0, .string ⟨#[]⟩, .slice none 0 0] 39)) (by omega) (hR.below hb1))
 rw [show ((n + 1 : Nat) : Int) = (n : Int) + 1 by omega] at CI
 have HR := hQQ hR
 have HIH := hQQ IH
 have hdp : ¬ (deep : Int) + 1 ≤ 0 := by omega
 rw [hrd] at CI
 obtain ⟨hn11, hn12⟩ := abQv hrd
 have HRN : Hid (RES = none) := hRES.out.trans (ahQe hrd hk1)
 have hn10 : ¬ (n1 : Int) < 0 := by omega
 obtain ⟨X, HX⟩ : ∃ X, Hid (X = atS ls n1) := ⟨_, rfl⟩
 have hx : numW X.data.toList = 0 := by rw [HX.out, atS_w]; exact hk1
 have hx2 : X.data.toList ≠ [97, 110, 100] := fun e => by rw [e] at hx; revert hx; decide
 have hx3 : X.data.toList ≠ [111, 114] := fun e => by rw [e] at hx; revert hx; decide
 have hx4 : X.data.toList ≠ [105, 102] := fun e => by rw [e] at hx; revert hx; decide
 have hx5 : X.data.toList ≠ [119, 105, 116, 104] := fun e => by rw [e] at hx; revert hx; decide
 have hx6 : X.data.toList ≠ [119, 105, 116, 104, 111, 117, 116] := fun e => by rw [e] at hx; revert hx; decide
 have HX2 := hQQ hx2
 have HX3 := hQQ hx3
 have HX4 := hQQ hx4
 have HX5 := hQQ hx5
 have HX6 := hQQ hx6
 clear hRES hR IH h40 hW hb1 hrd hk1 hx hx2 hx3 hx4 hx5 hx6
 go_enter Tryz.func191, Tryz.ntmps191
 go_wp2_with fail
 with_reducible refine C0.out.mono ?_
 rintro e w' ⟨rfl, rfl⟩
 clear C0
 go_wp2_with fail
 with_reducible refine CI.out.mono ?_
 rintro e w2 hG
 obtain ⟨hb2, Af, cf, S, rfl, hLf, hCf, hSf⟩ := hG.yes
 have hb02 : Below w.heap.size w w2 := ((Below.refl w.heap.size w).alloc (Nat.le_refl _) _).trans (hb2.mono (by simp))
 have hbx : Below w2.heap.size w2 ((w2.alloc (.cells (rowD first (.slice Af first.args.length cf)) 39)).alloc (.cells (rowD first (.slice Af first.args.length cf)) 39)) := ((Below.refl _ _).alloc (Nat.le_refl _) _).alloc (by simp) _
 have hb5 : Below w.heap.size w (((w2.alloc (.cells (rowD first (.slice Af first.args.length cf)) 39)).alloc (.cells (rowD first (.slice Af first.args.length cf)) 39)).alloc (.cells #[.int .i64 0, .string ⟨#[]⟩, .int .i64 0, .string ⟨#[]⟩, .slice (some ⟨w2.heap.size + 1, 0, none⟩) 1 1] 39)) := (hb02.trans (hbx.mono hb02.size)).alloc (by have := hb02.size; simp; omega) _
 have C1 := hQQ (aaQl ls A c n1 _ (HR.out.below hb5) (by omega))
 rw [← HX.out] at C1
 have HK2 : Hid (Blk w2 w.heap.size 39 #[.int .i64 0, .string ⟨#[]⟩, .int .i64 0, .string ⟨#[]⟩, .slice none 0 0]) := (Blk.new w _ _).below hb2 (by simp)
 have HB5 := hQQ hb5
 clear hb2 hb02 hbx hb5 hLf hCf hSf CI hG HX
 unfold rowD at C1 HB5 ⊢
 go_wp2_with fail
 with_reducible refine C1.out.mono ?_
 rintro e wq ⟨rfl, rfl⟩
 clear C1
 obtain ⟨a2, b2⟩ := isnt2 HX2.out
 obtain ⟨a3, b3⟩ := isnt2 HX3.out
 obtain ⟨a4, b4⟩ := isnt2 HX4.out
 obtain ⟨a5, b5⟩ := isnt2 HX5.out
 obtain ⟨a6, b6⟩ := isnt2 HX6.out
 go_upto_region 18 with fail
 have HKz : Hid (Blk (((w2.alloc (.cells #[.int .i64 first.kind, .string first.name, .int .i64 first.op, .string first.evr, .slice Af first.args.length cf] 39)).alloc (.cells #[.int .i64 first.kind, .string first.name, .int .i64 first.op, .string first.evr, .slice Af first.args.length cf] 39)).alloc (.cells #[.int .i64 0, .string ⟨#[]⟩, .int .i64 0, .string ⟨#[]⟩, .slice (some ⟨w2.heap.size + 1, 0, none⟩) 1 1] 39)) w.heap.size 39 #[.int .i64 0, .string ⟨#[]⟩, .int .i64 0, .string ⟨#[]⟩, .slice none 0 0]) := ((HK2.out.alloc _).alloc _).alloc _
 generalize World.alloc (World.alloc (World.alloc w2 _) _) _ = wz at HKz HB5 ⊢
 have hz0 := aaQz (HB5.out)
 have HP : Hid (GotR w RES zeroE (five wz w.heap.size zeroD (.slice none 0 0))) := ⟨hz0, .inl ⟨HRN.out, rfl⟩⟩
 have HBk : Hid (Blk wz w.heap.size 39 #[.int .i64 0, .string ⟨#[]⟩, .int .i64 0, .string ⟨#[]⟩, .slice none 0 0]) := HKz.out
 have zc0 := HBk.out.cell 0
 have zc1 := HBk.out.cell 1
 have zc2 := HBk.out.cell 2
 have zc3 := HBk.out.cell 3
 have zc4 := HBk.out.cell 4
 have fzc0 := HBk.out.free 0
 have fzc1 := HBk.out.free 1
 have fzc2 := HBk.out.free 2
 have fzc3 := HBk.out.free 3
 have fzc4 := HBk.out.free 4
 simp at zc0 zc1 zc2 zc3 zc4
 have HL : Hid _ := load5 (aaQt HBk.out zeroD (.slice none 0 0))
 clear HBk hz0
 unfold five zeroD at HP HL
 dsimp only [Dep.kind, Dep.name, Dep.op, Dep.evr] at HP HL
 unfold zeroE at HP
 clear HRN HK2 HB5 HKz
 go_wp2_with fail
 refine bodyPost_ret (v := .tuple #[.agg #[.int .i64 0, .string ⟨#[]⟩, .int .i64 0, .string ⟨#[]⟩, .slice none 0 0], .int .i64 (-1)]) ?_ rfl HP.out
 exact aaQe rfl _ rfl rfl HL.out
set_option maxHeartbeats 8000000 in
set_option maxRecDepth 1000000 in
theorem akQi (ls : List ByteArray) (hl : ls.length ≤ 4194304) (n : Nat) (A : Option Addr) (c : Nat) (w : World) (hR : RowW w A ls) (h40 : (atS ls n).data.toList = [40]) (hn : n ≤ ls.length) :
 Calls Tryz.prog 191 #[.slice A ls.length c, .int .i64 (n : Int), .int .i64 0] w (GotR w none) := by
 obtain ⟨RES, hRES⟩ : ∃ RES : Option (Dep × Nat), Hid (RES = none) := ⟨_, rfl⟩
 rw [← hRES.out]
 have HRN := hRES
 have hW : atS ls n = ⟨#[40]⟩ := aaQx h40
 have hb1 : Below w.heap.size w (w.alloc (.cells #[.int .i64 0, .string ⟨#[]⟩, .int .i64 0, .string ⟨#[]⟩, .slice none 0 0] 39)) := (Below.refl _ _).alloc (Nat.le_refl _) _
 have C0 := hQQ (aaQl ls A c n (w.alloc (.cells #[.int .i64 0, .string ⟨#[]⟩, .int .i64 0, .string ⟨#[]⟩, .slice none 0 0] 39)) (hR.below hb1) (by omega))
 rw [hW] at C0
 have HP : Hid (GotR w RES zeroE (w.alloc (.cells #[.int .i64 0, .string ⟨#[]⟩, .int .i64 0, .string ⟨#[]⟩, .slice none 0 0] 39))) := ⟨hb1, .inl ⟨HRN.out, rfl⟩⟩
 unfold zeroE at HP
 clear hRES HRN hR h40 hW hb1
 go_enter Tryz.func191, Tryz.ntmps191
 go_wp2_with fail
 with_reducible refine C0.out.mono ?_
 rintro e w' ⟨rfl, rfl⟩
 clear C0
 go_wp2_with fail
 refine bodyPost_ret (v := .tuple #[.agg #[.int .i64 0, .string ⟨#[]⟩, .int .i64 0, .string ⟨#[]⟩, .slice none 0 0], .int .i64 (-1)]) ?_ rfl HP.out
 exact aaQe rfl _ rfl rfl (load5 (Blk.new _ _ _))
theorem apQa {l : Wd} (h : numW l ≠ 0) : l = [97, 110, 100] ∨ l = [111, 114] ∨ l = [105, 102] ∨ l = [119, 105, 116, 104] ∨ l = [119, 105, 116, 104, 111, 117, 116] := by
 unfold numW at h
 by_cases h1 : l = wAnd
 ·exact .inl h1
 by_cases h2 : l = wOr
 ·exact .inr (.inl h2)
 by_cases h3 : l = wIf
 ·exact .inr (.inr (.inl h3))
 by_cases h4 : l = wWith
 ·exact .inr (.inr (.inr (.inl h4)))
 by_cases h5 : l = aaQ1
 ·exact .inr (.inr (.inr (.inr h5)))
 rw [if_neg h1, if_neg h2, if_neg h3, if_neg h4, if_neg h5] at h
 exact absurd rfl h
theorem agQ6 (ls : List ByteArray) (hl : ls.length ≤ 4194304) (hsz : ∀ y ∈ ls, y.size ≤ 4194304) : ∀ deep, deep ≤ 4194304 → aeQe ls deep
 | 0, _ => by
   intro n A c w hn hR
   by_cases h40 : (atS ls n).data.toList = [40]
   ·have e : readR (wl ls) 0 n = none := by unfold readR; rw [if_pos (by rw [← atS_w]; exact h40)]
    rw [e]
    exact akQi ls hl n A c w hR h40 hn
   ·have e : readR (wl ls) 0 n = leafR (wl ls) n := by unfold readR; rw [if_neg (by rw [← atS_w]; exact h40)]
    rw [e]
    exact afQ6 ls hl hsz 0 n A c w hn hR h40
 | deep + 1, hd => by
   have IH := agQ6 ls hl hsz deep (by omega)
   intro n A c w hn hR
   by_cases h40 : (atS ls n).data.toList = [40]
   ·have e : readR (wl ls) (deep + 1) n = nodeR (readR (wl ls) deep) (wl ls) n := by
     show (if atW (wl ls) n = [40] then nodeR (readR (wl ls) deep) (wl ls) n else leafR (wl ls) n) = _
     rw [if_pos (by rw [← atS_w]; exact h40)]
    rw [e, show ((deep + 1 : Nat) : Int) = (deep : Int) + 1 by omega]
    cases hrd : readR (wl ls) deep (n + 1) with
    | none => exact akQj ls hl deep n (by omega) A c w hn hR h40 IH hrd
    | some q =>
      obtain ⟨first, n1⟩ := q
      by_cases hk : numW (atW (wl ls) n1) = 0
      ·exact amQf ls hl deep n (by omega) A c w hn hR h40 IH first n1 hrd hk
      ·have hk' := apQa hk
       rw [← atS_w] at hk'
       rcases hk' with h | h | h | h | h
       ·exact aoQs ls hl deep n (by omega) A c w hn hR h40 IH first n1 hrd h
       ·exact aoQr ls hl deep n (by omega) A c w hn hR h40 IH first n1 hrd h
       ·exact aoQq ls hl deep n (by omega) A c w hn hR h40 IH first n1 hrd h
       ·exact aoQp ls hl deep n (by omega) A c w hn hR h40 IH first n1 hrd h
       ·exact aoQo ls hl deep n (by omega) A c w hn hR h40 IH first n1 hrd h
   ·have e : readR (wl ls) (deep + 1) n = leafR (wl ls) n := by
     show (if atW (wl ls) n = [40] then nodeR (readR (wl ls) deep) (wl ls) n else leafR (wl ls) n) = _
     rw [if_neg (by rw [← atS_w]; exact h40)]
    rw [e]
    exact afQ6 ls hl hsz (deep + 1) n A c w hn hR h40
end Go.Proofs.YtdhgiammfpjniaaGreatDoor.Ev
