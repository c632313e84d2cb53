/- No kind. Between arguments. A text is read word by word: the whole. -/
import Derived.Test.YtciogfpejenedaaGreatDoorDRead2
import Derived.Test.YtciogfpejenedaaGreatDoorDRead1
import Derived.Test.YtciogfpejenedaaGreatDoorDReadN
namespace Go.Proofs.YtciogfpejenedaaGreatDoor
set_option linter.unusedSimpArgs false
set_option linter.unusedVariables false
open Go.RowKit

set_option maxHeartbeats 800000 in
set_option maxRecDepth 1000000 in
theorem read_zero (text : ByteArray) (hs : text.size ≤ 4194304) (w0 : World) (TGT : Option Dep) (n : Nat) (S : Nat → Prop) (ob co g c4 : Nat) (L : List OItem) (ik : Int) (ir : Rows5) (d : Dep) (A : Option Addr) (c : Nat) (word rest : ByteArray) (U : Nat → Value) (w : World)
    (HR : Hid (RSt w0 w S (.slice (some ⟨ob, 0, none⟩) (L.length + 1) co) (L ++ [⟨ik, ir ++ [(d, .slice A d.args.length c)], .slice (some ⟨g, 0, none⟩) (ir.length + 1) c4⟩]) (rowD d (.slice A d.args.length c)))) (HKi : Hid (∀ it ∈ L, it.k = 0 ∨ (2 ≤ it.k ∧ it.k ≤ 6))) (HEm : Hid (word.data.toList = [] → rest.data.toList = [])) (HN : Hid (n = remB word rest))
    (HGo : Hid (TGT = none)) (HM : Hid (openM L + (1 + nodesA (ir.map Prod.fst)) + nodes d + remB word rest ≤ text.size))
    (hk : ik = 0) (K : Act → World → Prop) : rH.wp Tryz.prog (Exit.then K (jump2 (fun a' w' => ∃ m, m < n ∧ JA w0 text TGT m a' w') (fun a' w' => ∃ m, m < n ∧ JB w0 text TGT m a' w') (bodyPost Tryz.prog Tryz.f44 (ReadPost w0 text TGT)))) { tmps := #[.string text, U 1, .pointer (some ⟨w0.heap.size, 0, none⟩), .slice (some ⟨ob, 0, none⟩) (L.length + 1) co, .pointer (some ⟨w0.heap.size + 1, 0, none⟩), .string word, .string rest, .pointer (some ⟨ob, L.length * 5, none⟩), U 8, U 9, U 10, U 11, U 12, U 13, U 14, U 15, U 16, U 17, U 18, U 19, U 20, U 21, U 22, U 23, U 24, U 25, U 26, U 27, U 28, U 29, U 30, U 31, U 32, U 33, U 34, U 35, U 36, U 37, U 38, U 39, U 40, U 41, U 42, U 43, U 44, U 45, U 46, U 47, U 48, U 49, U 50, U 51, U 52, U 53, U 54, U 55, U 56, U 57, U 58, U 59, U 60, U 61, U 62, U 63, U 64, U 65, U 66, U 67, U 68, U 69, U 70, U 71, U 72, U 73, U 74, U 75, U 76, U 77, U 78, U 79, U 80, U 81, U 82, U 83, U 84, U 85, U 86, U 87, U 88, U 89, U 90, U 91, U 92, U 93, U 94, U 95, U 96, U 97, U 98, U 99, U 100, U 101, U 102, U 103, U 104, U 105, U 106, U 107, U 108, U 109, U 110, U 111, U 112, U 113, U 114, U 115, U 116, U 117, U 118, U 119, U 120, U 121, U 122, U 123, U 124, U 125, U 126, U 127, U 128], defers := [] } w := by
  have MN := Lib.hid must_no
  obtain ⟨i0, i1, i2, i3, i4, ifr, ic1, ic2⟩ := in_cells HR.out.own
  simp at i0 i1 i2 i3 i4
  clear ifr i1 i2 i3
  have HR1 : Hid (RSt w0 w.drew S (.slice (some ⟨ob, 0, none⟩) (L.length + 1) co) (L ++ [⟨ik, ir ++ [(d, .slice A d.args.length c)], .slice (some ⟨g, 0, none⟩) (ir.length + 1) c4⟩]) (rowD d (.slice A d.args.length c))) := HR.out.drew_ 1
  have HP : Hid (ReadPost w0 text TGT (gaveUp 50) w.drew) := by
    refine ⟨HR1.out.below, .inl ⟨?_, rfl⟩⟩
    exact HGo.out
  clear HR HR1
  have tk3 : (ik != 0) = false := by rw [hk]; rfl
  clear hk
  conv in rH => whnf
  refine wp_region_still_tail 19 (by kernel_rfl) (by kernel_rfl) ?_
  simp only [List.take_succ_cons, List.take_zero, List.drop_succ_cons, List.drop_zero]
  still_step
  still_step
  still_step
  still_step
  still_step
  with_reducible refine wpStill_step (fun K hK0 => ?_)
  have hK := Lib.hid hK0
  clear hK0
  go_simp
  with_reducible refine hK.out _ ?_
  clear hK K
  with_reducible refine wpStill_step (fun K hK0 => ?_)
  have hK := Lib.hid hK0
  clear hK0
  go_simp
  with_reducible refine hK.out _ ?_
  clear hK K
  with_reducible refine wpStill_step (fun K hK0 => ?_)
  have hK := Lib.hid hK0
  clear hK0
  go_simp
  with_reducible refine hK.out _ ?_
  clear hK K
  with_reducible refine wpStill_step (fun K hK0 => ?_)
  have hK := Lib.hid hK0
  clear hK0
  go_simp
  with_reducible refine hK.out _ ?_
  clear hK K
  with_reducible refine wpStill_step (fun K hK0 => ?_)
  have hK := Lib.hid hK0
  clear hK0
  go_simp
  with_reducible refine hK.out _ ?_
  clear hK K
  with_reducible refine wpStill_step (fun K hK0 => ?_)
  have hK := Lib.hid hK0
  clear hK0
  go_simp
  with_reducible refine hK.out _ ?_
  clear hK K
  with_reducible refine wpStill_step (fun K hK0 => ?_)
  have hK := Lib.hid hK0
  clear hK0
  go_simp
  with_reducible refine hK.out _ ?_
  clear hK K
  with_reducible refine wpStill_step (fun K hK0 => ?_)
  have hK := Lib.hid hK0
  clear hK0
  go_simp
  with_reducible refine hK.out _ ?_
  clear hK K
  with_reducible refine wpStill_step (fun K hK0 => ?_)
  have hK := Lib.hid hK0
  clear hK0
  go_simp
  with_reducible refine hK.out _ ?_
  clear hK K
  with_reducible refine wpStill_step (fun K hK0 => ?_)
  have hK := Lib.hid hK0
  clear hK0
  go_simp
  with_reducible refine hK.out _ ?_
  clear hK K
  with_reducible refine wpStill_step (fun K hK0 => ?_)
  have hK := Lib.hid hK0
  clear hK0
  go_simp
  with_reducible refine hK.out _ ?_
  clear hK K
  with_reducible refine wpStill_step (fun K hK0 => ?_)
  have hK := Lib.hid hK0
  clear hK0
  go_simp
  with_reducible refine hK.out _ ?_
  clear hK K
  with_reducible refine wpStill_step (fun K hK0 => ?_)
  have hK := Lib.hid hK0
  clear hK0
  go_simp
  with_reducible refine hK.out _ ?_
  clear hK K
  with_reducible refine wpStill_step (fun K hK0 => ?_)
  have hK := Lib.hid hK0
  clear hK0
  go_simp
  with_reducible refine hK.out _ ?_
  clear hK K
  refine wpStill_nil ?_
  change wpList _ _ _ _ _ w.drew
  generalize w.drew = W at HP ⊢
  clear i0 i4
  go_wp2_with fail
  refine (MN.out _).mono ?_
  rintro e w2 ⟨rfl, rfl⟩
  unfold gaveUp at HP ⊢
  go_wp2_with fail
  exact ⟨rfl, HP.out⟩
end Go.Proofs.YtciogfpejenedaaGreatDoor
namespace Go.Proofs.YtciogfpejenedaaGreatDoor
set_option linter.unusedSimpArgs false
set_option linter.unusedVariables false
open Go.RowKit

set_option maxHeartbeats 2000000 in
set_option maxRecDepth 1000000 in
/-- Its kind is known: one of the five. -/
theorem read_kind (text : ByteArray) (hs : text.size ≤ 4194304) (w0 : World) (TGT : Option Dep) (n : Nat) (S : Nat → Prop) (ob co g c4 : Nat) (L : List OItem) (ik : Int) (ir : Rows5) (d : Dep) (A : Option Addr) (c : Nat) (word rest : ByteArray) (U : Nat → Value) (w : World)
    (HR : Hid (RSt w0 w S (.slice (some ⟨ob, 0, none⟩) (L.length + 1) co) (L ++ [⟨ik, ir ++ [(d, .slice A d.args.length c)], .slice (some ⟨g, 0, none⟩) (ir.length + 1) c4⟩]) (rowD d (.slice A d.args.length c)))) (HKi : Hid (∀ it ∈ L, it.k = 0 ∨ (2 ≤ it.k ∧ it.k ≤ 6))) (HKk : Hid (ik = 0 ∨ (2 ≤ ik ∧ ik ≤ 6))) (HEm : Hid (word.data.toList = [] → rest.data.toList = [])) (HN : Hid (n = remB word rest))
    (HGo : Hid (TGT = readM ((ik, ir.map Prod.fst) :: stkOf L) (some d) (stream word.data.toList rest.data.toList))) (HM : Hid (openM L + (1 + nodesA (ir.map Prod.fst)) + nodes d + remB word rest ≤ text.size))
    (HD : Hid (∀ a w' k', (2 ≤ k' ∧ k' ≤ 6) → k' = (if ik = 0 then numW word.data.toList else ik) → ActR text w0.heap.size (w0.heap.size + 1) (.slice (some ⟨ob, 0, none⟩) (L.length + 1) co) word rest (.pointer (some ⟨ob, L.length * 5, none⟩)) a → RSt w0 w' S (.slice (some ⟨ob, 0, none⟩) (L.length + 1) co) (L ++ [⟨k', ir ++ [(d, .slice A d.args.length c)], .slice (some ⟨g, 0, none⟩) (ir.length + 1) c4⟩]) (rowD d (.slice A d.args.length c)) → ∀ K : Act → World → Prop, (∀ a w, rT.wp Tryz.prog (jump2 (fun a' w' => ∃ m, m < n ∧ JA w0 text TGT m a' w') (fun a' w' => ∃ m, m < n ∧ JB w0 text TGT m a' w') (bodyPost Tryz.prog Tryz.f44 (ReadPost w0 text TGT))) a w → K a w) → rH.wp Tryz.prog (Exit.then K (jump2 (fun a' w' => ∃ m, m < n ∧ JA w0 text TGT m a' w') (fun a' w' => ∃ m, m < n ∧ JB w0 text TGT m a' w') (bodyPost Tryz.prog Tryz.f44 (ReadPost w0 text TGT)))) a w'))
    (HZ : Hid (∀ a w', 0 = (if ik = 0 then numW word.data.toList else ik) → ActR text w0.heap.size (w0.heap.size + 1) (.slice (some ⟨ob, 0, none⟩) (L.length + 1) co) word rest (.pointer (some ⟨ob, L.length * 5, none⟩)) a → RSt w0 w' S (.slice (some ⟨ob, 0, none⟩) (L.length + 1) co) (L ++ [⟨0, ir ++ [(d, .slice A d.args.length c)], .slice (some ⟨g, 0, none⟩) (ir.length + 1) c4⟩]) (rowD d (.slice A d.args.length c)) → ∀ K : Act → World → Prop, rH.wp Tryz.prog (Exit.then K (jump2 (fun a' w' => ∃ m, m < n ∧ JA w0 text TGT m a' w') (fun a' w' => ∃ m, m < n ∧ JB w0 text TGT m a' w') (bodyPost Tryz.prog Tryz.f44 (ReadPost w0 text TGT)))) a w'))
    (h41 : word.data.toList ≠ [41]) : rC.wp Tryz.prog (jump2 (fun a' w' => ∃ m, m < n ∧ JA w0 text TGT m a' w') (fun a' w' => ∃ m, m < n ∧ JB w0 text TGT m a' w') (bodyPost Tryz.prog Tryz.f44 (ReadPost w0 text TGT))) { tmps := #[.string text, U 1, .pointer (some ⟨w0.heap.size, 0, none⟩), .slice (some ⟨ob, 0, none⟩) (L.length + 1) co, .pointer (some ⟨w0.heap.size + 1, 0, none⟩), .string word, .string rest, .pointer (some ⟨ob, L.length * 5, none⟩), U 8, U 9, U 10, U 11, U 12, U 13, U 14, U 15, U 16, U 17, U 18, U 19, U 20, U 21, U 22, U 23, U 24, U 25, U 26, U 27, U 28, U 29, U 30, U 31, U 32, U 33, U 34, U 35, U 36, U 37, U 38, U 39, U 40, U 41, U 42, U 43, U 44, U 45, U 46, U 47, U 48, U 49, U 50, U 51, U 52, U 53, U 54, U 55, U 56, U 57, U 58, U 59, U 60, U 61, U 62, U 63, U 64, U 65, U 66, U 67, U 68, U 69, U 70, U 71, U 72, U 73, U 74, U 75, U 76, U 77, U 78, U 79, U 80, U 81, U 82, U 83, U 84, U 85, U 86, U 87, U 88, U 89, U 90, U 91, U 92, U 93, U 94, U 95, U 96, U 97, U 98, U 99, U 100, U 101, U 102, U 103, U 104, U 105, U 106, U 107, U 108, U 109, U 110, U 111, U 112, U 113, U 114, U 115, U 116, U 117, U 118, U 119, U 120, U 121, U 122, U 123, U 124, U 125, U 126, U 127, U 128], defers := [] } w := by
  have NW := Lib.hid (fun s w => numWH s w)
  obtain ⟨i0, i1, i2, i3, i4, ifr, ic1, ic2⟩ := in_cells HR.out.own
  have if0 := ifr (L.length * 5)
  simp at i0 i1 i2 i3 i4
  clear ifr i1 i2 i3
  have t41 : (word.toList == [41]) = false := by have := str_isnt h41; simpa using this
  by_cases hz : ik = 0
  · subst hz
    have s0 := HR.out.tabs.words.cell 0
    have s1 := HR.out.tabs.words.cell 1
    have s2 := HR.out.tabs.words.cell 2
    have s3 := HR.out.tabs.words.cell 3
    have s4 := HR.out.tabs.words.cell 4
    have s5 := HR.out.tabs.words.cell 5
    have s6 := HR.out.tabs.words.cell 6
    have s7 := HR.out.tabs.words.cell 7
    simp at s0 s1 s2 s3 s4 s5 s6 s7
    conv in rC => whnf
    go_wp2_with fail
    refine (NW.out word _).mono ?_
    rintro e w6 ⟨k', HK', rfl, hb6⟩
    have H6 := Lib.hid (HR.out.below_ hb6)
    clear hb6 HR s0 s1 s2 s3 s4 s5 s6 s7 NW i0 i4 if0
    obtain ⟨i0, _, _, _, _, ifr, _, _⟩ := in_cells H6.out.own
    have if0 := ifr (L.length * 5)
    clear ifr
    simp at i0
    have H7 := Lib.hid (H6.out.setK k')
    clear H6
    go_wp2_with fail
    rename_i K hK
    by_cases hk0 : k' = 0
    · subst hk0
      exact HZ.out _ _ (by first | exact HK'.out.trans (if_pos rfl).symm | exact HK'.out.trans (if_pos trivial).symm | (simp; exact HK'.out)) (ActR.of _ (by kernel_rfl)) H7.out K
    · exact HD.out _ _ k' (by have h1 := HK'.out; rcases numW_range word.data.toList with h | h; exact absurd (h1.trans h) hk0; rw [h1]; exact h) (by first | exact HK'.out.trans (if_pos rfl).symm | exact HK'.out.trans (if_pos trivial).symm | (simp; exact HK'.out)) (ActR.of _ (by kernel_rfl)) H7.out K hK
  · have tk : (ik == 0) = false := beq_eq_false_iff_ne.2 hz
    conv in rC => whnf
    go_wp2_with fail
    rename_i K hK
    exact HD.out _ _ ik (by rcases HKk.out with h | h; exact absurd h hz; exact h) (by rw [if_neg hz]) (ActR.of _ (by kernel_rfl)) HR.out K hK
end Go.Proofs.YtciogfpejenedaaGreatDoor
namespace Go.Proofs.YtciogfpejenedaaGreatDoor
set_option linter.unusedSimpArgs false
set_option linter.unusedVariables false
open Go.RowKit

theorem read_rest (text : ByteArray) (hs : text.size ≤ 4194304) (w0 : World) (TGT : Option Dep) (n : Nat) (S : Nat → Prop) (ob co g c4 : Nat) (L : List OItem) (ik : Int) (ir : Rows5) (d : Dep) (A : Option Addr) (c : Nat) (word rest : ByteArray) (w : World)
    (HR : Hid (RSt w0 w S (.slice (some ⟨ob, 0, none⟩) (L.length + 1) co) (L ++ [⟨ik, ir ++ [(d, .slice A d.args.length c)], .slice (some ⟨g, 0, none⟩) (ir.length + 1) c4⟩]) (rowD d (.slice A d.args.length c)))) (HKi : Hid (∀ it ∈ L, it.k = 0 ∨ (2 ≤ it.k ∧ it.k ≤ 6))) (HKk : Hid (ik = 0 ∨ (2 ≤ ik ∧ ik ≤ 6))) (HEm : Hid (word.data.toList = [] → rest.data.toList = [])) (HN : Hid (n = remB word rest))
    (HGo : Hid (TGT = readM ((ik, ir.map Prod.fst) :: stkOf L) (some d) (stream word.data.toList rest.data.toList))) (HM : Hid (openM L + (1 + nodesA (ir.map Prod.fst)) + nodes d + remB word rest ≤ text.size)) (a : Act) (ha : ActR text w0.heap.size (w0.heap.size + 1) (.slice (some ⟨ob, 0, none⟩) (L.length + 1) co) word rest (.pointer (some ⟨ob, L.length * 5, none⟩)) a) : rC.wp Tryz.prog (jump2 (fun a' w' => ∃ m, m < n ∧ JA w0 text TGT m a' w') (fun a' w' => ∃ m, m < n ∧ JB w0 text TGT m a' w') (bodyPost Tryz.prog Tryz.f44 (ReadPost w0 text TGT))) a w := by
  obtain ⟨U, rfl⟩ := ha
  by_cases h41 : word.data.toList = [41]
  · exact read_close text hs w0 TGT n S ob co g c4 L ik ir d (.slice A d.args.length c) word rest U w (rowD d (.slice A d.args.length c)) _ _ _ _ _ rfl HR HKi HKk HEm HN HGo HM h41
  · refine read_kind text hs w0 TGT n S ob co g c4 L ik ir d A c word rest U w HR HKi HKk HEm HN HGo HM ?_ ?_ h41
    · intro a w' k' hk hk' ha HR' K hK
      obtain ⟨U', rfl⟩ := ha
      refine read_must text hs w0 TGT n S ob co g c4 L k' ir d A c word rest U' w' HR' HKi HEm HN ?_ HM hk K hK
      show TGT = _
      rw [HGo.out]
      by_cases hw : word.data.toList = []
      · rw [hw, stream_nil, readM_lost, if_neg (fun e => (btw_ne hk.1 hk.2).2.2.1 e.symm)]
      · rw [stream_cons _ hw, readM_word _ _ _ _ h41 hk', List.length_map]
        have h0 : k' ≠ 0 := by omega
        simp [h0]
    · intro a w' h0 ha HR' K
      obtain ⟨U', rfl⟩ := ha
      refine read_zero text hs w0 TGT n S ob co g c4 L 0 ir d A c word rest U' w' HR' HKi HEm HN ?_ HM rfl K
      show TGT = _
      rw [HGo.out]
      by_cases hw : word.data.toList = []
      · rw [hw, stream_nil, readM_lost]
      · rw [stream_cons _ hw, readM_word _ _ _ _ h41 h0, if_neg (fun e => e.1 rfl)]
theorem read_behind (text : ByteArray) (hs : text.size ≤ 4194304) (w0 : World) (TGT : Option Dep) (n : Nat) (a : Act) (w : World) (hJ : JB w0 text TGT n a w) : rB.wp Tryz.prog (jump2 (fun a' w' => ∃ m, m < n ∧ JA w0 text TGT m a' w') (fun a' w' => ∃ m, m < n ∧ JB w0 text TGT m a' w') (bodyPost Tryz.prog Tryz.f44 (ReadPost w0 text TGT))) a w := by
  obtain ⟨S, v, L, d, A, c, word, rest, ⟨⟨v7, U, rfl⟩, H, HK, HE, HN⟩, HL, HG, HM⟩ := hJ
  rcases List.eq_nil_or_concat L with rfl | ⟨L0, it, hL0⟩
  · obtain ⟨A', c', rfl, _, _⟩ := own_form' H.own
    exact read_done text hs w0 TGT n S A' c' d A c word rest v7 U w H HE HL HG (show _ ≤ _ by simpa [openM] using HM)
  · rw [List.concat_eq_append] at hL0
    subst hL0
    obtain ⟨ob, co, rfl⟩ : ∃ ob co, v = .slice (some ⟨ob, 0, none⟩) (L0.length + 1) co := by
      rcases H.own.2 with ⟨_, h2⟩ | ⟨g', cap, cur, h1, _⟩
      · simp at h2
      · exact ⟨g', cap, by rw [h1]; simp⟩
    obtain ⟨ik, ir, is⟩ := it
    obtain ⟨iA, ic, hs', _, _⟩ := own_form' (H.args ⟨ik, ir, is⟩ (by simp)).1
    simp only at hs'
    subst hs'
    have hM2 : openM L0 + (1 + nodesA (ir.map Prod.fst)) + nodes d + remB word rest ≤ text.size := by
      have : openM (L0 ++ [(⟨ik, ir, .slice iA ir.length ic⟩ : OItem)]) = openM L0 + (1 + nodesA (ir.map Prod.fst)) := openM_snoc L0 _
      rw [this] at HM
      exact HM
    have hG2 : TGT = readM ((ik, ir.map Prod.fst) :: stkOf L0) (some d) (stream word.data.toList rest.data.toList) := by
      rw [HG, stkOf_snoc]
    exact read_in text hs w0 TGT n S ob co L0 ik ir iA ic d A c word rest v7 U w H HK HE HN HL HG HM (fun g c4 a w' ha HR' => read_rest text hs w0 TGT n S ob co g c4 L0 ik ir d A c word rest w' HR' (fun it h => HK it (by simp [h])) (HK ⟨ik, ir, .slice iA ir.length ic⟩ (by simp)) HE HN hG2 hM2 a ha)
theorem read_ahead (text : ByteArray) (hs : text.size ≤ 4194304) (w0 : World) (TGT : Option Dep) (n : Nat) (a : Act) (w : World) (HB : ∀ m a w, m ≤ n → JB w0 text TGT m a w → rB.wp Tryz.prog (jump2 (fun a' w' => ∃ m, m < n ∧ JA w0 text TGT m a' w') (fun a' w' => ∃ m, m < n ∧ JB w0 text TGT m a' w') (bodyPost Tryz.prog Tryz.f44 (ReadPost w0 text TGT))) a w) (hJ : JA w0 text TGT n a w) : rA.wp Tryz.prog (jump2 (fun a' w' => ∃ m, m < n ∧ JA w0 text TGT m a' w') (fun a' w' => ∃ m, m < n ∧ JB w0 text TGT m a' w') (bodyPost Tryz.prog Tryz.f44 (ReadPost w0 text TGT))) a w := by
  obtain ⟨S, v, L, d, A, k, c, word, rest, ⟨⟨v7, U, rfl⟩, H, HK, HE, HN⟩, HG, HM⟩ := hJ
  by_cases h40 : word.data.toList = [40]
  · exact read_open text hs w0 TGT n S v L d A k c word rest v7 U w H HK HE HN HG HM h40
  · exact read_name text hs w0 TGT n S v L d A k c word rest v7 U w H HK HE HN HG HM HB h40
set_option maxHeartbeats 400000 in
set_option maxRecDepth 1000000 in
/-- A text of at most so many bytes is read as the machine with a stack reads its words. -/
theorem read_any (text : ByteArray) (hs : text.size ≤ 4194304) (w0 : World) (hT : Tabs w0) : Calls Tryz.prog 44 #[.string text] w0 (ReadPost w0 text (readM [] none (words text.data.toList))) := by
  obtain ⟨TGT, hTGT⟩ : ∃ T, T = readM [] none (words text.data.toList) := ⟨_, rfl⟩
  rw [← hTGT]
  have HTGT := Lib.hid hTGT
  have HT := Lib.hid hT
  clear hTGT hT
  go_enter Tryz.func44, Tryz.ntmps44
  go_wp2_with fail
  generalize hc : Code.scope _ = cc
  have h2 : cc = Code.scope rdScope := by rw [← hc]; kernel_rfl
  rw [h2]
  clear hc h2 cc
  refine wp_scope_two' hrA hrB (JA w0 text TGT) (JB w0 text TGT) ?_ ?_ ?_
  · exact fun n a w h => read_behind text hs w0 TGT n a w h
  · exact fun HB n a w h => read_ahead text hs w0 TGT n a w (fun m a w hm h => HB n m a w hm h) h
  · exact fun H => read_first text hs w0 HT TGT HTGT H
end Go.Proofs.YtciogfpejenedaaGreatDoor
