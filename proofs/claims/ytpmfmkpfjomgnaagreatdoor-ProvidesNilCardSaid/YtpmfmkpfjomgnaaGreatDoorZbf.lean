/- No kind. Between arguments. A text is read word by word: the whole. A text is read as a dependency, or refused: Parse and its closure. A dependency's text is written: write, Print. A dependency's text, or why it has none: Print. awake of the layer provides answers true. ProvidesNames and ProvidesNil: the walks of the laws. A world in which Go's own table unicode/utf8.first lies, beside the tables that the program's text lays: the witness of these rows. -/
import Derived.Test.YtpmfmkpfjomgnaaGreatDoorZbe
import Derived.StillTailTactics
import Derived.Test.YtpmfmkpfjomgnaaGreatDoorZbd
import Derived.Test.YtpmfmkpfjomgnaaGreatDoorZap
import Derived.Test.YtpmfmkpfjomgnaaGreatDoorRows
import Derived.LaidMore
/- No kind. Between arguments. A text is read word by word: the whole. -/
namespace Go.Proofs.YtpmfmkpfjomgnaaGreatDoor
set_option linter.unusedSimpArgs false
set_option linter.unusedVariables false
open Go.RowKit

set_option maxHeartbeats 800000 in
set_option maxRecDepth 1000000 in
theorem read_zero (text : ByteArray) (hs : text.size ≤ 4194304) (w0 : World) (TGT : Option Dep) (n : Nat) (S : Nat → Prop) (ob co g c4 : Nat) (L : List OItem) (ik : Int) (ir : Rows5) (d : Dep) (A : Option Addr) (c : Nat) (word rest : ByteArray) (U : Nat → Value) (w : World)
    (HR : Hid (RSt w0 w S (.slice (some ⟨ob, 0, none⟩) (L.length + 1) co) (L ++ [⟨ik, ir ++ [(d, .slice A d.args.length c)], .slice (some ⟨g, 0, none⟩) (ir.length + 1) c4⟩]) (rowD d (.slice A d.args.length c)))) (HKi : Hid (∀ it ∈ L, it.k = 0 ∨ (2 ≤ it.k ∧ it.k ≤ 6))) (HEm : Hid (word.data.toList = [] → rest.data.toList = [])) (HN : Hid (n = remB word rest))
    (HGo : Hid (TGT = none)) (HM : Hid (openM L + (1 + nodesA (ir.map Prod.fst)) + nodes d + remB word rest ≤ text.size))
    (hk : ik = 0) (K : Act → World → Prop) : rH.wp Tryz.prog (Exit.then K (jump2 (fun a' w' => ∃ m, m < n ∧ JA w0 text TGT m a' w') (fun a' w' => ∃ m, m < n ∧ JB w0 text TGT m a' w') (bodyPost Tryz.prog Tryz.f102 (ReadPost w0 text TGT)))) { tmps := #[.string text, U 1, .pointer (some ⟨w0.heap.size, 0, none⟩), .slice (some ⟨ob, 0, none⟩) (L.length + 1) co, .pointer (some ⟨w0.heap.size + 1, 0, none⟩), .string word, .string rest, .pointer (some ⟨ob, L.length * 5, none⟩), U 8, U 9, U 10, U 11, U 12, U 13, U 14, U 15, U 16, U 17, U 18, U 19, U 20, U 21, U 22, U 23, U 24, U 25, U 26, U 27, U 28, U 29, U 30, U 31, U 32, U 33, U 34, U 35, U 36, U 37, U 38, U 39, U 40, U 41, U 42, U 43, U 44, U 45, U 46, U 47, U 48, U 49, U 50, U 51, U 52, U 53, U 54, U 55, U 56, U 57, U 58, U 59, U 60, U 61, U 62, U 63, U 64, U 65, U 66, U 67, U 68, U 69, U 70, U 71, U 72, U 73, U 74, U 75, U 76, U 77, U 78, U 79, U 80, U 81, U 82, U 83, U 84, U 85, U 86, U 87, U 88, U 89, U 90, U 91, U 92, U 93, U 94, U 95, U 96, U 97, U 98, U 99, U 100, U 101, U 102, U 103, U 104, U 105, U 106, U 107, U 108, U 109, U 110, U 111, U 112, U 113, U 114, U 115, U 116, U 117, U 118, U 119, U 120, U 121, U 122, U 123, U 124, U 125, U 126, U 127, U 128], defers := [] } w := by
  have MN := Lib.hid must_no
  obtain ⟨i0, i1, i2, i3, i4, ifr, ic1, ic2⟩ := in_cells HR.out.own
  simp at i0 i1 i2 i3 i4
  clear ifr i1 i2 i3
  have HR1 : Hid (RSt w0 w.drew S (.slice (some ⟨ob, 0, none⟩) (L.length + 1) co) (L ++ [⟨ik, ir ++ [(d, .slice A d.args.length c)], .slice (some ⟨g, 0, none⟩) (ir.length + 1) c4⟩]) (rowD d (.slice A d.args.length c))) := HR.out.drew_ 1
  have HP : Hid (ReadPost w0 text TGT (gaveUp 50) w.drew) := by
    refine ⟨HR1.out.below, .inl ⟨?_, rfl⟩⟩
    exact HGo.out
  clear HR HR1
  have tk3 : (ik != 0) = false := by rw [hk]; rfl
  clear hk
  conv in rH => whnf
  refine wp_region_still_tail 19 (by kernel_rfl) (by kernel_rfl) ?_
  simp only [List.take_succ_cons, List.take_zero, List.drop_succ_cons, List.drop_zero]
  still_step
  still_step
  still_step
  still_step
  still_step
  with_reducible refine wpStill_step (fun K hK0 => ?_)
  have hK := Lib.hid hK0
  clear hK0
  go_simp
  with_reducible refine hK.out _ ?_
  clear hK K
  with_reducible refine wpStill_step (fun K hK0 => ?_)
  have hK := Lib.hid hK0
  clear hK0
  go_simp
  with_reducible refine hK.out _ ?_
  clear hK K
  with_reducible refine wpStill_step (fun K hK0 => ?_)
  have hK := Lib.hid hK0
  clear hK0
  go_simp
  with_reducible refine hK.out _ ?_
  clear hK K
  with_reducible refine wpStill_step (fun K hK0 => ?_)
  have hK := Lib.hid hK0
  clear hK0
  go_simp
  with_reducible refine hK.out _ ?_
  clear hK K
  with_reducible refine wpStill_step (fun K hK0 => ?_)
  have hK := Lib.hid hK0
  clear hK0
  go_simp
  with_reducible refine hK.out _ ?_
  clear hK K
  with_reducible refine wpStill_step (fun K hK0 => ?_)
  have hK := Lib.hid hK0
  clear hK0
  go_simp
  with_reducible refine hK.out _ ?_
  clear hK K
  with_reducible refine wpStill_step (fun K hK0 => ?_)
  have hK := Lib.hid hK0
  clear hK0
  go_simp
  with_reducible refine hK.out _ ?_
  clear hK K
  with_reducible refine wpStill_step (fun K hK0 => ?_)
  have hK := Lib.hid hK0
  clear hK0
  go_simp
  with_reducible refine hK.out _ ?_
  clear hK K
  with_reducible refine wpStill_step (fun K hK0 => ?_)
  have hK := Lib.hid hK0
  clear hK0
  go_simp
  with_reducible refine hK.out _ ?_
  clear hK K
  with_reducible refine wpStill_step (fun K hK0 => ?_)
  have hK := Lib.hid hK0
  clear hK0
  go_simp
  with_reducible refine hK.out _ ?_
  clear hK K
  with_reducible refine wpStill_step (fun K hK0 => ?_)
  have hK := Lib.hid hK0
  clear hK0
  go_simp
  with_reducible refine hK.out _ ?_
  clear hK K
  with_reducible refine wpStill_step (fun K hK0 => ?_)
  have hK := Lib.hid hK0
  clear hK0
  go_simp
  with_reducible refine hK.out _ ?_
  clear hK K
  with_reducible refine wpStill_step (fun K hK0 => ?_)
  have hK := Lib.hid hK0
  clear hK0
  go_simp
  with_reducible refine hK.out _ ?_
  clear hK K
  with_reducible refine wpStill_step (fun K hK0 => ?_)
  have hK := Lib.hid hK0
  clear hK0
  go_simp
  with_reducible refine hK.out _ ?_
  clear hK K
  refine wpStill_nil ?_
  change wpList _ _ _ _ _ w.drew
  generalize w.drew = W at HP ⊢
  clear i0 i4
  go_wp2_with fail
  refine (MN.out _).mono ?_
  rintro e w2 ⟨rfl, rfl⟩
  unfold gaveUp at HP ⊢
  go_wp2_with fail
  exact ⟨rfl, HP.out⟩
end Go.Proofs.YtpmfmkpfjomgnaaGreatDoor
namespace Go.Proofs.YtpmfmkpfjomgnaaGreatDoor
set_option linter.unusedSimpArgs false
set_option linter.unusedVariables false
open Go.RowKit

set_option maxHeartbeats 2000000 in
set_option maxRecDepth 1000000 in
/-- Its kind is known: one of the five. -/
theorem read_kind (text : ByteArray) (hs : text.size ≤ 4194304) (w0 : World) (TGT : Option Dep) (n : Nat) (S : Nat → Prop) (ob co g c4 : Nat) (L : List OItem) (ik : Int) (ir : Rows5) (d : Dep) (A : Option Addr) (c : Nat) (word rest : ByteArray) (U : Nat → Value) (w : World)
    (HR : Hid (RSt w0 w S (.slice (some ⟨ob, 0, none⟩) (L.length + 1) co) (L ++ [⟨ik, ir ++ [(d, .slice A d.args.length c)], .slice (some ⟨g, 0, none⟩) (ir.length + 1) c4⟩]) (rowD d (.slice A d.args.length c)))) (HKi : Hid (∀ it ∈ L, it.k = 0 ∨ (2 ≤ it.k ∧ it.k ≤ 6))) (HKk : Hid (ik = 0 ∨ (2 ≤ ik ∧ ik ≤ 6))) (HEm : Hid (word.data.toList = [] → rest.data.toList = [])) (HN : Hid (n = remB word rest))
    (HGo : Hid (TGT = readM ((ik, ir.map Prod.fst) :: stkOf L) (some d) (stream word.data.toList rest.data.toList))) (HM : Hid (openM L + (1 + nodesA (ir.map Prod.fst)) + nodes d + remB word rest ≤ text.size))
    (HD : Hid (∀ a w' k', (2 ≤ k' ∧ k' ≤ 6) → k' = (if ik = 0 then numW word.data.toList else ik) → ActR text w0.heap.size (w0.heap.size + 1) (.slice (some ⟨ob, 0, none⟩) (L.length + 1) co) word rest (.pointer (some ⟨ob, L.length * 5, none⟩)) a → RSt w0 w' S (.slice (some ⟨ob, 0, none⟩) (L.length + 1) co) (L ++ [⟨k', ir ++ [(d, .slice A d.args.length c)], .slice (some ⟨g, 0, none⟩) (ir.length + 1) c4⟩]) (rowD d (.slice A d.args.length c)) → ∀ K : Act → World → Prop, (∀ a w, rT.wp Tryz.prog (jump2 (fun a' w' => ∃ m, m < n ∧ JA w0 text TGT m a' w') (fun a' w' => ∃ m, m < n ∧ JB w0 text TGT m a' w') (bodyPost Tryz.prog Tryz.f102 (ReadPost w0 text TGT))) a w → K a w) → rH.wp Tryz.prog (Exit.then K (jump2 (fun a' w' => ∃ m, m < n ∧ JA w0 text TGT m a' w') (fun a' w' => ∃ m, m < n ∧ JB w0 text TGT m a' w') (bodyPost Tryz.prog Tryz.f102 (ReadPost w0 text TGT)))) a w'))
    (HZ : Hid (∀ a w', 0 = (if ik = 0 then numW word.data.toList else ik) → ActR text w0.heap.size (w0.heap.size + 1) (.slice (some ⟨ob, 0, none⟩) (L.length + 1) co) word rest (.pointer (some ⟨ob, L.length * 5, none⟩)) a → RSt w0 w' S (.slice (some ⟨ob, 0, none⟩) (L.length + 1) co) (L ++ [⟨0, ir ++ [(d, .slice A d.args.length c)], .slice (some ⟨g, 0, none⟩) (ir.length + 1) c4⟩]) (rowD d (.slice A d.args.length c)) → ∀ K : Act → World → Prop, rH.wp Tryz.prog (Exit.then K (jump2 (fun a' w' => ∃ m, m < n ∧ JA w0 text TGT m a' w') (fun a' w' => ∃ m, m < n ∧ JB w0 text TGT m a' w') (bodyPost Tryz.prog Tryz.f102 (ReadPost w0 text TGT)))) a w'))
    (h41 : word.data.toList ≠ [41]) : rC.wp Tryz.prog (jump2 (fun a' w' => ∃ m, m < n ∧ JA w0 text TGT m a' w') (fun a' w' => ∃ m, m < n ∧ JB w0 text TGT m a' w') (bodyPost Tryz.prog Tryz.f102 (ReadPost w0 text TGT))) { tmps := #[.string text, U 1, .pointer (some ⟨w0.heap.size, 0, none⟩), .slice (some ⟨ob, 0, none⟩) (L.length + 1) co, .pointer (some ⟨w0.heap.size + 1, 0, none⟩), .string word, .string rest, .pointer (some ⟨ob, L.length * 5, none⟩), U 8, U 9, U 10, U 11, U 12, U 13, U 14, U 15, U 16, U 17, U 18, U 19, U 20, U 21, U 22, U 23, U 24, U 25, U 26, U 27, U 28, U 29, U 30, U 31, U 32, U 33, U 34, U 35, U 36, U 37, U 38, U 39, U 40, U 41, U 42, U 43, U 44, U 45, U 46, U 47, U 48, U 49, U 50, U 51, U 52, U 53, U 54, U 55, U 56, U 57, U 58, U 59, U 60, U 61, U 62, U 63, U 64, U 65, U 66, U 67, U 68, U 69, U 70, U 71, U 72, U 73, U 74, U 75, U 76, U 77, U 78, U 79, U 80, U 81, U 82, U 83, U 84, U 85, U 86, U 87, U 88, U 89, U 90, U 91, U 92, U 93, U 94, U 95, U 96, U 97, U 98, U 99, U 100, U 101, U 102, U 103, U 104, U 105, U 106, U 107, U 108, U 109, U 110, U 111, U 112, U 113, U 114, U 115, U 116, U 117, U 118, U 119, U 120, U 121, U 122, U 123, U 124, U 125, U 126, U 127, U 128], defers := [] } w := by
  have NW := Lib.hid (fun s w => numWH s w)
  obtain ⟨i0, i1, i2, i3, i4, ifr, ic1, ic2⟩ := in_cells HR.out.own
  have if0 := ifr (L.length * 5)
  simp at i0 i1 i2 i3 i4
  clear ifr i1 i2 i3
  have t41 : (word.toList == [41]) = false := by have := str_isnt h41; simpa using this
  by_cases hz : ik = 0
  · subst hz
    have s0 := HR.out.tabs.words.cell 0
    have s1 := HR.out.tabs.words.cell 1
    have s2 := HR.out.tabs.words.cell 2
    have s3 := HR.out.tabs.words.cell 3
    have s4 := HR.out.tabs.words.cell 4
    have s5 := HR.out.tabs.words.cell 5
    have s6 := HR.out.tabs.words.cell 6
    have s7 := HR.out.tabs.words.cell 7
    simp at s0 s1 s2 s3 s4 s5 s6 s7
    conv in rC => whnf
    go_wp2_with fail
    refine (NW.out word _).mono ?_
    rintro e w6 ⟨k', HK', rfl, hb6⟩
    have H6 := Lib.hid (HR.out.below_ hb6)
    clear hb6 HR s0 s1 s2 s3 s4 s5 s6 s7 NW i0 i4 if0
    obtain ⟨i0, _, _, _, _, ifr, _, _⟩ := in_cells H6.out.own
    have if0 := ifr (L.length * 5)
    clear ifr
    simp at i0
    have H7 := Lib.hid (H6.out.setK k')
    clear H6
    go_wp2_with fail
    rename_i K hK
    by_cases hk0 : k' = 0
    · subst hk0
      exact HZ.out _ _ (by first | exact HK'.out.trans (if_pos rfl).symm | exact HK'.out.trans (if_pos trivial).symm | (simp; exact HK'.out)) (ActR.of _ (by kernel_rfl)) H7.out K
    · exact HD.out _ _ k' (by have h1 := HK'.out; rcases numW_range word.data.toList with h | h; exact absurd (h1.trans h) hk0; rw [h1]; exact h) (by first | exact HK'.out.trans (if_pos rfl).symm | exact HK'.out.trans (if_pos trivial).symm | (simp; exact HK'.out)) (ActR.of _ (by kernel_rfl)) H7.out K hK
  · have tk : (ik == 0) = false := beq_eq_false_iff_ne.2 hz
    conv in rC => whnf
    go_wp2_with fail
    rename_i K hK
    exact HD.out _ _ ik (by rcases HKk.out with h | h; exact absurd h hz; exact h) (by rw [if_neg hz]) (ActR.of _ (by kernel_rfl)) HR.out K hK
end Go.Proofs.YtpmfmkpfjomgnaaGreatDoor
namespace Go.Proofs.YtpmfmkpfjomgnaaGreatDoor
set_option linter.unusedSimpArgs false
set_option linter.unusedVariables false
open Go.RowKit

theorem read_rest (text : ByteArray) (hs : text.size ≤ 4194304) (w0 : World) (TGT : Option Dep) (n : Nat) (S : Nat → Prop) (ob co g c4 : Nat) (L : List OItem) (ik : Int) (ir : Rows5) (d : Dep) (A : Option Addr) (c : Nat) (word rest : ByteArray) (w : World)
    (HR : Hid (RSt w0 w S (.slice (some ⟨ob, 0, none⟩) (L.length + 1) co) (L ++ [⟨ik, ir ++ [(d, .slice A d.args.length c)], .slice (some ⟨g, 0, none⟩) (ir.length + 1) c4⟩]) (rowD d (.slice A d.args.length c)))) (HKi : Hid (∀ it ∈ L, it.k = 0 ∨ (2 ≤ it.k ∧ it.k ≤ 6))) (HKk : Hid (ik = 0 ∨ (2 ≤ ik ∧ ik ≤ 6))) (HEm : Hid (word.data.toList = [] → rest.data.toList = [])) (HN : Hid (n = remB word rest))
    (HGo : Hid (TGT = readM ((ik, ir.map Prod.fst) :: stkOf L) (some d) (stream word.data.toList rest.data.toList))) (HM : Hid (openM L + (1 + nodesA (ir.map Prod.fst)) + nodes d + remB word rest ≤ text.size)) (a : Act) (ha : ActR text w0.heap.size (w0.heap.size + 1) (.slice (some ⟨ob, 0, none⟩) (L.length + 1) co) word rest (.pointer (some ⟨ob, L.length * 5, none⟩)) a) : rC.wp Tryz.prog (jump2 (fun a' w' => ∃ m, m < n ∧ JA w0 text TGT m a' w') (fun a' w' => ∃ m, m < n ∧ JB w0 text TGT m a' w') (bodyPost Tryz.prog Tryz.f102 (ReadPost w0 text TGT))) a w := by
  obtain ⟨U, rfl⟩ := ha
  by_cases h41 : word.data.toList = [41]
  · exact read_close text hs w0 TGT n S ob co g c4 L ik ir d (.slice A d.args.length c) word rest U w (rowD d (.slice A d.args.length c)) _ _ _ _ _ rfl HR HKi HKk HEm HN HGo HM h41
  · refine read_kind text hs w0 TGT n S ob co g c4 L ik ir d A c word rest U w HR HKi HKk HEm HN HGo HM ?_ ?_ h41
    · intro a w' k' hk hk' ha HR' K hK
      obtain ⟨U', rfl⟩ := ha
      refine read_must text hs w0 TGT n S ob co g c4 L k' ir d A c word rest U' w' HR' HKi HEm HN ?_ HM hk K hK
      show TGT = _
      rw [HGo.out]
      by_cases hw : word.data.toList = []
      · rw [hw, stream_nil, readM_lost, if_neg (fun e => (btw_ne hk.1 hk.2).2.2.1 e.symm)]
      · rw [stream_cons _ hw, readM_word _ _ _ _ h41 hk', List.length_map]
        have h0 : k' ≠ 0 := by omega
        simp [h0]
    · intro a w' h0 ha HR' K
      obtain ⟨U', rfl⟩ := ha
      refine read_zero text hs w0 TGT n S ob co g c4 L 0 ir d A c word rest U' w' HR' HKi HEm HN ?_ HM rfl K
      show TGT = _
      rw [HGo.out]
      by_cases hw : word.data.toList = []
      · rw [hw, stream_nil, readM_lost]
      · rw [stream_cons _ hw, readM_word _ _ _ _ h41 h0, if_neg (fun e => e.1 rfl)]
theorem read_behind (text : ByteArray) (hs : text.size ≤ 4194304) (w0 : World) (TGT : Option Dep) (n : Nat) (a : Act) (w : World) (hJ : JB w0 text TGT n a w) : rB.wp Tryz.prog (jump2 (fun a' w' => ∃ m, m < n ∧ JA w0 text TGT m a' w') (fun a' w' => ∃ m, m < n ∧ JB w0 text TGT m a' w') (bodyPost Tryz.prog Tryz.f102 (ReadPost w0 text TGT))) a w := by
  obtain ⟨S, v, L, d, A, c, word, rest, ⟨⟨v7, U, rfl⟩, H, HK, HE, HN⟩, HL, HG, HM⟩ := hJ
  rcases List.eq_nil_or_concat L with rfl | ⟨L0, it, hL0⟩
  · obtain ⟨A', c', rfl, _, _⟩ := own_form' H.own
    exact read_done text hs w0 TGT n S A' c' d A c word rest v7 U w H HE HL HG (show _ ≤ _ by simpa [openM] using HM)
  · rw [List.concat_eq_append] at hL0
    subst hL0
    obtain ⟨ob, co, rfl⟩ : ∃ ob co, v = .slice (some ⟨ob, 0, none⟩) (L0.length + 1) co := by
      rcases H.own.2 with ⟨_, h2⟩ | ⟨g', cap, cur, h1, _⟩
      · simp at h2
      · exact ⟨g', cap, by rw [h1]; simp⟩
    obtain ⟨ik, ir, is⟩ := it
    obtain ⟨iA, ic, hs', _, _⟩ := own_form' (H.args ⟨ik, ir, is⟩ (by simp)).1
    simp only at hs'
    subst hs'
    have hM2 : openM L0 + (1 + nodesA (ir.map Prod.fst)) + nodes d + remB word rest ≤ text.size := by
      have : openM (L0 ++ [(⟨ik, ir, .slice iA ir.length ic⟩ : OItem)]) = openM L0 + (1 + nodesA (ir.map Prod.fst)) := openM_snoc L0 _
      rw [this] at HM
      exact HM
    have hG2 : TGT = readM ((ik, ir.map Prod.fst) :: stkOf L0) (some d) (stream word.data.toList rest.data.toList) := by
      rw [HG, stkOf_snoc]
    exact read_in text hs w0 TGT n S ob co L0 ik ir iA ic d A c word rest v7 U w H HK HE HN HL HG HM (fun g c4 a w' ha HR' => read_rest text hs w0 TGT n S ob co g c4 L0 ik ir d A c word rest w' HR' (fun it h => HK it (by simp [h])) (HK ⟨ik, ir, .slice iA ir.length ic⟩ (by simp)) HE HN hG2 hM2 a ha)
theorem read_ahead (text : ByteArray) (hs : text.size ≤ 4194304) (w0 : World) (TGT : Option Dep) (n : Nat) (a : Act) (w : World) (HB : ∀ m a w, m ≤ n → JB w0 text TGT m a w → rB.wp Tryz.prog (jump2 (fun a' w' => ∃ m, m < n ∧ JA w0 text TGT m a' w') (fun a' w' => ∃ m, m < n ∧ JB w0 text TGT m a' w') (bodyPost Tryz.prog Tryz.f102 (ReadPost w0 text TGT))) a w) (hJ : JA w0 text TGT n a w) : rA.wp Tryz.prog (jump2 (fun a' w' => ∃ m, m < n ∧ JA w0 text TGT m a' w') (fun a' w' => ∃ m, m < n ∧ JB w0 text TGT m a' w') (bodyPost Tryz.prog Tryz.f102 (ReadPost w0 text TGT))) a w := by
  obtain ⟨S, v, L, d, A, k, c, word, rest, ⟨⟨v7, U, rfl⟩, H, HK, HE, HN⟩, HG, HM⟩ := hJ
  by_cases h40 : word.data.toList = [40]
  · exact read_open text hs w0 TGT n S v L d A k c word rest v7 U w H HK HE HN HG HM h40
  · exact read_name text hs w0 TGT n S v L d A k c word rest v7 U w H HK HE HN HG HM HB h40
set_option maxHeartbeats 400000 in
set_option maxRecDepth 1000000 in
/-- A text of at most so many bytes is read as the machine with a stack reads its words. -/
theorem read_any (text : ByteArray) (hs : text.size ≤ 4194304) (w0 : World) (hT : Tabs w0) : Calls Tryz.prog 102 #[.string text] w0 (ReadPost w0 text (readM [] none (words text.data.toList))) := by
  obtain ⟨TGT, hTGT⟩ : ∃ T, T = readM [] none (words text.data.toList) := ⟨_, rfl⟩
  rw [← hTGT]
  have HTGT := Lib.hid hTGT
  have HT := Lib.hid hT
  clear hTGT hT
  go_enter Tryz.func102, Tryz.ntmps102
  go_wp2_with fail
  generalize hc : Code.scope _ = cc
  have h2 : cc = Code.scope rdScope := by rw [← hc]; kernel_rfl
  rw [h2]
  clear hc h2 cc
  refine wp_scope_two' hrA hrB (JA w0 text TGT) (JB w0 text TGT) ?_ ?_ ?_
  · exact fun n a w h => read_behind text hs w0 TGT n a w h
  · exact fun HB n a w h => read_ahead text hs w0 TGT n a w (fun m a w hm h => HB n m a w hm h) h
  · exact fun H => read_first text hs w0 HT TGT HTGT H
end Go.Proofs.YtpmfmkpfjomgnaaGreatDoor

/- A text is read as a dependency, or refused: Parse and its closure. A dependency's text is written: write, Print. A dependency's text, or why it has none: Print. -/
namespace Go.Proofs.YtpmfmkpfjomgnaaGreatDoor
set_option linter.unusedSimpArgs false
set_option linter.unusedVariables false
open Go.RowKit

/-- A dependency that none is. -/
def zeroD : Dep := .mk 0 ⟨#[]⟩ 0 ⟨#[]⟩ []
def zeroRow : Array Value := #[.int .i64 0, .string ⟨#[]⟩, .int .i64 0, .string ⟨#[]⟩, .slice none 0 0]
theorem zeroRow_is : zeroRow = rowD zeroD (.slice none 0 0) := rfl
/-- What a text tells: a dependency, laid in new blocks of its own, none of them marked. -/
def Told (text : ByteArray) (n0 : Nat) (w : World) (d : Dep) (t : Value) : Prop := parseD text.data.toList = (some d, 0) ∧ ∃ S, Lay w S d t ∧ CleanS w S ∧ (∀ b, S b → n0 ≤ b) ∧ nodes d ≤ text.size
def Parsed (text : ByteArray) (gd : Nat) (w0 : World) : Ending → World → Prop :=
  Done [gd] w0 (fun w' => ∃ d t, Blk w' gd 50 (rowD d t) ∧ Told text w0.heap.size w' d t) (fun n w' => parseD text.data.toList = (none, n) ∧ Blk w' gd 50 zeroRow)
def five (w : World) (g : Nat) (d : Dep) (s : Value) : World := ((((w.setCell ⟨g, 0, none⟩ (.int .i64 d.kind)).setCell ⟨g, 1, none⟩ (.string d.name)).setCell ⟨g, 2, none⟩ (.int .i64 d.op)).setCell ⟨g, 3, none⟩ (.string d.evr)).setCell ⟨g, 4, none⟩ s
theorem five_turned (w : World) (g : Nat) (d : Dep) (s : Value) : Turned [g] w (five w g d s) := (((((Turned.refl _ _).setCell (.inl (by simp)) _).setCell (.inl (by simp)) _).setCell (.inl (by simp)) _).setCell (.inl (by simp)) _).setCell (.inl (by simp)) _
theorem five_blk {w : World} {g : Nat} {t : TypeId} {x0 x1 x2 x3 x4 : Value} (h : Blk w g t #[x0, x1, x2, x3, x4]) (d : Dep) (s : Value) : Blk (five w g d s) g t (rowD d s) := ((((h.set_ 0 (.int .i64 d.kind)).set_ 1 (.string d.name)).set_ 2 (.int .i64 d.op)).set_ 3 (.string d.evr)).set_ 4 s
theorem Told.stay {text : ByteArray} {n0 : Nat} {w w' : World} {d : Dep} {t : Value} {F : List Nat} (h : Told text n0 w d t) (ht : Turned F w w') (hF : ∀ k ∈ F, k < n0) : Told text n0 w' d t := by
  obtain ⟨h1, S, h2, h3, h4, h5⟩ := h
  have hst : StayS S w w' := StayS.turned ht fun b hb hf => by have := hF b hf; have := h4 b hb; omega
  exact ⟨h1, S, h2.stay (fun _ h => h) hst, h3.stay hst, h4, h5⟩
theorem Told.mono {text : ByteArray} {n0 n1 : Nat} {w : World} {d : Dep} {t : Value} (h : Told text n0 w d t) (hn : n1 ≤ n0) : Told text n1 w d t := by
  obtain ⟨h1, S, h2, h3, h4, h5⟩ := h
  exact ⟨h1, S, h2, h3, fun b hb => by have := h4 b hb; omega, h5⟩

set_option maxHeartbeats 2000000 in
set_option maxRecDepth 100000 in
theorem parseIn_any (text : ByteArray) (hs : text.size ≤ 4194304) (w0 : World) (gt gd : Nat) (hgt : Blk w0 gt 9 #[.string text]) (hgd : Blk w0 gd 50 zeroRow) (hT : Tabs w0) (h2 : 2 ≤ gd) :
    Calls Tryz.prog 101 #[.pointer (some ⟨gt, 0, none⟩), .pointer (some ⟨gd, 0, none⟩)] w0 (Parsed text gd w0) := by
  have C1 := Lib.hid (read_any text hs w0 hT)
  have HT := Lib.hid hT
  have HD := Lib.hid hgd
  have HN := Lib.hid h2
  have g0 := hgt.cell 0
  clear hT hgt hgd h2
  go_enter Tryz.func101, Tryz.ntmps101
  go_wp2_with fail
  refine C1.out.mono ?_
  rintro e w1 ⟨hb, h⟩
  rcases h with ⟨hn, rfl⟩ | ⟨d, t, S, hd, rfl, hL, hC, hS, hN⟩
  · have HPP : Hid (Parsed text gd w0 (gaveUp 50) w1) := ⟨Turned.of_below hb _, .inr ⟨50, rfl, by unfold parseD; rw [hn], HD.out.below hb HD.out.lt⟩⟩
    clear hn hb C1 g0
    unfold gaveUp
    go_wp2_with fail
    exact ⟨rfl, HPP.out⟩
  · have HW : Hid (Below w0.heap.size w0 w1) := hb
    have HR := Lib.hid hd
    have HG : Hid (Blk w1 gd 50 zeroRow) := HD.out.below hb HD.out.lt
    have hba : Below w1.heap.size w1 (w1.alloc (.cells (rowD d t) 50)) := (Below.refl _ _).alloc (Nat.le_refl _) _
    have hst1 : StayS S w1 (w1.alloc (.cells (rowD d t) 50)) := StayS.below' hba
    have hT2 : Tabs (w1.alloc (.cells (rowD d t) 50)) := (HT.out.below hb HT.out.two).below hba (by have := HT.out.two; have := hb.size; omega)
    have C2 := Lib.hid (check_any d t S _ (hL.stay (fun _ h => h) hst1) (hC.stay hst1) hT2 (by omega))
    have HTold : Hid (checkN d = 0 → Told text w0.heap.size (w1.alloc (.cells (rowD d t) 50)) d t) := fun hc => ⟨by unfold parseD; rw [hd]; dsimp only; rw [if_pos hc], S, hL.stay (fun _ h => h) hst1, hC.stay hst1, hS, hN⟩
    have HQ : Hid (∀ w2, Below (w1.alloc (.cells (rowD d t) 50)).heap.size (w1.alloc (.cells (rowD d t) 50)) w2 →
        Blk w2 w1.heap.size 50 (rowD d t) ∧ Blk w2 gd 50 zeroRow ∧ Turned [] w0 w2 ∧ (checkN d = 0 → Told text w0.heap.size w2 d t)) := by
      intro w2 hb2
      have hT2 : Turned [] w1 w2 := ((Turned.refl [] _).alloc _).trans (Turned.of_below hb2 []) (Fresh.refl _ _)
      exact ⟨(Blk.new w1 50 (rowD d t)).below hb2 (by simp), HG.out.turned hT2 (by simp), (Turned.of_below HW.out []).trans hT2 (Fresh.refl _ _), fun hc => (HTold.out hc).stay (Turned.of_below hb2 []) (fun k hk => by cases hk)⟩
    obtain ⟨A, c, rfl, _, _⟩ := hL.form_
    clear hd hb hL hC hS hN hst1 hT2 C1 g0 hba HTold HG HW
    unfold rowD at C2 HQ
    unfold rowD
    go_wp2_with fail
    refine C2.out.mono ?_
    rintro e w2 ⟨hb2, h⟩
    obtain ⟨hB, hG, hT, hTold⟩ := HQ.out w2 hb2
    clear C2 HQ hb2
    rcases h with ⟨h0, rfl⟩ | ⟨hne, rfl⟩
    · have HE : Hid (Parsed text gd w0 (.returned (.tuple #[])) (five w2 gd d (.slice A d.args.length c))) := ⟨(hT.more (fun k hk => by cases hk)).trans (five_turned _ _ _ _) (Fresh.refl _ _), .inl ⟨rfl, d, _, five_blk hG d _, (hTold h0).stay (five_turned _ _ _ _) (fun k hk => by simp at hk; subst hk; exact HD.out.lt)⟩⟩
      have c0 := hB.cell 0
      have c1 := hB.cell 1
      have c2 := hB.cell 2
      have c3 := hB.cell 3
      have c4 := hB.cell 4
      have d0 := hG.cell 0
      have d1 := hG.cell 1
      have d2 := hG.cell 2
      have d3 := hG.cell 3
      have d4 := hG.cell 4
      have k0 := hG.free 0
      have k1 := hG.free 1
      have k2 := hG.free 2
      have k3 := hG.free 3
      have k4 := hG.free 4
      unfold zeroRow at d0 d1 d2 d3 d4
      simp at c0 c1 c2 c3 c4 d0 d1 d2 d3 d4
      clear hB hG hT hTold h0 HD HN HT HR
      unfold five at HE
      go_wp2_with fail
      go_end0
      exact HE.out
    · have HPP : Hid (Parsed text gd w0 (gaveUp (checkN d)) w2) := ⟨hT.more (fun k hk => by cases hk), .inr ⟨checkN d, rfl, by unfold parseD; rw [HR.out]; dsimp only; rw [if_neg hne], hG⟩⟩
      clear hB hG hT hTold hne HD HN HT HR
      unfold gaveUp
      go_wp2_with fail
      exact ⟨rfl, HPP.out⟩

theorem results_cell2 {fn : Func} {t u : Tmp} {e : TypeId} (h : fn.results = #[.cell t e, .tmp u]) (tmps : Array Value) {P : Program} {w : World} {ad : Addr} {v x : Value} (hp : tmps[t]?.getD undef = .pointer (some ad)) (hx : tmps[u]?.getD undef = x) (hv : (loadVar e ad).run P w = .ok v w) :
    (results fn tmps).run P w = .ok (.tuple #[v, x]) w := by
  simp [results, h, hp, hx, asAddr, hv, Result.andThen]
def ParsePost (text : ByteArray) (w0 : World) (e : Ending) (w' : World) : Prop :=
  Below w0.heap.size w0 w' ∧ ((∃ d t, Told text w0.heap.size w' d t ∧ e = .returned (.tuple #[.agg (rowD d t), .int .i64 0])) ∨ (∃ n, parseD text.data.toList = (none, n) ∧ e = .returned (.tuple #[.agg zeroRow, .int .i64 n])))
theorem load_dep {w : World} {g : Nat} {d : Dep} {t : Value} (h : Blk w g 50 (rowD d t)) : (loadVar 50 ⟨g, 0, none⟩).run Tryz.prog w = .ok (.agg (rowD d t)) w := by
  have b0 := h.cell 0
  have b1 := h.cell 1
  have b2 := h.cell 2
  have b3 := h.cell 3
  have b4 := h.cell 4
  unfold rowD at b0 b1 b2 b3 b4 ⊢
  simp at b0 b1 b2 b3 b4
  clear h
  go_simp
set_option maxHeartbeats 2000000 in
set_option maxRecDepth 100000 in
theorem depParse_any (text : ByteArray) (hs : text.size ≤ 4194304) (w0 : World) (hT : Tabs w0) : Calls Tryz.prog 57 #[.string text] w0 (ParsePost text w0) := by
  have hmf : ∀ (fn : Fn) (first cap : Array Value) (w : World), (Instr.makeFunc fn first cap).run Tryz.prog w = .ok (.func fn first cap) w := fun _ _ _ _ => rfl
  obtain ⟨wa, hwa⟩ : ∃ wa, wa = w0.alloc (.cells #[.string text] 9) := ⟨_, rfl⟩
  obtain ⟨wb, hwb⟩ : ∃ wb, wb = wa.alloc (.cells zeroRow 50) := ⟨_, rfl⟩
  obtain ⟨wc, hwc⟩ : ∃ wc, wc = wb.alloc (.cells zeroRow 50) := ⟨_, rfl⟩
  have za : wa.heap.size = w0.heap.size + 1 := by rw [hwa]; simp
  have zb : wb.heap.size = w0.heap.size + 2 := by rw [hwb]; simp [za]
  have zc : wc.heap.size = w0.heap.size + 3 := by rw [hwc]; simp [zb]
  have hBc : Below w0.heap.size w0 wc := by
    rw [hwc, hwb, hwa]
    exact (((Below.refl _ _).alloc (Nat.le_refl _) _).alloc (by simp) _).alloc (by simp; omega) _
  have kt : Blk wc w0.heap.size 9 #[.string text] := by rw [hwc, hwb, hwa]; exact ((Blk.new _ _ _).alloc _).alloc _
  have kr : Blk wc (w0.heap.size + 1) 50 zeroRow := by rw [hwc, hwb]; exact (Blk.new' za).alloc _
  have kd : Blk wc (w0.heap.size + 2) 50 zeroRow := by rw [hwc]; exact Blk.new' zb
  have hTc : Tabs wc := hT.below hBc hT.two
  have ht2 := hT.two
  have hBx : Below wc.heap.size wc (wc.alloc (.cells #[.int .i64 0] 25)) := (Below.refl _ _).alloc (Nat.le_refl _) _
  have CC := caught_any 101 #[.pointer (some ⟨w0.heap.size, 0, none⟩), .pointer (some ⟨w0.heap.size + 2, 0, none⟩)] (enters_of Tryz.func101 (by kernel_rfl) rfl) [w0.heap.size + 2] _ _ wc (fun k hk => by simp at hk; omega)
    (parseIn_any text hs (wc.alloc (.cells #[.int .i64 0] 25)) w0.heap.size (w0.heap.size + 2) (kt.alloc _) (kd.alloc _) (hTc.below hBx hTc.two) (by omega))
  have HQ : Hid (∀ (e : Ending) (w' : World), (∃ w1, Turned [w0.heap.size + 2] (wc.alloc (.cells #[.int .i64 0] 25)) w1 ∧ Turned [wc.heap.size] w1 w' ∧ ((e = .returned (.int .i64 0) ∧ ∃ d t, Blk w1 (w0.heap.size + 2) 50 (rowD d t) ∧ Told text (wc.alloc (.cells #[.int .i64 0] 25)).heap.size w1 d t) ∨ ∃ n, e = .returned (.int .i64 n) ∧ parseD text.data.toList = (none, n) ∧ Blk w1 (w0.heap.size + 2) 50 zeroRow)) →
      Below w0.heap.size w0 w' ∧ Blk w' (w0.heap.size + 1) 50 zeroRow ∧ ((∃ d t, e = .returned (.int .i64 0) ∧ Blk w' (w0.heap.size + 2) 50 (rowD d t) ∧ Told text (w0.heap.size + 3) w' d t) ∨ ∃ n, e = .returned (.int .i64 n) ∧ parseD text.data.toList = (none, n) ∧ Blk w' (w0.heap.size + 2) 50 zeroRow)) := by
    rintro e w' ⟨w1, h1, h2, h⟩
    have hw1 : Below w0.heap.size w0 w1 := (hBc.trans (hBx.mono (by omega))).trans (h1.below (fun k hk => by simp at hk; omega) (by simp; omega))
    have hw' : Below w0.heap.size w0 w' := hw1.trans (h2.below (fun k hk => by simp at hk; omega) hw1.size)
    have hr : Blk w' (w0.heap.size + 1) 50 zeroRow := ((kr.alloc _).turned h1 (by simp)).turned h2 (by simp; omega)
    refine ⟨hw', hr, ?_⟩
    rcases h with ⟨rfl, d, t, hb, ht⟩ | ⟨n, rfl, hn, hb⟩
    · exact .inl ⟨d, t, rfl, hb.turned h2 (by simp; omega), (ht.stay h2 (fun k hk => by simp at hk; subst hk; simp)).mono (by simp; omega)⟩
    · exact .inr ⟨n, rfl, hn, hb.turned h2 (by simp; omega)⟩
  have HC : Hid (Calls Tryz.prog 100 #[.func (.func 101) #[] #[.pointer (some ⟨w0.heap.size, 0, none⟩), .pointer (some ⟨w0.heap.size + 2, 0, none⟩)]] wc (fun e w' => Below w0.heap.size w0 w' ∧ Blk w' (w0.heap.size + 1) 50 zeroRow ∧ ((∃ d t, e = .returned (.int .i64 0) ∧ Blk w' (w0.heap.size + 2) 50 (rowD d t) ∧ Told text (w0.heap.size + 3) w' d t) ∨ ∃ n, e = .returned (.int .i64 n) ∧ parseD text.data.toList = (none, n) ∧ Blk w' (w0.heap.size + 2) 50 zeroRow))) := CC.mono fun e w' h => HQ.out e w' h
  clear CC HQ hBx hTc kt kr kd hBc zc za zb ht2 hT
  subst hwc hwb hwa
  unfold zeroRow at HC
  go_enter Tryz.func57, Tryz.ntmps57
  go_wp2_with fail
  refine HC.out.mono ?_
  rintro e w2 ⟨hb, hr, h⟩
  have HB := Lib.hid hb
  have HR : Hid (Blk w2 (w0.heap.size + 1) 50 zeroRow) := hr
  have k0 := hr.free 0
  have k1 := hr.free 1
  have k2 := hr.free 2
  have k3 := hr.free 3
  have k4 := hr.free 4
  have d0 := hr.cell 0
  have d1 := hr.cell 1
  have d2 := hr.cell 2
  have d3 := hr.cell 3
  have d4 := hr.cell 4
  simp at d0 d1 d2 d3 d4
  clear hb hr HC
  rcases h with ⟨d, t, rfl, hd, ht⟩ | ⟨n, rfl, hn, hd⟩
  · obtain ⟨A, c, rfl⟩ : ∃ A c, t = .slice A d.args.length c := by
      obtain ⟨_, S, hL, _⟩ := ht
      obtain ⟨A, c, h, _, _⟩ := hL.form_
      exact ⟨A, c, h⟩
    have HP : Hid (ParsePost text w0 (.returned (.tuple #[.agg (rowD d (.slice A d.args.length c)), .int .i64 0])) (five w2 (w0.heap.size + 1) d (.slice A d.args.length c))) := by
      have h5 := five_turned w2 (w0.heap.size + 1) d (.slice A d.args.length c)
      exact ⟨HB.out.trans (h5.below (fun k hk => by simp at hk; omega) HB.out.size), .inl ⟨d, _, (ht.stay h5 (fun k hk => by simp at hk; omega)).mono (by omega), rfl⟩⟩
    have HL : Hid _ := load_dep (five_blk HR.out d (.slice A d.args.length c))
    have c0 := hd.cell 0
    have c1 := hd.cell 1
    have c2 := hd.cell 2
    have c3 := hd.cell 3
    have c4 := hd.cell 4
    unfold rowD at c0 c1 c2 c3 c4
    simp at c0 c1 c2 c3 c4
    clear hd ht HB HR
    unfold five at HP HL
    go_wp2_with fail
    exact bodyPost_ret (v := .tuple #[.agg (rowD d (.slice A d.args.length c)), .int .i64 0]) (results_cell2 rfl _ rfl rfl HL.out) rfl HP.out
  · have HP : Hid (ParsePost text w0 (.returned (.tuple #[.agg zeroRow, .int .i64 n])) (five w2 (w0.heap.size + 1) zeroD (.slice none 0 0))) := by
      have h5 := five_turned w2 (w0.heap.size + 1) zeroD (.slice none 0 0)
      exact ⟨HB.out.trans (h5.below (fun k hk => by simp at hk; omega) HB.out.size), .inr ⟨n, hn, rfl⟩⟩
    have HL : Hid _ := load_dep (five_blk HR.out zeroD (.slice none 0 0))
    have c0 := hd.cell 0
    have c1 := hd.cell 1
    have c2 := hd.cell 2
    have c3 := hd.cell 3
    have c4 := hd.cell 4
    unfold zeroRow at c0 c1 c2 c3 c4
    simp at c0 c1 c2 c3 c4
    clear hd hn HB HR
    unfold five zeroD at HP HL
    dsimp only [Dep.kind, Dep.name, Dep.op, Dep.evr] at HP HL
    go_wp2_with fail
    refine bodyPost_ret (v := .tuple #[.agg zeroRow, .int .i64 n]) ?_ rfl HP.out
    exact results_cell2 rfl _ rfl rfl HL.out
end Go.Proofs.YtpmfmkpfjomgnaaGreatDoor
namespace Go.Proofs.YtpmfmkpfjomgnaaGreatDoor
set_option linter.unusedSimpArgs false
set_option linter.unusedVariables false
open Go.RowKit
end Go.Proofs.YtpmfmkpfjomgnaaGreatDoor

/- awake of the layer provides answers true. -/
namespace Go.Proofs.YtpmfmkpfjomgnaaGreatDoor
set_option linter.unusedSimpArgs false
set_option linter.unusedVariables false
open Go.RowKit

theorem ex_repos {w0 w1 : World} {e : Ending} (h : ExPost w0 e w1) :
    ReposAt (w1.alloc (.cells (rowMain w0.heap.size) 33)) (fun _ => True) (exS w0.heap.size) (exT w0.heap.size) (exU w0.heap.size) (exL w0.heap.size) (some ⟨w1.heap.size, 0, none⟩) := fun i e hi => by
  have hP := (ex_packs h).below ((Below.refl w1.heap.size w1).alloc (Nat.le_refl _) (.cells (rowMain w0.heap.size) 33))
  have K : Blk (w1.alloc (.cells (rowMain w0.heap.size) 33)) w1.heap.size 33 (rowMain w0.heap.size) := Blk.new _ _ _
  match i, hi with
  | 0, hi =>
    simp [exL] at hi
    subst hi
    exact ⟨_, 0, _, 3, rfl, trivial, K.cell 0, K.cell 1, K.cell 2, K.cell 3, Nat.le_refl _, by simp [maxLen], hP⟩
  | i + 1, hi => simp [exL] at hi
theorem offs_lt (s : ByteArray) (h : ∀ x ∈ exOs, x.2.id < 3) : ∀ o ∈ offs s exOs, o.id < 3 := fun o ho => by
  unfold offs at ho
  simp only [List.mem_filterMap, List.mem_map, List.mem_filter] at ho
  obtain ⟨x, hx, rfl⟩ := ho
  exact h x hx.1
set_option maxRecDepth 100000 in
theorem exOs_lt : ∀ x ∈ exOs, x.2.id < 3 := by decide +kernel
theorem leaf_okB : LeafOk 3 exOs leafB := ⟨rfl, rfl, by decide, offs_lt _ exOs_lt⟩
theorem leaf_okL : LeafOk 3 exOs leafL := ⟨rfl, rfl, by decide, offs_lt _ exOs_lt⟩
theorem leaf_okA : LeafOk 3 exOs leafA := ⟨rfl, rfl, by decide, offs_lt _ exOs_lt⟩
def askQ : List Nat → Bool := choiceB 3 (leafQ 1 exOs leafB) (leafQ 1 exOs leafL) (leafQ 1 exOs leafA)
theorem ask_met {w : World} {x : Nat} (h : IdxNow w x 1 ((3 : Nat) : Int) exOs) (s : Value) (S : Nat → Prop) (hL : Lay w S askD s) (hC : CleanS w S) (hT : Tabs w) (i : Nat) (hi : i < 3) {b : Nat} (hb : Blk w b 3 #[.int .i64 ((i : Nat) : Int)]) :
    Calls Tryz.prog 29 #[.pointer (some ⟨x, 0, none⟩), .agg (rowD askD s), .slice (some ⟨b, 0, none⟩) 1 1] w fun e w' => e = .returned (.tuple #[.bool (askQ [i]), .int .i64 0]) ∧ Below w.heap.size w w' := by
  refine met_any h (by decide) askD s S hL hC hT (by decide) ask_check.1 askQ (fun w' hbw => ?_) [i] (some ⟨b, 0, none⟩) 1 (fun k z hk => ?_) (Nat.le_refl _) (by simp [maxLen]) (fun j hj => ?_)
  · exact together_if (h.below hbw) askD s S (hL.stay (fun _ h => h) (StayS.below' hbw)) rfl leafB leafL leafA (.inr rfl) (by decide) (fun a ha => by
      have : a = leafB ∨ a = leafL ∨ a = leafA := by simpa [askD, Dep.args] using ha
      rcases this with rfl | rfl | rfl
      · exact leaf_okB
      · exact leaf_okL
      · exact leaf_okA)
  · match k, hk with
    | 0, hk =>
      simp [zsOf] at hk
      subst hk
      exact ⟨b, 0, rfl, hb.cell 0⟩
    | k + 1, hk => simp [zsOf] at hk
  · simp at hj; subst hj; exact hi
theorem ask_whoC {w : World} {x : Nat} (h : IdxNow w x 1 ((3 : Nat) : Int) exOs) (hT : Tabs w) :
    Calls Tryz.prog 28 #[.pointer (some ⟨x, 0, none⟩), .agg (rowD askL (.slice none 0 0))] w (WhoTold w [0]) := by
  have C := who_any h (by decide) askL (.slice none 0 0) (fun _ => False) (Lay.none_ _ _ _ _ _ _) (fun b hb => hb.elim) hT (by decide) ask_check.2 (by decide) (by decide) (by decide) (aloneB 1 exOs askL)
    (fun w' hb => alone_leaf (h.below hb) askL (by decide) (by decide) none 0 (by decide) (offs_lt _ exOs_lt) (by decide))
  rw [ask_who] at C
  exact C
theorem ask_form {w : World} {text : ByteArray} {n0 : Nat} {d : Dep} {t : Value} (h : Told text n0 w d t) : ∃ A c, t = .slice A d.args.length c := by
  obtain ⟨_, S, hL, _⟩ := h
  obtain ⟨A, c, rfl, _⟩ := hL.form_
  exact ⟨A, c, rfl⟩

set_option maxHeartbeats 8000000 in
set_option maxRecDepth 100000 in
theorem provAwake_any (w : World) (hT : Tabs w) : Calls Tryz.prog 26 #[] w (TrueBelow w) := by
  have CE := Lib.hid (example_any w)
  have HT := Lib.hid hT
  clear hT
  go_enter Tryz.func26, Tryz.ntmps26
  go_wp2_with fail
  refine CE.out.mono ?_
  rintro e w1 hx
  have HX := Lib.hid hx
  obtain ⟨hb1, rfl, -⟩ := hx
  have hb2 : Below w.heap.size w (w1.alloc (.cells (rowMain w.heap.size) 33)) := hb1.alloc hb1.size _
  have hba : Below w1.heap.size w1 (w1.alloc (.cells (rowMain w.heap.size) 33)) := (Below.refl _ _).alloc (Nat.le_refl _) _
  have CP : Hid (Calls Tryz.prog 32 #[.int .i64 1, .slice (some ⟨w1.heap.size, 0, none⟩) 1 1] (w1.alloc (.cells (rowMain w.heap.size) 33)) (PoolsPost (w1.alloc (.cells (rowMain w.heap.size) 33)) 1 (exL w.heap.size))) :=
    pools_any 1 (.inl rfl) (exL w.heap.size) (ex_good _) (some ⟨w1.heap.size, 0, none⟩) 1 (fun _ => True) (exS w.heap.size) (exT w.heap.size) (exU w.heap.size) _ (ex_repos HX.out) ⟨Nat.le_refl _, by simp [maxLen]⟩ ((ex_clean HX.out).stay (StayS.below' hba)) (fun b hb => by have := ex_lt HX.out b hb; simp; omega) (HT.out.below hb2 HT.out.two)
  have HB2 := Lib.hid hb2
  clear hb1 hb2 hba CE HX
  unfold rowMain at CP HB2 ⊢
  go_wp2_with fail
  refine CP.out.mono ?_
  rintro e w3 ⟨g, m, rfl, O, S, T, RO, ks, rs, na, hBo⟩
  have hks : ks.map Kep.p = [exA, exB, exC] := hBo.pkgs
  have hlen : ks.length = 3 := by have := congrArg List.length hks; simpa using this
  have hb3 := HB2.out.trans (hBo.below.mono HB2.out.size)
  have CI := Lib.hid (newIdx_any hBo.pool (ex_held (n := w.heap.size) hBo.pkgs))
  have HB3 := Lib.hid hb3
  have HK := Lib.hid hks
  have HL := Lib.hid hlen
  clear hb3 hBo hks hlen CP HB2
  go_wp2_with fail
  refine CI.out.mono ?_
  rintro e w4 ⟨x, rfl, hb4, Oi, bmi, fi, hI⟩
  have hB4 := HB3.out.trans (hb4.mono HB3.out.size)
  rw [HK.out, HL.out] at hI
  have hN4 : IdxNow w4 x 1 ((3 : Nat) : Int) exOs := ⟨_, _, _, _, hI⟩
  have CD : Hid (Calls Tryz.prog 57 #[.string ⟨#[40, 98, 32, 105, 102, 32, 108, 105, 98, 32, 62, 32, 49, 32, 101, 108, 115, 101, 32, 97, 41]⟩] w4 (ParsePost askText w4)) := depParse_any askText (by rw [ask_len]; decide) w4 (HT.out.below hB4 HT.out.two)
  have HB4 := Lib.hid hB4
  have HN4 := Lib.hid hN4
  clear hb4 hI hB4 hN4 CI HB3 HK HL
  go_wp2_with fail
  refine CD.out.mono ?_
  rintro e w5 ⟨hb5, h5⟩
  obtain ⟨d, t, htold, rfl⟩ : ∃ d t, Told askText w4.heap.size w5 d t ∧ e = .returned (.tuple #[.agg (rowD d t), .int .i64 0]) := by
    rcases h5 with h5 | ⟨n, hn, _⟩
    · exact h5
    · rw [ask_parse] at hn
      exact absurd (congrArg Prod.fst hn) (by simp)
  obtain rfl : d = askD := by
    have := htold.1
    rw [ask_parse] at this
    injection this with h1
    injection h1 with h1
    exact h1.symm
  obtain ⟨A, c, rfl⟩ := ask_form htold
  have hB5 := HB4.out.trans (hb5.mono HB4.out.size)
  have HN5 := Lib.hid (HN4.out.below hb5)
  obtain ⟨-, S5, hL5, hC5, hS5, -⟩ := htold
  have HL5 := Lib.hid (And.intro hL5 hC5)
  have HB5 := Lib.hid hB5
  clear hb5 h5 hL5 hC5 hS5 hB5 CD HB4 HN4
  -- the variable d, and the first system
  obtain ⟨w6, hw6⟩ : ∃ w6, w6 = w5.alloc (.cells (rowD askD (.slice A 3 c)) 50) := ⟨_, rfl⟩
  have hb56 : Below w5.heap.size w5 w6 := by rw [hw6]; exact (Below.refl _ _).alloc (Nat.le_refl _) _
  have HW6 := Lib.hid hw6
  have KD6 : Blk w6 w5.heap.size 50 (rowD askD (.slice A 3 c)) := by rw [hw6]; exact Blk.new _ _ _
  have hB6 := HB5.out.trans (hb56.mono HB5.out.size)
  obtain ⟨w7, hw7⟩ : ∃ w7, w7 = w6.alloc (.cells #[.int .i64 2] 3) := ⟨_, rfl⟩
  have hb67 : Below w6.heap.size w6 w7 := by rw [hw7]; exact (Below.refl _ _).alloc (Nat.le_refl _) _
  have KI7 : Blk w7 w6.heap.size 3 #[.int .i64 2] := by rw [hw7]; exact Blk.new _ _ _
  have hB7 := hB6.trans (hb67.mono hB6.size)
  have hL7 := HL5.out.1.stay (fun _ h => h) ((StayS.below' hb56 (S := S5)).trans (StayS.below' hb67) hb56.size)
  have hC7 := HL5.out.2.stay ((StayS.below' hb56 (S := S5)).trans (StayS.below' hb67) hb56.size)
  have CM1 := Lib.hid (ask_met ((HN5.out.below hb56).below hb67) _ S5 hL7 hC7 (HT.out.below hB7 HT.out.two) 2 (by decide) KI7)
  have H7 := Lib.hid (And.intro ((HN5.out.below hb56).below hb67) (And.intro hL7 (And.intro hC7 (And.intro (KD6.below hb67 KD6.lt) hB7))))
  rw [show askQ [2] = true from ask_two] at CM1
  have d0 := KD6.cell 0
  have d1 := KD6.cell 1
  have d2 := KD6.cell 2
  have d3 := KD6.cell 3
  have d4 := KD6.cell 4
  rw [hw7] at CM1
  unfold rowD askD at d0 d1 d2 d3 d4 CM1 hw6
  simp only [Dep.kind, Dep.name, Dep.op, Dep.evr, Dep.args] at d0 d1 d2 d3 d4 CM1 hw6
  simp only [List.length_cons, List.length_nil, Nat.zero_add, Nat.reduceAdd] at CM1
  simp at d0 d1 d2 d3 d4
  have HW7 := Lib.hid hw7
  clear hb56 KD6 hB6 hb67 KI7 hB7 hL7 hC7 HB5 HN5 HL5 hw7
  unfold rowD askD
  simp only [Dep.kind, Dep.name, Dep.op, Dep.evr, Dep.args, List.length_cons, List.length_nil]
  go_upto_region 6 with fail
  rw [← hw6]
  clear hw6
  go_wp2_with fail
  refine CM1.out.mono ?_
  rintro e w8 ⟨rfl, hb8⟩
  rw [← HW7.out] at hb8
  have hB8 := H7.out.2.2.2.2.trans (hb8.mono H7.out.2.2.2.2.size)
  have KD8 := H7.out.2.2.2.1.below hb8 H7.out.2.2.2.1.lt
  have hN8 := H7.out.1.below hb8
  have hL8 := H7.out.2.1.stay (fun _ h => h) (StayS.below' hb8)
  have hC8 := H7.out.2.2.1.stay (StayS.below' hb8)
  obtain ⟨w9, hw9⟩ : ∃ w9, w9 = w8.alloc (.cells #[.int .i64 0] 3) := ⟨_, rfl⟩
  have hb89 : Below w8.heap.size w8 w9 := by rw [hw9]; exact (Below.refl _ _).alloc (Nat.le_refl _) _
  have KI9 : Blk w9 w8.heap.size 3 #[.int .i64 0] := by rw [hw9]; exact Blk.new _ _ _
  have hB9 := hB8.trans (hb89.mono hB8.size)
  have CM2 := Lib.hid (ask_met (hN8.below hb89) _ S5 (hL8.stay (fun _ h => h) (StayS.below' hb89)) (hC8.stay (StayS.below' hb89)) (HT.out.below hB9 HT.out.two) 0 (by decide) KI9)
  rw [show askQ [0] = false from ask_none] at CM2
  have H9 := Lib.hid (And.intro (hN8.below hb89) hB9)
  have HW9 := Lib.hid hw9
  clear d0 d1 d2 d3 d4
  have d0 := KD8.cell 0
  have d1 := KD8.cell 1
  have d2 := KD8.cell 2
  have d3 := KD8.cell 3
  have d4 := KD8.cell 4
  rw [hw9] at CM2
  unfold rowD askD at d0 d1 d2 d3 d4 CM2
  simp only [Dep.kind, Dep.name, Dep.op, Dep.evr, Dep.args] at d0 d1 d2 d3 d4 CM2
  simp only [List.length_cons, List.length_nil, Nat.zero_add, Nat.reduceAdd] at CM2
  simp at d0 d1 d2 d3 d4
  clear hb8 hB8 KD8 hN8 hL8 hC8 hb89 KI9 hB9 hw9 CM1 H7 HW7 HW6
  go_wp2_with fail
  refine CM2.out.mono ?_
  rintro e w10 ⟨rfl, hb10⟩
  rw [← HW9.out] at hb10
  have hB10 := H9.out.2.trans (hb10.mono H9.out.2.size)
  have CW := Lib.hid (ask_whoC (H9.out.1.below hb10) (HT.out.below hB10 HT.out.two))
  unfold rowD askL at CW
  simp only [Dep.kind, Dep.name, Dep.op, Dep.evr, Dep.args] at CW
  have HB10 := Lib.hid hB10
  clear hb10 hB10 CM2 H9 HW9 d0 d1 d2 d3 d4
  go_wp2_with fail
  refine CW.out.mono ?_
  rintro e w11 ⟨hb11, v, rfl, hv⟩
  have HB11 : Hid (Below w.heap.size w w11) := HB10.out.trans (hb11.mono HB10.out.size)
  have hv' : w11.ownsRow w10.heap.size 3 1 v 1 [.int .i64 ((0 : Nat) : Int)] := hv
  obtain ⟨Av, cv, rfl, hc1, hc2⟩ := own_form' hv'
  obtain ⟨bv, rfl, hcell⟩ := own_at_ (k := 0) (u := .int .i64 0) hv' rfl
  clear hb11 hv hv' CW HB10 hc1
  go_wp2_with fail
  go_ret
  exact ⟨rfl, HB11.out⟩
end Go.Proofs.YtpmfmkpfjomgnaaGreatDoor

/- ProvidesNames and ProvidesNil: the walks of the laws. -/
namespace Go.Proofs.YtpmfmkpfjomgnaaGreatDoor
set_option linter.unusedSimpArgs false
set_option linter.unusedVariables false
open Go.RowKit Go.WideShapes

set_option maxHeartbeats 2000000 in
set_option maxRecDepth 100000 in
theorem provNames_any (W : World) (hT : Tabs W) : Calls Tryz.prog 4 #[] W (TrueBelow W) := by
  have C := Lib.hid (provAwake_any W hT)
  clear hT
  go_enter Tryz.func4, Tryz.ntmps4
  go_wp2_with fail
  refine C.out.mono ?_
  rintro e w1 ⟨rfl, hb1⟩
  go_wp2_with fail
  go_ret
  exact ⟨rfl, hb1⟩
theorem providesNames_walk (W : World) (hL : laidMetH Tryz.prog Rows.providesNamesRow.laid W) : Calls Tryz.prog 4 #[] W (TrueBelow W) := by
  rw [MakeChecks.laidMetH_plain _ _ _ (by kernel_rfl)] at hL
  exact provNames_any W (tabs_of hL (by simp [Rows.providesNamesRow]) (by simp [Rows.providesNamesRow]))

set_option maxRecDepth 100000 in
theorem newIdx_nil (w : World) : Calls Tryz.prog 27 #[.pointer none] w fun e w' => e = .returned (.pointer none) ∧ w = w' := by
  go_enter Tryz.func27, Tryz.ntmps27
  go_wp2_with fail
  go_ret
  exact ⟨rfl, rfl⟩
set_option maxRecDepth 100000 in
theorem chk_nil (c0 c1 c2 c3 c4 : Value) (w : World) : Calls Tryz.prog 59 #[.pointer none, .agg #[c0, c1, c2, c3, c4]] w fun e w' => e = .returned (.int .i64 1) ∧ Below w.heap.size w w' := by
  have HB : Hid (Below w.heap.size w (w.alloc (.cells #[c0, c1, c2, c3, c4] 50))) := (Below.refl _ _).alloc (Nat.le_refl _) _
  go_enter Tryz.func59, Tryz.ntmps59
  go_wp2_with fail
  go_ret
  first | exact ⟨rfl, HB.out⟩ | exact ⟨rfl, Below.refl _ _⟩
set_option maxRecDepth 100000 in
theorem who_nil (c0 c1 c2 c3 c4 : Value) (w : World) : Calls Tryz.prog 28 #[.pointer none, .agg #[c0, c1, c2, c3, c4]] w fun e w' => e = .returned (.tuple #[.slice none 0 0, .int .i64 1]) ∧ Below w.heap.size w w' := by
  have HB : Hid (Below w.heap.size w (w.alloc (.cells #[c0, c1, c2, c3, c4] 50))) := (Below.refl _ _).alloc (Nat.le_refl _) _
  have CC := Lib.hid (chk_nil c0 c1 c2 c3 c4)
  go_enter Tryz.func28, Tryz.ntmps28
  go_wp2_with fail
  refine (CC.out _).mono ?_
  rintro e w1 ⟨rfl, hb1⟩
  have HB1 : Hid (Below w.heap.size w w1) := HB.out.trans (hb1.mono HB.out.size)
  clear hb1 CC HB
  go_wp2_with fail
  go_ret2
  exact ⟨rfl, HB1.out⟩
set_option maxRecDepth 100000 in
theorem met_nil (c0 c1 c2 c3 c4 v : Value) (w : World) : Calls Tryz.prog 29 #[.pointer none, .agg #[c0, c1, c2, c3, c4], v] w fun e w' => e = .returned (.tuple #[.bool false, .int .i64 1]) ∧ Below w.heap.size w w' := by
  have HB : Hid (Below w.heap.size w ((w.alloc (.cells #[.pointer none] 51)).alloc (.cells #[c0, c1, c2, c3, c4] 50))) := ((Below.refl _ _).alloc (Nat.le_refl _) _).alloc (by simp) _
  have CC := Lib.hid (chk_nil c0 c1 c2 c3 c4)
  go_enter Tryz.func29, Tryz.ntmps29
  go_wp2_with fail
  refine (CC.out _).mono ?_
  rintro e w1 ⟨rfl, hb1⟩
  have HB1 : Hid (Below w.heap.size w w1) := HB.out.trans (hb1.mono HB.out.size)
  clear hb1 CC HB
  go_wp2_with fail
  go_ret2
  exact ⟨rfl, HB1.out⟩
set_option maxRecDepth 100000 in
theorem obs_nil (c0 c1 c2 c3 c4 : Value) (w : World) : Calls Tryz.prog 30 #[.pointer none, .agg #[c0, c1, c2, c3, c4]] w fun e w' => e = .returned (.tuple #[.slice none 0 0, .int .i64 1]) ∧ Below w.heap.size w w' := by
  have HB : Hid (Below w.heap.size w ((w.alloc (.cells #[.pointer none] 51)).alloc (.cells #[c0, c1, c2, c3, c4] 50))) := ((Below.refl _ _).alloc (Nat.le_refl _) _).alloc (by simp) _
  have CC := Lib.hid (chk_nil c0 c1 c2 c3 c4)
  go_enter Tryz.func30, Tryz.ntmps30
  go_wp2_with fail
  refine (CC.out _).mono ?_
  rintro e w1 ⟨rfl, hb1⟩
  have HB1 : Hid (Below w.heap.size w w1) := HB.out.trans (hb1.mono HB.out.size)
  clear hb1 CC HB
  go_wp2_with fail
  go_ret2
  exact ⟨rfl, HB1.out⟩
set_option maxRecDepth 100000 in
theorem In.dep5 {H : Type} {enc : TypeId × Value → H} {W : World} {v : Value} {di : DataW H} (h : In enc Tryz.prog W 50 v di) : ∃ c0 c1 c2 c3 c4, v = .agg #[c0, c1, c2, c3, c4] := by
  obtain ⟨⟨b, hv⟩, ps, fuel, hf⟩ := h
  obtain ⟨cs, rfl, hs⟩ := okWide_struct Tryz.underlying50 hv
  have h5 : cs.size = 5 := hs.trans (by kernel_rfl)
  obtain ⟨l⟩ := cs
  match l, h5 with
  | [c0, c1, c2, c3, c4], _ => exact ⟨c0, c1, c2, c3, c4, rfl⟩
set_option maxHeartbeats 2000000 in
set_option maxRecDepth 100000 in
theorem provNil_any (c0 c1 c2 c3 c4 v : Value) (W : World) (hT : Tabs W) : Calls Tryz.prog 5 #[.agg #[c0, c1, c2, c3, c4], v] W (TrueBelow W) := by
  have hb0 : Below W.heap.size W (W.alloc (.cells #[c0, c1, c2, c3, c4] 50)) := (Below.refl _ _).alloc (Nat.le_refl _) _
  have K0 : Blk (W.alloc (.cells #[c0, c1, c2, c3, c4] 50)) W.heap.size 50 #[c0, c1, c2, c3, c4] := Blk.new _ _ _
  have C := Lib.hid (provAwake_any _ (hT.below hb0 hT.two))
  have HB0 := Lib.hid hb0
  have HK0 := Lib.hid K0
  clear hT hb0 K0
  go_enter Tryz.func5, Tryz.ntmps5
  go_wp2_with fail
  refine C.out.mono ?_
  rintro e w1 ⟨rfl, hb1⟩
  have HB1 : Hid (Below W.heap.size W w1) := HB0.out.trans (hb1.mono (by simp))
  have HK1 := Lib.hid (HK0.out.below hb1 HK0.out.lt)
  have CI := Lib.hid (newIdx_nil w1)
  clear hb1 C HB0 HK0
  go_wp2_with fail
  refine CI.out.mono ?_
  rintro e w2 ⟨rfl, rfl⟩
  have k0 := HK1.out.cell 0
  have k1 := HK1.out.cell 1
  have k2 := HK1.out.cell 2
  have k3 := HK1.out.cell 3
  have k4 := HK1.out.cell 4
  simp at k0 k1 k2 k3 k4
  have CW := Lib.hid (who_nil c0 c1 c2 c3 c4 w1)
  clear CI
  go_wp2_with fail
  refine CW.out.mono ?_
  rintro e w2 ⟨rfl, hb2⟩
  have HB2 : Hid (Below W.heap.size W w2) := HB1.out.trans (hb2.mono HB1.out.size)
  have HK2 := Lib.hid (HK1.out.below hb2 HK1.out.lt)
  clear hb2 CW HB1 HK1 k0 k1 k2 k3 k4
  have k0 := HK2.out.cell 0
  have k1 := HK2.out.cell 1
  have k2 := HK2.out.cell 2
  have k3 := HK2.out.cell 3
  have k4 := HK2.out.cell 4
  simp at k0 k1 k2 k3 k4
  have CM := Lib.hid (met_nil c0 c1 c2 c3 c4 v w2)
  go_wp2_with fail
  refine CM.out.mono ?_
  rintro e w3 ⟨rfl, hb3⟩
  have HB3 : Hid (Below W.heap.size W w3) := HB2.out.trans (hb3.mono HB2.out.size)
  have HK3 := Lib.hid (HK2.out.below hb3 HK2.out.lt)
  clear hb3 CM HB2 HK2 k0 k1 k2 k3 k4
  have k0 := HK3.out.cell 0
  have k1 := HK3.out.cell 1
  have k2 := HK3.out.cell 2
  have k3 := HK3.out.cell 3
  have k4 := HK3.out.cell 4
  simp at k0 k1 k2 k3 k4
  have CO := Lib.hid (obs_nil c0 c1 c2 c3 c4 w3)
  go_wp2_with fail
  refine CO.out.mono ?_
  rintro e w4 ⟨rfl, hb4⟩
  have HB4 : Hid (Below W.heap.size W w4) := HB3.out.trans (hb4.mono HB3.out.size)
  clear hb4 CO HB3 HK3 k0 k1 k2 k3 k4
  go_wp2_with fail
  go_ret
  exact ⟨rfl, HB4.out⟩
theorem providesNil_walk {H : Type} {enc : TypeId × Value → H} (W : World) {v0 v1 : Value} {d0 d1 : DataW H} (h0 : In enc Tryz.prog W 50 v0 d0) (h1 : In enc Tryz.prog W 39 v1 d1) (hL : laidMetH Tryz.prog Rows.providesNilRow.laid W)
    (hsz : (DataW.weightsEach Tryz.prog ([50, 39] ++ Rows.providesNilSpec.plain.varTypes Tryz.prog) ([d0, d1] ++ [])).all (· ≤ reachBytes) = true) :
    Calls Tryz.prog 5 #[v0, v1] W (TrueBelow W) := by
  obtain ⟨c0, c1, c2, c3, c4, rfl⟩ := In.dep5 h0
  rw [MakeChecks.laidMetH_plain _ _ _ (by kernel_rfl)] at hL
  exact provNil_any c0 c1 c2 c3 c4 v1 W (tabs_of hL (by simp [Rows.providesNilRow]) (by simp [Rows.providesNilRow]))
end Go.Proofs.YtpmfmkpfjomgnaaGreatDoor

/- A world in which Go's own table unicode/utf8.first lies, beside the tables that the program's text lays: the witness of these rows. -/
namespace Go.Proofs.YtpmfmkpfjomgnaaGreatDoor
set_option linter.unusedSimpArgs false
set_option linter.unusedVariables false
noncomputable def witW (os : Os) : World :=
  { World.doorLaid Tryz.prog 29 os with heap := (World.doorLaid Tryz.prog 29 os).heap.setIfInBounds 3 (.cells (Go.Pinned.utf8FirstZ.map fun n : Nat => Value.int .u8 (n : Int)).toArray 244 (0, 0)) }
end Go.Proofs.YtpmfmkpfjomgnaaGreatDoor
