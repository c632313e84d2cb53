/- The contract of awake: the calls at the head of all statements answer as the document says. -/
import Derived.Test.YthgagobdkcikiaaDoorNew
import Derived.Test.YthgagobdkcikiaaDoorSet
import Derived.Test.YthgagobdkcikiaaDoorGet
import Derived.Test.YthgagobdkcikiaaDoorDir
namespace Go.Proofs.YthgagobdkcikiaaDoor
set_option linter.unusedSimpArgs false
set_option linter.unusedVariables false
open Go.RowKit

def sizeK : ByteArray := ⟨#[115, 105, 122, 101]⟩
theorem key_size : keyB sizeK = true := by kernel_rfl
theorem may_one {S : VSt} (h : S.kind sizeK = none) (hk : S.keys = []) : mayE S 3 sizeK 1 10 ⟨#[]⟩ [] = 0 := by
  unfold mayE
  rw [key_size, h, hk]
  decide
theorem may_two {S : VSt} (h : S.kind sizeK = some 1) : mayE S 4 sizeK 2 0 ⟨#[120]⟩ [] = 81 := by
  unfold mayE
  rw [key_size, h]
  rfl
theorem dir_usr : dirAns [rootD] ⟨#[47, 117, 115, 114, 47, 108, 105, 98]⟩ = ((2, 0), [rootD, (0, ⟨#[117, 115, 114]⟩), (1, ⟨#[108, 105, 98]⟩)]) := by
  have h : partsOf ⟨#[47, 117, 115, 114, 47, 108, 105, 98]⟩ = some [⟨#[117, 115, 114]⟩, ⟨#[108, 105, 98]⟩] := by kernel_rfl
  unfold dirAns
  rw [h]
  have h1 : wk [rootD] 0 [⟨#[117, 115, 114]⟩, ⟨#[108, 105, 98]⟩] = (0, [⟨#[117, 115, 114]⟩, ⟨#[108, 105, 98]⟩]) := by decide
  simp only [h1]
  decide
theorem glob_abc : fitsB 4 ⟨#[97, 42, 98, 42, 99]⟩ ⟨#[97, 88, 98, 89, 98, 99]⟩ = true := by kernel_rfl
theorem MaxAt.below {w w' : World} {B : Nat} (h : MaxAt w) (hb : Below B w w') (hB : 0 < B) : MaxAt w' := by
  obtain ⟨m, hm⟩ := h
  exact ⟨m, (World.cell?_of_block (hb.block _ hB)).trans hm⟩
theorem MaxAt.drewN {w : World} (h : MaxAt w) (n : Nat) : MaxAt (w.drewN n) := h
/-- What stands behind the first Set. -/
def Mid (W w : World) (b : Nat) (r : RawN) : Prop :=
  ∃ vk mk mv vd mp S, Blk w b 56 #[vk, .map (some mk), .map (some mv), vd, .map (some mp)] ∧ ValP w vk mk mv S 1 ∧ DirP w vd mp [rootD] ∧ S.kind sizeK = some 1 ∧ S.raw sizeK 3 = some r ∧ W.heap.size ≤ b ∧ W.heap.size ≤ mp ∧ (∀ k, vd.ownBlock = some k → W.heap.size ≤ k) ∧ Below W.heap.size W w ∧
    ∀ k, k ∈ vfeet S b vk mk mv → W.heap.size ≤ k
theorem Mid.below {W w w' : World} {b : Nat} {r : RawN} (h : Mid W w b r) (hb : Below w.heap.size w w') : Mid W w' b r := by
  obtain ⟨vk, mk, mv, vd, mp, S, h1, h2, h3, h4, h5, h6, h7, h8, h9, h10⟩ := h
  obtain ⟨D, hm, hA⟩ := h3.map
  exact ⟨vk, mk, mv, vd, mp, S, h1.below hb h1.lt, h2.below hb, ⟨h3.ok, own_turned h3.row (Turned.of_below hb []) (by simp), D, map_turned hm (Turned.of_below hb []) (by simp), hA⟩, h4, h5, h6, h7, h8, h9.trans (hb.mono h9.size), h10⟩
theorem mid_of {W w1 w2 : World} {b mk mv mp : Nat} {vd : Value} (hb1 : Below W.heap.size W w1) (hB : Blk w1 b 56 #[.slice none 0 0, .map (some mk), .map (some mv), vd, .map (some mp)]) (hD : DirP w1 vd mp [rootD]) (hV : ValP w1 (.slice none 0 0) mk mv S0 0)
    (l1 : W.heap.size ≤ b) (l2 : W.heap.size ≤ mk) (l3 : W.heap.size ≤ mv) (l4 : W.heap.size ≤ mp) (l5 : ∀ k, vd.ownBlock = some k → W.heap.size ≤ k) (n1 : mp ≠ mk) (n2 : mp ≠ mv)
    (h : SetOk w1 b (.slice none 0 0) mk mv vd (.map (some mp)) S0 0 3 sizeK 1 10 ⟨#[]⟩ [] w2) : ∃ r : RawN, r.1.n = 10 ∧ Mid W w2 b r := by
  obtain ⟨vk2, S5, r, h1, h2, h3, h4, h5, h6⟩ := h
  obtain ⟨D, hm, hA⟩ := hD.map
  obtain ⟨_, hmk, _⟩ := hV.kinds
  obtain ⟨_, hmv, _⟩ := hV.vals
  have hvf : vfeet S0 b (.slice none 0 0) mk mv = [b, mk, mv] := rfl
  rw [hvf] at h3
  rcases h6 with ⟨e, _⟩ | ⟨_, nb, hnb, rfl, hown⟩
  · simp [S0] at e
  have hz := hb1.size
  refine ⟨r, h4.2.1, vk2, mk, mv, vd, mp, _, h1, h2, ⟨hD.ok, own_turned hD.row h3 (fun k hk hm' => ?_), D, map_turned hm h3 (fun hm' => ?_), hA⟩, ?_, ?_, l1, l4, l5, ?_, ?_⟩
  · simp at hm'
    rcases hm' with rfl | rfl | rfl
    · exact own_kind hD.row hB (by decide) hk
    · exact map_own hmk hD.row hk
    · exact map_own hmv hD.row hk
  · simp at hm'
    rcases hm' with e | e | e
    · exact map_kind hm hB e
    · exact n1 e
    · exact n2 e
  · show (if sizeK = sizeK then some (1 : Int) else S0.kind sizeK) = some 1
    exact if_pos rfl
  · show (if sizeK = sizeK ∧ (3 : Int) = 3 then some r else S0.raw sizeK 3) = some r
    exact if_pos ⟨rfl, rfl⟩
  · exact hb1.trans (h3.below (fun k hk => by simp at hk; rcases hk with rfl | rfl | rfl <;> omega) hz)
  · intro k hk
    unfold vfeet at hk
    simp only [List.mem_cons, List.mem_append, Option.mem_toList, List.mem_filterMap] at hk
    rcases hk with e | e | e | e | ⟨a, _, e⟩
    · omega
    · omega
    · omega
    · rcases hown with h | ⟨g, hg, h⟩
      · rw [h] at e; simp [Value.ownBlock] at e
      · rw [h] at e; injection e with e; omega
    · change (if a = sizeK then some nb else none) = some k at e
      split at e
      · injection e with e; omega
      · cases e
set_option maxHeartbeats 4000000 in
set_option maxRecDepth 100000 in
theorem awake_any (w : World) (hm : MaxAt w) (h0 : 0 < w.heap.size) : Calls Tryd.prog 8 #[] w fun e w' => e = .returned (.bool true) ∧ Below w.heap.size w w' := by
  have HM : Hid (MaxAt w) := hm
  have H0 := Lib.hid h0
  clear hm h0
  go_enter Tryd.func8, Tryd.ntmps8
  go_wp2_with fail
  refine (new_any w).mono ?_
  rintro e w1 ⟨b, mk, mv, vd, mp, rfl, hb1, hB, hD, hV, l1, l2, l3, l4, l5, n1, n2⟩
  have CS := Lib.hid (set_any w1 b (.slice none 0 0) mk mv vd (.map (some mp)) S0 0 hB hV (by decide) 3 sizeK (by decide) 1 10 (by decide) (by unfold okI; decide) ⟨#[]⟩ none 0 [] Rd.nil (Nat.le_refl _) (by decide) (fun _ => ⟨rfl, rfl⟩) (fun h => absurd rfl h))
  have HMID : Hid (∀ w2, SetOk w1 b (.slice none 0 0) mk mv vd (.map (some mp)) S0 0 3 sizeK 1 10 ⟨#[]⟩ [] w2 → ∃ r : RawN, r.1.n = 10 ∧ Mid w w2 b r) := fun w2 h => mid_of hb1 hB hD hV l1 l2 l3 l4 l5 n1 n2 h
  unfold sizeK at CS
  clear hb1 hB hD hV l1 l2 l3 l4 l5 n1 n2
  go_wp2_with fail
  refine CS.out.mono ?_
  rintro e w2 ⟨rfl, -, hok⟩
  have hx1 : mayE S0 3 sizeK 1 10 ⟨#[]⟩ [] = 0 := may_one rfl rfl
  obtain ⟨r, hr10, hmid⟩ := HMID.out w2 (hok hx1)
  unfold sizeK at hx1
  rw [hx1]
  clear hok hx1 CS HMID
  have HR10 := Lib.hid hr10
  have HMI := Lib.hid hmid
  obtain ⟨vk, mk, mv, vd, mp, S, h1, h2, h3, h4, h5, h6, h7, h8, h9, h10⟩ := hmid
  have CS2 := Lib.hid (set_any w2 b vk mk mv vd (.map (some mp)) S 1 h1 h2 (by decide) 4 sizeK (by decide) 2 0 (by decide) (by unfold okI; decide) ⟨#[120]⟩ none 0 [] Rd.nil (Nat.le_refl _) (by decide) (fun _ => ⟨rfl, rfl⟩) (fun h => absurd rfl h))
  have hx2 := may_two h4
  unfold sizeK at CS2 hx2
  clear h1 h2 h3 h4 h5 h6 h7 h8 h9 h10 hr10
  go_wp2_with fail
  refine CS2.out.mono ?_
  rintro e w3 ⟨rfl, hbe, -⟩
  rw [hx2] at hbe ⊢
  have HM3 := Lib.hid (HMI.out.below (hbe (by decide)))
  clear hbe hx2 CS2 HMI
  obtain ⟨vk', mk', mv', vd', mp', S', h1, h2, h3, h4, h5, h6, h7, h8, h9, h10⟩ := HM3.out
  have CG := Lib.hid (get_any w3 b vk' mk' mv' vd' (.map (some mp')) S' 1 h1 h2 3 (by unfold okI; decide) sizeK (by decide))
  have HG : Hid (∀ e w', GetPost w3 S' 3 sizeK e w' → Below w3.heap.size w3 w' ∧ ∃ r' : RawN, e = .returned (.tuple #[valRN r', .int .i64 0]) ∧ r'.1.n = 10) := fun e w' h => by
    unfold GetPost at h
    rw [h5] at h
    obtain ⟨h1, r', h2, _, h3, _⟩ := h
    exact ⟨h1, r', h2, h3.trans HR10.out⟩
  unfold sizeK at CG HG
  clear h1 h2 h3 h4 h5 h6 h7 h8 h9 h10
  go_wp2_with fail
  refine CG.out.mono ?_
  intro e w4 hpost
  obtain ⟨hb4, r', rfl, hn'⟩ := HG.out e w4 hpost
  have HM4 := Lib.hid (HM3.out.below hb4)
  have HN := Lib.hid hn'
  clear hpost hb4 hn' CG HG HM3 HR10
  obtain ⟨⟨k', n', s', a', m'⟩, hr'⟩ := r'
  have hn10 : n' = 10 := HN.out
  subst hn10
  have hlv : listV a' m' = .slice none 0 0 ∨ ∃ b, listV a' m' = .slice (some ⟨b, 0, none⟩) m' m' := by
    unfold listV; cases a' with
    | none => exact .inl rfl
    | some b => exact .inr ⟨b, rfl⟩
  unfold valRN valR
  simp only
  clear hr' HN
  generalize listV a' m' = lv at *
  obtain ⟨A, q, c, rfl⟩ : ∃ A q c, lv = .slice A q c := by
    rcases hlv with e | ⟨b, e⟩ <;> exact ⟨_, _, _, e⟩
  clear hlv
  go_upto_region 7 with fail
  have HB45 : Hid (Below w4.heap.size w4 (w4.alloc (.cells #[.int .i64 k', .int .i64 10, .string s', .slice A q c] 37))) := (Below.refl _ _).alloc (Nat.le_refl _) _
  have HBX : Hid (Blk (w4.alloc (.cells #[.int .i64 k', .int .i64 10, .string s', .slice A q c] 37)) w4.heap.size 37 #[.int .i64 k', .int .i64 10, .string s', .slice A q c]) := Blk.new _ _ _
  generalize w4.alloc (.cells #[.int .i64 k', .int .i64 10, .string s', .slice A q c] 37) = w5 at *
  obtain ⟨vk', mk', mv', vd', mp', S', h1, h2, h3, h4, h5, h6, h7, h8, h9', h10⟩ := HM4.out
  have hd4 : DirAt w4 (b :: mp' :: vd'.ownBlock.toList) b vk' mk' mv' [rootD] := ⟨vd', mp', h1, h3, rfl⟩
  have hd5 := hd4.turned (G := []) (Turned.of_below HB45.out []) (fun k _ => by simp)
  have h9 : Below w.heap.size w w5 := h9'.trans (HB45.out.mono h9'.size)
  have CD := Lib.hid (dir_any w5 _ b vk' mk' mv' [rootD] ⟨#[47, 117, 115, 114, 47, 108, 105, 98]⟩ hd5 (HM.out.below h9 H0.out))
  rw [dir_usr] at CD
  have hne : w4.heap.size ∉ b :: mp' :: vd'.ownBlock.toList := fun hm => by
    have := hd4.lt _ hm
    omega
  have H9 := Lib.hid h9
  have HF : Hid (∀ k, k ∈ b :: mp' :: vd'.ownBlock.toList → w.heap.size ≤ k) := fun k hk => by
    simp only [List.mem_cons, Option.mem_toList] at hk
    rcases hk with rfl | rfl | hk
    · exact h6
    · exact h7
    · exact h8 k hk
  clear h1 h2 h3 h4 h5 h6 h7 h8 h9 h9' h10 hd4 hd5 HM4
  go_wp2_with fail
  refine CD.out.mono ?_
  rintro e w6 ⟨rfl, F', -, hT, -⟩
  have HB6 : Hid (Below w.heap.size w w6) := H9.out.trans (hT.below HF.out H9.out.size)
  have HX6 := Lib.hid (HBX.out.turned hT hne)
  have c1 := HX6.out.cell 1
  simp at c1
  have CF := Lib.hid (fits_any 4 ⟨#[97, 42, 98, 42, 99]⟩ ⟨#[97, 88, 98, 89, 98, 99]⟩ (by decide) (by decide) w6 (HM.out.below HB6.out H0.out))
  rw [glob_abc] at CF
  clear hT hne CD
  go_wp2_with fail
  refine CF.out.mono ?_
  rintro e w7 ⟨rfl, n, rfl⟩
  go_wp2_with fail
  go_ret
  exact ⟨rfl, below_drewN' HB6.out _⟩
end Go.Proofs.YthgagobdkcikiaaDoor
