/- The walk of NamesStay. -/
import Derived.Test.YtdgmpickjdbhlaaApart
namespace Go.Proofs.Ytdgmpickjdbhlaa
open Go.RowKit

/-- What each name was given. -/
def Inv (ss : List ByteArray) (k : Nat) (L : List ByteArray) (G : List Int) : Prop :=
  G.length = k ∧ ∀ (j : Nat) (s : ByteArray) (g : Int), ss[j]? = some s → G[j]? = some g → g = -1 ∨ ∃ m : Nat, g = (m : Int) ∧ L[m]? = some s
theorem Inv.start (ss : List ByteArray) (L : List ByteArray) : Inv ss 0 L [] := ⟨rfl, fun j s g _ h => by simp at h⟩
theorem Inv.step {ss : List ByteArray} {k : Nat} {L L' : List ByteArray} {G : List Int} {s : ByteArray} {g : Int} (h : Inv ss k L G) (hs : ss[k]? = some s) (hp : ∀ (m : Nat) x, L[m]? = some x → L'[m]? = some x)
    (hg : g = -1 ∨ ∃ m : Nat, g = (m : Int) ∧ L'[m]? = some s) : Inv ss (k + 1) L' (G ++ [g]) := by
  refine ⟨by simp [h.1], fun j x y hj hy => ?_⟩
  by_cases hjk : j < k
  · rw [List.getElem?_append_left (by have := h.1; omega)] at hy
    rcases h.2 j x y hj hy with h1 | ⟨m, h1, h2⟩
    · exact .inl h1
    · exact .inr ⟨m, h1, hp m x h2⟩
  · have hlt := (List.getElem?_eq_some_iff.1 hy).1
    rw [List.length_append] at hlt
    have := h.1
    have hjk' : j = k := by simp at hlt; omega
    subst hjk'
    rw [List.getElem?_append_right (by omega)] at hy
    rw [show j - G.length = 0 from by omega] at hy
    rw [hs] at hj
    simp at hy
    injection hj with hj
    subst hj hy
    exact hg
theorem add_keep {L : List ByteArray} {s : ByteArray} (m : Nat) (x : ByteArray) (h : L[m]? = some x) : (addL L s)[m]? = some x := by
  have hlt := (List.getElem?_eq_some_iff.1 h).1
  unfold addL
  split
  · exact h
  · split
    · exact h
    · split
      · exact h
      · rw [List.getElem?_append_left hlt]; exact h
theorem add_ok {L : List ByteArray} {s : ByteArray} (h : addErr L s = 0) : ∃ m : Nat, addId L s = (m : Int) ∧ (addL L s)[m]? = some s := by
  unfold addErr at h
  by_cases h60 : 60 < s.size
  · rw [if_pos h60] at h; simp at h
  · rw [if_neg h60] at h
    cases hix : ix L s with
    | some k => exact ⟨k, by simp [addId, h60, hix], by simp only [addL, h60, hix, if_false]; exact ix_some hix⟩
    | none =>
      rw [hix] at h
      by_cases hm : 5000 ≤ L.length
      · simp [hm] at h
      · exact ⟨L.length, by simp [addId, h60, hix, hm], by simp [addL, h60, hix, hm]⟩

/-- The tables' part of what a loop keeps: the table stands above block B, beside the slice g. -/
structure Kept (w1 wr : World) (B bt : Nat) (L : List ByteArray) (r : List Cmp) (F : List Nat) (g : Value) (G : List Int) : Prop where
  tab : Tab wr F bt L r
  high : ∀ x, x ∈ F → B ≤ x
  own : wr.ownsRow B 3 1 g G.length (i64s G)
  apart : ∀ x, g.ownBlock = some x → x ∉ F
  bel : Below B w1 wr
theorem Kept.tabbed {w1 wr w2 : World} {B bt : Nat} {L L' : List ByteArray} {r r' : List Cmp} {F : List Nat} {g : Value} {G : List Int} (h : Kept w1 wr B bt L r F g G) (hB : B ≤ wr.heap.size)
    (hp : ∃ F', Tab w2 F' bt L' r' ∧ Turned F wr w2 ∧ Fresh wr F F') : ∃ F', Kept w1 w2 B bt L' r' F' g G := by
  obtain ⟨F', hT, ht, hf⟩ := hp
  refine ⟨F', hT, fun x hx => ?_, own_turned h.own ht h.apart, fun x hx hm => ?_, h.bel.trans (ht.below h.high hB)⟩
  · rcases hf x hx with h1 | h1
    · exact h.high x h1
    · omega
  · rcases hf x hm with h1 | h1
    · exact h.apart x hx h1
    · have := own_lt h.own hx; omega
theorem Kept.appended {w1 wr w2 : World} {B bt : Nat} {L : List ByteArray} {r : List Cmp} {F : List Nat} {g g' : Value} {G : List Int} {z : Int} {t : TypeId} {cs : Array Value} (h : Kept w1 wr B bt L r F g G) (hB : B ≤ wr.heap.size)
    (hown : w2.ownsRow B 3 1 g' (G.length + 1) (i64s G ++ [.int .i64 z])) (hg : (wr.alloc (.cells cs t)).grownBy w2 g.ownBlock) (hat : g'.ownBlock = g.ownBlock ∨ g'.ownBlock = some (wr.alloc (.cells cs t)).heap.size) :
    Kept w1 w2 B bt L r F g' (G ++ [z]) := by
  have hT : Turned g.ownBlock.toList wr w2 := ((Turned.refl _ wr).alloc _).grown hg (fun k hk => .inl (by simp [hk]))
  refine ⟨h.tab.turned hT (fun k hk hm => h.apart k (by simpa using hm) hk), h.high, ?_, fun x hx hm => ?_, ?_⟩
  · rw [List.length_append, i64s, List.map_append]; exact hown
  · rcases hat with e | e
    · rw [e] at hx; exact h.apart x hx hm
    · rw [e] at hx
      injection hx with hx
      have := h.tab.lt x hm
      rw [World.size_alloc] at hx
      omega
  · exact (h.bel.alloc hB _).grown hg (by simp; omega) (fun k hk => (h.own.lt k hk).1)

set_option maxHeartbeats 4000000 in
set_option maxRecDepth 100000 in
theorem namesStay_walk {H : Type} {enc : TypeId × Value → H} (W : World) {v0 v1 : Value} {d0 d1 : DataW H} (h0 : In enc Try.prog W 32 v0 d0) (h1 : In enc Try.prog W 37 v1 d1)
    (hsz : (DataW.weightsEach Try.prog [32, 37] [d0, d1]).all (· ≤ reachBytes) = true) :
    Calls Try.prog 5 #[v0, v1] W (TrueBelow W) := by
  obtain ⟨A, n, c, ss, rfl, hl, hnc, hcm, hrd, hss, hlong, _⟩ := h0.strings Try.underlying32 Try.underlying9 (by kernel_rfl)
  obtain ⟨A', m, c', zs, rfl, hl', hmc, hcm', hrd', hzs, _⟩ := h1.ints Try.underlying37 Try.underlying3 (by kernel_rfl)
  have hn : n ≤ 8796093022208 := by
    rcases hlong with ⟨_, h, _⟩ | ⟨a, b, rfl, h, _⟩
    · omega
    · have hs := sized_slice hsz (j := 0) (t := 32) (e := 9) rfl rfl Try.underlying32
      rw [show Try.prog.bytesOf 9 = 16 from by kernel_rfl] at hs
      simp only [reachBytes] at hs
      omega
  have HL := Lib.hid hl
  have HRD := Lib.hid hrd
  have HSS := Lib.hid hss
  have HL' := Lib.hid hl'
  have HRD' := Lib.hid hrd'
  unfold maxLen at hcm hcm'
  obtain ⟨i0, hi, hz0, hz1, hz2⟩ := info_parts infoI
  clear h0 h1 hsz hl hrd hss hl' hrd' hzs hlong
  go_enter Try.func5, Try.ntmps5
  go_wp2_with fail
  refine (awake_any _).mono ?_
  rintro e w1 ⟨rfl, hb1⟩
  have hs1 := hb1.size
  have HB1 := Lib.hid hb1
  go_wp2_with fail
  refine (new_any _).mono ?_
  rintro e w2 ⟨bt, F, rfl, hT, hb2, hF⟩
  have HK := Lib.hid (show Kept w1 w2 w1.heap.size bt [⟨#[]⟩] [] F (.slice none 0 0) [] from ⟨hT, hF, World.ownsRow_nil _ _ _ _, (fun x hx => by cases hx), hb2⟩)
  clear hT hF hb1 hb2
  go_wp2_with fail
  go_loopw [7, 8] (fun g i wr => ∃ (k : Nat) (L : List ByteArray) (r : List Cmp) (F' : List Nat) (G : List Int), i = .int .i64 (k : Int) ∧ k ≤ n ∧ Hid (Kept w1 wr w1.heap.size bt L r F' g G) ∧ Hid (Inv ss k L G)) (fun _ i _ => n - (intOf i).toNat)
  case atStart => exact ⟨0, _, _, _, [], rfl, by omega, HK.out, Inv.start _ _⟩
  case round =>
    obtain ⟨k, L, r, F', G, rfl, hk, hK, hI⟩ := hrel
    by_cases hlt : k < n
    · have hlt' : (k : Int) < (n : Int) := by omega
      have hk1 : k < ss.length := by rw [HL.out]; exact hlt
      obtain ⟨s, hs⟩ : ∃ s, ss[k]? = some s := ⟨_, List.getElem?_eq_getElem hk1⟩
      have hsz := HSS.out s (List.mem_of_getElem? hs)
      obtain ⟨b, o, rfl, hbl, hc⟩ := HRD.out k (.string s) (by rw [List.getElem?_map, hs]; rfl)
      have hc1 := (World.cell?_of_block (HB1.out.block b hbl)).trans hc
      have hc2 := (World.cell?_of_block (hK.out.bel.block b (by omega))).trans hc1
      have hsr := hK.out.bel.size
      have C := Lib.hid (add_any wr F' bt L r s hsz hK.out.tab)
      have HS := Lib.hid hs
      have HGL := Lib.hid hI.out.1
      have HKP := Lib.hid (show ∀ (m : Nat) (x : ByteArray), L[m]? = some x → (addL L s)[m]? = some x from add_keep)
      have HOK := Lib.hid (show addErr L s = 0 → _ from add_ok)
      generalize addL L s = L' at C HKP HOK
      generalize addErr L s = er at C HOK
      generalize addId L s = id at C HOK
      clear hs hc hc1 hk1 hsz
      go_wp2_with fail
      refine C.out.mono ?_
      rintro e w3 ⟨rfl, hp⟩
      obtain ⟨F3, hK3⟩ := hK.out.tabbed hsr hp
      have K3 := Lib.hid hK3
      have hs3 := hK3.bel.size
      obtain ⟨Ag, cg, rfl, hg1, hg2⟩ := own_form' hK3.own
      have OW := Lib.hid hK3.own
      unfold two
      unfold maxLen at hg2
      clear hp hK3 C hK
      by_cases her : er = 0
      · obtain ⟨mm, rfl, hmm⟩ := HOK.out her
        subst her
        have HMM := Lib.hid hmm
        clear hmm HOK
        by_cases hkm : k < m
        · have hkm' : (k : Int) < (m : Int) := by omega
          have hk2 : k < zs.length := by rw [HL'.out]; exact hkm
          obtain ⟨z, hz⟩ : ∃ z, zs[k]? = some z := ⟨_, List.getElem?_eq_getElem hk2⟩
          obtain ⟨b', o', rfl, hbl', hd⟩ := HRD'.out k (.int .i64 z) (by rw [List.getElem?_map, hz]; rfl)
          have hd1 := (World.cell?_of_block (HB1.out.block b' hbl')).trans hd
          clear hz hk2 hd
          go_wp2_with (at_builtin; refine wpList_append_own_at _ rfl (.tmp 42) (.tmp 44) 37 rfl w1.heap.size 3 i0 _ 1 8 Try.underlying37 hi hz0 hz1 hz2 rfl (by decide) (.slice Ag G.length cg) G.length (i64s G) rfl (OW.out.alloc _) ⟨w3.heap.size, 0, none⟩ 1 1 [.int .i64 (mm : Int)] rfl rfl (cell_one_new _ _ _) (fun u hu => by simp at hu; subst hu; rfl) (by have := HGL.out; unfold maxLen; omega) (by have := HGL.out; omega) (by simp; omega) ?_; intro v4 w4 hown4 hg4 hnil4 hat4; have K4 := Lib.hid (K3.out.appended hs3 hown4 hg4 hat4); obtain ⟨A4, c4, rfl, hc4, hm4⟩ := own_form' hown4; have hI4 := Lib.hid (hI.out.step HS.out HKP.out (g := (mm : Int)) (.inr ⟨mm, rfl, HMM.out⟩)); have hd4 := (World.cell?_of_block (K4.out.bel.block b' (by omega))).trans hd1; clear hd1; clear hown4 hg4 hnil4 hat4)
          refine (relate_any w4 F3 bt L' r mm z 0 K4.out.tab).mono ?_
          rintro e w5 ⟨rfl, hp5⟩
          obtain ⟨F5, hK5⟩ := K4.out.tabbed K4.out.bel.size hp5
          have K5 := Lib.hid hK5
          clear hp5 hK5
          unfold two
          go_wp2_with fail
          go_roundw
          case rel => go_light; exact ⟨k + 1, L', _, F5, _, by go_num, by omega, K5.out, hI4.out⟩
          case measure => go_light; simp only [intOf]; omega
        · have hkm' : decide ((k : Int) < (m : Int)) = false := by simp; omega
          go_wp2_with (at_builtin; refine wpList_append_own_at _ rfl (.tmp 42) (.tmp 44) 37 rfl w1.heap.size 3 i0 _ 1 8 Try.underlying37 hi hz0 hz1 hz2 rfl (by decide) (.slice Ag G.length cg) G.length (i64s G) rfl (OW.out.alloc _) ⟨w3.heap.size, 0, none⟩ 1 1 [.int .i64 (mm : Int)] rfl rfl (cell_one_new _ _ _) (fun u hu => by simp at hu; subst hu; rfl) (by have := HGL.out; unfold maxLen; omega) (by have := HGL.out; omega) (by simp; omega) ?_; intro v4 w4 hown4 hg4 hnil4 hat4; have K4 := Lib.hid (K3.out.appended hs3 hown4 hg4 hat4); obtain ⟨A4, c4, rfl, hc4, hm4⟩ := own_form' hown4; have hI4 := Lib.hid (hI.out.step HS.out HKP.out (g := (mm : Int)) (.inr ⟨mm, rfl, HMM.out⟩)); clear hown4 hg4 hnil4 hat4)
          go_roundw
          case rel => go_light; exact ⟨k + 1, L', _, F3, _, by go_num, by omega, K4.out, hI4.out⟩
          case measure => go_light; simp only [intOf]; omega
      · have her' : (er == 0) = false := by simpa using her
        have her2 : (er != 0) = true := by simpa using her
        clear HOK
        by_cases hkm : k < m
        · have hkm' : (k : Int) < (m : Int) := by omega
          go_wp2_with (at_builtin; refine wpList_append_own_at _ rfl (.tmp 42) (.tmp 44) 37 rfl w1.heap.size 3 i0 _ 1 8 Try.underlying37 hi hz0 hz1 hz2 rfl (by decide) (.slice Ag G.length cg) G.length (i64s G) rfl (OW.out.alloc _) ⟨w3.heap.size, 0, none⟩ 1 1 [.int .i64 (-1)] rfl rfl (cell_one_new _ _ _) (fun u hu => by simp at hu; subst hu; rfl) (by have := HGL.out; unfold maxLen; omega) (by have := HGL.out; omega) (by simp; omega) ?_; intro v4 w4 hown4 hg4 hnil4 hat4; have K4 := Lib.hid (K3.out.appended hs3 hown4 hg4 hat4); obtain ⟨A4, c4, rfl, hc4, hm4⟩ := own_form' hown4; have hI4 := Lib.hid (hI.out.step HS.out HKP.out (g := (-1)) (.inl rfl)); clear hown4 hg4 hnil4 hat4)
          go_roundw
          case rel => go_light; exact ⟨k + 1, L', _, F3, _, by go_num, by omega, K4.out, hI4.out⟩
          case measure => go_light; simp only [intOf]; omega
        · have hkm' : decide ((k : Int) < (m : Int)) = false := by simp; omega
          go_wp2_with (at_builtin; refine wpList_append_own_at _ rfl (.tmp 42) (.tmp 44) 37 rfl w1.heap.size 3 i0 _ 1 8 Try.underlying37 hi hz0 hz1 hz2 rfl (by decide) (.slice Ag G.length cg) G.length (i64s G) rfl (OW.out.alloc _) ⟨w3.heap.size, 0, none⟩ 1 1 [.int .i64 (-1)] rfl rfl (cell_one_new _ _ _) (fun u hu => by simp at hu; subst hu; rfl) (by have := HGL.out; unfold maxLen; omega) (by have := HGL.out; omega) (by simp; omega) ?_; intro v4 w4 hown4 hg4 hnil4 hat4; have K4 := Lib.hid (K3.out.appended hs3 hown4 hg4 hat4); obtain ⟨A4, c4, rfl, hc4, hm4⟩ := own_form' hown4; have hI4 := Lib.hid (hI.out.step HS.out HKP.out (g := (-1)) (.inl rfl)); clear hown4 hg4 hnil4 hat4)
          go_roundw
          case rel => go_light; exact ⟨k + 1, L', _, F3, _, by go_num, by omega, K4.out, hI4.out⟩
          case measure => go_light; simp only [intOf]; omega
    · have hlt' : ¬ (k : Int) < (n : Int) := by omega
      obtain ⟨Ag, cg, rfl, hg1, hg2⟩ := own_form' hK.out.own
      obtain rfl : n = k := by omega
      have hsr := hK.out.bel.size
      unfold maxLen at hg2
      have HBR : Hid (Below W.heap.size W wr) := HB1.out.trans (hK.out.bel.mono hs1)
      have HNo := Lib.hid hK.out.tab.1.once
      have HSh := Lib.hid hK.out.tab.1.short
      have HOW := Lib.hid hK.out.own
      have hGL : Hid (G.length = n) := hI.out.1
      go_wp2_with fail
      go_loopw [11] (fun i wq => ∃ (k q : Nat), i = .int .i64 (k : Int) ∧ k ≤ n ∧ Hid (wq = wr.drewN q)) (fun i _ => n - (intOf i).toNat)
      case atStart => exact ⟨0, 0, rfl, by omega, rfl⟩
      case round =>
        obtain ⟨k, q, rfl, hk, hq⟩ := hrel
        obtain rfl := hq.out
        clear hq
        have HTq := Lib.hid (hK.out.tab.turned ((Turned.refl [] wr).drewN q) (fun _ _ hx => by cases hx))
        by_cases hlt : k < n
        · have hlt' : (k : Int) < (n : Int) := by omega
          have hk1 : k < ss.length := by rw [HL.out]; exact hlt
          obtain ⟨s, hs⟩ : ∃ s, ss[k]? = some s := ⟨_, List.getElem?_eq_getElem hk1⟩
          have hsz := HSS.out s (List.mem_of_getElem? hs)
          obtain ⟨b, o, rfl, hbl, hc⟩ := HRD.out k (.string s) (by rw [List.getElem?_map, hs]; rfl)
          have hc1 := (World.cell?_of_block (HBR.out.block b hbl)).trans hc
          have hk2 : k < G.length := by rw [hGL.out]; exact hlt
          obtain ⟨g, hg⟩ : ∃ g, G[k]? = some g := ⟨_, List.getElem?_eq_getElem hk2⟩
          obtain ⟨bg, rfl, hcg⟩ := own_at_ HOW.out (k := k) (u := .int .i64 g) (by rw [i64s, List.getElem?_map, hg]; rfl)
          have hcase := hI.out.2 k s g hs hg
          have hkG : (k : Int) < (G.length : Int) := by omega
          have hk0 : (0 : Int) ≤ (k : Int) := by omega
          have CF := Lib.hid (find_any (wr.drewN q) F' bt L r s hsz HTq.out)
          have HS := Lib.hid hs
          have HGk := Lib.hid hg
          clear hs hc hk1 hsz hk2 hg
          rcases hcase with rfl | ⟨mm, rfl, hmm⟩
          · by_cases hin : (ix L s).isSome = true
            · have h60 : ¬ (60 : Int) < (s.size : Int) := by
                obtain ⟨kk, hkk⟩ := Option.isSome_iff_exists.1 hin
                have := HSh.out s (List.mem_of_getElem? (ix_some hkk))
                omega
              rw [hin] at CF
              clear hin
              go_wp2_with fail
              refine CF.out.mono ?_
              rintro e w5 ⟨rfl, rfl⟩
              go_wp2_with fail
              go_roundw
              case rel => go_light; exact ⟨k + 1, q, by go_num, by omega, rfl⟩
              case measure => go_light; simp only [intOf]; omega
            · have hin' : (ix L s).isSome = false := by simpa using hin
              rw [hin'] at CF
              clear hin hin'
              go_wp2_with fail
              refine CF.out.mono ?_
              rintro e w5 ⟨rfl, rfl⟩
              go_wp2_with fail
              go_roundw
              case rel => go_light; exact ⟨k + 1, q, by go_num, by omega, rfl⟩
              case measure => go_light; simp only [intOf]; omega
          · have hixs := ix_get HNo.out hmm
            rw [show findId L s = (mm : Int) by simp [findId, ixI, hixs], show (ix L s).isSome = true by rw [hixs]; rfl] at CF
            have CN := Lib.hid (name_yes (wr.drewN q) F' bt L r mm s hmm HTq.out)
            have hm0 : ¬ (mm : Int) < 0 := by omega
            have HIX := Lib.hid hixs
            clear hixs hmm
            go_wp2_with fail
            refine CF.out.mono ?_
            rintro e w5 ⟨rfl, rfl⟩
            go_wp2_with fail
            refine CN.out.mono ?_
            rintro e w5 ⟨rfl, rfl⟩
            go_wp2_with fail
            go_loopw [16] (fun i wp => ∃ (j p : Nat), i = .int .i64 (j : Int) ∧ j ≤ k ∧ Hid (wp = wr.drewN p)) (fun i _ => k - (intOf i).toNat)
            case atStart => exact ⟨0, q, rfl, by omega, rfl⟩
            case round =>
              obtain ⟨j, p, rfl, hj, hp⟩ := hrel
              obtain rfl := hp.out
              clear hp
              by_cases hjk : j < k
              · have hjk' : (j : Int) < (k : Int) := by omega
                have hj1 : j < ss.length := by rw [HL.out]; omega
                obtain ⟨sj, hsj⟩ : ∃ s, ss[j]? = some s := ⟨_, List.getElem?_eq_getElem hj1⟩
                obtain ⟨b1, o1, he, _, hcj⟩ := HRD.out j (.string sj) (by rw [List.getElem?_map, hsj]; rfl)
                obtain ⟨rfl, rfl⟩ : b = b1 ∧ o = o1 := by injection he with he; injection he with h1 h2; exact ⟨h1, h2⟩
                have hcj1 := (World.cell?_of_block (HBR.out.block b hbl)).trans hcj
                have hj2 : j < G.length := by rw [hGL.out]; omega
                obtain ⟨gj, hgj⟩ : ∃ g, G[j]? = some g := ⟨_, List.getElem?_eq_getElem hj2⟩
                obtain ⟨bg1, he2, hcgj⟩ := own_at_ HOW.out (k := j) (u := .int .i64 gj) (by rw [i64s, List.getElem?_map, hgj]; rfl)
                obtain rfl : bg = bg1 := by injection he2 with he2; injection he2
                have hjG : (j : Int) < (G.length : Int) := by omega
                have hjn : (j : Int) < (n : Int) := by omega
                have hj0 : (0 : Int) ≤ (j : Int) := by omega
                have hcase := hI.out.2 j sj gj hsj hgj
                clear hsj hcj hj1 hj2 hgj he he2
                rcases hcase with rfl | ⟨mj, rfl, hmj⟩
                · go_wp2_with fail
                  go_quiet (fail)
                  go_wp2_with fail
                  go_roundw
                  case rel => go_light; exact ⟨j + 1, _, by go_num, by omega, rfl⟩
                  case measure => go_light; simp only [intOf]; omega
                · have hmj0 : (0 : Int) ≤ (mj : Int) := by omega
                  have hixj := ix_get HNo.out hmj
                  by_cases hss' : sj = s
                  · obtain rfl : mj = mm := by
                      have := HIX.out
                      rw [← hss', hixj] at this
                      injection this
                    subst hss'
                    clear hmj hixj
                    go_wp2_with fail
                    go_quiet (fail)
                    go_wp2_with fail
                    go_roundw
                    case rel => go_light; exact ⟨j + 1, _, by go_num, by omega, rfl⟩
                    case measure => go_light; simp only [intOf]; omega
                  · have hne := str_ne hss'
                    have hmne : ((mj : Int) == (mm : Int)) = false := by
                      rw [beq_eq_false_iff_ne]
                      intro e
                      have e' : mj = mm := by omega
                      subst e'
                      exact hss' (by have h1 := ix_some hixj; rw [ix_some HIX.out] at h1; injection h1 with h1; exact h1.symm)
                    clear hmj hixj hss'
                    go_wp2_with fail
                    go_quiet (fail)
                    go_wp2_with fail
                    go_roundw
                    case rel => go_light; exact ⟨j + 1, _, by go_num, by omega, rfl⟩
                    case measure => go_light; simp only [intOf]; omega
              · have hjk' : ¬ (j : Int) < (k : Int) := by omega
                go_wp2_with fail
                go_roundw
                case rel => go_light; exact ⟨k + 1, p, by go_num, by omega, rfl⟩
                case measure => go_light; simp only [intOf]; omega
        · have hlt' : ¬ (k : Int) < (n : Int) := by omega
          go_wp2_with fail
          go_ret
          exact ⟨rfl, below_drewN' HBR.out q⟩
end Go.Proofs.Ytdgmpickjdbhlaa
