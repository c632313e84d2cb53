/- The walk of AttrsDirs. -/
import Derived.Test.YthgagobdkcikiaaDoorDirsM
import Derived.Test.YthgagobdkcikiaaDoorDir
import Derived.Test.YthgagobdkcikiaaDoorMax
namespace Go.Proofs.YthgagobdkcikiaaDoor
set_option linter.unusedSimpArgs false
set_option linter.unusedVariables false
open Go.RowKit

/-- The store and the numbers while the law goes on. -/
structure DK (w1 wr : World) (B bs : Nat) (vk : Value) (mk mv : Nat) (ds : List DirE) (F : List Nat) (g : Value) (G : List Int) : Prop where
  at_ : DirAt wr F bs vk mk mv ds
  high : ∀ k, k ∈ F → B ≤ k
  own : wr.ownsRow B 3 1 g G.length (i64s G)
  apart : ∀ x, g.ownBlock = some x → x ∉ F
  bel : Below B w1 wr
theorem DK.turned {w1 wr w2 : World} {B bs mk mv : Nat} {vk g : Value} {ds ds' : List DirE} {F : List Nat} {G : List Int} (h : DK w1 wr B bs vk mk mv ds F g G) (hB : B ≤ wr.heap.size)
    (hp : ∃ F', DirAt w2 F' bs vk mk mv ds' ∧ Turned F wr w2 ∧ Fresh wr F F') : ∃ F', DK w1 w2 B bs vk mk mv ds' F' g G := by
  obtain ⟨F', hT, ht, hf⟩ := hp
  refine ⟨F', hT, fun x hx => ?_, own_turned h.own ht h.apart, fun x hx hm => ?_, h.bel.trans (ht.below h.high hB)⟩
  · rcases hf x hx with h1 | h1
    · exact h.high x h1
    · omega
  · rcases hf x hm with h1 | h1
    · exact h.apart x hx h1
    · have := own_lt h.own hx; omega
theorem DK.below {w1 wr w2 : World} {B bs mk mv : Nat} {vk g : Value} {ds : List DirE} {F : List Nat} {G : List Int} (h : DK w1 wr B bs vk mk mv ds F g G) (hB : B ≤ wr.heap.size) (hb : Below wr.heap.size wr w2) : DK w1 w2 B bs vk mk mv ds F g G :=
  ⟨h.at_.turned (G := []) (Turned.of_below hb []) (fun k _ => by simp), h.high, own_turned h.own (Turned.of_below hb []) (by simp), h.apart, h.bel.trans (hb.mono hB)⟩
theorem DK.appended {w1 wr w2 : World} {B bs mk mv : Nat} {vk g g' : Value} {ds : List DirE} {F : List Nat} {G : List Int} {z : Int} {t : TypeId} {cs : Array Value} (h : DK w1 wr B bs vk mk mv ds F g G) (hB : B ≤ wr.heap.size)
    (hown : w2.ownsRow B 3 1 g' (G.length + 1) (i64s G ++ [.int .i64 z])) (hg : (wr.alloc (.cells cs t)).grownBy w2 g.ownBlock) (hat : g'.ownBlock = g.ownBlock ∨ g'.ownBlock = some (wr.alloc (.cells cs t)).heap.size) :
    DK w1 w2 B bs vk mk mv ds F g' (G ++ [z]) := by
  have hT : Turned g.ownBlock.toList wr w2 := ((Turned.refl _ wr).alloc _).grown hg (fun k hk => .inl (by simp [hk]))
  refine ⟨h.at_.turned hT (fun k hk hm => h.apart k (by simpa using hm) hk), h.high, ?_, fun x hx hm => ?_, ?_⟩
  · rw [List.length_append, i64s, List.map_append]; exact hown
  · rcases hat with e | e
    · rw [e] at hx; exact h.apart x hx hm
    · rw [e] at hx
      injection hx with hx
      have := h.at_.lt x hm
      rw [World.size_alloc] at hx
      omega
  · exact (h.bel.alloc hB _).grown hg (by simp; omega) (fun k hk => (h.own.lt k hk).1)
/-- What the numbers are. -/
def DInv (ss : List ByteArray) (k : Nat) (ds : List DirE) (G : List Int) : Prop := G.length = k ∧ DirsOk ds ∧ PartsOk ds ∧ ∀ (j : Nat) s g, ss[j]? = some s → G[j]? = some g → Leads ds s g
theorem DInv.next {ss : List ByteArray} {k : Nat} {ds ds' : List DirE} {G : List Int} {s : ByteArray} {z : Int} (h : DInv ss k ds G) (hs : ss[k]? = some s) (hd : DirsOk ds') (hx : ∃ t, ds' = ds ++ t) (hp : PartsOk ds') (hl : Leads ds' s z) : DInv ss (k + 1) ds' (G ++ [z]) := by
  obtain ⟨h1, h2, h3, h4⟩ := h
  refine ⟨by simp [h1], hd, hp, fun j s' g hj hg => ?_⟩
  obtain ⟨t, rfl⟩ := hx
  rcases Nat.lt_or_ge j G.length with hl2 | hl2
  · rw [List.getElem?_append_left hl2] at hg
    exact (h4 j s' g hj hg).app t
  · rw [List.getElem?_append_right hl2] at hg
    have := (List.getElem?_eq_some_iff.1 hg).1
    simp at this
    have e : j = k := by omega
    subst e
    rw [hs] at hj
    injection hj with hj
    subst hj
    have e0 : j - G.length = 0 := by omega
    rw [e0] at hg
    simp at hg
    subst hg
    exact hl
set_option maxHeartbeats 8000000 in
set_option maxRecDepth 100000 in
theorem attrsDirs_walk {H : Type} {enc : TypeId × Value → H} (W : World) {v0 : Value} {d0 : DataW H} (h0 : In enc Tryd.prog W 25 v0 d0)
    (hL : laidMetH Tryd.prog Rows.attrsDirsRow.laid W) (hsz : (DataW.weightsEach Tryd.prog [25] [d0]).all (· ≤ reachBytes) = true) (hSh : W.ShapedOpen Tryd.prog) :
    Calls Tryd.prog 6 #[v0] W (TrueBelow W) := by
  obtain ⟨A, n, c, ss, rfl, hl, hnc, hcm, hrd, hss, hlong, _⟩ := h0.strings Tryd.underlying25 Tryd.underlying9 (by kernel_rfl)
  have hn : n ≤ 8796093022208 := by
    rcases hlong with ⟨_, h, _⟩ | ⟨a, b, rfl, h, _⟩
    · omega
    · have hs := sized_slice hsz (j := 0) (t := 25) (e := 9) rfl rfl Tryd.underlying25
      rw [show Tryd.prog.bytesOf 9 = 16 from by kernel_rfl] at hs
      simp only [reachBytes] at hs
      omega
  have CA := Lib.hid (awake_at W hSh)
  have HSH := Lib.hid hSh
  have HL := Lib.hid hl
  have HRD := Lib.hid hrd
  have HSS : Hid (∀ s ∈ ss, s.size ≤ 9223372036854775807) := fun s hs => by have := hss s hs; unfold maxLen at this; omega
  unfold maxLen at hcm
  obtain ⟨i0, hi, hz0, hz1, hz2⟩ := info_parts infoI
  clear h0 hL hsz hl hrd hss hlong hSh
  go_enter Tryd.func6, Tryd.ntmps6
  go_wp2_with fail
  refine CA.out.mono ?_
  rintro e w1 ⟨rfl, hb1⟩
  have hs1 := hb1.size
  have HB1 := Lib.hid hb1
  clear hb1 CA
  go_wp2_with fail
  refine (new_any _).mono ?_
  rintro e w2 ⟨bs, mk, mv, vd, mp, rfl, hb2, hB, hD, -, l1, l2, l3, l4, l5, -, -⟩
  have HK := Lib.hid (show DK w1 w2 w1.heap.size bs (.slice none 0 0) mk mv [rootD] (bs :: mp :: vd.ownBlock.toList) (.slice none 0 0) [] from ⟨⟨vd, mp, hB, hD, rfl⟩, fun k hk => by
    simp only [List.mem_cons, Option.mem_toList] at hk
    rcases hk with rfl | rfl | hk
    · exact l1
    · exact l4
    · exact l5 k hk, World.ownsRow_nil _ _ _ _, (fun x hx => by cases hx), hb2⟩)
  have HI0 : Hid (DInv ss 0 [rootD] []) := ⟨rfl, root_ok, partsOk_root, fun j s g _ hg => by simp at hg⟩
  clear hb2 hB hD l1 l2 l3 l4 l5
  go_wp2_with fail
  go_loopw [5, 6] (fun g i wr => ∃ (k : Nat) (ds : List DirE) (F' : List Nat) (G : List Int), i = .int .i64 (k : Int) ∧ k ≤ n ∧ Hid (DK w1 wr w1.heap.size bs (.slice none 0 0) mk mv ds F' g G) ∧ Hid (DInv ss k ds G)) (fun _ i _ => n - (intOf i).toNat)
  case atStart => exact ⟨0, _, _, [], rfl, by omega, HK, HI0⟩
  case round =>
    clear HK HI0
    obtain ⟨k, ds, F', G, rfl, hk, hK, hI⟩ := hrel
    by_cases hlt : k < n
    · have hlt' : (k : Int) < (n : Int) := by omega
      have hk1 : k < ss.length := by rw [HL.out]; exact hlt
      obtain ⟨s, hs⟩ : ∃ s, ss[k]? = some s := ⟨_, List.getElem?_eq_getElem hk1⟩
      obtain ⟨b, o, rfl, hbl, hc⟩ := HRD.out k (.string s) (by rw [List.getElem?_map, hs]; rfl)
      have hc1 := (World.cell?_of_block (HB1.out.block b hbl)).trans hc
      have hc2 := (World.cell?_of_block (hK.out.bel.block b (by omega))).trans hc1
      have hsr := hK.out.bel.size
      have C := Lib.hid (dir_any wr F' bs _ mk mv ds s hK.out.at_ (MaxAt.at_ HSH.out (HB1.out.trans (hK.out.bel.mono hs1))))
      have HLD := Lib.hid (dir_leads hI.out.2.1 hI.out.2.2.1 s)
      have HS := Lib.hid hs
      have HGL := Lib.hid hI.out.1
      generalize dirAns ds s = ans at C HLD
      obtain ⟨⟨num, er⟩, ds'⟩ := ans
      clear hs hc hc1 hk1
      go_wp2_with fail
      refine C.out.mono ?_
      rintro e w3 ⟨rfl, hp⟩
      have HD3 : Hid (DirsOk ds') := by obtain ⟨_, ⟨_, _, _, hd, _⟩, _⟩ := hp; exact hd.ok
      obtain ⟨F3, hK3⟩ := hK.out.turned hsr hp
      have K3 := Lib.hid hK3
      have hs3 := hK3.bel.size
      obtain ⟨Ag, cg, rfl, hg1, hg2⟩ := own_form' hK3.own
      have OW := Lib.hid hK3.own
      unfold maxLen at hg2
      clear hp hK3 C hK hc2
      rcases num_cs er 0 with ⟨rfl, -, -⟩ | ⟨her, her2, her'⟩
      · have HI4 : Hid (DInv ss (k + 1) ds' (G ++ [(num : Int)])) := hI.out.next HS.out HD3.out HLD.out.1 HLD.out.2.1 (HLD.out.2.2 rfl)
        clear hI HLD
        go_wp2_with (at_builtin; refine wpList_append_own_at _ rfl (.tmp 44) (.tmp 46) 28 rfl w1.heap.size 3 i0 _ 1 8 Tryd.underlying28 hi hz0 hz1 hz2 rfl (by decide) (.slice Ag G.length cg) G.length (i64s G) rfl (OW.out.alloc _) ⟨w3.heap.size, 0, none⟩ 1 1 [.int .i64 (num : Int)] rfl rfl (cell_one_new _ _ _) (fun u hu => by simp at hu; subst hu; rfl) (by have := HGL.out; unfold maxLen; omega) (by have := HGL.out; omega) (by simp; omega) ?_; intro v4 w4 hown4 hg4 hnil4 hat4; have K4 := Lib.hid (K3.out.appended hs3 hown4 hg4 hat4); clear hown4 hg4 hnil4 hat4)
        go_roundw
        case rel => go_light; exact ⟨k + 1, ds', F3, _, by go_num, by omega, K4.out, HI4.out⟩
        case measure => go_light; simp only [intOf]; omega
      · have HI4 : Hid (DInv ss (k + 1) ds' (G ++ [-1])) := hI.out.next HS.out HD3.out HLD.out.1 HLD.out.2.1 (.inl rfl)
        clear hI HLD
        go_wp2_with (at_builtin; refine wpList_append_own_at _ rfl (.tmp 44) (.tmp 46) 28 rfl w1.heap.size 3 i0 _ 1 8 Tryd.underlying28 hi hz0 hz1 hz2 rfl (by decide) (.slice Ag G.length cg) G.length (i64s G) rfl (OW.out.alloc _) ⟨w3.heap.size, 0, none⟩ 1 1 [.int .i64 (-1)] rfl rfl (cell_one_new _ _ _) (fun u hu => by simp at hu; subst hu; rfl) (by have := HGL.out; unfold maxLen; omega) (by have := HGL.out; omega) (by simp; omega) ?_; intro v4 w4 hown4 hg4 hnil4 hat4; have K4 := Lib.hid (K3.out.appended hs3 hown4 hg4 hat4); clear hown4 hg4 hnil4 hat4)
        go_roundw
        case rel => go_light; exact ⟨k + 1, ds', F3, _, by go_num, by omega, K4.out, HI4.out⟩
        case measure => go_light; simp only [intOf]; omega
    · have hlt' : ¬ (k : Int) < (n : Int) := by omega
      obtain ⟨Ag, cg, rfl, hg1, hg2⟩ := own_form' hK.out.own
      obtain rfl : k = n := by omega
      have hI1 := hI.out.1
      have hGn : (G.length : Int) = (k : Int) := by omega
      unfold maxLen at hg2
      go_wp2_with fail
      go_loopw [9] (fun v9 wq => ∃ (j : Nat) (Fx : List Nat), v9 = .int .i64 (j : Int) ∧ j ≤ k ∧ Hid (DK w1 wq w1.heap.size bs (.slice none 0 0) mk mv ds Fx (.slice Ag G.length cg) G)) (fun v9 _ => k - (intOf v9).toNat)
      case atStart => exact ⟨0, F', rfl, by omega, hK.out⟩
      case round =>
        clear hK
        obtain ⟨j, Fx, rfl, hj, hK⟩ := hrel
        have hsr := hK.out.bel.size
        by_cases hjk : j < k
        · have hjk' : (j : Int) < (k : Int) := by omega
          have hj1 : j < ss.length := by rw [HL.out]; exact hjk
          obtain ⟨s, hs⟩ : ∃ s, ss[j]? = some s := ⟨_, List.getElem?_eq_getElem hj1⟩
          have hssm := HSS.out s (List.mem_of_getElem? hs)
          obtain ⟨b, o, rfl, hbl, hc⟩ := HRD.out j (.string s) (by rw [List.getElem?_map, hs]; rfl)
          have hc1 := (World.cell?_of_block (HB1.out.block b hbl)).trans hc
          have HC : Hid (∀ wy, Below w1.heap.size w1 wy → wy.cell? ⟨b, o + j, none⟩ = some (.string s)) := fun wy hb => (World.cell?_of_block (hb.block b (by omega))).trans hc1
          have hcx := HC.out _ hK.out.bel
          have hj2 : j < G.length := by omega
          obtain ⟨g, hg⟩ : ∃ g, G[j]? = some g := ⟨_, List.getElem?_eq_getElem hj2⟩
          obtain ⟨bg, rfl, hcg⟩ := own_at_ hK.out.own (k := j) (u := .int .i64 g) (by rw [i64s, List.getElem?_map, hg]; rfl)
          have HCG : Hid (∀ wy Fy, DK w1 wy w1.heap.size bs (.slice none 0 0) mk mv ds Fy (.slice (some ⟨bg, 0, none⟩) G.length cg) G → wy.cell? ⟨bg, j, none⟩ = some (.int .i64 g)) := fun wy Fy h => by
            obtain ⟨b2, e2, h2⟩ := own_at_ h.own (k := j) (u := .int .i64 g) (by rw [i64s, List.getElem?_map, hg]; rfl)
            injection e2 with e2
            injection e2 with e2
            subst e2
            exact h2
          have hld := hI.out.2.2.2 j s g hs hg
          have hjG : (j : Int) < (G.length : Int) := by omega
          clear hs hc hc1 hj1 hg
          rcases hld with rfl | ⟨m, q, rfl, hq, hm, hw⟩
          · go_wp2_with fail
            go_roundw
            case rel => go_light; exact ⟨j + 1, Fx, by go_num, by omega, hK.out⟩
            case measure => go_light; simp only [intOf]; omega
          · have hm0 : ¬ (m : Int) < 0 := by omega
            obtain ⟨d, hd⟩ : ∃ d, ds[m]? = some d := ⟨_, List.getElem?_eq_getElem hm⟩
            have CP := Lib.hid (path_any wr Fx bs _ mk mv ds (m : Int) hK.out.at_)
            have HPX : Hid (∀ e w', PathPost wr ds (m : Int) e w' → Below wr.heap.size wr w' ∧ e = .returned (.tuple #[.string s, .int .i64 (d.1 : Int), .int .i64 0])) := fun e w' h => by
              obtain ⟨h1, _, h3⟩ := h
              obtain ⟨sx, rfl, e2⟩ := h3 m rfl d hd
              rw [path_leads hI.out.2.1 hq hw hm] at e2
              rw [s_ext e2]
              exact ⟨h1, rfl⟩
            have HAG := Lib.hid (dir_again hI.out.2.1 hq hw)
            have HD := Lib.hid hd
            have HM := Lib.hid hm
            have HPL := Lib.hid (path_leads hI.out.2.1 hq hw hm)
            clear hq hw hd hm
            go_wp2_with fail
            refine CP.out.mono ?_
            intro e w5 hpost
            obtain ⟨hb5, rfl⟩ := HPX.out e w5 hpost
            have K5 := Lib.hid (hK.out.below hsr hb5)
            have hs5 := K5.out.bel.size
            have hc5 := HC.out _ K5.out.bel
            have hcg5 := HCG.out _ _ K5.out
            have CD := Lib.hid (dir_any w5 Fx bs _ mk mv ds s K5.out.at_ (MaxAt.at_ HSH.out (HB1.out.trans (K5.out.bel.mono hs1))))
            rw [HAG.out] at CD
            clear hpost hb5 CP HPX hK hcx hcg hsr
            go_wp2_with fail
            refine CD.out.mono ?_
            rintro e w6 ⟨rfl, hp6⟩
            obtain ⟨F6, hK6⟩ := K5.out.turned hs5 hp6
            have K6 := Lib.hid hK6
            have hs6 := hK6.bel.size
            have hc6 := HC.out _ hK6.bel
            have hcg6 := HCG.out _ _ hK6
            clear hp6 hK6 CD hc5 hcg5
            by_cases hm00 : m = 0
            · subst hm00
              go_wp2_with fail
              go_roundw
              case rel => go_light; exact ⟨j + 1, F6, by go_num, by omega, K6.out⟩
              case measure => go_light; simp only [intOf]; omega
            · have hmne : ((m : Int) == 0) = false := by simp; omega
              have hmne' : ¬ (m : Int) = 0 := by omega
              have hup := hI.out.2.1.up m d HD.out (by omega)
              have hdl : d.1 < ds.length := by have := HM.out; omega
              obtain ⟨da, hda⟩ : ∃ da, ds[d.1]? = some da := ⟨_, List.getElem?_eq_getElem hdl⟩
              have CP2 := Lib.hid (path_any w6 F6 bs _ mk mv ds (d.1 : Int) K6.out.at_)
              have HPU := Lib.hid (path_up hI.out.2.1 HD.out (by omega))
              have HPA := Lib.hid (hI.out.2.2.1 m d HD.out (by omega))
              have HSL : Hid (0 < d.1 → joinP (full ds d.1) ≠ [47]) := fun h => path_slash hI.out.2.1 hI.out.2.2.1 hdl h
              have HDA := Lib.hid hda
              have hupi : ((d.1 : Nat) : Int) < (m : Int) := by omega
              clear hda
              go_wp2_with fail
              refine CP2.out.mono ?_
              intro e w7 hpost
              obtain ⟨h71, _, h73⟩ := hpost
              obtain ⟨q2, rfl, hq2⟩ := h73 d.1 rfl da HDA.out
              have K7 := Lib.hid (K6.out.below hs6 h71)
              have hcg7 := HCG.out _ _ K7.out
              have HQ2 := Lib.hid hq2
              clear h71 h73 hq2 CP2 hc6 hcg6
              have HSQ : Hid (s.data.toList = joinP (full ds d.1) ++ 47 :: d.2.data.toList) := HPL.out.symm.trans HPU.out
              have HNSX : Hid (∀ M : Nat, M = (joinP (full ds d.1)).length + 1 → ∀ x (hx : x < s.size), M ≤ x → s[x] ≠ 47) := fun M hM x hx hMx e => by
                have h1 := byte_at hx
                rw [HSQ.out, List.getElem?_append_right (by omega)] at h1
                obtain ⟨y, hy⟩ : ∃ y, x - (joinP (full ds d.1)).length = y + 1 := ⟨x - (joinP (full ds d.1)).length - 1, by omega⟩
                rw [hy, List.getElem?_cons_succ, e] at h1
                exact HPA.out.2 (List.mem_of_getElem? h1)
              have HLEN : Hid (s.size = (joinP (full ds d.1)).length + 1 + d.2.data.toList.length) := by
                have := congrArg List.length HSQ.out
                rw [size_len, List.length_append, List.length_cons] at this
                show _ = _
                omega
              have HPOS : Hid (0 < d.2.data.toList.length) := List.length_pos_iff.2 HPA.out.1
              rcases Nat.eq_zero_or_pos d.1 with hd0 | hd0
              · obtain rfl : q2 = ⟨#[47]⟩ := s_ext (by rw [HQ2.out, hd0]; rfl)
                have hj0 : joinP (full ds d.1) = [] := by rw [hd0]; rfl
                have hlen := HLEN.out
                have hpos := HPOS.out
                rw [hj0] at hlen
                simp only [List.length_nil] at hlen
                have hs1' : (1 : Int) < (s.size : Int) := by omega
                have hs1n : ¬ (s.size : Int) ≤ 1 := by omega
                have hs1m : 1 ≤ s.size := by omega
                have hex : s.extract 0 1 = ⟨#[47]⟩ := s_ext (by rw [bl_upto, HSQ.out, hj0]; rfl)
                have hcc : (([47] : List UInt8) == ((⟨#[]⟩ : ByteArray) ++ (⟨#[47]⟩ : ByteArray)).toList) = true := by rw [ByteArray.toList_eq]; rfl
                have HNS : Hid (∀ x, 1 ≤ x → ∀ hx : x < s.size, (s[x]'hx) ≠ 47) := fun x h1 hx => HNSX.out 1 (by rw [hj0]; rfl) x hx h1
                clear HSQ HNSX HLEN HPOS hd0 hj0 HQ2 HPA HPU HPL HSL hlen hpos
                go_wp2_with fail
                go_loopw [18] (fun v18 wq => ∃ x : Nat, v18 = .int .i64 (x : Int) ∧ 1 ≤ x ∧ x ≤ s.size ∧ wq = w7) (fun v18 _ => s.size - (intOf v18).toNat)
                case atStart => exact ⟨1, rfl, Nat.le_refl _, by omega, rfl⟩
                case round =>
                  obtain ⟨x, rfl, hx1, hx2, rfl⟩ := hrel
                  by_cases hxs : x < s.size
                  · have hxi : (x : Int) < (s.size : Int) := by omega
                    have hne : (((s[x]'hxs).toNat : Int) == 47) = false := by
                      rw [beq_eq_false_iff_ne]
                      intro e
                      exact HNS.out x hx1 hxs (UInt8.toNat_inj.1 (by show _ = 47; omega))
                    go_wp2_with fail
                    go_roundw
                    case rel => exact ⟨x + 1, by go_num, by omega, by omega, (by first | trivial | rfl)⟩
                    case measure => simp [intOf]; omega
                  · have hxi : ¬ (x : Int) < (s.size : Int) := by omega
                    go_wp2_with fail
                    go_roundw
                    case rel => go_light; exact ⟨j + 1, F6, by go_num, by omega, K7.out⟩
                    case measure => go_light; simp only [intOf]; omega
              · have HQJ : Hid (q2.data.toList = joinP (full ds d.1)) := HQ2.out.trans (by unfold pathOf; rw [if_neg (by omega)])
                have hqn : q2 ≠ ⟨#[47]⟩ := fun e => HSL.out hd0 (by rw [← HQJ.out, e])
                have t0 : ¬ q2.toList = [47] := list_ne (b := ⟨#[47]⟩) hqn
                have t1 : (q2.toList == [47]) = false := by simpa using t0
                have hlen := HLEN.out
                have hpos := HPOS.out
                rw [← HQJ.out, size_len] at hlen
                obtain ⟨M, hM⟩ : ∃ M, q2.size + 1 = M := ⟨_, rfl⟩
                have hQM : (q2.size : Int) + 1 = (M : Int) := by omega
                have hMs : (M : Int) < (s.size : Int) := by omega
                have hMn : ¬ (s.size : Int) ≤ (M : Int) := by omega
                have hMl : M ≤ s.size := by omega
                have hMl' : (M : Int) ≤ (s.size : Int) := by omega
                have hex : s.extract 0 M = q2 ++ ⟨#[47]⟩ := s_ext (by
                  rw [bl_upto, bl_app, HSQ.out, ← HQJ.out, ← hM, ← size_len q2, List.take_append, List.take_of_length_le (by omega)]
                  simp)
                have hq2z : q2.size ≤ 140737488355328 := by
                  have h1 := full_len hI.out.2.1 d.1 d.1 (Nat.le_refl _) hdl
                  have h2 := hI.out.2.1.few
                  rw [← HQJ.out, size_len] at h1
                  omega
                have HNS : Hid (∀ x, M ≤ x → ∀ hx : x < s.size, (s[x]'hx) ≠ 47) := fun x h1 hx => HNSX.out M (by rw [← HQJ.out, size_len]; omega) x hx h1
                clear HSQ HNSX HLEN HPOS HQ2 HPA HPU HPL HSL hlen hpos hqn HQJ hM
                go_wp2_with fail
                go_loopw [18] (fun v18 wq => ∃ x : Nat, v18 = .int .i64 (x : Int) ∧ M ≤ x ∧ x ≤ s.size ∧ wq = w7) (fun v18 _ => s.size - (intOf v18).toNat)
                case atStart => exact ⟨M, rfl, Nat.le_refl _, by omega, rfl⟩
                case round =>
                  obtain ⟨x, rfl, hx1, hx2, rfl⟩ := hrel
                  by_cases hxs : x < s.size
                  · have hxi : (x : Int) < (s.size : Int) := by omega
                    have hne : (((s[x]'hxs).toNat : Int) == 47) = false := by
                      rw [beq_eq_false_iff_ne]
                      intro e
                      exact HNS.out x hx1 hxs (UInt8.toNat_inj.1 (by show _ = 47; omega))
                    go_wp2_with fail
                    go_roundw
                    case rel => exact ⟨x + 1, by go_num, by omega, by omega, (by first | trivial | rfl)⟩
                    case measure => simp [intOf]; omega
                  · have hxi : ¬ (x : Int) < (s.size : Int) := by omega
                    go_wp2_with fail
                    go_roundw
                    case rel => go_light; exact ⟨j + 1, F6, by go_num, by omega, K7.out⟩
                    case measure => go_light; simp only [intOf]; omega
        · have hjk' : ¬ (j : Int) < (k : Int) := by omega
          have HBR : Hid (Below W.heap.size W wr) := HB1.out.trans (hK.out.bel.mono hs1)
          clear hK
          go_wp2_with fail
          go_ret
          exact ⟨rfl, HBR.out⟩
end Go.Proofs.YthgagobdkcikiaaDoor
