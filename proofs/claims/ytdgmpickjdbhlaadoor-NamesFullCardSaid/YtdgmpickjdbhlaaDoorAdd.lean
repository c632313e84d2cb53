/- The contract of (*names.Table).Add. -/
import Derived.Test.YtdgmpickjdbhlaaDoorTab
import Derived.Test.YtdgmpickjdbhlaaDoorShelf
namespace Go.Proofs.YtdgmpickjdbhlaaDoor
open Go.RowKit

theorem clone_any (s : ByteArray) (w : World) (hs : s.size ≤ 60) : Calls Tryd.prog 10 #[.string s] w fun e w' => e = .returned (.string s) ∧ Below w.heap.size w w' := by
  have C := Lib.hid (Tryd.stringslite_Clone s w (by omega))
  go_enter Tryd.func10, Tryd.ntmps10
  go_wp2_with fail
  refine C.out.mono ?_
  rintro e w1 ⟨rfl, hb⟩
  go_wp2_with fail
  go_ret
  exact ⟨rfl, hb⟩

theorem fn_snoc {l : List ByteArray} {s : ByteArray} (h : ix l s = none) (b : ByteArray) :
    (if b = s then some ((l.length : Nat) : Int) else ixI l b) = ixI (l ++ [s]) b := by
  unfold ixI
  rw [ix_snoc]
  by_cases hb : b = s
  · subst hb; simp [h]
  · have hb' : ¬ s = b := fun e => hb e.symm
    simp [hb, hb']

theorem good_snoc {l : List ByteArray} {r : List Cmp} {s : ByteArray} (h : Good l r) (h1 : ix l s = none) (h2 : s.size ≤ 60) (h3 : l.length < 5000) : Good (l ++ [s]) r where
  few := by simp; omega
  one := by
    have := h.one
    rw [List.getElem?_append_left (by rcases l with _ | _ <;> simp at this ⊢)]
    exact this
  once := by
    rw [List.nodup_append]
    refine ⟨h.once, by simp, ?_⟩
    intro a ha b hb
    simp at hb
    subst hb
    rintro rfl
    exact ix_none.1 h1 ha
  short := by
    intro b hb
    rcases List.mem_append.1 hb with h4 | h4
    · exact h.short b h4
    · simp at h4; subst h4; exact h2
  rfew := h.rfew
  ronce := h.ronce
  inside := fun c hc => by have := h.inside c hc; simp; omega

theorem add_fin {w w1 w2 w3 : World} {bt mi mp cn c2 : Nat} {An A2 : Option Addr} {vc : Value} {D E : DataW Unit} {l : List ByteArray} {r : List Cmp} {s : ByteArray} {t : TypeId} {cs : Array Value}
    (hT : TabOf w bt (.slice An l.length cn) mi vc mp D E l r) (hg : Good l r) (hix : ix l s = none) (h60 : s.size ≤ 60) (hfew : l.length < 5000) (hb1 : Below w.heap.size w w1)
    (hg2 : (w1.alloc (.cells cs t)).grownBy w2 (Value.slice An l.length cn).ownBlock) (hat2 : (Value.slice A2 (l.length + 1) c2).ownBlock = (Value.slice An l.length cn).ownBlock ∨ (Value.slice A2 (l.length + 1) c2).ownBlock = some (w1.alloc (.cells cs t)).heap.size)
    (hO2 : w2.ownsRow 0 9 1 (.slice A2 (l.length + 1) c2) (l.length + 1) (l.map .string ++ [.string s]))
    (hB2 : Blk w2 bt 36 #[.slice An l.length cn, .map (some mi), vc, .map (some mp)])
    (hM2 : (w2.setCell ⟨bt, 0, none⟩ (.slice A2 (l.length + 1) c2)).ownsMap Tryd.prog 9 (plainElem Tryd.prog 3) mi l.length D)
    (hM3 : w3.ownsMap Tryd.prog 9 (plainElem Tryd.prog 3) mi (l.length + 1) (D.put (kdS s) (.lit (.int .i64 l.length))))
    (hg3 : (w2.setCell ⟨bt, 0, none⟩ (.slice A2 (l.length + 1) c2)).grownBy w3 (some mi)) :
    ∃ F', Tab w3 F' bt (l ++ [s]) r ∧ Turned (foot bt mi mp (.slice An l.length cn) vc) w w3 ∧ Fresh w (foot bt mi mp (.slice An l.length cn) vc) F' := by
  have hB2' := hB2.set_ 0 (.slice A2 (l.length + 1) c2)
  have hmb : mi ≠ bt := map_kind hM2 hB2'
  have hO2' := own_setCell (p := ⟨bt, 0, none⟩) hO2 (own_kind hO2 hB2 (by decide)) (.slice A2 (l.length + 1) c2)
  have hT3 : Turned (bt :: mi :: (Value.slice An l.length cn).ownBlock.toList) w w3 :=
    ((((Turned.of_below hb1 _).alloc _).grown hg2 (fun k hk => .inl (by simp [hk]))).setCell (.inl (by simp)) _).grown hg3 (fun k hk => .inl (by cases hk; simp))
  have hsz := hb1.size
  refine ⟨_, ⟨good_snoc hg hix h60 hfew, .slice A2 (l.length + 1) c2, mi, vc, mp, D.put (kdS s) (.lit (.int .i64 l.length)), E, ⟨?_, ?_, ?_, ?_, ?_, ?_, ?_, hT.maps⟩, rfl⟩, hT3.more ?_, ?_⟩
  · exact hB2'.grown hg3 (fun e => hmb (by injection e with e; exact e.symm))
  · rw [List.length_append, List.map_append]
    exact hO2'.kept hg3 (.inr (map_own hM2 hO2'))
  · refine own_turned hT.comps hT3 fun k hk hm => ?_
    simp only [List.mem_cons, Option.mem_toList] at hm
    rcases hm with rfl | rfl | hm
    · exact own_kind hT.comps hT.blk (by decide) hk
    · exact map_own hT.ids hT.comps hk
    · exact own_kinds hT.comps hT.names (by decide) hk hm
  · rw [List.length_append]
    exact hM3
  · exact (hT.idsAre.put (fun a b _ _ => kdS_inj a b) s trivial (kdS_key s) _).congr (fn_snoc hix)
  · refine map_turned hT.places hT3 fun hm => ?_
    simp only [List.mem_cons, Option.mem_toList] at hm
    rcases hm with e | e | hm
    · exact map_kind hT.places hT.blk e
    · exact hT.maps e.symm
    · exact map_own hT.places hT.names hm
  · exact hT.placesAre
  · intro k hk
    simp only [foot, List.mem_cons, List.mem_append, Option.mem_toList] at hk ⊢
    rcases hk with h | h | h
    · exact .inl h
    · exact .inr (.inl h)
    · exact .inr (.inr (.inr (.inl h)))
  · intro k hk
    simp only [foot, List.mem_cons, List.mem_append, Option.mem_toList] at hk ⊢
    rcases hk with h | h | h | h | h
    · exact .inl (.inl h)
    · exact .inl (.inr (.inl h))
    · exact .inl (.inr (.inr (.inl h)))
    · rcases hat2 with e | e
      · rw [e] at h; exact .inl (.inr (.inr (.inr (.inl h))))
      · rw [e] at h; injection h with h; right; rw [← h, World.size_alloc]; omega
    · exact .inl (.inr (.inr (.inr (.inr h))))

set_option maxHeartbeats 1000000 in
set_option maxRecDepth 100000 in
theorem add_any (w : World) (F : List Nat) (bt : Nat) (l : List ByteArray) (r : List Cmp) (s : ByteArray) (hs : s.size ≤ maxLen) (h : Tab w F bt l r) :
    Calls Tryd.prog 6 #[.pointer (some ⟨bt, 0, none⟩), .string s] w (TabPost w F bt (addL l s) r (two (addId l s) (addErr l s))) := by
  obtain ⟨hg, vn, mi, vc, mp, D, E, hT, rfl⟩ := id h
  have HT := Lib.hid hT
  have H := Lib.hid h
  have HG := Lib.hid hg
  obtain ⟨An, cn, rfl, hn1, hn2⟩ := own_form' hT.names
  have hfew := hg.few
  have c0 : w.cell? ⟨bt, 0, none⟩ = some (.slice An l.length cn) := hT.blk.cell 0
  have c1 : w.cell? ⟨bt, 0 + 1, none⟩ = some (.map (some mi)) := hT.blk.cell 1
  unfold maxLen at hs hn2
  clear hT h hg
  by_cases h60 : 60 < s.size
  · have h60' : (60 : Int) < (s.size : Int) := by omega
    have E1 := Lib.hid (show addL l s = l ∧ addId l s = 0 ∧ addErr l s = 21 by simp [addL, addId, addErr, h60])
    go_enter Tryd.func6, Tryd.ntmps6
    go_wp2_with fail
    go_ret2
    exact ⟨by rw [E1.out.2.1, E1.out.2.2]; rfl, _, by rw [E1.out.1]; exact H.out, Turned.refl _ _, Fresh.refl _ _⟩
  · have h60' : ¬ (60 : Int) < (s.size : Int) := by omega
    have HK := Lib.hid (Go.WideMaps.keyOf_string_mk (P := Tryd.prog) Tryd.underlying9 (s := s) (by unfold maxLen; omega))
    cases hix : ix l s with
    | some k =>
      have E1 := Lib.hid (show addL l s = l ∧ addId l s = k ∧ addErr l s = 0 by simp [addL, addId, addErr, h60, hix])
      have hhas : Maps.has D (Lit.string s.data.toList) = true := by rw [show Lit.string s.data.toList = kdS s from rfl, HT.out.idsAre.has s trivial, ixI, hix]; rfl
      have HIX := Lib.hid hix
      clear hix
      go_enter Tryd.func6, Tryd.ntmps6
      go_wp2_with (at_lookup; refine wpList_lookup_own_ok_int _ rfl _ _ 32 rfl 9 3 .i64 lawS Tryd.underlying32 Tryd.underlying3 (zeroI _) mi _ D rfl HT.out.ids _ _ rfl HK.out ?_; intro c hat hwc)
      obtain rfl : c = (k : Int) := by
        have := HT.out.idsAre.at_ s trivial hat
        rw [ixI, HIX.out] at this
        exact this
      go_ret2
      exact ⟨by rw [E1.out.2.1, E1.out.2.2]; rfl, _, by rw [E1.out.1]; exact H.out, Turned.refl _ _, Fresh.refl _ _⟩
    | none =>
      have hhas : Maps.has D (Lit.string s.data.toList) = false := by rw [show Lit.string s.data.toList = kdS s from rfl, HT.out.idsAre.has s trivial, ixI, hix]; rfl
      by_cases hmany : 5000 ≤ l.length
      · have hmany' : (5000 : Int) ≤ (l.length : Int) := by omega
        have E1 := Lib.hid (show addL l s = l ∧ addId l s = 0 ∧ addErr l s = 20 by simp [addL, addId, addErr, h60, hix, hmany])
        clear hix
        go_enter Tryd.func6, Tryd.ntmps6
        go_wp2_with (at_lookup; refine wpList_lookup_own_ok_int _ rfl _ _ 32 rfl 9 3 .i64 lawS Tryd.underlying32 Tryd.underlying3 (zeroI _) mi _ D rfl HT.out.ids _ _ rfl HK.out ?_; intro c hat hwc)
        go_ret2
        exact ⟨by rw [E1.out.2.1, E1.out.2.2]; rfl, _, by rw [E1.out.1]; exact H.out, Turned.refl _ _, Fresh.refl _ _⟩
      · have hmany' : ¬ (5000 : Int) ≤ (l.length : Int) := by omega
        have E1 := Lib.hid (show addL l s = l ++ [s] ∧ addId l s = l.length ∧ addErr l s = 0 by simp [addL, addId, addErr, h60, hix, hmany])
        have HIX := Lib.hid hix
        obtain ⟨i0, hi, hz0, hz1, hz2⟩ := info_parts infoS
        clear hix
        go_enter Tryd.func6, Tryd.ntmps6
        go_wp2_with (at_lookup; refine wpList_lookup_own_ok_int _ rfl _ _ 32 rfl 9 3 .i64 lawS Tryd.underlying32 Tryd.underlying3 (zeroI _) mi _ D rfl HT.out.ids _ _ rfl HK.out ?_; intro c hat hwc)
        refine (clone_any s w (by omega)).mono ?_
        rintro e w1 ⟨rfl, hb1⟩
        have hb := HT.out.blk
        have hs1 := hb1.size
        have B1 := Lib.hid (hb.below hb1 hb.lt)
        have c01 : w1.cell? ⟨bt, 0, none⟩ = some (.slice An l.length cn) := B1.out.cell 0
        have HN1 := Lib.hid (own_turned HT.out.names (Turned.of_below hb1 []) (fun k _ => by simp))
        have f01 := B1.out.free 0
        have M1 := Lib.hid (map_turned HT.out.ids (Turned.of_below hb1 []) (fun hk => by cases hk))
        go_wp2_with (first
          | (at_builtin; refine wpList_append_own_at _ rfl (.tmp 38) (.tmp 40) 31 rfl 0 9 i0 (.string ByteArray.empty) 1 16 Tryd.underlying31 hi hz0 hz1 hz2 rfl (by decide) (.slice An l.length cn) l.length (l.map .string) rfl (HN1.out.alloc _) ⟨w1.heap.size, 0, none⟩ 1 1 [.string s] rfl rfl (cell_one_new _ _ _) (fun u hu => by simp at hu; subst hu; rfl) (by unfold maxLen; omega) (by omega) (Nat.zero_le _) ?_; intro v2 w2 hown2 hg2 hnil2 hat2; obtain ⟨A2, c2, rfl, hc2, hm2⟩ := own_form' hown2; have B2 := Lib.hid ((B1.out.alloc _).grown hg2 (fun e => own_kind HN1.out B1.out (by decide) e.symm)); have c02 : w2.cell? ⟨bt, 0, none⟩ = some (.slice An l.length cn) := B2.out.cell 0; have c12 : w2.cell? ⟨bt, 1, none⟩ = some (.map (some mi)) := B2.out.cell 1; have f02 := B2.out.free 0; have O2 := Lib.hid hown2; have G2 := Lib.hid hg2; have AT2 := Lib.hid hat2; have M2 := Lib.hid (((M1.out.alloc _).kept hg2 (fun e => map_own M1.out HN1.out e.symm)).setCell (a := ⟨bt, 0, none⟩) (map_kind M1.out B1.out) (.slice A2 (l.length + 1) c2)); clear hown2 hg2 hnil2 hat2)
          | (at_mapUpdate; refine wpList_mapUpdate_own _ rfl _ _ _ 32 rfl 9 3 lawS Tryd.underlying32 _ mi l.length D rfl M2.out (by unfold maxLen; omega) _ _ _ rfl rfl HK.out _ [] (plainElem_int Tryd.underlying3 (wfN (by omega))) ?_; intro w3 hown3 hg3))
        go_ret2
        refine ⟨by rw [E1.out.2.1, E1.out.2.2]; rfl, ?_⟩
        rw [E1.out.1]
        exact add_fin HT.out HG.out HIX.out (by omega) (by omega) hb1 G2.out AT2.out O2.out B2.out M2.out hown3 hg3
end Go.Proofs.YtdgmpickjdbhlaaDoor
