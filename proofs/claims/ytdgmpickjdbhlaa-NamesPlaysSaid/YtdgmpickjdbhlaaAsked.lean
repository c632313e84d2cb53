/- The contract of chandlerlaw02.asked: a call of both tables. -/
import Derived.Test.YtdgmpickjdbhlaaRef2
namespace Go.Proofs.Ytdgmpickjdbhlaa
open Go.RowKit

/-- Both tables above block B, apart. -/
structure Both (w : World) (B bt bm : Nat) (l : List ByteArray) (r : List Cmp) (l2 : List ByteArray) (r2 : List Cmp) (F G : List Nat) : Prop where
  tab : Tab w F bt l r
  rtab : RTab w G bm l2 r2
  apart : Apart F G
  highF : ∀ x, x ∈ F → B ≤ x
  highG : ∀ x, x ∈ G → B ≤ x
  size : B ≤ w.heap.size
theorem Both.below {w w' : World} {B bt bm : Nat} {l l2 : List ByteArray} {r r2 : List Cmp} {F G : List Nat} (h : Both w B bt bm l r l2 r2 F G) (hb : Below w.heap.size w w') : Both w' B bt bm l r l2 r2 F G :=
  ⟨h.tab.turned (Turned.of_below hb []) (fun _ _ hk => by cases hk), h.rtab.turned (Turned.of_below hb []) (fun _ _ hk => by cases hk), h.apart, h.highF, h.highG, Nat.le_trans h.size hb.size⟩
theorem Both.first {w w' : World} {B bt bm : Nat} {l l' l2 : List ByteArray} {r r' r2 : List Cmp} {F G : List Nat} (h : Both w B bt bm l r l2 r2 F G) (hp : ∃ F', Tab w' F' bt l' r' ∧ Turned F w w' ∧ Fresh w F F') :
    Below B w w' ∧ ∃ F', Both w' B bt bm l' r' l2 r2 F' G := by
  obtain ⟨F', hT, ht, hf⟩ := hp
  refine ⟨ht.below h.highF h.size, F', hT, h.rtab.turned ht h.apart.symm, hf.apart h.apart h.rtab.lt, fun x hx => ?_, h.highG, Nat.le_trans h.size ht.size⟩
  rcases hf x hx with h1 | h1
  · exact h.highF x h1
  · exact Nat.le_trans h.size h1
theorem Both.second {w w' : World} {B bt bm : Nat} {l l2 l' : List ByteArray} {r r2 r' : List Cmp} {F G : List Nat} (h : Both w B bt bm l r l2 r2 F G) (hp : ∃ G', RTab w' G' bm l' r' ∧ Turned G w w' ∧ Fresh w G G') :
    Below B w w' ∧ ∃ G', Both w' B bt bm l r l' r' F G' := by
  obtain ⟨G', hT, ht, hf⟩ := hp
  refine ⟨ht.below h.highG h.size, G', h.tab.turned ht h.apart, hT, (hf.apart h.apart.symm h.tab.lt).symm, h.highF, fun x hx => ?_, Nat.le_trans h.size ht.size⟩
  rcases hf x hx with h1 | h1
  · exact h.highG x h1
  · exact Nat.le_trans h.size h1
def AskedPost (w : World) (B bt bm : Nat) (e : Ending) (w' : World) : Prop :=
  e = .returned (.bool true) ∧ Below B w w' ∧ ∃ l r F G, Both w' B bt bm l r l r F G

set_option maxHeartbeats 4000000 in
set_option maxRecDepth 100000 in
theorem asked_any (w : World) (B bt bm : Nat) (l : List ByteArray) (r : List Cmp) (F G : List Nat) (kd a b c : Int) (nm : ByteArray) (hnm : nm.size ≤ maxLen) (h : Both w B bt bm l r l r F G) :
    Calls Try.prog 11 #[.pointer (some ⟨bt, 0, none⟩), .pointer (some ⟨bm, 0, none⟩), .agg #[.int .i64 kd, .string nm, .int .i64 a, .int .i64 b, .int .i64 c]] w (AskedPost w B bt bm) := by
  have hg := h.tab.1
  have hfew := hg.few
  have hrf := hg.rfew
  have HB0 := Lib.hid ((Below.refl w.heap.size w).alloc (Nat.le_refl _) (.cells #[.int .i64 kd, .string nm, .int .i64 a, .int .i64 b, .int .i64 c] 30))
  have H1 := Lib.hid (h.below HB0.out)
  have hsz := h.size
  have HK1 := Lib.hid (Blk.new w 30 #[.int .i64 kd, .string nm, .int .i64 a, .int .i64 b, .int .i64 c])
  have HB1 : Hid (Below B w (w.alloc (.cells #[.int .i64 kd, .string nm, .int .i64 a, .int .i64 b, .int .i64 c] 30))) := HB0.out.mono hsz
  have HLF := Lib.hid h.tab.lt
  have HLG := Lib.hid h.rtab.lt
  clear h hg
  by_cases h1 : kd = 1
  · subst h1
    have C := Lib.hid (add_any _ F bt l r nm hnm H1.out.tab)
    go_enter Try.func11, Try.ntmps11
    go_wp2_with fail
    refine C.out.mono ?_
    rintro e w2 ⟨rfl, hp⟩
    have K2 := Lib.hid (HK1.out.turned hp.choose_spec.2.1 (fun hm => absurd (HLF.out _ hm) (by omega)))
    obtain ⟨hb2, F2, hB2⟩ := H1.out.first hp
    have q1 : w2.cell? ⟨w.heap.size, 1, none⟩ = some (.string nm) := K2.out.cell 1
    have q2 : w2.cell? ⟨w.heap.size, 2, none⟩ = some (.int .i64 a) := K2.out.cell 2
    have q3 : w2.cell? ⟨w.heap.size, 3, none⟩ = some (.int .i64 b) := K2.out.cell 3
    have q4 : w2.cell? ⟨w.heap.size, 4, none⟩ = some (.int .i64 c) := K2.out.cell 4
    have HB2 := Lib.hid hB2
    have HBL2 := Lib.hid (HB1.out.trans hb2)
    have C2 := Lib.hid (radd_any w2 G bm l r nm hnm hfew HB2.out.rtab)
    clear hp hB2 hb2 C
    unfold two
    go_wp2_with fail
    refine C2.out.mono ?_
    rintro e w3 ⟨rfl, hp⟩
    obtain ⟨hb3, G3, hB3⟩ := HB2.out.second hp
    have HB3 := Lib.hid hB3
    have HBL3 := Lib.hid (HBL2.out.trans hb3)
    clear hp hB3 hb3 C2
    unfold two
    go_wp2_with fail
    go_ret
    exact ⟨rfl, HBL3.out, _, _, _, _, HB3.out⟩
  · have h1' : (kd == 1) = false := by simpa using h1
    by_cases h2 : kd = 2
    · subst h2
      have C := Lib.hid (find_any _ F bt l r nm hnm H1.out.tab)
      have C2 := Lib.hid (rfind_any _ G bm l r nm hfew H1.out.rtab)
      go_enter Try.func11, Try.ntmps11
      go_wp2_with fail
      refine C.out.mono ?_
      rintro e w2 ⟨rfl, rfl⟩
      go_wp2_with fail
      refine C2.out.mono ?_
      rintro e w2 ⟨rfl, rfl⟩
      go_wp2_with fail
      go_ret
      exact ⟨rfl, HB1.out, _, _, _, _, H1.out⟩
    · have h2' : (kd == 2) = false := by simpa using h2
      by_cases h3 : kd = 3
      · subst h3
        obtain ⟨vn, vr, hR, hG⟩ := id H1.out.rtab
        obtain ⟨An, cn, rfl, hn1, hn2⟩ := own_form' hR.names
        have c0 : (w.alloc (.cells #[.int .i64 3, .string nm, .int .i64 a, .int .i64 b, .int .i64 c] 30)).cell? ⟨bm, 0, none⟩ = some (.slice An l.length cn) := hR.blk.cell 0
        cases hh : hasB l a with
        | false =>
          have C := Lib.hid (name_no _ F bt l r a hh H1.out.tab)
          have hcase : a < 0 ∨ (decide (a < 0) = false ∧ (l.length : Int) ≤ a) := by
            by_cases h0 : a < 0
            · exact .inl h0
            · exact .inr ⟨by simp; omega, by simp [hasB] at hh; omega⟩
          have HR := Lib.hid hR
          clear hh hR hG
          rcases hcase with h0 | ⟨h0, h0'⟩
          all_goals
            go_enter Try.func11, Try.ntmps11
            go_wp2_with fail
            refine C.out.mono ?_
            rintro e w2 ⟨rfl, rfl⟩
            go_wp2_with fail
            go_quiet (fail)
            go_wp2_with fail
            go_ret
            exact ⟨rfl, below_drewN' HB1.out _, _, _, _, _, H1.out.below (below_drewN' (Below.refl _ _) _)⟩
        | true =>
          obtain ⟨k, rfl, hk⟩ := hasB_nat hh
          obtain ⟨s, hs⟩ : ∃ s, l[k]? = some s := ⟨_, List.getElem?_eq_getElem hk⟩
          have C := Lib.hid (name_yes _ F bt l r k s hs H1.out.tab)
          obtain ⟨g, rfl, d0⟩ := own_at_ hR.names (k := k) (u := .string s) (by simp [hs])
          have k0 : decide ((k : Int) < 0) = false := by simp
          have k1 : ¬ (l.length : Int) ≤ (k : Int) := by omega
          have k2 : (0 : Int) ≤ (k : Int) := by omega
          have k3 : (k : Int) < (l.length : Int) := by omega
          have HR := Lib.hid hR
          clear hh hR hG hs
          go_enter Try.func11, Try.ntmps11
          go_wp2_with fail
          refine C.out.mono ?_
          rintro e w2 ⟨rfl, rfl⟩
          go_wp2_with fail
          go_quiet (fail)
          go_wp2_with fail
          go_quiet (fail)
          go_wp2_with fail
          go_ret
          exact ⟨rfl, below_drewN' (below_drewN' HB1.out _) _, _, _, _, _, H1.out.below (below_drewN' (below_drewN' (Below.refl _ _) _) _)⟩
      · have h3' : (kd == 3) = false := by simpa using h3
        by_cases h4 : kd = 4
        · subst h4
          have C := Lib.hid (relate_any _ F bt l r a b c H1.out.tab)
          go_enter Try.func11, Try.ntmps11
          go_wp2_with fail
          refine C.out.mono ?_
          rintro e w2 ⟨rfl, hp⟩
          have K2 := Lib.hid (HK1.out.turned hp.choose_spec.2.1 (fun hm => absurd (HLF.out _ hm) (by omega)))
          obtain ⟨hb2, F2, hB2⟩ := H1.out.first hp
          have q1 : w2.cell? ⟨w.heap.size, 1, none⟩ = some (.string nm) := K2.out.cell 1
          have q2 : w2.cell? ⟨w.heap.size, 2, none⟩ = some (.int .i64 a) := K2.out.cell 2
          have q3 : w2.cell? ⟨w.heap.size, 3, none⟩ = some (.int .i64 b) := K2.out.cell 3
          have q4 : w2.cell? ⟨w.heap.size, 4, none⟩ = some (.int .i64 c) := K2.out.cell 4
          have HB2 := Lib.hid hB2
          have HBL2 := Lib.hid (HB1.out.trans hb2)
          have C2 := Lib.hid (rrelate_any w2 G bm l r a b c hfew hrf HB2.out.rtab)
          clear hp hB2 hb2 C
          unfold two
          go_wp2_with fail
          refine C2.out.mono ?_
          rintro e w3 ⟨rfl, hp⟩
          obtain ⟨hb3, G3, hB3⟩ := HB2.out.second hp
          have HB3 := Lib.hid hB3
          have HBL3 := Lib.hid (HBL2.out.trans hb3)
          clear hp hB3 hb3 C2
          unfold two
          go_wp2_with fail
          go_ret
          exact ⟨rfl, HBL3.out, _, _, _, _, HB3.out⟩
        · have h4' : (kd == 4) = false := by simpa using h4
          by_cases h5 : kd = 5
          · subst h5
            by_cases hin : 0 ≤ a ∧ a < (r.length : Int)
            · obtain ⟨k, rfl⟩ : ∃ k : Nat, a = (k : Int) := ⟨a.toNat, by omega⟩
              obtain ⟨⟨x, y, z⟩, hk⟩ : ∃ x, r[k]? = some x := ⟨_, List.getElem?_eq_getElem (by omega)⟩
              have C := Lib.hid (relation_yes _ F bt l r k (x, y, z) hk H1.out.tab)
              have HK := Lib.hid (cells3_at hk)
              have k0 : decide ((k : Int) < 0) = false := by simp
              have k1 : ¬ (r.length : Int) ≤ (k : Int) := by omega
              have k2 : (0 : Int) ≤ (k : Int) := by omega
              have k3 : (k : Int) < (r.length : Int) := by omega
              clear hk hin
              go_enter Try.func11, Try.ntmps11
              go_wp2_with fail
              refine C.out.mono ?_
              rintro e w2 ⟨rfl, hb2⟩
              have K2 := Lib.hid (HK1.out.below hb2 (by simp))
              have H2 := Lib.hid (H1.out.below hb2)
              have HB2 := Lib.hid (HB1.out.trans (hb2.mono H1.out.size))
              obtain ⟨vn, vr, hR, hG⟩ := id H2.out.rtab
              obtain ⟨An, cn, rfl, hn1, hn2⟩ := own_form' hR.rels
              have c0 : w2.cell? ⟨bm, 1, none⟩ = some (.slice An r.length cn) := hR.blk.cell 1
              obtain ⟨g, e1, d0⟩ := own_ats hR.rels (k := k * 3) HK.out.1
              obtain ⟨g', e2, d1⟩ := own_ats hR.rels (k := k * 3 + 1) HK.out.2.1
              obtain ⟨g'', e3, d2⟩ := own_ats hR.rels (k := k * 3 + 2) HK.out.2.2
              subst e1
              obtain rfl : g = g' := by injection e2 with e2; injection e2
              obtain rfl : g = g'' := by injection e3 with e3; injection e3
              have q2 : w2.cell? ⟨w.heap.size, 2, none⟩ = some (.int .i64 (k : Int)) := K2.out.cell 2
              have l1 : w.heap.size < w2.heap.size := K2.out.lt
              have l2 : bm < w2.heap.size := hR.blk.lt
              have l3 : g < w2.heap.size := cell_lt d0
              have y0 : ∀ q, ((w2.drewN q).alloc (.cells #[.int .i64 0, .int .i64 0, .int .i64 0] 50)).cell? ⟨w.heap.size, 2, none⟩ = some (.int .i64 (k : Int)) := fun q => (World.cell?_alloc_lt (w2.drewN q) _ _ l1).trans q2
              have y1 : ∀ q, ((w2.drewN q).alloc (.cells #[.int .i64 0, .int .i64 0, .int .i64 0] 50)).cell? ⟨bm, 1, none⟩ = some (.slice (some ⟨g, 0, none⟩) r.length cn) := fun q => (World.cell?_alloc_lt (w2.drewN q) _ _ l2).trans c0
              have y2 : ∀ q, ((w2.drewN q).alloc (.cells #[.int .i64 0, .int .i64 0, .int .i64 0] 50)).cell? ⟨g, k * 3, none⟩ = some (.int .i64 (x : Int)) := fun q => (World.cell?_alloc_lt (w2.drewN q) _ _ l3).trans d0
              have y3 : ∀ q, ((w2.drewN q).alloc (.cells #[.int .i64 0, .int .i64 0, .int .i64 0] 50)).cell? ⟨g, k * 3 + 1, none⟩ = some (.int .i64 (y : Int)) := fun q => (World.cell?_alloc_lt (w2.drewN q) _ _ l3).trans d1
              have y4 : ∀ q, ((w2.drewN q).alloc (.cells #[.int .i64 0, .int .i64 0, .int .i64 0] 50)).cell? ⟨g, k * 3 + 2, none⟩ = some (.int .i64 (z : Int)) := fun q => (World.cell?_alloc_lt (w2.drewN q) _ _ l3).trans d2
              have z0 : ∀ q, ((w2.drewN q).alloc (.cells #[.int .i64 0, .int .i64 0, .int .i64 0] 50)).cell? ⟨w2.heap.size, 0, none⟩ = some (.int .i64 0) := fun q => (Blk.new' (w := w2.drewN q) (g := w2.heap.size) (t := 50) (cs := #[.int .i64 0, .int .i64 0, .int .i64 0]) rfl).cell 0
              have x0 : ∀ q, ((w2.drewN q).alloc (.cells #[.int .i64 0, .int .i64 0, .int .i64 0] 50)).frozen? ⟨w2.heap.size, 0, none⟩ = false := fun q => (Blk.new' (w := w2.drewN q) (g := w2.heap.size) (t := 50) (cs := #[.int .i64 0, .int .i64 0, .int .i64 0]) rfl).free 0
              have z1 : ∀ q, ((w2.drewN q).alloc (.cells #[.int .i64 0, .int .i64 0, .int .i64 0] 50)).cell? ⟨w2.heap.size, 1, none⟩ = some (.int .i64 0) := fun q => (Blk.new' (w := w2.drewN q) (g := w2.heap.size) (t := 50) (cs := #[.int .i64 0, .int .i64 0, .int .i64 0]) rfl).cell 1
              have x1 : ∀ q, ((w2.drewN q).alloc (.cells #[.int .i64 0, .int .i64 0, .int .i64 0] 50)).frozen? ⟨w2.heap.size, 1, none⟩ = false := fun q => (Blk.new' (w := w2.drewN q) (g := w2.heap.size) (t := 50) (cs := #[.int .i64 0, .int .i64 0, .int .i64 0]) rfl).free 1
              have z2 : ∀ q, ((w2.drewN q).alloc (.cells #[.int .i64 0, .int .i64 0, .int .i64 0] 50)).cell? ⟨w2.heap.size, 2, none⟩ = some (.int .i64 0) := fun q => (Blk.new' (w := w2.drewN q) (g := w2.heap.size) (t := 50) (cs := #[.int .i64 0, .int .i64 0, .int .i64 0]) rfl).cell 2
              have x2 : ∀ q, ((w2.drewN q).alloc (.cells #[.int .i64 0, .int .i64 0, .int .i64 0] 50)).frozen? ⟨w2.heap.size, 2, none⟩ = false := fun q => (Blk.new' (w := w2.drewN q) (g := w2.heap.size) (t := 50) (cs := #[.int .i64 0, .int .i64 0, .int .i64 0]) rfl).free 2
              have HR := Lib.hid hR
              clear hR hG C e2 e3 hb2
              go_wp2_with fail
              go_quiet (fail)
              go_wp2_with fail
              go_region
              all_goals
                go_wp2_with fail
                go_ret
                refine ⟨rfl, HB2.out.trans (Below.mono (B := w2.heap.size) ?_ H2.out.size), _, _, _, _, H2.out.below ?_⟩
                all_goals repeat (first | exact Below.refl _ _ | refine Below.setCell ?_ (by simp) _ | refine Below.alloc ?_ (by simp) _ | refine below_drewN' ?_ _)
            · have C := Lib.hid (relation_no _ F bt l r a (by omega) H1.out.tab)
              have hcase : a < 0 ∨ (decide (a < 0) = false ∧ (r.length : Int) ≤ a) := by
                by_cases h0 : a < 0
                · exact .inl h0
                · exact .inr ⟨by simp; omega, by omega⟩
              clear hin
              rcases hcase with h0 | ⟨h0, h0'⟩
              all_goals
                go_enter Try.func11, Try.ntmps11
                go_wp2_with fail
                refine C.out.mono ?_
                rintro e w2 ⟨rfl, hb2⟩
                have K2 := Lib.hid (HK1.out.below hb2 (by simp))
                have H2 := Lib.hid (H1.out.below hb2)
                have HB2 := Lib.hid (HB1.out.trans (hb2.mono H1.out.size))
                obtain ⟨vn, vr, hR, hG⟩ := id H2.out.rtab
                obtain ⟨An, cn, rfl, hn1, hn2⟩ := own_form' hR.rels
                have c0 : w2.cell? ⟨bm, 1, none⟩ = some (.slice An r.length cn) := hR.blk.cell 1
                have q2 : w2.cell? ⟨w.heap.size, 2, none⟩ = some (.int .i64 a) := K2.out.cell 2
                have HR := Lib.hid hR
                clear hR hG C hb2
                go_wp2_with fail
                go_quiet (fail)
                go_wp2_with fail
                go_ret
                exact ⟨rfl, below_drewN' HB2.out _, _, _, _, _, H2.out.below (below_drewN' (Below.refl _ _) _)⟩
          · have h5' : (kd == 5) = false := by simpa using h5
            go_enter Try.func11, Try.ntmps11
            go_wp2_with fail
            go_ret
            exact ⟨rfl, HB1.out, _, _, _, _, H1.out⟩
end Go.Proofs.Ytdgmpickjdbhlaa
