/- awake of the layer pool answers true. -/
import Derived.Test.YtinldjjbfhpnkaaDoorPCalls2
namespace Go.Proofs.YtinldjjbfhpnkaaDoor
set_option linter.unusedSimpArgs false
set_option linter.unusedVariables false
open Go.RowKit

def nmMain : ByteArray := ⟨#[109, 97, 105, 110]⟩
def nmA : ByteArray := ⟨#[97]⟩
def nmB : ByteArray := ⟨#[98]⟩
def pkA : Pkg := ⟨nmA, ⟨#[49, 45, 49]⟩, ⟨#[110, 111, 97, 114, 99, 104]⟩, ⟨#[]⟩, fun _ => [], []⟩
def pkB : Pkg := ⟨nmB, ⟨#[50, 45, 49]⟩, ⟨#[110, 111, 97, 114, 99, 104]⟩, ⟨#[]⟩, fun _ => [], []⟩
def nilS : Nat → Value := fun _ => .slice none 0 0
theorem headA : headN pkA = 0 := by decide +kernel
theorem headB : headN pkB = 0 := by decide +kernel
theorem textA : ((((nmA ++ ⟨#[45]⟩) ++ ⟨#[49, 45, 49]⟩) ++ ⟨#[46]⟩) ++ ⟨#[110, 111, 97, 114, 99, 104]⟩ : ByteArray) = ⟨#[97, 45, 49, 45, 49, 46, 110, 111, 97, 114, 99, 104]⟩ := by decide +kernel
theorem chk_plain {Q : Dep → Int → Prop} {p : Pkg} {n : Int} (hh : headN p = 0) (hl : ∀ i, i < 7 → p.ls i = []) (hf : p.files = []) (h : ChkR Q p n) : n = 0 := by
  obtain ⟨b, hd, rfl⟩ := h
  have hb : b = true := by
    rcases hd hh with ⟨_, i, hi, hb⟩ | ⟨_, hb⟩
    · rw [hl i hi] at hb
      rcases hb with hb | ⟨d, hd, _⟩
      · simp at hb
      · cases hd
    · rw [hb]
      unfold offersOk
      rw [hl 0 (by omega), hl 4 (by omega)]
      rfl
  subst hb
  unfold chkN
  rw [if_neg (by simp [hh]), if_neg (by simp), if_neg (by unfold filesBad; rw [hf]; simp)]
theorem mainOk : nameB nmMain.data.toList = true := by decide +kernel
theorem add1 {Q : Dep → Int → Prop} {n : Int} (h : AddR Q [] 0 nmMain false [pkA, pkB] n) : n = 0 := by
  have h0 : addHead [] 0 nmMain false 2 = 0 := by unfold addHead; rw [mainOk]; simp
  rcases h with ⟨h1, _⟩ | ⟨_, ⟨h1, _⟩ | ⟨h1, i, p, hp, hc, _⟩⟩
  · exact absurd h0 h1
  · exact h1
  · have : p = pkA ∨ p = pkB := by
      have := List.mem_of_getElem? hp
      simpa using this
    rcases this with rfl | rfl
    · exact chk_plain headA (fun _ _ => rfl) rfl hc
    · exact chk_plain headB (fun _ _ => rfl) rfl hc
theorem add2 {Q : Dep → Int → Prop} {n : Int} {k : Nat} (h : AddR Q [⟨nmMain, 0, false⟩] k nmMain false [] n) : n = 66 := by
  have h0 : addHead [⟨nmMain, 0, false⟩] k nmMain false 0 = 66 := by unfold addHead; rw [if_pos (.inr (by simp))]
  rcases h with ⟨_, h1⟩ | ⟨h1, _⟩
  · exact h1.trans h0
  · rw [show ([] : List Pkg).length = 0 from rfl, h0] at h1
    cases h1
theorem small_plain (p : Pkg) (h0 : p.name.size ≤ 281474976710656) (h1 : p.evr.size ≤ 281474976710656) (h2 : p.arch.size ≤ 281474976710656) (h3 : p.vendor.size ≤ 281474976710656) (hl : ∀ i, p.ls i = []) (hf : p.files = []) : PkgSmall p := by
  refine ⟨fun k => ?_, fun i _ => ?_, ?_⟩
  · match k with
    | 0 => exact h0
    | 1 => exact h1
    | 2 => exact h2
    | k + 3 => exact h3
  · rw [hl i]
    exact ⟨by simp, fun d hd => by cases hd⟩
  · rw [hf]
    exact ⟨(fun s hs => by cases hs), by simp⟩
theorem smallA : PkgSmall pkA := small_plain _ (by decide) (by decide) (by decide) (by decide) (fun _ => rfl) rfl
theorem smallB : PkgSmall pkB := small_plain _ (by decide) (by decide) (by decide) (by decide) (fun _ => rfl) rfl
theorem at_nil (w : World) (p : Pkg) (hl : ∀ i, i < 7 → p.ls i = []) (hf : p.files = []) : PkgAt w (fun _ => False) (fun _ => False) p nilS (.slice none 0 0) :=
  ⟨fun i hi => by rw [hl i hi]; exact ⟨none, 0, rfl, Nat.le_refl _, by simp [maxLen], fun _ => rfl, fun j a hj => by simp at hj⟩, by rw [hf]; exact ⟨none, 0, rfl, Nat.le_refl _, by simp [maxLen], fun _ => rfl, fun j a hj => by simp at hj⟩⟩

def rowA : Array Value := #[.string ⟨#[97]⟩, .string ⟨#[49, 45, 49]⟩, .string ⟨#[110, 111, 97, 114, 99, 104]⟩, .string ⟨#[]⟩, .slice none 0 0, .slice none 0 0, .slice none 0 0, .slice none 0 0, .slice none 0 0, .slice none 0 0, .slice none 0 0, .slice none 0 0]
def rowAB : Array Value := #[.string ⟨#[97]⟩, .string ⟨#[49, 45, 49]⟩, .string ⟨#[110, 111, 97, 114, 99, 104]⟩, .string ⟨#[]⟩, .slice none 0 0, .slice none 0 0, .slice none 0 0, .slice none 0 0, .slice none 0 0, .slice none 0 0, .slice none 0 0, .slice none 0 0,
  .string ⟨#[98]⟩, .string ⟨#[50, 45, 49]⟩, .string ⟨#[110, 111, 97, 114, 99, 104]⟩, .string ⟨#[]⟩, .slice none 0 0, .slice none 0 0, .slice none 0 0, .slice none 0 0, .slice none 0 0, .slice none 0 0, .slice none 0 0, .slice none 0 0]
/-- The two packages as they are handed in. -/
theorem packs2 {w : World} {b : Nat} (h : Blk w b 26 rowAB) : PacksAt w (fun _ => False) (fun _ => False) (fun k => k = b) [⟨pkA, nilS, .slice none 0 0⟩, ⟨pkB, nilS, .slice none 0 0⟩] (some ⟨b, 0, none⟩) := fun i e hi => by
  match i with
  | 0 =>
    simp at hi; subst hi
    refine ⟨b, 0, rfl, rfl, fun j hj => ?_, at_nil w pkA (fun _ _ => rfl) rfl⟩
    rw [h.cell]
    have : j = 0 ∨ j = 1 ∨ j = 2 ∨ j = 3 ∨ j = 4 ∨ j = 5 ∨ j = 6 ∨ j = 7 ∨ j = 8 ∨ j = 9 ∨ j = 10 ∨ j = 11 := by omega
    rcases this with rfl | rfl | rfl | rfl | rfl | rfl | rfl | rfl | rfl | rfl | rfl | rfl <;> rfl
  | 1 =>
    simp at hi; subst hi
    refine ⟨b, 0, rfl, rfl, fun j hj => ?_, at_nil w pkB (fun _ _ => rfl) rfl⟩
    rw [h.cell]
    have : j = 0 ∨ j = 1 ∨ j = 2 ∨ j = 3 ∨ j = 4 ∨ j = 5 ∨ j = 6 ∨ j = 7 ∨ j = 8 ∨ j = 9 ∨ j = 10 ∨ j = 11 := by omega
    rcases this with rfl | rfl | rfl | rfl | rfl | rfl | rfl | rfl | rfl | rfl | rfl | rfl <;> rfl
  | k + 2 => simp at hi
theorem two_of {l : List Kep} {a b : Pkg} (h : l.map Kep.p = [a, b]) : ∃ x y, l = [x, y] ∧ x.p = a ∧ y.p = b := by
  match l, h with
  | [x, y], h =>
    simp at h
    exact ⟨x, y, rfl, h.1, h.2⟩
theorem packs0 {w : World} : PacksAt w (fun _ => False) (fun _ => False) (fun _ => False) [] none := fun i e hi => by simp at hi
set_option maxHeartbeats 4000000 in
set_option maxRecDepth 100000 in
theorem poolAwake_any (w : World) (hT : Tabs w) : Calls Tryd.prog 8 #[] w (TrueBelow w) := by
  have CN := Lib.hid (new_any 1 (.inl rfl) w)
  have HT := Lib.hid hT
  clear hT
  go_enter Tryd.func8, Tryd.ntmps8
  go_wp2_with fail
  refine CN.out.mono ?_
  rintro e w1 ⟨hb1, g, O, rfl, hP1⟩
  -- the pool with both packages ahead
  obtain ⟨w3, hw3⟩ : ∃ w3, w3 = (w1.alloc (.cells rowA 26)).alloc (.cells rowAB 26) := ⟨_, rfl⟩
  have hb13 : Below w1.heap.size w1 w3 := by rw [hw3]; exact ((Below.refl _ _).alloc (Nat.le_refl _) _).alloc (by simp) _
  have hz3 : w3.heap.size = w1.heap.size + 2 := by rw [hw3]; simp
  have KA3 : Blk w3 w1.heap.size 26 rowA := by rw [hw3]; exact (Blk.new _ _ _).alloc _
  have KB3 : Blk w3 (w1.heap.size + 1) 26 rowAB := by rw [hw3]; exact Blk.new' (by simp)
  obtain ⟨vr, vp, bm, f, hS1⟩ := hP1
  have hO1 : ∀ k, O k → w.heap.size ≤ k ∧ k < w1.heap.size := fun k hk => hS1.O_lt hk
  have hb03 := hb1.trans (hb13.mono hb1.size)
  have hT3 : Tabs w3 := HT.out.below hb03 HT.out.two
  have CA := add_any (fun _ _ => True) (hS1.below hb13) nmMain 0 false (some ⟨w1.heap.size + 1, 0, none⟩) [⟨pkA, nilS, .slice none 0 0⟩, ⟨pkB, nilS, .slice none 0 0⟩] 2 (fun _ => False) (fun _ => False) (fun k => k = w1.heap.size + 1) (packs2 KB3) ⟨by simp, by simp [maxLen]⟩ (by simp) (by simp) (by simp)
    (fun e he i hi d hd => by simp at he; rcases he with rfl | rfl <;> cases hd) hT3 (by decide) (fun e he => by simp at he; rcases he with rfl | rfl; exact smallA; exact smallB) (fun b hb => by
      rcases hb with hb | hb | hb
      · exact hb.elim
      · exact hb.elim
      · subst hb; intro ho; have := (hO1 _ ho).2; omega) HT.out.two
  have HCA := Lib.hid CA
  have H3 := Lib.hid (And.intro hb03 (And.intro KA3 (And.intro hz3 hO1)))
  have HW3 := Lib.hid hw3
  rw [hw3] at HCA
  unfold nmMain rowA rowAB at HCA
  unfold rowA rowAB at HW3
  clear CA hb13 hz3 KA3 KB3 hS1 hO1 hb03 hT3 hw3 CN hb1
  go_wp2_with fail
  refine HCA.out.mono ?_
  rintro e w4 ⟨n, hn, rfl, ht4, _, hyes⟩
  obtain rfl := add1 hn
  obtain ⟨O', S', T', new, hP4, hnm, hrp, hO', _, _⟩ := hyes rfl
  obtain ⟨ka, kb, rfl, hka, hkb⟩ := two_of hnm
  have hra : ka.rep = 0 := hrp ka (by simp)
  rw [← HW3.out] at ht4 hO'
  have hbT : Below w.heap.size w3 w4 := ht4.below (fun k _ hk => (H3.out.2.2.2 k hk).1) H3.out.1.size
  have hb04 : Below w.heap.size w w4 := H3.out.1.trans hbT
  have hT4 : Tabs w4 := HT.out.below hb04 HT.out.two
  have KA4 : Blk w4 w1.heap.size 26 rowA := H3.out.2.1.turnedP ht4 (fun ho => by have := (H3.out.2.2.2 _ ho).2; omega)
  obtain ⟨vr4, vp4, bm4, f4, hS4⟩ := hP4
  have hOl : ∀ k, O' k → w.heap.size ≤ k ∧ k ≠ w1.heap.size := fun k hk => by
    refine ⟨(hS4.O_lt hk).1, ?_⟩
    rcases hO' k hk with h | h
    · have := (H3.out.2.2.2 k h).2; omega
    · have := H3.out.2.2.1; omega
  have CA2 := Lib.hid (add_any (fun _ _ => True) hS4 nmMain 0 false none [] 0 (fun _ => False) (fun _ => False) (fun _ => False) packs0 ⟨by simp, by simp [maxLen]⟩ (by simp) (by simp) (by simp) (fun e he => by cases he) hT4 (by decide) (fun e he => by cases he) (fun b hb => by simp at hb) HT.out.two)
  have H4 := Lib.hid (And.intro hb04 (And.intro KA4 (And.intro hOl (And.intro hka (And.intro hkb hra)))))
  unfold nmMain at CA2
  clear hn hyes hnm hrp hO' ht4 hbT hb04 hT4 KA4 hS4 hOl hka hkb hra HCA HW3 H3
  go_wp2_with fail
  refine CA2.out.mono ?_
  rintro e w5 ⟨n2, hn2, rfl, ht5, hno, _⟩
  obtain rfl := add2 hn2
  have hP5 := hno (by decide)
  have hbT : Below w.heap.size w4 w5 := ht5.below (fun k _ hk => (H4.out.2.2.1 k hk).1) H4.out.1.size
  have hb05 : Below w.heap.size w w5 := H4.out.1.trans hbT
  have KA5 : Blk w5 w1.heap.size 26 rowA := H4.out.2.1.turnedP ht5 (fun ho => (H4.out.2.2.1 _ ho).2 rfl)
  have hidx : idxF nmB 0 [ka, kb] = [1] := by
    unfold idxF idxF idxF
    rw [H4.out.2.2.2.1, H4.out.2.2.2.2.1, if_neg (by decide), if_pos (by rfl)]
  have CNm := Lib.hid (named_any hP5 nmB (by decide) (by simp))
  have hx2 : ([] ++ [ka, kb] : List Kep) = [ka, kb] := rfl
  rw [hx2, hidx] at CNm
  have H5 := Lib.hid (And.intro hb05 (And.intro KA5 hP5))
  unfold nmB at CNm
  clear hn2 hno hP5 hbT hb05 KA5 hidx hx2 CA2 ht5
  go_wp2_with fail
  refine CNm.out.mono ?_
  rintro e w6 ⟨hb6, v', rfl, hN⟩
  obtain ⟨An, cn, rfl, hcn1, hcn2⟩ := own_form' hN
  obtain ⟨bn, rfl, hcell⟩ := own_at_ (k := 0) (u := .int .i64 1) hN rfl
  have hb06 : Below w.heap.size w w6 := H5.out.1.trans (hb6.mono H5.out.1.size)
  have KA6 : Blk w6 w1.heap.size 26 rowA := H5.out.2.1.below hb6 H5.out.2.1.lt
  have hP6 := H5.out.2.2.below hb6
  have CP : Calls Tryd.prog 16 #[.pointer (some ⟨g, 0, none⟩), .int .i64 0] w6 (PkgTold w6 ka.p ka.rep) := package_any hP6 0 ka rfl (by rw [H4.out.2.2.2.1]; exact smallA)
  rw [H4.out.2.2.2.1, H4.out.2.2.2.2.2] at CP
  have HCP := Lib.hid CP
  have hlc : bn < w6.heap.size := cell_lt hcell
  have H6 := Lib.hid (And.intro hb06 (And.intro KA6 (And.intro hP6 (And.intro hcell hlc))))
  clear hb6 hN hb06 KA6 hP6 CP hcell hlc CNm hcn1 H5
  go_wp2_with fail
  refine HCP.out.mono ?_
  rintro e w7 ⟨hb7, ss', fs', S7, T7, rfl, hP7, _, _, _, _⟩
  obtain ⟨B0, m0, s0, -⟩ := hP7.lists 0 (by omega)
  obtain ⟨B1, m1, s1, -⟩ := hP7.lists 1 (by omega)
  obtain ⟨B2, m2, s2, -⟩ := hP7.lists 2 (by omega)
  obtain ⟨B3, m3, s3, -⟩ := hP7.lists 3 (by omega)
  obtain ⟨B4, m4, s4, -⟩ := hP7.lists 4 (by omega)
  obtain ⟨B5, m5, s5, -⟩ := hP7.lists 5 (by omega)
  obtain ⟨B6, m6, s6, -⟩ := hP7.lists 6 (by omega)
  obtain ⟨B7, m7, s7, -⟩ := hP7.files
  have HRw : Hid (rowP pkA ss' fs' = #[.string ⟨#[97]⟩, .string ⟨#[49, 45, 49]⟩, .string ⟨#[110, 111, 97, 114, 99, 104]⟩, .string ⟨#[]⟩, .slice B0 0 m0, .slice B1 0 m1, .slice B2 0 m2, .slice B3 0 m3, .slice B4 0 m4, .slice B5 0 m5, .slice B6 0 m6, .slice B7 0 m7]) := by
    show rowP _ _ _ = _
    unfold rowP
    rw [s0, s1, s2, s3, s4, s5, s6, s7]
    rfl
  rw [HRw.out]
  have hb07 : Below w.heap.size w w7 := H6.out.1.trans (hb7.mono H6.out.1.size)
  obtain ⟨w8, hw8⟩ : ∃ w8, w8 = w7.alloc (.cells #[.string ⟨#[97]⟩, .string ⟨#[49, 45, 49]⟩, .string ⟨#[110, 111, 97, 114, 99, 104]⟩, .string ⟨#[]⟩, .slice B0 0 m0, .slice B1 0 m1, .slice B2 0 m2, .slice B3 0 m3, .slice B4 0 m4, .slice B5 0 m5, .slice B6 0 m6, .slice B7 0 m7] 26) := ⟨_, rfl⟩
  have hb78 : Below w7.heap.size w7 w8 := by rw [hw8]; exact (Below.refl _ _).alloc (Nat.le_refl _) _
  have hb68 : Below w6.heap.size w6 w8 := hb7.trans (hb78.mono hb7.size)
  have hb08 : Below w.heap.size w w8 := hb07.trans (hb78.mono hb07.size)
  have KA8 : Blk w8 w1.heap.size 26 rowA := H6.out.2.1.below hb68 H6.out.2.1.lt
  have hP8 := H6.out.2.2.1.below hb68
  have hcn : w8.cell? ⟨bn, 0, none⟩ = some (.int .i64 1) := (World.cell?_of_block (hb68.block bn H6.out.2.2.2.2)).trans H6.out.2.2.2.1
  have hx0 : w8.cell? ⟨w7.heap.size, 0, none⟩ = some (.string ⟨#[97]⟩) := by rw [hw8]; exact (Blk.new w7 _ _).cell 0
  have CL := Lib.hid (len_any hP8)
  have CT := Lib.hid (text_any pkA nilS (.slice none 0 0) w8 ⟨by decide, by decide, by decide⟩)
  have hnA : pkA.name = nmA := rfl
  have heA : pkA.evr = ⟨#[49, 45, 49]⟩ := rfl
  have haA : pkA.arch = ⟨#[110, 111, 97, 114, 99, 104]⟩ := rfl
  rw [hnA, heA, haA, textA] at CT
  have a0 := KA8.cell 0
  have a1 := KA8.cell 1
  have a2 := KA8.cell 2
  have a3 := KA8.cell 3
  have a4 := KA8.cell 4
  have a5 := KA8.cell 5
  have a6 := KA8.cell 6
  have a7 := KA8.cell 7
  have a8 := KA8.cell 8
  have a9 := KA8.cell 9
  have a10 := KA8.cell 10
  have a11 := KA8.cell 11
  unfold rowA at a0 a1 a2 a3 a4 a5 a6 a7 a8 a9 a10 a11
  simp at a0 a1 a2 a3 a4 a5 a6 a7 a8 a9 a10 a11
  have HB8 := Lib.hid hb08
  have HW8 := Lib.hid hw8
  unfold rowP pkA nmA nilS at CT
  clear s0 s1 s2 s3 s4 s5 s6 s7 hP7 HRw hb7 hb07 hb78 hb68 hb08 KA8 hP8 H6 HCP hw8 hnA heA haA
  go_upto_region 9 with fail
  rw [← HW8.out]
  go_wp2_with fail
  refine CL.out.mono ?_
  rintro e w9 ⟨rfl, rfl⟩
  go_wp2_with fail
  refine CT.out.mono ?_
  rintro e w10 ⟨rfl, hb10⟩
  have HB10 : Hid (Below w.heap.size w w10) := HB8.out.trans (hb10.mono HB8.out.size)
  clear hb10 CT a0 a1 a2 a3 a4 a5 a6 a7 a8 a9 a10 a11 hx0 hcn
  go_wp2_with fail
  go_ret
  exact ⟨rfl, HB10.out⟩
end Go.Proofs.YtinldjjbfhpnkaaDoor
