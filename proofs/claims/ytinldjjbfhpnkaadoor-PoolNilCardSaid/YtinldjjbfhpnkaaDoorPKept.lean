/- A package in memory of its own: kept.apart. -/
import Derived.Test.YtinldjjbfhpnkaaDoorPApart2
namespace Go.Proofs.YtinldjjbfhpnkaaDoor
set_option linter.unusedSimpArgs false
set_option linter.unusedVariables false
open Go.RowKit

/-- What a pool keeps of a package: its cells, the place of its repository. -/
def rowK (p : Pkg) (ss : Nat → Value) (fs : Value) (at_ : Int) : Array Value := #[.string p.name, .string p.evr, .string p.arch, .string p.vendor, ss 0, ss 1, ss 2, ss 3, ss 4, ss 5, ss 6, fs, .int .i64 at_]
def zrK : Array Value := #[.string ⟨#[]⟩, .string ⟨#[]⟩, .string ⟨#[]⟩, .string ⟨#[]⟩, .slice none 0 0, .slice none 0 0, .slice none 0 0, .slice none 0 0, .slice none 0 0, .slice none 0 0, .slice none 0 0, .slice none 0 0, .int .i64 0]
def Pkg.txt (p : Pkg) : Nat → ByteArray
  | 0 => p.name
  | 1 => p.evr
  | 2 => p.arch
  | _ => p.vendor
theorem rowK_txt (p : Pkg) (ss : Nat → Value) (fs : Value) (n : Int) : ∀ k, k < 4 → (rowK p ss fs n)[k]? = some (.string (p.txt k)) ∧ (rowK p ss fs n).setIfInBounds k (.string (p.txt k)) = rowK p ss fs n
  | 0, _ => ⟨rfl, rfl⟩
  | 1, _ => ⟨rfl, rfl⟩
  | 2, _ => ⟨rfl, rfl⟩
  | 3, _ => ⟨rfl, rfl⟩
  | k + 4, h => by omega
def ptr4 (b : Nat) : Array Value := #[.pointer (some ⟨b, 0, none⟩), .pointer (some ⟨b, 1, none⟩), .pointer (some ⟨b, 2, none⟩), .pointer (some ⟨b, 3, none⟩)]
theorem ptr4_at (b : Nat) : ∀ k, k < 4 → (ptr4 b)[k]? = some (.pointer (some ⟨b, k, none⟩))
  | 0, _ => rfl
  | 1, _ => rfl
  | 2, _ => rfl
  | 3, _ => rfl
  | k + 4, h => by omega
def upd (ss : Nat → Value) (k : Nat) (s : Value) : Nat → Value := fun i => if i = k then s else ss i
theorem rowK_ls (p : Pkg) (ss : Nat → Value) (fs : Value) (n : Int) (s : Value) : ∀ k, k < 7 → (rowK p ss fs n)[4 + k]? = some (ss k) ∧ (rowK p ss fs n).setIfInBounds (4 + k) s = rowK p (upd ss k s) fs n
  | 0, _ => ⟨rfl, rfl⟩
  | 1, _ => ⟨rfl, rfl⟩
  | 2, _ => ⟨rfl, rfl⟩
  | 3, _ => ⟨rfl, rfl⟩
  | 4, _ => ⟨rfl, rfl⟩
  | 5, _ => ⟨rfl, rfl⟩
  | 6, _ => ⟨rfl, rfl⟩
  | k + 7, h => by omega
/-- No text is too long, no list either. -/
structure PkgSmall (p : Pkg) : Prop where
  txt : ∀ k, (p.txt k).size ≤ 281474976710656
  dep : ∀ i, i < 7 → (p.ls i).length ≤ 4194304 ∧ ∀ d ∈ p.ls i, small d ∧ nodes d ≤ 4194304
  files : AllStr p.files ∧ p.files.length ≤ 1073741824
/-- While a package is copied: its box b, the room behind it, and the addresses of its texts. -/
structure KSt (w0 wx : World) (p : Pkg) (ss : Nat → Value) (fs : Value) (n : Int) : Prop where
  below : Below w0.heap.size w0 wx
  box : Blk wx w0.heap.size 62 (rowK p ss fs n)
  room : Blk wx (w0.heap.size + 1) 62 zrK
section
variable {w0 wx w' : World} {p : Pkg} {ss : Nat → Value} {fs : Value} {n : Int}
theorem KSt.below_ (h : KSt w0 wx p ss fs n) (hb : Below wx.heap.size wx w') : KSt w0 w' p ss fs n := ⟨h.below.trans (hb.mono h.below.size), h.box.below hb h.box.lt, h.room.below hb h.room.lt⟩
theorem KSt.set_ (h : KSt w0 wx p ss fs n) {i : Nat} {u : Value} {ss' : Nat → Value} {fs' : Value} (hu : (rowK p ss fs n).setIfInBounds i u = rowK p ss' fs' n) : KSt w0 (wx.setCell ⟨w0.heap.size, i, none⟩ u) p ss' fs' n :=
  ⟨h.below.setCell (Nat.le_refl _) _, by have := h.box.set_ i u; rwa [hu] at this, h.room.far (by simp) _⟩
end
/-- The lists that are copied so far. -/
structure LsSt (w0 wx : World) (p : Pkg) (ss0 ss : Nat → Value) (S0 S : Nat → Prop) (k : Nat) : Prop where
  new : ∀ i, i < k → ListAt wx S (p.ls i) (ss i)
  old : ∀ i, k ≤ i → ss i = ss0 i
  clean : CleanS wx S
  far : ∀ b, S b → w0.heap.size + 1 < b
theorem LsSt.stay {w0 wx w' : World} {p : Pkg} {ss0 ss : Nat → Value} {S0 S : Nat → Prop} {k : Nat} (h : LsSt w0 wx p ss0 ss S0 S k) (hw : StayS S wx w') : LsSt w0 w' p ss0 ss S0 S k :=
  ⟨fun i hi => (h.new i hi).stay (fun _ h => h) hw, h.old, h.clean.stay hw, h.far⟩
/-- What a copied package is. -/
def PkgNew (w0 : World) (p : Pkg) (n : Int) (e : Ending) (w' : World) : Prop :=
  Below w0.heap.size w0 w' ∧ ∃ ss fs S T, e = .returned (.agg (rowK p ss fs n)) ∧ PkgAt w' S T p ss fs ∧ CleanS w' S ∧ CleanT w' T ∧ (∀ b, S b → w0.heap.size ≤ b) ∧ ∀ b, T b → w0.heap.size ≤ b
set_option maxRecDepth 100000 in
theorem load13 {w : World} {g : Nat} {x0 x1 x2 x3 x4 x5 x6 x7 x8 x9 x10 x11 x12 : Value} (h : Blk w g 62 #[x0, x1, x2, x3, x4, x5, x6, x7, x8, x9, x10, x11, x12]) : (loadVar 62 ⟨g, 0, none⟩).run Tryd.prog w = .ok (.agg #[x0, x1, x2, x3, x4, x5, x6, x7, x8, x9, x10, x11, x12]) w := by
  have b0 := h.cell 0
  have b1 := h.cell 1
  have b2 := h.cell 2
  have b3 := h.cell 3
  have b4 := h.cell 4
  have b5 := h.cell 5
  have b6 := h.cell 6
  have b7 := h.cell 7
  have b8 := h.cell 8
  have b9 := h.cell 9
  have b10 := h.cell 10
  have b11 := h.cell 11
  have b12 := h.cell 12
  simp at b0 b1 b2 b3 b4 b5 b6 b7 b8 b9 b10 b11 b12
  clear h
  go_simp
/-- The thirteen stores of a whole one. -/
def put13 (w : World) (g : Nat) (x0 x1 x2 x3 x4 x5 x6 x7 x8 x9 x10 x11 x12 : Value) : World := (((((((((((((w.setCell ⟨g, 0, none⟩ x0).setCell ⟨g, 1, none⟩ x1).setCell ⟨g, 2, none⟩ x2).setCell ⟨g, 3, none⟩ x3).setCell ⟨g, 4, none⟩ x4).setCell ⟨g, 5, none⟩ x5).setCell ⟨g, 6, none⟩ x6).setCell ⟨g, 7, none⟩ x7).setCell ⟨g, 8, none⟩ x8).setCell ⟨g, 9, none⟩ x9).setCell ⟨g, 10, none⟩ x10).setCell ⟨g, 11, none⟩ x11).setCell ⟨g, 12, none⟩ x12)
theorem put13_turned (w : World) (g : Nat) (x0 x1 x2 x3 x4 x5 x6 x7 x8 x9 x10 x11 x12 : Value) : Turned [g] w (put13 w g x0 x1 x2 x3 x4 x5 x6 x7 x8 x9 x10 x11 x12) := ((((((((((((((Turned.refl _ _).setCell (.inl (by simp)) _).setCell (.inl (by simp)) _).setCell (.inl (by simp)) _).setCell (.inl (by simp)) _).setCell (.inl (by simp)) _).setCell (.inl (by simp)) _).setCell (.inl (by simp)) _).setCell (.inl (by simp)) _).setCell (.inl (by simp)) _).setCell (.inl (by simp)) _).setCell (.inl (by simp)) _).setCell (.inl (by simp)) _).setCell (.inl (by simp)) _)
set_option maxRecDepth 100000 in
theorem put13_blk {w : World} {g : Nat} {t : TypeId} {y0 y1 y2 y3 y4 y5 y6 y7 y8 y9 y10 y11 y12 : Value} (h : Blk w g t #[y0, y1, y2, y3, y4, y5, y6, y7, y8, y9, y10, y11, y12]) (x0 x1 x2 x3 x4 x5 x6 x7 x8 x9 x10 x11 x12 : Value) : Blk (put13 w g x0 x1 x2 x3 x4 x5 x6 x7 x8 x9 x10 x11 x12) g t #[x0, x1, x2, x3, x4, x5, x6, x7, x8, x9, x10, x11, x12] := by
  have h' := (((((((((((((h.set_ 0 x0).set_ 1 x1).set_ 2 x2).set_ 3 x3).set_ 4 x4).set_ 5 x5).set_ 6 x6).set_ 7 x7).set_ 8 x8).set_ 9 x9).set_ 10 x10).set_ 11 x11).set_ 12 x12)
  simp only [List.setIfInBounds_toArray, List.set_cons_zero, List.set_cons_succ] at h'
  exact h'
set_option maxHeartbeats 4000000 in
set_option maxRecDepth 100000 in
theorem kept_any (p : Pkg) (ss : Nat → Value) (fs : Value) (n : Int) (S T : Nat → Prop) (w : World) (hP : PkgAt w S T p ss fs) (hsm : PkgSmall p) :
    Calls Tryd.prog 36 #[.agg (rowK p ss fs n)] w (PkgNew w p n) := by
  obtain ⟨w1, hw1⟩ : ∃ w1, w1 = ((w.alloc (.cells (rowK p ss fs n) 62)).alloc (.cells zrK 62)).alloc (.cells (ptr4 w.heap.size) 90) := ⟨_, rfl⟩
  have H0 : Hid (KSt w w1 p ss fs n ∧ Blk w1 (w.heap.size + 2) 90 (ptr4 w.heap.size)) := by
    rw [hw1]
    exact ⟨⟨(((Below.refl _ _).alloc (Nat.le_refl _) _).alloc (by simp) _).alloc (by simp; omega) _, ((Blk.new _ _ _).alloc _).alloc _, (Blk.new' (by simp)).alloc _⟩, Blk.new' (by simp)⟩
  have HW := Lib.hid hw1
  have HC := Lib.hid (fun k => cloneL_any (p.txt k) (hsm.txt k))
  have HPb : Hid (∀ wx, Below w.heap.size w wx → PkgAt wx S T p ss fs) := fun wx hb => hP.below hb
  have HI := Lib.hid (ptr_at w.heap.size)
  have HSM := Lib.hid hsm
  have HLs : Hid (∀ wx, ∀ k, k < 7 → Below w.heap.size w wx → Calls Tryd.prog 62 #[ss k, .func (.func 63) #[] #[]] wx (ListNew wx (p.ls k))) := fun wx k hk hb =>
    listApart_any (p.ls k) (ss k) S wx ((hP.below hb).lists k hk) (hsm.dep k hk).2 (hsm.dep k hk).1
  have CL := Lib.hid (fun wx => lists_any w.heap.size wx)
  clear hw1 hP hsm
  unfold ptrs at CL HI
  unfold rowK
  go_enter Tryd.func36, Tryd.ntmps36
  go_wp2_with fail
  go_loopw [17] (fun v wx => ∃ k : Nat, k ≤ 4 ∧ v = .int .i64 (k : Int) ∧ Hid (KSt w wx p ss fs n ∧ Blk wx (w.heap.size + 2) 90 (ptr4 w.heap.size))) (fun v _ => 4 - (intOf v).toNat)
  case atStart =>
    have h := H0.out
    rw [HW.out] at h
    exact ⟨0, by omega, rfl, h⟩
  case round =>
    clear H0 HW
    obtain ⟨k, hk, rfl, HK⟩ := hrel
    by_cases hlt : k < 4
    · obtain ⟨r1, r2⟩ := rowK_txt p ss fs n k hlt
      have hp := (HK.out.2.cell k).trans (ptr4_at w.heap.size k hlt)
      have hc := (HK.out.1.box.cell k).trans r1
      have C := Lib.hid (HC.out k wr)
      have R2 := Lib.hid r2
      have HKK := Lib.hid HK.out
      clear r1 r2 HK
      go_wp2_with fail
      refine C.out.mono ?_
      rintro e w2 ⟨rfl, hb2⟩
      have h2 := HKK.out.1.below_ hb2
      have hp2 := HKK.out.2.below hb2 HKK.out.2.lt
      have hc2 := (h2.box.cell k).trans (rowK_txt p ss fs n k hlt).1
      have hf2 := h2.box.free k
      have HN : Hid (KSt w (w2.setCell ⟨w.heap.size, k, none⟩ (.string (p.txt k))) p ss fs n ∧ Blk (w2.setCell ⟨w.heap.size, k, none⟩ (.string (p.txt k))) (w.heap.size + 2) 90 (ptr4 w.heap.size)) := ⟨h2.set_ R2.out, hp2.far (by simp) _⟩
      clear hb2 h2 hp2 C HKK R2 hp hc
      go_wp2_with fail
      go_roundw
      case rel => exact ⟨k + 1, by omega, by go_num, HN⟩
      case measure => simp [intOf]; omega
    · obtain rfl : k = 4 := by omega
      have HK1 := Lib.hid HK.out.1
      have C := Lib.hid (CL.out wr)
      clear hlt HK HC hk
      go_wp2_with fail
      refine C.out.mono ?_
      rintro e w2 ⟨rfl, hb2⟩
      have HK2 := Lib.hid (HK1.out.below_ hb2)
      clear hb2 C HK1 CL
      have HI0 : Hid (KSt w w2 p ss fs n ∧ LsSt w w2 p ss ss S (fun _ => False) 0) := ⟨HK2.out, ⟨fun i hi => by omega, fun i _ => rfl, fun b hb => hb.elim, fun b hb => hb.elim⟩⟩
      clear HK2
      go_wp2_with fail
      go_loopw [30] (fun v wx => ∃ (k : Nat) (sx : Nat → Value) (Sx : Nat → Prop), k ≤ 7 ∧ v = .int .i64 (k : Int) ∧ Hid (KSt w wx p sx fs n ∧ LsSt w wx p ss sx S Sx k)) (fun v _ => 7 - (intOf v).toNat)
      case atStart => exact ⟨0, ss, _, by omega, rfl, HI0⟩
      case round =>
        clear HI0
        obtain ⟨k, sx, Sx, hk, rfl, HK⟩ := hrel
        by_cases hlt : k < 7
        · have hix := HI.out k hlt
          have hc := (HK.out.1.box.cell (4 + k)).trans (rowK_ls p sx fs n (.slice none 0 0) k hlt).1
          rw [HK.out.2.old k (Nat.le_refl _)] at hc
          have C := Lib.hid (HLs.out wr k hlt HK.out.1.below)
          obtain ⟨A, c, hsk, hl1, hl2, hl3, hA⟩ := (HPb.out wr HK.out.1.below).lists k hlt
          rw [hsk] at hc C
          have HKK := Lib.hid HK.out
          clear HK hsk hl1 hl2 hl3 hA
          go_wp2_with fail
          refine C.out.mono ?_
          rintro e w3 ⟨hb3, A3, c3, S3, rfl, hL3, hC3, hF3⟩
          have h2 := HKK.out.1.below_ hb3
          have hc3 := (h2.box.cell (4 + k)).trans (rowK_ls p sx fs n (.slice none 0 0) k hlt).1
          have hf3 := h2.box.free (4 + k)
          have hz1 := HKK.out.1.room.lt
          have HN : Hid (KSt w (w3.setCell ⟨w.heap.size, 4 + k, none⟩ (.slice A3 (p.ls k).length c3)) p (upd sx k (.slice A3 (p.ls k).length c3)) fs n ∧ LsSt w (w3.setCell ⟨w.heap.size, 4 + k, none⟩ (.slice A3 (p.ls k).length c3)) p ss (upd sx k (.slice A3 (p.ls k).length c3)) S (fun b => Sx b ∨ S3 b) (k + 1)) := by
            have hst : ∀ (U : Nat → Prop), (∀ b, U b → w.heap.size + 1 < b) → StayS U w3 (w3.setCell ⟨w.heap.size, 4 + k, none⟩ (.slice A3 (p.ls k).length c3)) := fun U hU => StayS.turned (F := [w.heap.size]) ((Turned.refl _ _).setCell (.inl (by simp)) _) fun b hb hm => by have := hU b hb; simp at hm; omega
            have hS3 : ∀ b, S3 b → w.heap.size + 1 < b := fun b hb => by have := hF3 b hb; omega
            have hb3' := StayS.below' (S := Sx) hb3
            refine ⟨h2.set_ (rowK_ls p sx fs n _ k hlt).2, ⟨fun i hi => ?_, fun i hi => ?_, fun b hb => ?_, fun b hb => ?_⟩⟩
            · unfold upd
              by_cases hik : i = k
              · subst hik
                rw [if_pos rfl]
                exact hL3.stay (fun _ h => .inr h) (hst S3 hS3)
              · rw [if_neg hik]
                exact ((HKK.out.2.new i (by omega)).stay (fun _ h => h) hb3').stay (fun _ h => .inl h) (hst Sx HKK.out.2.far)
            · unfold upd
              rw [if_neg (by omega)]
              exact HKK.out.2.old i (by omega)
            · rcases hb with hb | hb
              · exact (HKK.out.2.clean.stay hb3').stay (hst Sx HKK.out.2.far) b hb
              · exact hC3.stay (hst S3 hS3) b hb
            · rcases hb with hb | hb
              · exact HKK.out.2.far b hb
              · exact hS3 b hb
          clear hb3 hL3 hC3 hF3 h2 hz1 C HKK hc hix
          go_wp2_with fail
          go_roundw
          case rel => exact ⟨k + 1, _, _, by omega, by go_num, HN⟩
          case measure => simp [intOf]; omega
        · obtain rfl : k = 7 := by omega
          clear hlt hk
          obtain ⟨A, c, hfe, hl1, hl2, hl3, hA⟩ := (HPb.out wr HK.out.1.below).files
          have C := Lib.hid (strApart_any p.files fs T wr (HPb.out wr HK.out.1.below).files HSM.out.files.1 HSM.out.files.2)
          have c11 := HK.out.1.box.cell 11
          unfold rowK at c11
          simp at c11
          rw [hfe] at c11 C
          have HKK := Lib.hid HK.out
          clear HK hfe hl1 hl2 hl3 hA
          go_wp2_with fail
          refine C.out.mono ?_
          rintro e w4 ⟨hb4, A4, n4, T4, rfl, hF4, hT4, hfr4⟩
          have h4 := HKK.out.1.below_ hb4
          have hl4 := HKK.out.2.stay (StayS.below' hb4)
          have hz1 := HKK.out.1.room.lt
          have hT4' : ∀ b, T4 b → w.heap.size + 1 < b := fun b hb => by have := hfr4 b hb; omega
          have KB := h4.box
          have KR := h4.room
          obtain ⟨B0, m0, s0, _⟩ := hl4.new 0 (by omega)
          obtain ⟨B1, m1, s1, _⟩ := hl4.new 1 (by omega)
          obtain ⟨B2, m2, s2, _⟩ := hl4.new 2 (by omega)
          obtain ⟨B3, m3, s3, _⟩ := hl4.new 3 (by omega)
          obtain ⟨B4, m4, s4, _⟩ := hl4.new 4 (by omega)
          obtain ⟨B5, m5, s5, _⟩ := hl4.new 5 (by omega)
          obtain ⟨B6, m6, s6, _⟩ := hl4.new 6 (by omega)
          have HX := Lib.hid (And.intro h4 (And.intro hl4 (And.intro hF4 (And.intro hT4 hT4'))))
          unfold rowK at KB
          unfold zrK at KR
          have q0 := KB.cell 0
          have q1 := KB.cell 1
          have q2 := KB.cell 2
          have q3 := KB.cell 3
          have q4 := KB.cell 4
          have q5 := KB.cell 5
          have q6 := KB.cell 6
          have q7 := KB.cell 7
          have q8 := KB.cell 8
          have q9 := KB.cell 9
          have q10 := KB.cell 10
          have q11 := KB.cell 11
          have q12 := KB.cell 12
          have g11 := KB.free 11
          have z0 := KR.cell 0
          have z1 := KR.cell 1
          have z2 := KR.cell 2
          have z3 := KR.cell 3
          have z4 := KR.cell 4
          have z5 := KR.cell 5
          have z6 := KR.cell 6
          have z7 := KR.cell 7
          have z8 := KR.cell 8
          have z9 := KR.cell 9
          have z10 := KR.cell 10
          have z11 := KR.cell 11
          have z12 := KR.cell 12
          have f0 := KR.free 0
          have f1 := KR.free 1
          have f2 := KR.free 2
          have f3 := KR.free 3
          have f4 := KR.free 4
          have f5 := KR.free 5
          have f6 := KR.free 6
          have f7 := KR.free 7
          have f8 := KR.free 8
          have f9 := KR.free 9
          have f10 := KR.free 10
          have f11 := KR.free 11
          have f12 := KR.free 12
          simp at q0 q1 q2 q3 q4 q5 q6 q7 q8 q9 q10 q11 q12 z0 z1 z2 z3 z4 z5 z6 z7 z8 z9 z10 z11 z12
          rw [s0] at q4
          rw [s1] at q5
          rw [s2] at q6
          rw [s3] at q7
          rw [s4] at q8
          rw [s5] at q9
          rw [s6] at q10
          have HSS := Lib.hid (And.intro s0 (And.intro s1 (And.intro s2 (And.intro s3 (And.intro s4 (And.intro s5 s6))))))
          clear s0 s1 s2 s3 s4 s5 s6 KB KR h4 hl4 hF4 hT4 hT4' hz1 hb4 C c11 HKK HPb HLs HI HSM hfr4
          obtain ⟨h4, hl4, hF4, hT4, hT4'⟩ := HX.out
          have hzr := h4.room.lt
          have ht : Turned [w.heap.size, w.heap.size + 1] w4 (put13 (w4.setCell ⟨w.heap.size, 11, none⟩ (.slice A4 p.files.length n4)) (w.heap.size + 1) (.string p.name) (.string p.evr) (.string p.arch) (.string p.vendor) (.slice B0 (p.ls 0).length m0) (.slice B1 (p.ls 1).length m1) (.slice B2 (p.ls 2).length m2) (.slice B3 (p.ls 3).length m3) (.slice B4 (p.ls 4).length m4) (.slice B5 (p.ls 5).length m5) (.slice B6 (p.ls 6).length m6) (.slice A4 p.files.length n4) (.int .i64 n)) :=
            (((Turned.refl _ _).setCell (p := ⟨w.heap.size, 11, none⟩) (.inl (by simp)) _).trans ((put13_turned _ _ _ _ _ _ _ _ _ _ _ _ _ _ _).more (F' := [w.heap.size, w.heap.size + 1]) (fun k hk => by simp at hk; simp [hk])) (Fresh.refl _ _))
          have hst : ∀ (U : Nat → Prop), (∀ b, U b → w.heap.size + 1 < b) → StayS U w4 (put13 (w4.setCell ⟨w.heap.size, 11, none⟩ (.slice A4 p.files.length n4)) (w.heap.size + 1) (.string p.name) (.string p.evr) (.string p.arch) (.string p.vendor) (.slice B0 (p.ls 0).length m0) (.slice B1 (p.ls 1).length m1) (.slice B2 (p.ls 2).length m2) (.slice B3 (p.ls 3).length m3) (.slice B4 (p.ls 4).length m4) (.slice B5 (p.ls 5).length m5) (.slice B6 (p.ls 6).length m6) (.slice A4 p.files.length n4) (.int .i64 n)) := fun U hU => StayS.turned ht fun b hb hm => by have := hU b hb; simp at hm; omega
          have HL : Hid _ := load13 (put13_blk (h4.room.far (p := ⟨w.heap.size, 11, none⟩) (by simp) (.slice A4 p.files.length n4)) (.string p.name) (.string p.evr) (.string p.arch) (.string p.vendor) (.slice B0 (p.ls 0).length m0) (.slice B1 (p.ls 1).length m1) (.slice B2 (p.ls 2).length m2) (.slice B3 (p.ls 3).length m3) (.slice B4 (p.ls 4).length m4) (.slice B5 (p.ls 5).length m5) (.slice B6 (p.ls 6).length m6) (.slice A4 p.files.length n4) (.int .i64 n))
          have HP : Hid (PkgNew w p n (.returned (.agg (rowK p sx (.slice A4 p.files.length n4) n))) (put13 (w4.setCell ⟨w.heap.size, 11, none⟩ (.slice A4 p.files.length n4)) (w.heap.size + 1) (.string p.name) (.string p.evr) (.string p.arch) (.string p.vendor) (.slice B0 (p.ls 0).length m0) (.slice B1 (p.ls 1).length m1) (.slice B2 (p.ls 2).length m2) (.slice B3 (p.ls 3).length m3) (.slice B4 (p.ls 4).length m4) (.slice B5 (p.ls 5).length m5) (.slice B6 (p.ls 6).length m6) (.slice A4 p.files.length n4) (.int .i64 n))) :=
            ⟨h4.below.trans (ht.below (fun k hk => by simp at hk; omega) h4.below.size), sx, _, Sx, T4, rfl, ⟨fun i hi => (hl4.new i hi).stay (fun _ h => h) (hst Sx hl4.far), hF4.stay (fun _ h => h) (hst T4 hT4')⟩, hl4.clean.stay (hst Sx hl4.far), hT4.stay (hst T4 hT4'), fun b hb => by have := hl4.far b hb; omega, fun b hb => by have := hT4' b hb; omega⟩
          obtain ⟨s0, s1, s2, s3, s4, s5, s6⟩ := HSS.out
          unfold rowK at HP
          rw [s0, s1, s2, s3, s4, s5, s6] at HP
          unfold put13 at HP HL
          clear h4 hl4 hF4 hT4 hT4' hzr ht hst s0 s1 s2 s3 s4 s5 s6 HX HSS
          go_wp2_with fail
          refine bodyPost_ret (v := .agg #[.string p.name, .string p.evr, .string p.arch, .string p.vendor, .slice B0 (p.ls 0).length m0, .slice B1 (p.ls 1).length m1, .slice B2 (p.ls 2).length m2, .slice B3 (p.ls 3).length m3, .slice B4 (p.ls 4).length m4, .slice B5 (p.ls 5).length m5, .slice B6 (p.ls 6).length m6, .slice A4 p.files.length n4, .int .i64 n]) ?_ rfl HP.out
          refine (results_cell rfl _ (ad := ⟨w.heap.size + 1, 0, none⟩) rfl).trans ?_
          exact HL.out
end Go.Proofs.YtinldjjbfhpnkaaDoor
