/- A package in memory of its own: kept.apart. A map from texts to slices that all are an object's own: what it holds as a function; which blocks may turn, as a predicate. A pool's repositories: whether one of them is so. A pool in memory; whether a repository may be added. -/
import Derived.Test.YtpmfmkpfjomgnaaGreatDoorZak
import Derived.Test.YtpmfmkpfjomgnaaGreatDoorZac
import Derived.DeepKeys4
import Derived.WideKeyArgs2
import Derived.Test.YtpmfmkpfjomgnaaGreatDoorZag
/- A package in memory of its own: kept.apart. -/
namespace Go.Proofs.YtpmfmkpfjomgnaaGreatDoor
set_option linter.unusedSimpArgs false
set_option linter.unusedVariables false
open Go.RowKit

/-- What a pool keeps of a package: its cells, the place of its repository. -/
def rowK (p : Pkg) (ss : Nat → Value) (fs : Value) (at_ : Int) : Array Value := #[.string p.name, .string p.evr, .string p.arch, .string p.vendor, ss 0, ss 1, ss 2, ss 3, ss 4, ss 5, ss 6, fs, .int .i64 at_]
def zrK : Array Value := #[.string ⟨#[]⟩, .string ⟨#[]⟩, .string ⟨#[]⟩, .string ⟨#[]⟩, .slice none 0 0, .slice none 0 0, .slice none 0 0, .slice none 0 0, .slice none 0 0, .slice none 0 0, .slice none 0 0, .slice none 0 0, .int .i64 0]
def Pkg.txt (p : Pkg) : Nat → ByteArray
  | 0 => p.name
  | 1 => p.evr
  | 2 => p.arch
  | _ => p.vendor
theorem rowK_txt (p : Pkg) (ss : Nat → Value) (fs : Value) (n : Int) : ∀ k, k < 4 → (rowK p ss fs n)[k]? = some (.string (p.txt k)) ∧ (rowK p ss fs n).setIfInBounds k (.string (p.txt k)) = rowK p ss fs n
  | 0, _ => ⟨rfl, rfl⟩
  | 1, _ => ⟨rfl, rfl⟩
  | 2, _ => ⟨rfl, rfl⟩
  | 3, _ => ⟨rfl, rfl⟩
  | k + 4, h => by omega
def ptr4 (b : Nat) : Array Value := #[.pointer (some ⟨b, 0, none⟩), .pointer (some ⟨b, 1, none⟩), .pointer (some ⟨b, 2, none⟩), .pointer (some ⟨b, 3, none⟩)]
theorem ptr4_at (b : Nat) : ∀ k, k < 4 → (ptr4 b)[k]? = some (.pointer (some ⟨b, k, none⟩))
  | 0, _ => rfl
  | 1, _ => rfl
  | 2, _ => rfl
  | 3, _ => rfl
  | k + 4, h => by omega
def upd (ss : Nat → Value) (k : Nat) (s : Value) : Nat → Value := fun i => if i = k then s else ss i
theorem rowK_ls (p : Pkg) (ss : Nat → Value) (fs : Value) (n : Int) (s : Value) : ∀ k, k < 7 → (rowK p ss fs n)[4 + k]? = some (ss k) ∧ (rowK p ss fs n).setIfInBounds (4 + k) s = rowK p (upd ss k s) fs n
  | 0, _ => ⟨rfl, rfl⟩
  | 1, _ => ⟨rfl, rfl⟩
  | 2, _ => ⟨rfl, rfl⟩
  | 3, _ => ⟨rfl, rfl⟩
  | 4, _ => ⟨rfl, rfl⟩
  | 5, _ => ⟨rfl, rfl⟩
  | 6, _ => ⟨rfl, rfl⟩
  | k + 7, h => by omega
/-- No text is too long, no list either. -/
structure PkgSmall (p : Pkg) : Prop where
  txt : ∀ k, (p.txt k).size ≤ 281474976710656
  dep : ∀ i, i < 7 → (p.ls i).length ≤ 4194304 ∧ ∀ d ∈ p.ls i, small d ∧ nodes d ≤ 4194304
  files : AllStr p.files ∧ p.files.length ≤ 1073741824
/-- While a package is copied: its box b, the room behind it, and the addresses of its texts. -/
structure KSt (w0 wx : World) (p : Pkg) (ss : Nat → Value) (fs : Value) (n : Int) : Prop where
  below : Below w0.heap.size w0 wx
  box : Blk wx w0.heap.size 86 (rowK p ss fs n)
  room : Blk wx (w0.heap.size + 1) 86 zrK
section
variable {w0 wx w' : World} {p : Pkg} {ss : Nat → Value} {fs : Value} {n : Int}
theorem KSt.below_ (h : KSt w0 wx p ss fs n) (hb : Below wx.heap.size wx w') : KSt w0 w' p ss fs n := ⟨h.below.trans (hb.mono h.below.size), h.box.below hb h.box.lt, h.room.below hb h.room.lt⟩
theorem KSt.set_ (h : KSt w0 wx p ss fs n) {i : Nat} {u : Value} {ss' : Nat → Value} {fs' : Value} (hu : (rowK p ss fs n).setIfInBounds i u = rowK p ss' fs' n) : KSt w0 (wx.setCell ⟨w0.heap.size, i, none⟩ u) p ss' fs' n :=
  ⟨h.below.setCell (Nat.le_refl _) _, by have := h.box.set_ i u; rwa [hu] at this, h.room.far (by simp) _⟩
end
/-- The lists that are copied so far. -/
structure LsSt (w0 wx : World) (p : Pkg) (ss0 ss : Nat → Value) (S0 S : Nat → Prop) (k : Nat) : Prop where
  new : ∀ i, i < k → ListAt wx S (p.ls i) (ss i)
  old : ∀ i, k ≤ i → ss i = ss0 i
  clean : CleanS wx S
  far : ∀ b, S b → w0.heap.size + 1 < b
theorem LsSt.stay {w0 wx w' : World} {p : Pkg} {ss0 ss : Nat → Value} {S0 S : Nat → Prop} {k : Nat} (h : LsSt w0 wx p ss0 ss S0 S k) (hw : StayS S wx w') : LsSt w0 w' p ss0 ss S0 S k :=
  ⟨fun i hi => (h.new i hi).stay (fun _ h => h) hw, h.old, h.clean.stay hw, h.far⟩
/-- What a copied package is. -/
def PkgNew (w0 : World) (p : Pkg) (n : Int) (e : Ending) (w' : World) : Prop :=
  Below w0.heap.size w0 w' ∧ ∃ ss fs S T, e = .returned (.agg (rowK p ss fs n)) ∧ PkgAt w' S T p ss fs ∧ CleanS w' S ∧ CleanT w' T ∧ (∀ b, S b → w0.heap.size ≤ b) ∧ ∀ b, T b → w0.heap.size ≤ b
set_option maxRecDepth 100000 in
theorem load13 {w : World} {g : Nat} {x0 x1 x2 x3 x4 x5 x6 x7 x8 x9 x10 x11 x12 : Value} (h : Blk w g 86 #[x0, x1, x2, x3, x4, x5, x6, x7, x8, x9, x10, x11, x12]) : (loadVar 86 ⟨g, 0, none⟩).run Tryz.prog w = .ok (.agg #[x0, x1, x2, x3, x4, x5, x6, x7, x8, x9, x10, x11, x12]) w := by
  have b0 := h.cell 0
  have b1 := h.cell 1
  have b2 := h.cell 2
  have b3 := h.cell 3
  have b4 := h.cell 4
  have b5 := h.cell 5
  have b6 := h.cell 6
  have b7 := h.cell 7
  have b8 := h.cell 8
  have b9 := h.cell 9
  have b10 := h.cell 10
  have b11 := h.cell 11
  have b12 := h.cell 12
  simp at b0 b1 b2 b3 b4 b5 b6 b7 b8 b9 b10 b11 b12
  clear h
  go_simp
/-- The thirteen stores of a whole one. -/
def put13 (w : World) (g : Nat) (x0 x1 x2 x3 x4 x5 x6 x7 x8 x9 x10 x11 x12 : Value) : World := (((((((((((((w.setCell ⟨g, 0, none⟩ x0).setCell ⟨g, 1, none⟩ x1).setCell ⟨g, 2, none⟩ x2).setCell ⟨g, 3, none⟩ x3).setCell ⟨g, 4, none⟩ x4).setCell ⟨g, 5, none⟩ x5).setCell ⟨g, 6, none⟩ x6).setCell ⟨g, 7, none⟩ x7).setCell ⟨g, 8, none⟩ x8).setCell ⟨g, 9, none⟩ x9).setCell ⟨g, 10, none⟩ x10).setCell ⟨g, 11, none⟩ x11).setCell ⟨g, 12, none⟩ x12)
theorem put13_turned (w : World) (g : Nat) (x0 x1 x2 x3 x4 x5 x6 x7 x8 x9 x10 x11 x12 : Value) : Turned [g] w (put13 w g x0 x1 x2 x3 x4 x5 x6 x7 x8 x9 x10 x11 x12) := ((((((((((((((Turned.refl _ _).setCell (.inl (by simp)) _).setCell (.inl (by simp)) _).setCell (.inl (by simp)) _).setCell (.inl (by simp)) _).setCell (.inl (by simp)) _).setCell (.inl (by simp)) _).setCell (.inl (by simp)) _).setCell (.inl (by simp)) _).setCell (.inl (by simp)) _).setCell (.inl (by simp)) _).setCell (.inl (by simp)) _).setCell (.inl (by simp)) _).setCell (.inl (by simp)) _)
set_option maxRecDepth 100000 in
theorem put13_blk {w : World} {g : Nat} {t : TypeId} {y0 y1 y2 y3 y4 y5 y6 y7 y8 y9 y10 y11 y12 : Value} (h : Blk w g t #[y0, y1, y2, y3, y4, y5, y6, y7, y8, y9, y10, y11, y12]) (x0 x1 x2 x3 x4 x5 x6 x7 x8 x9 x10 x11 x12 : Value) : Blk (put13 w g x0 x1 x2 x3 x4 x5 x6 x7 x8 x9 x10 x11 x12) g t #[x0, x1, x2, x3, x4, x5, x6, x7, x8, x9, x10, x11, x12] := by
  have h' := (((((((((((((h.set_ 0 x0).set_ 1 x1).set_ 2 x2).set_ 3 x3).set_ 4 x4).set_ 5 x5).set_ 6 x6).set_ 7 x7).set_ 8 x8).set_ 9 x9).set_ 10 x10).set_ 11 x11).set_ 12 x12)
  simp only [List.setIfInBounds_toArray, List.set_cons_zero, List.set_cons_succ] at h'
  exact h'
set_option maxHeartbeats 4000000 in
set_option maxRecDepth 100000 in
theorem kept_any (p : Pkg) (ss : Nat → Value) (fs : Value) (n : Int) (S T : Nat → Prop) (w : World) (hP : PkgAt w S T p ss fs) (hsm : PkgSmall p) :
    Calls Tryz.prog 46 #[.agg (rowK p ss fs n)] w (PkgNew w p n) := by
  obtain ⟨w1, hw1⟩ : ∃ w1, w1 = ((w.alloc (.cells (rowK p ss fs n) 86)).alloc (.cells zrK 86)).alloc (.cells (ptr4 w.heap.size) 133) := ⟨_, rfl⟩
  have H0 : Hid (KSt w w1 p ss fs n ∧ Blk w1 (w.heap.size + 2) 133 (ptr4 w.heap.size)) := by
    rw [hw1]
    exact ⟨⟨(((Below.refl _ _).alloc (Nat.le_refl _) _).alloc (by simp) _).alloc (by simp; omega) _, ((Blk.new _ _ _).alloc _).alloc _, (Blk.new' (by simp)).alloc _⟩, Blk.new' (by simp)⟩
  have HW := Lib.hid hw1
  have HC := Lib.hid (fun k => cloneL_any (p.txt k) (hsm.txt k))
  have HPb : Hid (∀ wx, Below w.heap.size w wx → PkgAt wx S T p ss fs) := fun wx hb => hP.below hb
  have HI := Lib.hid (ptr_at w.heap.size)
  have HSM := Lib.hid hsm
  have HLs : Hid (∀ wx, ∀ k, k < 7 → Below w.heap.size w wx → Calls Tryz.prog 85 #[ss k, .func (.func 86) #[] #[]] wx (ListNew wx (p.ls k))) := fun wx k hk hb =>
    listApart_any (p.ls k) (ss k) S wx ((hP.below hb).lists k hk) (hsm.dep k hk).2 (hsm.dep k hk).1
  have CL := Lib.hid (fun wx => lists_any w.heap.size wx)
  clear hw1 hP hsm
  unfold ptrs at CL HI
  unfold rowK
  go_enter Tryz.func46, Tryz.ntmps46
  go_wp2_with fail
  go_loopw [17] (fun v wx => ∃ k : Nat, k ≤ 4 ∧ v = .int .i64 (k : Int) ∧ Hid (KSt w wx p ss fs n ∧ Blk wx (w.heap.size + 2) 133 (ptr4 w.heap.size))) (fun v _ => 4 - (intOf v).toNat)
  case atStart =>
    have h := H0.out
    rw [HW.out] at h
    exact ⟨0, by omega, rfl, h⟩
  case round =>
    clear H0 HW
    obtain ⟨k, hk, rfl, HK⟩ := hrel
    by_cases hlt : k < 4
    · obtain ⟨r1, r2⟩ := rowK_txt p ss fs n k hlt
      have hp := (HK.out.2.cell k).trans (ptr4_at w.heap.size k hlt)
      have hc := (HK.out.1.box.cell k).trans r1
      have C := Lib.hid (HC.out k wr)
      have R2 := Lib.hid r2
      have HKK := Lib.hid HK.out
      clear r1 r2 HK
      go_wp2_with fail
      refine C.out.mono ?_
      rintro e w2 ⟨rfl, hb2⟩
      have h2 := HKK.out.1.below_ hb2
      have hp2 := HKK.out.2.below hb2 HKK.out.2.lt
      have hc2 := (h2.box.cell k).trans (rowK_txt p ss fs n k hlt).1
      have hf2 := h2.box.free k
      have HN : Hid (KSt w (w2.setCell ⟨w.heap.size, k, none⟩ (.string (p.txt k))) p ss fs n ∧ Blk (w2.setCell ⟨w.heap.size, k, none⟩ (.string (p.txt k))) (w.heap.size + 2) 133 (ptr4 w.heap.size)) := ⟨h2.set_ R2.out, hp2.far (by simp) _⟩
      clear hb2 h2 hp2 C HKK R2 hp hc
      go_wp2_with fail
      go_roundw
      case rel => exact ⟨k + 1, by omega, by go_num, HN⟩
      case measure => simp [intOf]; omega
    · obtain rfl : k = 4 := by omega
      have HK1 := Lib.hid HK.out.1
      have C := Lib.hid (CL.out wr)
      clear hlt HK HC hk
      go_wp2_with fail
      refine C.out.mono ?_
      rintro e w2 ⟨rfl, hb2⟩
      have HK2 := Lib.hid (HK1.out.below_ hb2)
      clear hb2 C HK1 CL
      have HI0 : Hid (KSt w w2 p ss fs n ∧ LsSt w w2 p ss ss S (fun _ => False) 0) := ⟨HK2.out, ⟨fun i hi => by omega, fun i _ => rfl, fun b hb => hb.elim, fun b hb => hb.elim⟩⟩
      clear HK2
      go_wp2_with fail
      go_loopw [30] (fun v wx => ∃ (k : Nat) (sx : Nat → Value) (Sx : Nat → Prop), k ≤ 7 ∧ v = .int .i64 (k : Int) ∧ Hid (KSt w wx p sx fs n ∧ LsSt w wx p ss sx S Sx k)) (fun v _ => 7 - (intOf v).toNat)
      case atStart => exact ⟨0, ss, _, by omega, rfl, HI0⟩
      case round =>
        clear HI0
        obtain ⟨k, sx, Sx, hk, rfl, HK⟩ := hrel
        by_cases hlt : k < 7
        · have hix := HI.out k hlt
          have hc := (HK.out.1.box.cell (4 + k)).trans (rowK_ls p sx fs n (.slice none 0 0) k hlt).1
          rw [HK.out.2.old k (Nat.le_refl _)] at hc
          have C := Lib.hid (HLs.out wr k hlt HK.out.1.below)
          obtain ⟨A, c, hsk, hl1, hl2, hl3, hA⟩ := (HPb.out wr HK.out.1.below).lists k hlt
          rw [hsk] at hc C
          have HKK := Lib.hid HK.out
          clear HK hsk hl1 hl2 hl3 hA
          go_wp2_with fail
          refine C.out.mono ?_
          rintro e w3 ⟨hb3, A3, c3, S3, rfl, hL3, hC3, hF3⟩
          have h2 := HKK.out.1.below_ hb3
          have hc3 := (h2.box.cell (4 + k)).trans (rowK_ls p sx fs n (.slice none 0 0) k hlt).1
          have hf3 := h2.box.free (4 + k)
          have hz1 := HKK.out.1.room.lt
          have HN : Hid (KSt w (w3.setCell ⟨w.heap.size, 4 + k, none⟩ (.slice A3 (p.ls k).length c3)) p (upd sx k (.slice A3 (p.ls k).length c3)) fs n ∧ LsSt w (w3.setCell ⟨w.heap.size, 4 + k, none⟩ (.slice A3 (p.ls k).length c3)) p ss (upd sx k (.slice A3 (p.ls k).length c3)) S (fun b => Sx b ∨ S3 b) (k + 1)) := by
            have hst : ∀ (U : Nat → Prop), (∀ b, U b → w.heap.size + 1 < b) → StayS U w3 (w3.setCell ⟨w.heap.size, 4 + k, none⟩ (.slice A3 (p.ls k).length c3)) := fun U hU => StayS.turned (F := [w.heap.size]) ((Turned.refl _ _).setCell (.inl (by simp)) _) fun b hb hm => by have := hU b hb; simp at hm; omega
            have hS3 : ∀ b, S3 b → w.heap.size + 1 < b := fun b hb => by have := hF3 b hb; omega
            have hb3' := StayS.below' (S := Sx) hb3
            refine ⟨h2.set_ (rowK_ls p sx fs n _ k hlt).2, ⟨fun i hi => ?_, fun i hi => ?_, fun b hb => ?_, fun b hb => ?_⟩⟩
            · unfold upd
              by_cases hik : i = k
              · subst hik
                rw [if_pos rfl]
                exact hL3.stay (fun _ h => .inr h) (hst S3 hS3)
              · rw [if_neg hik]
                exact ((HKK.out.2.new i (by omega)).stay (fun _ h => h) hb3').stay (fun _ h => .inl h) (hst Sx HKK.out.2.far)
            · unfold upd
              rw [if_neg (by omega)]
              exact HKK.out.2.old i (by omega)
            · rcases hb with hb | hb
              · exact (HKK.out.2.clean.stay hb3').stay (hst Sx HKK.out.2.far) b hb
              · exact hC3.stay (hst S3 hS3) b hb
            · rcases hb with hb | hb
              · exact HKK.out.2.far b hb
              · exact hS3 b hb
          clear hb3 hL3 hC3 hF3 h2 hz1 C HKK hc hix
          go_wp2_with fail
          go_roundw
          case rel => exact ⟨k + 1, _, _, by omega, by go_num, HN⟩
          case measure => simp [intOf]; omega
        · obtain rfl : k = 7 := by omega
          clear hlt hk
          obtain ⟨A, c, hfe, hl1, hl2, hl3, hA⟩ := (HPb.out wr HK.out.1.below).files
          have C := Lib.hid (strApart_any p.files fs T wr (HPb.out wr HK.out.1.below).files HSM.out.files.1 HSM.out.files.2)
          have c11 := HK.out.1.box.cell 11
          unfold rowK at c11
          simp at c11
          rw [hfe] at c11 C
          have HKK := Lib.hid HK.out
          clear HK hfe hl1 hl2 hl3 hA
          go_wp2_with fail
          refine C.out.mono ?_
          rintro e w4 ⟨hb4, A4, n4, T4, rfl, hF4, hT4, hfr4⟩
          have h4 := HKK.out.1.below_ hb4
          have hl4 := HKK.out.2.stay (StayS.below' hb4)
          have hz1 := HKK.out.1.room.lt
          have hT4' : ∀ b, T4 b → w.heap.size + 1 < b := fun b hb => by have := hfr4 b hb; omega
          have KB := h4.box
          have KR := h4.room
          obtain ⟨B0, m0, s0, _⟩ := hl4.new 0 (by omega)
          obtain ⟨B1, m1, s1, _⟩ := hl4.new 1 (by omega)
          obtain ⟨B2, m2, s2, _⟩ := hl4.new 2 (by omega)
          obtain ⟨B3, m3, s3, _⟩ := hl4.new 3 (by omega)
          obtain ⟨B4, m4, s4, _⟩ := hl4.new 4 (by omega)
          obtain ⟨B5, m5, s5, _⟩ := hl4.new 5 (by omega)
          obtain ⟨B6, m6, s6, _⟩ := hl4.new 6 (by omega)
          have HX := Lib.hid (And.intro h4 (And.intro hl4 (And.intro hF4 (And.intro hT4 hT4'))))
          unfold rowK at KB
          unfold zrK at KR
          have q0 := KB.cell 0
          have q1 := KB.cell 1
          have q2 := KB.cell 2
          have q3 := KB.cell 3
          have q4 := KB.cell 4
          have q5 := KB.cell 5
          have q6 := KB.cell 6
          have q7 := KB.cell 7
          have q8 := KB.cell 8
          have q9 := KB.cell 9
          have q10 := KB.cell 10
          have q11 := KB.cell 11
          have q12 := KB.cell 12
          have g11 := KB.free 11
          have z0 := KR.cell 0
          have z1 := KR.cell 1
          have z2 := KR.cell 2
          have z3 := KR.cell 3
          have z4 := KR.cell 4
          have z5 := KR.cell 5
          have z6 := KR.cell 6
          have z7 := KR.cell 7
          have z8 := KR.cell 8
          have z9 := KR.cell 9
          have z10 := KR.cell 10
          have z11 := KR.cell 11
          have z12 := KR.cell 12
          have f0 := KR.free 0
          have f1 := KR.free 1
          have f2 := KR.free 2
          have f3 := KR.free 3
          have f4 := KR.free 4
          have f5 := KR.free 5
          have f6 := KR.free 6
          have f7 := KR.free 7
          have f8 := KR.free 8
          have f9 := KR.free 9
          have f10 := KR.free 10
          have f11 := KR.free 11
          have f12 := KR.free 12
          simp at q0 q1 q2 q3 q4 q5 q6 q7 q8 q9 q10 q11 q12 z0 z1 z2 z3 z4 z5 z6 z7 z8 z9 z10 z11 z12
          rw [s0] at q4
          rw [s1] at q5
          rw [s2] at q6
          rw [s3] at q7
          rw [s4] at q8
          rw [s5] at q9
          rw [s6] at q10
          have HSS := Lib.hid (And.intro s0 (And.intro s1 (And.intro s2 (And.intro s3 (And.intro s4 (And.intro s5 s6))))))
          clear s0 s1 s2 s3 s4 s5 s6 KB KR h4 hl4 hF4 hT4 hT4' hz1 hb4 C c11 HKK HPb HLs HI HSM hfr4
          obtain ⟨h4, hl4, hF4, hT4, hT4'⟩ := HX.out
          have hzr := h4.room.lt
          have ht : Turned [w.heap.size, w.heap.size + 1] w4 (put13 (w4.setCell ⟨w.heap.size, 11, none⟩ (.slice A4 p.files.length n4)) (w.heap.size + 1) (.string p.name) (.string p.evr) (.string p.arch) (.string p.vendor) (.slice B0 (p.ls 0).length m0) (.slice B1 (p.ls 1).length m1) (.slice B2 (p.ls 2).length m2) (.slice B3 (p.ls 3).length m3) (.slice B4 (p.ls 4).length m4) (.slice B5 (p.ls 5).length m5) (.slice B6 (p.ls 6).length m6) (.slice A4 p.files.length n4) (.int .i64 n)) :=
            (((Turned.refl _ _).setCell (p := ⟨w.heap.size, 11, none⟩) (.inl (by simp)) _).trans ((put13_turned _ _ _ _ _ _ _ _ _ _ _ _ _ _ _).more (F' := [w.heap.size, w.heap.size + 1]) (fun k hk => by simp at hk; simp [hk])) (Fresh.refl _ _))
          have hst : ∀ (U : Nat → Prop), (∀ b, U b → w.heap.size + 1 < b) → StayS U w4 (put13 (w4.setCell ⟨w.heap.size, 11, none⟩ (.slice A4 p.files.length n4)) (w.heap.size + 1) (.string p.name) (.string p.evr) (.string p.arch) (.string p.vendor) (.slice B0 (p.ls 0).length m0) (.slice B1 (p.ls 1).length m1) (.slice B2 (p.ls 2).length m2) (.slice B3 (p.ls 3).length m3) (.slice B4 (p.ls 4).length m4) (.slice B5 (p.ls 5).length m5) (.slice B6 (p.ls 6).length m6) (.slice A4 p.files.length n4) (.int .i64 n)) := fun U hU => StayS.turned ht fun b hb hm => by have := hU b hb; simp at hm; omega
          have HL : Hid _ := load13 (put13_blk (h4.room.far (p := ⟨w.heap.size, 11, none⟩) (by simp) (.slice A4 p.files.length n4)) (.string p.name) (.string p.evr) (.string p.arch) (.string p.vendor) (.slice B0 (p.ls 0).length m0) (.slice B1 (p.ls 1).length m1) (.slice B2 (p.ls 2).length m2) (.slice B3 (p.ls 3).length m3) (.slice B4 (p.ls 4).length m4) (.slice B5 (p.ls 5).length m5) (.slice B6 (p.ls 6).length m6) (.slice A4 p.files.length n4) (.int .i64 n))
          have HP : Hid (PkgNew w p n (.returned (.agg (rowK p sx (.slice A4 p.files.length n4) n))) (put13 (w4.setCell ⟨w.heap.size, 11, none⟩ (.slice A4 p.files.length n4)) (w.heap.size + 1) (.string p.name) (.string p.evr) (.string p.arch) (.string p.vendor) (.slice B0 (p.ls 0).length m0) (.slice B1 (p.ls 1).length m1) (.slice B2 (p.ls 2).length m2) (.slice B3 (p.ls 3).length m3) (.slice B4 (p.ls 4).length m4) (.slice B5 (p.ls 5).length m5) (.slice B6 (p.ls 6).length m6) (.slice A4 p.files.length n4) (.int .i64 n))) :=
            ⟨h4.below.trans (ht.below (fun k hk => by simp at hk; omega) h4.below.size), sx, _, Sx, T4, rfl, ⟨fun i hi => (hl4.new i hi).stay (fun _ h => h) (hst Sx hl4.far), hF4.stay (fun _ h => h) (hst T4 hT4')⟩, hl4.clean.stay (hst Sx hl4.far), hT4.stay (hst T4 hT4'), fun b hb => by have := hl4.far b hb; omega, fun b hb => by have := hT4' b hb; omega⟩
          obtain ⟨s0, s1, s2, s3, s4, s5, s6⟩ := HSS.out
          unfold rowK at HP
          rw [s0, s1, s2, s3, s4, s5, s6] at HP
          unfold put13 at HP HL
          clear h4 hl4 hF4 hT4 hT4' hzr ht hst s0 s1 s2 s3 s4 s5 s6 HX HSS
          go_wp2_with fail
          refine bodyPost_ret (v := .agg #[.string p.name, .string p.evr, .string p.arch, .string p.vendor, .slice B0 (p.ls 0).length m0, .slice B1 (p.ls 1).length m1, .slice B2 (p.ls 2).length m2, .slice B3 (p.ls 3).length m3, .slice B4 (p.ls 4).length m4, .slice B5 (p.ls 5).length m5, .slice B6 (p.ls 6).length m6, .slice A4 p.files.length n4, .int .i64 n]) ?_ rfl HP.out
          refine (results_cell rfl _ (ad := ⟨w.heap.size + 1, 0, none⟩) rfl).trans ?_
          exact HL.out
end Go.Proofs.YtpmfmkpfjomgnaaGreatDoor

/- A map from texts to slices that all are an object's own: what it holds as a function; which blocks may turn, as a predicate. -/
namespace Go.Proofs.YtpmfmkpfjomgnaaGreatDoor
set_option linter.unusedSimpArgs false
set_option linter.unusedVariables false
open Go.RowKit
open Go.Maps (Keyed string_keyed)

/-- Of what was there, nothing has turned but the blocks of O. -/
structure TurnedP (O : Nat → Prop) (w w' : World) : Prop where
  os : w'.os = w.os
  tape : w'.tape = w.tape
  output : w'.output = w.output
  size : w.heap.size ≤ w'.heap.size
  block : ∀ k, k < w.heap.size → ¬ O k → w'.heap[k]? = w.heap[k]?
section
variable {w w' w'' : World} {O O' : Nat → Prop} {F : List Nat}
theorem TurnedP.refl (O : Nat → Prop) (w : World) : TurnedP O w w := ⟨rfl, rfl, rfl, Nat.le_refl _, fun _ _ _ => rfl⟩
theorem TurnedP.trans (h : TurnedP O w w') (k : TurnedP O' w' w'') (hf : ∀ i, i < w.heap.size → O' i → O i) : TurnedP O w w'' :=
  ⟨k.os.trans h.os, k.tape.trans h.tape, k.output.trans h.output, Nat.le_trans h.size k.size, fun i hi hn =>
    (k.block i (Nat.lt_of_lt_of_le hi h.size) (fun hm => hn (hf i hi hm))).trans (h.block i hi hn)⟩
theorem TurnedP.more (h : TurnedP O w w') (hf : ∀ k, k < w.heap.size → O k → O' k) : TurnedP O' w w' := ⟨h.os, h.tape, h.output, h.size, fun k hk hn => h.block k hk (fun hm => hn (hf k hk hm))⟩
theorem TurnedP.of (h : Turned F w w') (hf : ∀ k, k < w.heap.size → k ∈ F → O k) : TurnedP O w w' := ⟨h.os, h.tape, h.output, h.size, fun k hk hn => h.block k hk (fun hm => hn (hf k hk hm))⟩
theorem TurnedP.of_below (hb : Below w.heap.size w w') (O : Nat → Prop) : TurnedP O w w' := ⟨hb.os, hb.tape, hb.output, hb.size, fun k hk _ => hb.block k hk⟩
theorem TurnedP.below (h : TurnedP O w w') {B : Nat} (hO : ∀ k, k < w.heap.size → O k → B ≤ k) (hB : B ≤ w.heap.size) : Below B w w' :=
  ⟨h.os, h.tape, h.output, h.size, fun k hk => h.block k (by omega) (fun hm => by have := hO k (by omega) hm; omega)⟩
theorem TurnedP.drewN (h : TurnedP O w w') (n : Nat) : TurnedP O w (w'.drewN n) := ⟨h.os, h.tape, h.output, h.size, h.block⟩
theorem TurnedP.from_drew (h : TurnedP O w.drew w') : TurnedP O w w' := ⟨h.os, h.tape, h.output, h.size, h.block⟩
theorem TurnedP.alloc (h : TurnedP O w w') (o : Obj) : TurnedP O w (w'.alloc o) :=
  ⟨h.os, h.tape, h.output, Nat.le_trans h.size (by simp), fun i hi hn => (Below.heap_alloc w' o i (Nat.lt_of_lt_of_le hi h.size)).trans (h.block i hi hn)⟩
theorem TurnedP.setCell (h : TurnedP O w w') {p : Addr} (hp : p.block < w.heap.size → O p.block) (u : Value) : TurnedP O w (w'.setCell p u) :=
  ⟨h.os, h.tape, h.output, by simpa [World.setCell] using h.size, fun i hi hn => (Below.heap_setCell w' p u i (by
    rintro rfl
    exact hn (hp hi))).trans (h.block i hi hn)⟩
theorem TurnedP.grown {row : Option Nat} (h : TurnedP O w w') (hg : w'.grownBy w'' row) (hr : ∀ k, k < w.heap.size → row = some k → O k) : TurnedP O w w'' :=
  ⟨hg.os.trans h.os, hg.tape.trans h.tape, hg.output.trans h.output, Nat.le_trans h.size hg.size, fun i hi hn =>
    (hg.block i (Nat.lt_of_lt_of_le hi h.size) (fun e => hn (hr i hi e.symm))).trans (h.block i hi hn)⟩
theorem TurnedP.below_ (h : TurnedP O w w') (hb : Below w'.heap.size w' w'') : TurnedP O w w'' :=
  ⟨hb.os.trans h.os, hb.tape.trans h.tape, hb.output.trans h.output, Nat.le_trans h.size hb.size, fun i hi hn => (hb.block i (Nat.lt_of_lt_of_le hi h.size)).trans (h.block i hi hn)⟩
variable {g : Nat} {t : TypeId} {cs : Array Value}
theorem Blk.turnedP (h : Blk w g t cs) (ht : TurnedP O w w') (hg : ¬ O g) : Blk w' g t cs := (ht.block g h.lt hg).trans h
variable {base size n : Nat} {e : TypeId} {v : Value} {xs : List Value}
theorem own_turnedP (h : w.ownsRow base e size v n xs) (ht : TurnedP O w w') (hn : ∀ k, v.ownBlock = some k → ¬ O k) : w'.ownsRow base e size v n xs := by
  refine ⟨h.1, ?_⟩
  rcases h.2 with h2 | ⟨g, cap, cur, rfl, hb, hg, rest⟩
  · exact .inl h2
  · exact .inr ⟨g, cap, cur, rfl, hb, (ht.block g (Array.getElem?_eq_some_iff.1 hg).1 (hn g rfl)).trans hg, rest⟩
theorem own_handle (h : w.ownsRow base e size v n xs) : (v = .slice none 0 0 ∧ n = 0) ∨ ∃ b c, v = .slice (some ⟨b, 0, none⟩) n c := by
  rcases h.2 with ⟨rfl, h1⟩ | ⟨g, cap, cur, rfl, _⟩
  · exact .inl ⟨rfl, h1⟩
  · exact .inr ⟨g, cap, rfl⟩
end

/-! Slices as what a map holds. -/
def hElem (v : Value) : Option (DataW Unit × List MemPlace) :=
  match v with
  | .slice none n c => some (.agg [.lit (.int .i64 0), .lit (.int .i64 n), .lit (.int .i64 c)], [])
  | .slice (some ⟨b, 0, none⟩) n c => some (.agg [.lit (.int .i64 ((b : Int) + 1)), .lit (.int .i64 n), .lit (.int .i64 c)], [])
  | _ => none
def dH (v : Value) : DataW Unit := ((hElem v).getD (.nil, [])).1
/-- A slice that begins where its block does, or none. -/
def IsH (v : Value) : Prop := ∃ n c, v = .slice none n c ∨ ∃ b, v = .slice (some ⟨b, 0, none⟩) n c
theorem hElem_mk {v : Value} (h : IsH v) : hElem v = some (dH v, []) := by
  obtain ⟨n, c, rfl | ⟨b, rfl⟩⟩ := h <;> rfl
theorem hElem_inv {v u : Value} {ps : List MemPlace} (hu : IsH u) (h : hElem v = some (dH u, ps)) : v = u := by
  unfold hElem at h
  split at h
  · obtain ⟨m, d, rfl | ⟨b, rfl⟩⟩ := hu
    · simp [dH, hElem] at h
      obtain ⟨⟨h1, h2⟩, _⟩ := h
      simp only [Value.slice.injEq, true_and]
      omega
    · simp [dH, hElem] at h
      omega
  · obtain ⟨m, d, rfl | ⟨b', rfl⟩⟩ := hu
    · simp [dH, hElem] at h
      omega
    · simp [dH, hElem] at h
      obtain ⟨⟨h0, h1, h2⟩, _⟩ := h
      simp only [Value.slice.injEq, Option.some.injEq, Addr.mk.injEq, and_true]
      omega
  · cases h
theorem IsH.nil : IsH (.slice none 0 0) := ⟨0, 0, .inl rfl⟩
theorem IsH.own {w : World} {base size n : Nat} {e : TypeId} {v : Value} {xs : List Value} (h : w.ownsRow base e size v n xs) : IsH v := by
  rcases own_handle h with ⟨rfl, _⟩ | ⟨b, c, rfl⟩
  · exact .nil
  · exact ⟨n, c, .inr ⟨b, rfl⟩⟩
theorem keyS : Keyed Tryz.prog 9 := string_keyed Tryz.underlying9

/-- Block bm is a map whose slice at s is f s, which holds xs s: rows that are the map's own, each apart from the others. -/
structure MapR (w : World) (base : Nat) (e : TypeId) (size : Nat) (bm n : Nat) (f : ByteArray → Value) (cnt : ByteArray → Nat) (xs : ByteArray → List Value) : Prop where
  map : ∃ D, w.ownsMap Tryz.prog 9 hElem bm n D ∧ Maps.IsMap D ∧ ∀ s, D.atKey (kdS s) (dH (.slice none 0 0)) = dH (f s)
  rows : ∀ s, w.ownsRow base e size (f s) (cnt s) (xs s)
  apart : ∀ s t k, s ≠ t → (f s).ownBlock = some k → (f t).ownBlock ≠ some k
  far : base ≤ bm
/-- The blocks of such a map. -/
def MapO (bm : Nat) (f : ByteArray → Value) (k : Nat) : Prop := k = bm ∨ ∃ s, (f s).ownBlock = some k
section
variable {w w' : World} {base size bm n : Nat} {e : TypeId} {f : ByteArray → Value} {cnt : ByteArray → Nat} {xs : ByteArray → List Value} {O : Nat → Prop}
theorem MapR.lt (h : MapR w base e size bm n f cnt xs) : bm < w.heap.size := by obtain ⟨D, hD, _⟩ := h.map; exact hD.lt
theorem MapR.O_lt (h : MapR w base e size bm n f cnt xs) {k : Nat} (hk : MapO bm f k) : base ≤ k ∧ k < w.heap.size := by
  rcases hk with rfl | ⟨s, hs⟩
  · exact ⟨h.far, h.lt⟩
  · exact (h.rows s).lt k hs
theorem MapR.turned (h : MapR w base e size bm n f cnt xs) (ht : TurnedP O w w') (hO : ∀ k, MapO bm f k → ¬ O k) : MapR w' base e size bm n f cnt xs := by
  obtain ⟨D, hD, hM, hA⟩ := h.map
  refine ⟨⟨D, ?_, hM, hA⟩, fun s => own_turnedP (h.rows s) ht fun k hk => hO k (.inr ⟨s, hk⟩), h.apart, h.far⟩
  have hlt := hD.lt
  obtain ⟨es, clock, hh, r⟩ := hD
  exact ⟨es, clock, (ht.block bm hlt (hO bm (.inl rfl))).trans hh, r⟩
theorem MapR.bm_row (h : MapR w base e size bm n f cnt xs) (s : ByteArray) : (f s).ownBlock ≠ some bm := by
  obtain ⟨D, hD, _⟩ := h.map
  exact map_own hD (h.rows s)
/-- No block of it is a row of another kind. -/
theorem MapR.kind (h : MapR w base e size bm n f cnt xs) {g : Nat} {t : TypeId} {cs : Array Value} (hg : Blk w g t cs) (hne : e ≠ t) : ¬ MapO bm f g := by
  rintro (rfl | ⟨s, hs⟩)
  · obtain ⟨D, hD, _⟩ := h.map
    exact map_kind hD hg rfl
  · exact own_kind (h.rows s) hg hne hs
theorem MapR.kinds (h : MapR w base e size bm n f cnt xs) {base' size' m : Nat} {t : TypeId} {v : Value} {ys : List Value} (hg : w.ownsRow base' t size' v m ys) (hne : e ≠ t) {k : Nat} (hk : v.ownBlock = some k) : ¬ MapO bm f k := by
  rintro (rfl | ⟨s, hs⟩)
  · obtain ⟨D, hD, _⟩ := h.map
    exact map_own hD hg hk
  · exact own_kinds (h.rows s) hg hne hs hk
theorem MapR.look (h : MapR w base e size bm n f cnt xs) {tm te : TypeId} (htm : Tryz.prog.underlying tm = some (.map 9 te)) (hz : (zeroValue te).run Tryz.prog w = .ok (.slice none 0 0) w) {s : ByteArray} (hs : s.size ≤ maxLen) :
    (Instr.lookup tm (.map (some bm)) (.string s) false).run Tryz.prog w = .ok (f s) w := by
  obtain ⟨D, hD, hM, hA⟩ := h.map
  have hkey := Go.WideMaps.keyOf_string_mk (P := Tryz.prog) Tryz.underlying9 hs
  obtain ⟨v, ps, hrun, hv⟩ := hD.lookup keyS htm hz (hElem_mk .nil) hkey
  have hat := hA s
  unfold kdS at hat
  rw [hat] at hv
  obtain rfl := hElem_inv (.own (h.rows s)) hv
  exact hrun
/-- A slice is stored that has grown out of the one that stood there. -/
theorem MapR.put (h : MapR w base e size bm n f cnt xs) {tm te : TypeId} (htm : Tryz.prog.underlying tm = some (.map 9 te)) {s : ByteArray} (hs : s.size ≤ maxLen) (hn : n < maxLen) {w1 : World} {v' : Value} {m : Nat} {ys : List Value}
    (hg : w.grownBy w1 (f s).ownBlock) (hown : w1.ownsRow base e size v' m ys) (hat : v'.ownBlock = (f s).ownBlock ∨ ∃ k, v'.ownBlock = some k ∧ w.heap.size ≤ k) :
    ∃ w2, (Instr.mapUpdate tm (.map (some bm)) (.string s) v').run Tryz.prog w1 = .ok () w2 ∧ w1.grownBy w2 (some bm) ∧
      MapR w2 base e size bm (n + 1) (fun x => if x = s then v' else f x) (fun x => if x = s then m else cnt x) (fun x => if x = s then ys else xs x) := by
  obtain ⟨D, hD, hM, hA⟩ := h.map
  have hkey := Go.WideMaps.keyOf_string_mk (P := Tryz.prog) Tryz.underlying9 hs
  have hD1 : w1.ownsMap Tryz.prog 9 hElem bm n D := hD.kept hg (fun e => h.bm_row s e.symm)
  obtain ⟨w2, hrun, hD2, hg2⟩ := hD1.update keyS htm hn hkey (hElem_mk (.own hown))
  have hsz := hg.size
  refine ⟨w2, hrun, hg2, ⟨⟨_, hD2, hM.put _ _, fun x => ?_⟩, fun x => ?_, fun x y k hxy hx => ?_, h.far⟩⟩
  · show (D.put (kdS s) (dH v')).atKey (kdS x) _ = _
    by_cases hx : x = s
    · subst hx
      rw [if_pos rfl]
      exact Maps.atKey_put_same hM (kdS_key _) _ _
    · rw [if_neg hx]
      exact (Maps.atKey_put_other (fun e => hx (kdS_inj _ _ e)) _ _).trans (hA x)
  · by_cases hx : x = s
    · subst hx
      simp only [if_pos rfl]
      refine hown.kept hg2 ?_
      cases hv : v'.ownBlock with
      | none => exact .inl rfl
      | some k =>
        refine .inr fun e => ?_
        injection e with e
        subst e
        rcases hat with h1 | ⟨j, h1, h2⟩
        · rw [hv] at h1; exact h.bm_row _ h1.symm
        · rw [hv] at h1; injection h1 with h1; have := h.lt; omega
    · simp only [if_neg hx]
      have h1 : w1.ownsRow base e size (f x) (cnt x) (xs x) := (h.rows x).kept hg (by
        cases hv : (f x).ownBlock with
        | none => exact .inl rfl
        | some k => exact .inr fun e => h.apart x s k hx hv e.symm)
      refine h1.kept hg2 ?_
      cases hv : (f x).ownBlock with
      | none => exact .inl rfl
      | some k => exact .inr fun e => h.bm_row x (by rw [hv, e])
  · have key : ∀ z, z ≠ s → ∀ k, (f z).ownBlock = some k → v'.ownBlock ≠ some k := fun z hz k hk e => by
      rcases hat with h1 | ⟨j, h1, h2⟩
      · rw [e] at h1; exact h.apart z s k hz hk h1.symm
      · rw [e] at h1
        injection h1 with h1
        have := ((h.rows z).lt k hk).2
        omega
    by_cases hx' : x = s
    · rw [if_pos hx'] at hx
      rw [if_neg (fun e => hxy (hx'.trans e.symm))]
      intro e
      exact key y (fun e => hxy (hx'.trans e.symm)) k e hx
    · rw [if_neg hx'] at hx
      by_cases hy : y = s
      · rw [if_pos hy]
        exact key x hx' k hx
      · rw [if_neg hy]
        exact h.apart x y k hxy hx
theorem MapR.made (w : World) (e : TypeId) (size : Nat) : MapR (w.alloc (.map #[] 0)) w.heap.size e size w.heap.size 0 (fun _ => .slice none 0 0) (fun _ => 0) (fun _ => []) :=
  ⟨⟨_, World.ownsMap_made _ _ _ _, Maps.isMap_empty, fun _ => rfl⟩, fun s => World.ownsRow_nil _ _ _ _, fun s t k _ h => by simp [Value.ownBlock] at h, Nat.le_refl _⟩
end
end Go.Proofs.YtpmfmkpfjomgnaaGreatDoor

/- A pool's repositories: whether one of them is so. -/
namespace Go.Proofs.YtpmfmkpfjomgnaaGreatDoor
set_option linter.unusedSimpArgs false
set_option linter.unusedVariables false
open Go.RowKit

structure Rep where
  name : ByteArray
  prio : Int
  inst : Bool
/-- A repository as a pool keeps it. -/
def rowR (r : Rep) : Array Value := #[.string r.name, .int .i64 r.prio, .bool r.inst, .slice none 0 0]
def cells4 (l : List Rep) : List Value := l.flatMap fun r => [.string r.name, .int .i64 r.prio, .bool r.inst, .slice none 0 0]
theorem cells4_append (a b : List Rep) : cells4 (a ++ b) = cells4 a ++ cells4 b := by simp [cells4]
theorem cells4_len (l : List Rep) : (cells4 l).length = l.length * 4 := by
  induction l with
  | nil => rfl
  | cons x r ih => show ([_, _, _, _] ++ cells4 r).length = _; rw [List.length_append, ih]; simp; omega
theorem cells4_at {l : List Rep} {k : Nat} {x : Rep} (h : l[k]? = some x) : (cells4 l)[k * 4]? = some (.string x.name) ∧ (cells4 l)[k * 4 + 1]? = some (.int .i64 x.prio) ∧ (cells4 l)[k * 4 + 2]? = some (.bool x.inst) ∧ (cells4 l)[k * 4 + 3]? = some (.slice none 0 0) := by
  induction l generalizing k with
  | nil => cases h
  | cons y r ih =>
    cases k with
    | zero => injection h with h; subst h; exact ⟨rfl, rfl, rfl, rfl⟩
    | succ k =>
      have := ih (k := k) (by simpa using h)
      have e : ∀ i, (cells4 (y :: r))[(k + 1) * 4 + i]? = (cells4 r)[k * 4 + i]? := fun i => by
        show ([_, _, _, _] ++ cells4 r)[(k + 1) * 4 + i]? = _
        rw [List.getElem?_append_right (by simp; omega)]
        congr 1
        simp; omega
      have e0 := e 0
      simp only [Nat.add_zero] at e0
      rw [e0, e 1, e 2, e 3]
      exact this
theorem cells4_one (l : List Rep) : ∀ u ∈ cells4 l, u.oneCell' = true := by
  intro u hu
  obtain ⟨x, hx, hu⟩ := List.mem_flatMap.1 hu
  simp at hu
  rcases hu with rfl | rfl | rfl | rfl <;> rfl

/-- What is asked of a repository. -/
def AskRep (f : FuncId) (cap : Array Value) (p : Rep → Bool) (w0 : World) : Prop :=
  ∀ (r : Rep) (w : World), Below w0.heap.size w0 w → Calls Tryz.prog f (#[.agg (rowR r)] ++ cap) w fun e w' => e = .returned (.bool (p r)) ∧ Below w.heap.size w w'
set_option maxHeartbeats 2000000 in
set_option maxRecDepth 100000 in
theorem repIndex_any (f : FuncId) (cap : Array Value) (ef : ∀ args w, (callFunc f args).run Tryz.prog w = .ok (.enter f args) w) (p : Rep → Bool) (rs : List Rep) (A : Option Addr) (c : Nat) (base : Nat) (w0 : World) (hA : w0.ownsRow base 33 4 (.slice A rs.length c) rs.length (cells4 rs)) (hc : c ≤ maxLen)
    (hp : AskRep f cap p w0) :
    Calls Tryz.prog 173 #[.slice A rs.length c, .func (.func f) #[] cap] w0 fun e w' => IdxPost rs (fun r b => b = p r) e ∧ Below w0.heap.size w0 w' := by
  unfold maxLen at hc
  have hl : rs.length ≤ c := by
    rcases hA.2 with ⟨h, h2⟩ | ⟨g, cp, cur, h, _, _, h1, _⟩
    · injection h with _ h3 h4; omega
    · injection h with _ h3 h4; omega
  have HA := Lib.hid hA
  have HPr := Lib.hid hp
  clear hA hp
  go_enter Tryz.func173, Tryz.ntmps173
  go_wp2_with fail
  go_loopw [8] (fun i wx => ∃ k : Nat, k ≤ rs.length ∧ i = .int .i64 (k : Int) ∧ Hid (∀ a ∈ rs.take k, p a = false) ∧ Hid (Below w0.heap.size w0 wx)) (fun i _ => rs.length - (intOf i).toNat)
  case atStart => exact ⟨0, Nat.zero_le _, rfl, show ∀ a ∈ rs.take 0, p a = false from by simp, Below.refl _ _⟩
  case round =>
    obtain ⟨k, hk, rfl, hall, hb⟩ := hrel
    by_cases hlt : k < rs.length
    · obtain ⟨q0, q1, q2, q3⟩ := cells4_at (List.getElem?_eq_getElem hlt)
      obtain ⟨b, rfl, k0⟩ := own_ats HA.out q0
      obtain ⟨_, e1, k1⟩ := own_ats HA.out q1
      obtain ⟨_, e2, k2⟩ := own_ats HA.out q2
      obtain ⟨_, e3, k3⟩ := own_ats HA.out q3
      injection e1 with e1; injection e1 with e1; subst e1
      injection e2 with e2; injection e2 with e2; subst e2
      injection e3 with e3; injection e3 with e3; subst e3
      have hbl := hb.out.block b (cell_lt k0)
      have c0 := (World.cell?_of_block hbl).trans k0
      have c1 := (World.cell?_of_block hbl).trans k1
      have c2 := (World.cell?_of_block hbl).trans k2
      have c3 := (World.cell?_of_block hbl).trans k3
      have C := Lib.hid (HPr.out rs[k] wr hb.out)
      unfold rowR at C
      have hz := hb.out.size
      clear q0 q1 q2 q3 k0 k1 k2 k3 hbl
      go_wp2_with fail
      refine C.out.mono ?_
      rintro e w1 ⟨rfl, hb1⟩
      have HB : Hid (Below w0.heap.size w0 w1) := hb.out.trans (hb1.mono hz)
      clear hb1 hb C c0 c1 c2 c3
      cases hv : p rs[k] with
      | false =>
        have HN : Hid (∀ a ∈ rs.take (k + 1), p a = false) := alls_snoc hall.out (List.getElem?_eq_getElem hlt) hv
        clear hall hv
        go_wp2_with fail
        go_roundw
        case rel => exact ⟨k + 1, by omega, by go_num, HN, HB⟩
        case measure => simp [intOf]; omega
      | true =>
        have HN : Hid (Anys rs (fun r b => b = p r) true) := .inl ⟨rfl, rs[k], List.getElem_mem hlt, hv.symm⟩
        clear hall hv
        go_wp2_with fail
        go_ret
        exact ⟨⟨k, true, by simp, HN.out, rfl⟩, HB.out⟩
    · have HN : Hid (Anys rs (fun r b => b = p r) false) := .inr ⟨rfl, by
        have := hall.out
        rw [List.take_of_length_le (by omega)] at this
        exact fun a ha => (this a ha).symm⟩
      clear hall
      go_wp2_with fail
      go_ret
      exact ⟨⟨-1, false, by decide, HN.out, rfl⟩, hb.out⟩
set_option maxHeartbeats 1000000 in
set_option maxRecDepth 100000 in
theorem repContains_any (f : FuncId) (cap : Array Value) (ef : ∀ args w, (callFunc f args).run Tryz.prog w = .ok (.enter f args) w) (p : Rep → Bool) (rs : List Rep) (A : Option Addr) (c : Nat) (base : Nat) (w0 : World) (hA : w0.ownsRow base 33 4 (.slice A rs.length c) rs.length (cells4 rs)) (hc : c ≤ maxLen)
    (hp : AskRep f cap p w0) :
    Calls Tryz.prog 128 #[.slice A rs.length c, .func (.func f) #[] cap] w0 fun e w' => e = .returned (.bool (rs.any p)) ∧ Below w0.heap.size w0 w' := by
  have C := Lib.hid (repIndex_any f cap ef p rs A c base w0 hA hc hp)
  clear hA hp
  go_enter Tryz.func128, Tryz.ntmps128
  go_wp2_with fail
  refine C.out.mono ?_
  rintro e w1 ⟨⟨n, b, hn, ha, rfl⟩, hb1⟩
  have HB := Lib.hid hb1
  have HN := Lib.hid (hn.trans (ha.det (fun _ _ h => h)))
  clear hb1 hn C ha
  go_wp2_with fail
  go_ret
  exact ⟨ret_bool HN.out, HB.out⟩
set_option maxHeartbeats 1000000 in
set_option maxRecDepth 100000 in
/-- .. it has that name. -/
theorem askName (g : Nat) (w0 : World) (nm : ByteArray) (x1 x2 x3 : Value) (t : TypeId) (hK : Blk w0 g t #[.string nm, x1, x2, x3]) : AskRep 81 #[.pointer (some ⟨g, 0, none⟩)] (fun r => decide (r.name = nm)) w0 := by
  intro r w hb
  have k0 := (hK.below hb hK.lt).cell 0
  simp at k0
  have HB : Hid (Below w.heap.size w (w.alloc (.cells (rowR r) 33))) := (Below.refl _ _).alloc (Nat.le_refl _) _
  have hz := (hK.below hb hK.lt).lt
  clear hK hb
  unfold rowR at HB ⊢
  show Calls Tryz.prog _ #[.agg #[.string r.name, .int .i64 r.prio, .bool r.inst, .slice none 0 0], .pointer (some ⟨g, 0, none⟩)] w fun e w' => e = .returned (.bool (decide (r.name = nm))) ∧ Below w.heap.size w w'
  obtain ⟨x, hx⟩ : ∃ x, x = decide (r.name = nm) := ⟨_, rfl⟩
  rw [← hx]
  have HX := Lib.hid hx
  clear hx
  by_cases h : r.name = nm
  · have HV : Hid (x = true) := HX.out.trans (decide_eq_true h)
    have t1 := str_yes h
    clear HX h
    go_enter Tryz.func81, Tryz.ntmps81
    go_wp2_with fail
    go_ret
    exact ⟨by rw [HV.out]; rfl, HB.out⟩
  · have HV : Hid (x = false) := HX.out.trans (decide_eq_false h)
    have t1 := str_ne h
    clear HX h
    go_enter Tryz.func81, Tryz.ntmps81
    go_wp2_with fail
    go_ret
    exact ⟨by rw [HV.out]; rfl, HB.out⟩
set_option maxHeartbeats 1000000 in
set_option maxRecDepth 100000 in
/-- .. it is the installed one. -/
theorem askInst (w0 : World) : AskRep 82 #[] Rep.inst w0 := by
  intro r w hb
  have HB : Hid (Below w.heap.size w (w.alloc (.cells (rowR r) 33))) := (Below.refl _ _).alloc (Nat.le_refl _) _
  clear hb
  unfold rowR at HB ⊢
  show Calls Tryz.prog _ #[.agg #[.string r.name, .int .i64 r.prio, .bool r.inst, .slice none 0 0]] w fun e w' => e = .returned (.bool r.inst) ∧ Below w.heap.size w w'
  go_enter Tryz.func82, Tryz.ntmps82
  go_wp2_with fail
  go_ret
  exact ⟨rfl, HB.out⟩
end Go.Proofs.YtpmfmkpfjomgnaaGreatDoor

/- A pool in memory; whether a repository may be added. -/
namespace Go.Proofs.YtpmfmkpfjomgnaaGreatDoor
set_option linter.unusedSimpArgs false
set_option linter.unusedVariables false
open Go.RowKit

/-- A package that a pool keeps: how it lies, the place of its repository. -/
structure Kep where
  p : Pkg
  ss : Nat → Value
  fs : Value
  rep : Nat
def cells13 (l : List Kep) : List Value := l.flatMap fun k => (rowK k.p k.ss k.fs (k.rep : Int)).toList
theorem cells13_append (a b : List Kep) : cells13 (a ++ b) = cells13 a ++ cells13 b := by simp [cells13]
theorem cells13_cons (k : Kep) (l : List Kep) : cells13 (k :: l) = (rowK k.p k.ss k.fs (k.rep : Int)).toList ++ cells13 l := rfl
theorem cells13_len (l : List Kep) : (cells13 l).length = l.length * 13 := by
  induction l with
  | nil => rfl
  | cons x r ih => rw [cells13_cons, List.length_append, ih]; simp [rowK]; omega
theorem cells13_at {l : List Kep} {k : Nat} {x : Kep} (h : l[k]? = some x) {j : Nat} (hj : j < 13) : (cells13 l)[k * 13 + j]? = (rowK x.p x.ss x.fs (x.rep : Int))[j]? := by
  induction l generalizing k with
  | nil => cases h
  | cons y r ih =>
    rw [cells13_cons]
    have hlen : (rowK y.p y.ss y.fs (y.rep : Int)).toList.length = 13 := rfl
    cases k with
    | zero =>
      injection h with h
      subst h
      rw [List.getElem?_append_left (by rw [hlen]; omega), Nat.zero_mul, Nat.zero_add, Array.getElem?_toList]
    | succ k =>
      rw [List.getElem?_append_right (by rw [hlen]; omega), hlen]
      have := ih (k := k) (by simpa using h)
      rw [show (k + 1) * 13 + j - 13 = k * 13 + j by omega]
      exact this
/-- The numbers of the packages of a name. -/
def idxF (s : ByteArray) : Nat → List Kep → List Nat
  | _, [] => []
  | n, k :: r => if k.p.name = s then n :: idxF s (n + 1) r else idxF s (n + 1) r
theorem idxF_snoc (s : ByteArray) (k : Kep) : ∀ (l : List Kep) (n : Nat), idxF s n (l ++ [k]) = idxF s n l ++ if k.p.name = s then [n + l.length] else []
  | [], n => by simp only [List.nil_append, idxF]; split <;> simp
  | x :: l, n => by
    simp only [List.cons_append, idxF, idxF_snoc s k l (n + 1), List.length_cons]
    split <;> split <;> simp <;> omega
def numV (l : List Nat) : List Value := l.map fun i => .int .i64 ((i : Nat) : Int)

/-- Block g is a pool that keeps ks, and has numbered km. -/
structure PStG (w : World) (base g : Nat) (O S T : Nat → Prop) (kind : Int) (reps : List Rep) (ks km : List Kep) (vr vp : Value) (bm : Nat) (f : ByteArray → Value) : Prop where
  blk : Blk w g 83 #[.int .i64 kind, vr, vp, .map (some bm)]
  repo : w.ownsRow base 33 4 vr reps.length (cells4 reps)
  pack : w.ownsRow base 86 13 vp ks.length (cells13 ks)
  lays : ∀ k ∈ ks, PkgAt w S T k.p k.ss k.fs
  clean : CleanS w S
  cleanT : CleanT w T
  map : MapR w base 3 1 bm km.length f (fun s => (idxF s 0 km).length) (fun s => numV (idxF s 0 km))
  gfar : base ≤ g
  mine : ∀ k, O k ↔ k = g ∨ vr.ownBlock = some k ∨ vp.ownBlock = some k ∨ MapO bm f k
abbrev PSt (w : World) (base g : Nat) (O S T : Nat → Prop) (kind : Int) (reps : List Rep) (ks : List Kep) (vr vp : Value) (bm : Nat) (f : ByteArray → Value) : Prop := PStG w base g O S T kind reps ks ks vr vp bm f
def PoolAt (w : World) (base g : Nat) (O S T : Nat → Prop) (kind : Int) (reps : List Rep) (ks : List Kep) : Prop := ∃ vr vp bm f, PSt w base g O S T kind reps ks vr vp bm f
/-- The blocks of a pool. -/
def PoolO (g : Nat) (vr vp : Value) (bm : Nat) (f : ByteArray → Value) (k : Nat) : Prop := k = g ∨ vr.ownBlock = some k ∨ vp.ownBlock = some k ∨ MapO bm f k
section
variable {w w' : World} {base g bm : Nat} {O S T : Nat → Prop} {kind : Int} {reps : List Rep} {ks km : List Kep} {vr vp : Value} {f : ByteArray → Value}
theorem PStG.O_lt (h : PStG w base g O S T kind reps ks km vr vp bm f) {k : Nat} (hk : O k) : base ≤ k ∧ k < w.heap.size := by
  rcases (h.mine k).1 hk with rfl | hk | hk | hk
  · exact ⟨h.gfar, h.blk.lt⟩
  · exact h.repo.lt k hk
  · exact h.pack.lt k hk
  · exact h.map.O_lt hk
/-- What is no block of its own is apart from it by its type. -/
theorem PStG.not_O (h : PStG w base g O S T kind reps ks km vr vp bm f) {b : Nat} {t : TypeId} {cs : Array Value} (hb : Blk w b t cs) (h1 : t ≠ 83) (h2 : t ≠ 33) (h3 : t ≠ 86) (h4 : t ≠ 3) : ¬ O b := fun hk => by
  rcases (h.mine b).1 hk with rfl | hk | hk | hk
  · exact Blk.kind hb h.blk h1 rfl
  · exact own_kind h.repo hb (Ne.symm h2) hk
  · exact own_kind h.pack hb (Ne.symm h3) hk
  · exact h.map.kind hb (Ne.symm h4) hk
theorem PStG.S_O (h : PStG w base g O S T kind reps ks km vr vp bm f) {b : Nat} (hb : S b) : ¬ O b := by
  obtain ⟨cs, hc⟩ := h.clean b hb
  exact h.not_O hc (by decide) (by decide) (by decide) (by decide)
theorem PStG.T_O (h : PStG w base g O S T kind reps ks km vr vp bm f) {b : Nat} (hb : T b) : ¬ O b := by
  obtain ⟨cs, hc⟩ := h.cleanT b hb
  exact h.not_O hc (by decide) (by decide) (by decide) (by decide)
theorem PStG.turned {Q : Nat → Prop} (h : PStG w base g O S T kind reps ks km vr vp bm f) (ht : TurnedP Q w w') (hQ : ∀ k, Q k → ¬ O k ∧ ¬ S k ∧ ¬ T k) : PStG w' base g O S T kind reps ks km vr vp bm f := by
  have hs : StayS S w w' := fun b hb hl => ht.block b hl fun hq => (hQ b hq).2.1 hb
  have hs2 : StayS T w w' := fun b hb hl => ht.block b hl fun hq => (hQ b hq).2.2 hb
  have hn : ∀ k, O k → ¬ Q k := fun k hk hq => (hQ k hq).1 hk
  exact ⟨h.blk.turnedP ht (hn g ((h.mine g).2 (.inl rfl))), own_turnedP h.repo ht fun k hk => hn k ((h.mine k).2 (.inr (.inl hk))), own_turnedP h.pack ht fun k hk => hn k ((h.mine k).2 (.inr (.inr (.inl hk)))),
    fun k hk => (h.lays k hk).stay (fun _ h => h) (fun _ h => h) hs hs2, h.clean.stay hs, h.cleanT.stay hs2, h.map.turned ht fun k hk => hn k ((h.mine k).2 (.inr (.inr (.inr hk)))), h.gfar, h.mine⟩
theorem PStG.below (h : PStG w base g O S T kind reps ks km vr vp bm f) (hb : Below w.heap.size w w') : PStG w' base g O S T kind reps ks km vr vp bm f :=
  h.turned (TurnedP.of_below hb fun _ => False) fun k hk => hk.elim
theorem PoolAt.below (h : PoolAt w base g O S T kind reps ks) (hb : Below w.heap.size w w') : PoolAt w' base g O S T kind reps ks := by
  obtain ⟨vr, vp, bm, f, h⟩ := h
  exact ⟨vr, vp, bm, f, h.below hb⟩
theorem PoolAt.turned {Q : Nat → Prop} (h : PoolAt w base g O S T kind reps ks) (ht : TurnedP Q w w') (hQ : ∀ k, Q k → ¬ O k ∧ ¬ S k ∧ ¬ T k) : PoolAt w' base g O S T kind reps ks := by
  obtain ⟨vr, vp, bm, f, h⟩ := h
  exact ⟨vr, vp, bm, f, h.turned ht hQ⟩
/-- One package more has a number. -/
theorem PStG.number (h : PSt w base g O S T kind reps ks vr vp bm f) (kk : Kep) (hsz : kk.p.name.size ≤ maxLen) (hn : ks.length < maxLen) {w1 : World} {v' : Value}
    (hg : w.grownBy w1 (f kk.p.name).ownBlock) (hown : w1.ownsRow base 3 1 v' ((idxF kk.p.name 0 ks).length + 1) (numV (idxF kk.p.name 0 ks) ++ [.int .i64 (ks.length : Int)])) (hat : v'.ownBlock = (f kk.p.name).ownBlock ∨ v'.ownBlock = some w.heap.size) :
    ∃ w2 f2, (Instr.mapUpdate 80 (.map (some bm)) (.string kk.p.name) v').run Tryz.prog w1 = .ok () w2 ∧ PStG w2 base g (PoolO g vr vp bm f2) S T kind reps ks (ks ++ [kk]) vr vp bm f2 ∧ TurnedP O w w2 ∧ ∀ k, PoolO g vr vp bm f2 k → O k ∨ w.heap.size ≤ k := by
  have hat' : v'.ownBlock = (f kk.p.name).ownBlock ∨ ∃ k, v'.ownBlock = some k ∧ w.heap.size ≤ k := hat.imp id fun e => ⟨_, e, Nat.le_refl _⟩
  obtain ⟨w2, hrun, hg2, hM⟩ := h.map.put Tryz.underlying80 hsz hn hg hown hat'
  have htM : TurnedP (MapO bm f) w w2 := ((TurnedP.refl _ w).grown hg fun k _ e => .inr ⟨_, e⟩).grown hg2 fun k _ e => by injection e with e; exact .inl e.symm
  have hsS : StayS S w w2 := fun b hb hl => htM.block b hl fun hm => by
    obtain ⟨cs, hc⟩ := h.clean b hb
    exact h.map.kind hc (by decide) hm
  have hsT : StayS T w w2 := fun b hb hl => htM.block b hl fun hm => by
    obtain ⟨cs, hc⟩ := h.cleanT b hb
    exact h.map.kind hc (by decide) hm
  have e1 : (fun s => (idxF s 0 (ks ++ [kk])).length) = fun x => if x = kk.p.name then (idxF kk.p.name 0 ks).length + 1 else (idxF x 0 ks).length := by
    funext x
    rw [idxF_snoc]
    by_cases hx : x = kk.p.name
    · subst hx; simp
    · rw [if_neg (fun e => hx e.symm), if_neg hx, List.append_nil]
  have e2 : (fun s => numV (idxF s 0 (ks ++ [kk]))) = fun x => if x = kk.p.name then numV (idxF kk.p.name 0 ks) ++ [.int .i64 (ks.length : Int)] else numV (idxF x 0 ks) := by
    funext x
    rw [idxF_snoc]
    by_cases hx : x = kk.p.name
    · subst hx; simp [numV]
    · rw [if_neg (fun e => hx e.symm), if_neg hx, List.append_nil]
  have e3 : (ks ++ [kk]).length = ks.length + 1 := by simp
  refine ⟨w2, _, hrun, ⟨h.blk.turnedP htM (h.map.kind h.blk (by decide)), own_turnedP h.repo htM fun k hk => h.map.kinds h.repo (by decide) hk, own_turnedP h.pack htM fun k hk => h.map.kinds h.pack (by decide) hk,
    fun k hk => (h.lays k hk).stay (fun _ h => h) (fun _ h => h) hsS hsT, h.clean.stay hsS, h.cleanT.stay hsT, by rw [e1, e2, e3]; exact hM, h.gfar, fun k => Iff.rfl⟩, htM.more fun k _ hk => (h.mine k).2 (.inr (.inr (.inr hk))), fun k hk => ?_⟩
  rcases hk with hk | hk | hk | hk
  · exact .inl ((h.mine k).2 (.inl hk))
  · exact .inl ((h.mine k).2 (.inr (.inl hk)))
  · exact .inl ((h.mine k).2 (.inr (.inr (.inl hk))))
  · rcases hk with hk | ⟨s, hs⟩
    · exact .inl ((h.mine k).2 (.inr (.inr (.inr (.inl hk)))))
    · simp only at hs
      by_cases hx : s = kk.p.name
      · rw [if_pos hx] at hs
        rcases hat with e | e
        · rw [hs] at e
          exact .inl ((h.mine k).2 (.inr (.inr (.inr (.inr ⟨_, e.symm⟩)))))
        · rw [hs] at e
          injection e with e
          exact .inr (by omega)
      · rw [if_neg hx] at hs
        exact .inl ((h.mine k).2 (.inr (.inr (.inr (.inr ⟨_, hs⟩)))))
/-- .. and is put behind the others. -/
theorem PStG.keep {kk : Kep} (h : PStG w base g O S T kind reps ks (ks ++ [kk]) vr vp bm f) {S3 T3 : Nat → Prop} (hP : PkgAt w S3 T3 kk.p kk.ss kk.fs) (hC : CleanS w S3) (hT : CleanT w T3) {w1 : World} {vp' : Value}
    (hg : w.grownBy w1 vp.ownBlock) (hown : w1.ownsRow base 86 13 vp' (ks.length + 1) (cells13 ks ++ (rowK kk.p kk.ss kk.fs (kk.rep : Int)).toList)) (hat : vp'.ownBlock = vp.ownBlock ∨ vp'.ownBlock = some w.heap.size) :
    PSt (w1.setCell ⟨g, 2, none⟩ vp') base g (PoolO g vr vp' bm f) (fun b => S b ∨ S3 b) (fun b => T b ∨ T3 b) kind reps (ks ++ [kk]) vr vp' bm f ∧ TurnedP O w (w1.setCell ⟨g, 2, none⟩ vp') ∧ ∀ k, PoolO g vr vp' bm f k → O k ∨ w.heap.size ≤ k := by
  have htQ : TurnedP (fun k => k = g ∨ vp.ownBlock = some k) w (w1.setCell ⟨g, 2, none⟩ vp') := ((TurnedP.refl _ w).grown hg fun k _ e => .inr e).setCell (fun _ => .inl rfl) _
  have hgO : O g := (h.mine g).2 (.inl rfl)
  have ht1 : TurnedP (fun k => vp.ownBlock = some k) w w1 := (TurnedP.refl _ w).grown hg fun k _ e => e
  have hst : ∀ U : Nat → Prop, (∀ b, U b → ∃ t cs, Blk w b t cs ∧ t ≠ 83 ∧ t ≠ 86) → StayS U w (w1.setCell ⟨g, 2, none⟩ vp') := fun U hU b hb hl => htQ.block b hl fun hm => by
    obtain ⟨t, cs, hc, n1, n2⟩ := hU b hb
    rcases hm with rfl | hm
    · exact Blk.kind hc h.blk n1 rfl
    · exact own_kind h.pack hc (Ne.symm n2) hm
  have hS1 := hst S fun b hb => by obtain ⟨cs, hc⟩ := h.clean b hb; exact ⟨_, cs, hc, by decide, by decide⟩
  have hT1 := hst T fun b hb => by obtain ⟨cs, hc⟩ := h.cleanT b hb; exact ⟨_, cs, hc, by decide, by decide⟩
  have hS3 := hst S3 fun b hb => by obtain ⟨cs, hc⟩ := hC b hb; exact ⟨_, cs, hc, by decide, by decide⟩
  have hT3 := hst T3 fun b hb => by obtain ⟨cs, hc⟩ := hT b hb; exact ⟨_, cs, hc, by decide, by decide⟩
  have hb1 : Blk w1 g 83 #[.int .i64 kind, vr, vp, .map (some bm)] := h.blk.turnedP ht1 (own_kind h.pack h.blk (by decide))
  have hvp : vp'.ownBlock ≠ some g := fun e => by
    rcases hat with h1 | h1
    · rw [e] at h1; exact own_kind h.pack h.blk (by decide) h1.symm
    · rw [e] at h1; injection h1 with h1; have := h.blk.lt; omega
  refine ⟨⟨hb1.set_ 2 vp', own_turnedP h.repo htQ fun k hk hm => ?_, ?_, fun k hk => ?_, fun b hb => ?_, fun b hb => ?_, h.map.turned htQ fun k hk hm => ?_, h.gfar, fun k => Iff.rfl⟩, htQ.more fun k _ hk => ?_, fun k hk => ?_⟩
  · rcases hm with rfl | hm
    · exact own_kind h.repo h.blk (by decide) hk
    · exact own_kinds h.repo h.pack (by decide) hk hm
  · rw [cells13_append, List.length_append]
    refine own_setCell (p := ⟨g, 2, none⟩) ?_ hvp _
    have : cells13 [kk] = (rowK kk.p kk.ss kk.fs (kk.rep : Int)).toList := by simp [cells13]
    rw [this]
    exact hown
  · rcases List.mem_append.1 hk with hk | hk
    · exact (h.lays k hk).stay (fun _ h => .inl h) (fun _ h => .inl h) hS1 hT1
    · simp at hk; subst hk
      exact hP.stay (fun _ h => .inr h) (fun _ h => .inr h) hS3 hT3
  · rcases hb with hb | hb
    · exact h.clean.stay hS1 b hb
    · exact hC.stay hS3 b hb
  · rcases hb with hb | hb
    · exact h.cleanT.stay hT1 b hb
    · exact hT.stay hT3 b hb
  · rcases hm with rfl | hm
    · exact h.map.kind h.blk (by decide) hk
    · exact h.map.kinds h.pack (by decide) hm hk
  · rcases hk with rfl | hk
    · exact hgO
    · exact (h.mine k).2 (.inr (.inr (.inl hk)))
  · rcases hk with hk | hk | hk | hk
    · exact .inl ((h.mine k).2 (.inl hk))
    · exact .inl ((h.mine k).2 (.inr (.inl hk)))
    · rcases hat with e | e
      · rw [hk] at e; exact .inl ((h.mine k).2 (.inr (.inr (.inl e.symm))))
      · rw [hk] at e; injection e with e; exact .inr (by omega)
    · exact .inl ((h.mine k).2 (.inr (.inr (.inr hk))))
/-- One repository more is put behind the others. -/
theorem PStG.found (h : PSt w base g O S T kind reps ks vr vp bm f) (r : Rep) {w1 : World} {vr' : Value}
    (hg : w.grownBy w1 vr.ownBlock) (hown : w1.ownsRow base 33 4 vr' (reps.length + 1) (cells4 reps ++ (rowR r).toList)) (hat : vr'.ownBlock = vr.ownBlock ∨ vr'.ownBlock = some w.heap.size) :
    PSt (w1.setCell ⟨g, 1, none⟩ vr') base g (PoolO g vr' vp bm f) S T kind (reps ++ [r]) ks vr' vp bm f ∧ TurnedP O w (w1.setCell ⟨g, 1, none⟩ vr') ∧ ∀ k, PoolO g vr' vp bm f k → O k ∨ w.heap.size ≤ k := by
  have htQ : TurnedP (fun k => k = g ∨ vr.ownBlock = some k) w (w1.setCell ⟨g, 1, none⟩ vr') := ((TurnedP.refl _ w).grown hg fun k _ e => .inr e).setCell (fun _ => .inl rfl) _
  have hgO : O g := (h.mine g).2 (.inl rfl)
  have ht1 : TurnedP (fun k => vr.ownBlock = some k) w w1 := (TurnedP.refl _ w).grown hg fun k _ e => e
  have hst : ∀ U : Nat → Prop, (∀ b, U b → ∃ t cs, Blk w b t cs ∧ t ≠ 83 ∧ t ≠ 33) → StayS U w (w1.setCell ⟨g, 1, none⟩ vr') := fun U hU b hb hl => htQ.block b hl fun hm => by
    obtain ⟨t, cs, hc, n1, n2⟩ := hU b hb
    rcases hm with rfl | hm
    · exact Blk.kind hc h.blk n1 rfl
    · exact own_kind h.repo hc (Ne.symm n2) hm
  have hS1 := hst S fun b hb => by obtain ⟨cs, hc⟩ := h.clean b hb; exact ⟨_, cs, hc, by decide, by decide⟩
  have hT1 := hst T fun b hb => by obtain ⟨cs, hc⟩ := h.cleanT b hb; exact ⟨_, cs, hc, by decide, by decide⟩
  have hb1 : Blk w1 g 83 #[.int .i64 kind, vr, vp, .map (some bm)] := h.blk.turnedP ht1 (own_kind h.repo h.blk (by decide))
  have hvr : vr'.ownBlock ≠ some g := fun e => by
    rcases hat with h1 | h1
    · rw [e] at h1; exact own_kind h.repo h.blk (by decide) h1.symm
    · rw [e] at h1; injection h1 with h1; have := h.blk.lt; omega
  refine ⟨⟨hb1.set_ 1 vr', ?_, own_turnedP h.pack htQ fun k hk hm => ?_, fun k hk => (h.lays k hk).stay (fun _ h => h) (fun _ h => h) hS1 hT1, h.clean.stay hS1, h.cleanT.stay hT1, h.map.turned htQ fun k hk hm => ?_, h.gfar, fun k => Iff.rfl⟩, htQ.more fun k _ hk => ?_, fun k hk => ?_⟩
  · rw [cells4_append, List.length_append]
    refine own_setCell (p := ⟨g, 1, none⟩) ?_ hvr _
    have : cells4 [r] = (rowR r).toList := by simp [cells4, rowR]
    rw [this]
    exact hown
  · rcases hm with rfl | hm
    · exact own_kind h.pack h.blk (by decide) hk
    · exact own_kinds h.pack h.repo (by decide) hk hm
  · rcases hm with rfl | hm
    · exact h.map.kind h.blk (by decide) hk
    · exact h.map.kinds h.repo (by decide) hm hk
  · rcases hk with rfl | hk
    · exact hgO
    · exact (h.mine k).2 (.inr (.inl hk))
  · rcases hk with hk | hk | hk | hk
    · exact .inl ((h.mine k).2 (.inl hk))
    · rcases hat with e | e
      · rw [hk] at e; exact .inl ((h.mine k).2 (.inr (.inl e.symm)))
      · rw [hk] at e; injection e with e; exact .inr (by omega)
    · exact .inl ((h.mine k).2 (.inr (.inr (.inl hk))))
    · exact .inl ((h.mine k).2 (.inr (.inr (.inr hk))))
end

set_option maxHeartbeats 1000000 in
set_option maxRecDepth 100000 in
theorem hasRepo_any (fn : FuncId) (cap : Array Value) (ef : ∀ args w, (callFunc fn args).run Tryz.prog w = .ok (.enter fn args) w) (q : Rep → Bool) {w : World} {base g bm : Nat} {O S T : Nat → Prop} {kind : Int} {reps : List Rep} {ks : List Kep} {vr vp : Value} {f : ByteArray → Value}
    (h : PSt w base g O S T kind reps ks vr vp bm f) (hq : AskRep fn cap q w) :
    Calls Tryz.prog 80 #[.pointer (some ⟨g, 0, none⟩), .func (.func fn) #[] cap] w fun e w' => e = .returned (.bool (reps.any q)) ∧ Below w.heap.size w w' := by
  obtain ⟨A, c, rfl, h1, h2⟩ := own_form' h.repo
  have k1 := h.blk.cell 1
  simp at k1
  have C := Lib.hid (repContains_any fn cap ef q reps A c base w h.repo h2 hq)
  clear h hq h1 h2
  go_enter Tryz.func80, Tryz.ntmps80
  go_wp2_with fail
  refine C.out.mono ?_
  rintro e w1 ⟨rfl, hb⟩
  have HB := Lib.hid hb
  clear hb C
  go_wp2_with fail
  go_ret
  exact ⟨rfl, HB.out⟩
end Go.Proofs.YtpmfmkpfjomgnaaGreatDoor
