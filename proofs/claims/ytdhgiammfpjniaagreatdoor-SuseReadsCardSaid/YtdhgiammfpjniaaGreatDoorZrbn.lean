/- Parts of the proof. -/
import Derived.Test.YtdhgiammfpjniaaGreatDoorZrbk
import Derived.Test.YtdhgiammfpjniaaGreatDoorZrbm
import Derived.Deep.RegionLaw
import Derived.Test.YtdhgiammfpjniaaGreatDoorZraq
namespace Go.Proofs.YtdhgiammfpjniaaGreatDoor
set_option linter.unusedSimpArgs false
set_option linter.unusedVariables false
open Go.RowKit Go.MapKept
section
variable {w0 w w' : World} {B g b1 : Nat} {v : Value} {ys : List Sk5} {x : Sk5} {has : Bool}
theorem LaM.one {x : Sk5} (h : LaM w b1 x) : ∀ u ∈ x.row, u.oneCell' = true := by
 have f : ∀ i, i < 7 → (x.ss i).oneCell' = true := fun i hi => by
  obtain ⟨A, c, e, _⟩ := aaQc (h.own i hi)
  rw [e]; rfl
 have ff : x.fs.oneCell' = true := by
  obtain ⟨A, c, e, _⟩ := aaQc h.fil
  rw [e]; rfl
 intro u hu
 simp only [Sk5.row, rowK, List.mem_cons, List.not_mem_nil, or_false] at hu
 rcases hu with rfl | rfl | rfl | rfl | rfl | rfl | rfl | rfl | rfl | rfl | rfl | rfl
 ·rfl
 ·rfl
 ·rfl
 ·rfl
 ·exact f 0 (by omega)
 ·exact f 1 (by omega)
 ·exact f 2 (by omega)
 ·exact f 3 (by omega)
 ·exact f 4 (by omega)
 ·exact f 5 (by omega)
 ·exact f 6 (by omega)
 ·exact ff
set_option maxHeartbeats 1000000 in
set_option maxRecDepth 100000 in
theorem aiQ1 (h : RfM w0 w B g b1 v ys x false) : Calls Tryz.prog 39 #[.pointer (some ⟨g, 0, none⟩)] w fun e w' => e = .returned (.int .i64 0) ∧ Below w.heap.size w w' := by
 have r13 := Blk.cell h.rd 13
 simp [rdC] at r13
 clear h
 go_enter Tryz.func39, Tryz.ntmps39
 go_wp2_with fail
 go_ret
 exact ⟨rfl, Below.refl _ _⟩
def WholeR (w0 w : World) (B g : Nat) (ys : List Sk5) (x : Sk5) (n : Int) (e : Ending) (w' : World) : Prop := e = .returned (.int .i64 n) ∧ Turned [g] w0 w' ∧ (n = 0 → ∃ v', RfA w0 w' B g v' (ys ++ [x]) x true)
def RcB (g : Nat) (v : Value) (x : Sk5) (w : World) : Prop := w.cell? ⟨g, 0, none⟩ = some v ∧ w.cell? ⟨g, 1, none⟩ = some (.string (mkS (x.S.T 0))) ∧ w.cell? ⟨g, 2, none⟩ = some (.string (mkS (x.S.T 1))) ∧ w.cell? ⟨g, 3, none⟩ = some (.string (mkS (x.S.T 2))) ∧ w.cell? ⟨g, 4, none⟩ = some (.string (mkS (x.S.T 3))) ∧ w.cell? ⟨g, 5, none⟩ = some (x.ss 0) ∧ w.cell? ⟨g, 6, none⟩ = some (x.ss 1) ∧ w.cell? ⟨g, 7, none⟩ = some (x.ss 2) ∧ w.cell? ⟨g, 8, none⟩ = some (x.ss 3) ∧ w.cell? ⟨g, 9, none⟩ = some (x.ss 4) ∧ w.cell? ⟨g, 10, none⟩ = some (x.ss 5) ∧ w.cell? ⟨g, 11, none⟩ = some (x.ss 6) ∧ w.cell? ⟨g, 12, none⟩ = some (x.fs)
theorem RfM.rcb (h : RfM w0 w B g b1 v ys x has) : RcB g v x w := by
 have r0 := Blk.cell h.rd 0
 have r1 := Blk.cell h.rd 1
 have r2 := Blk.cell h.rd 2
 have r3 := Blk.cell h.rd 3
 have r4 := Blk.cell h.rd 4
 have r5 := Blk.cell h.rd 5
 have r6 := Blk.cell h.rd 6
 have r7 := Blk.cell h.rd 7
 have r8 := Blk.cell h.rd 8
 have r9 := Blk.cell h.rd 9
 have r10 := Blk.cell h.rd 10
 have r11 := Blk.cell h.rd 11
 have r12 := Blk.cell h.rd 12
 simp [rdC] at r0 r1 r2 r3 r4 r5 r6 r7 r8 r9 r10 r11 r12
 exact ⟨r0, r1, r2, r3, r4, r5, r6, r7, r8, r9, r10, r11, r12⟩
set_option maxHeartbeats 8000000 in
set_option maxRecDepth 1000000 in
theorem akQe (h : RfM w0 w B g b1 v ys x true) (hn : GoodR x.S) (hxl : ys.length ≤ 100000) : Calls Tryz.prog 39 #[.pointer (some ⟨g, 0, none⟩)] w (WholeR w0 w B g ys x (chkS x.S)) := by
 obtain ⟨i, z, hi, hz0, hz1, hz2, hz3⟩ := anQz
 have HI := hQQ hi
 have C0 := hQQ (h.last.old.refCheck hn)
 have H := hQQ h
 obtain ⟨A, c, rfl, hc1, hc2⟩ := aaQc h.row
 obtain ⟨r0, r1, r2, r3, r4, r5, r6, r7, r8, r9, r10, r11, r12⟩ := h.rcb
 have r13 := Blk.cell h.rd 13
 simp [rdC] at r13
 clear h hi hn
 generalize chkS x.S = n at *
 unfold Sk5.row rowK at C0
 go_enter Tryz.func39, Tryz.ntmps39
 go_wp2_with fail
 refine C0.out.mono ?_
 rintro e w2 ⟨rfl, hb2⟩
 have HB2 : Hid (Below w.heap.size w w2) := hb2
 have H2 := hQQ (H.out.below HB2.out)
 clear hb2 C0
 clear r0 r1 r2 r3 r4 r5 r6 r7 r8 r9 r10 r11 r12 r13
 by_cases h0 : n = 0
 rotate_left
 ·have hne : (n != 0) = true := by simp [h0]
  have H0 := hQQ h0
  clear h0
  go_wp2_with fail
  go_ret
  exact ⟨rfl, H2.out.bel, fun h => absurd h H0.out⟩
 subst h0
 have HD := hQQ (H2.out.below (Below.refl w2.heap.size w2).drew)
 go_upto_region 6 with fail
 refine aaQu (TillP 13 (RcB g (.slice A ys.length c) x)) (by kernel_rfl) (fun _ => HD.out.rcb) (fun hS => ?_)
 try simp only [sx, Act.put]
 refine aaQa (i := 0) (RcB g (.slice A ys.length c) x) (v := (.pointer (some ⟨g, 0, none⟩))) rfl (by kernel_rfl) (by kernel_rfl) (by kernel_rfl) (fun _ _ _ h => h) (fun l w hw hS => hS (hw 13 (by kernel_rfl))) (TillP.io (by decide)) (by kernel_rfl) hS (fun w' hSw => ?_) (by rfl) ?_
 ·obtain ⟨s, s0, s1, s2, s3, s4, s5, s6, s7, s8, s9, s10, s11⟩ := hSw
  go_simp
 clear hS
 intro hS
 try simp only [sx, Act.put]
 refine aaQa (i := 1) (RcB g (.slice A ys.length c) x) (v := (.pointer (some ⟨g, 0, none⟩))) rfl (by kernel_rfl) (by kernel_rfl) (by kernel_rfl) (fun _ _ _ h => h) (fun l w hw hS => hS (hw 13 (by kernel_rfl))) (TillP.io (by decide)) (by kernel_rfl) hS (fun w' hSw => ?_) (by rfl) ?_
 ·obtain ⟨s, s0, s1, s2, s3, s4, s5, s6, s7, s8, s9, s10, s11⟩ := hSw
  go_simp
 clear hS
 intro hS
 try simp only [sx, Act.put]
 refine aaQa (i := 2) (RcB g (.slice A ys.length c) x) (v := (.pointer (some ⟨g, 0, none⟩))) rfl (by kernel_rfl) (by kernel_rfl) (by kernel_rfl) (fun _ _ _ h => h) (fun l w hw hS => hS (hw 13 (by kernel_rfl))) (TillP.io (by decide)) (by kernel_rfl) hS (fun w' hSw => ?_) (by rfl) ?_
 ·obtain ⟨s, s0, s1, s2, s3, s4, s5, s6, s7, s8, s9, s10, s11⟩ := hSw
  go_simp
 clear hS
 intro hS
 try simp only [sx, Act.put]
 refine aaQa (i := 3) (RcB g (.slice A ys.length c) x) (v := (.pointer (some ⟨g, 0, none⟩))) rfl (by kernel_rfl) (by kernel_rfl) (by kernel_rfl) (fun _ _ _ h => h) (fun l w hw hS => hS (hw 13 (by kernel_rfl))) (TillP.io (by decide)) (by kernel_rfl) hS (fun w' hSw => ?_) (by rfl) ?_
 ·obtain ⟨s, s0, s1, s2, s3, s4, s5, s6, s7, s8, s9, s10, s11⟩ := hSw
  go_simp
 clear hS
 intro hS
 try simp only [sx, Act.put]
 refine aaQa (i := 4) (RcB g (.slice A ys.length c) x) (v := (.slice A ys.length c)) rfl (by kernel_rfl) (by kernel_rfl) (by kernel_rfl) (fun _ _ _ h => h) (fun l w hw hS => hS (hw 13 (by kernel_rfl))) (TillP.io (by decide)) (by kernel_rfl) hS (fun w' hSw => ?_) (by rfl) ?_
 ·obtain ⟨s, s0, s1, s2, s3, s4, s5, s6, s7, s8, s9, s10, s11⟩ := hSw
  go_simp
 clear hS
 intro hS
 try simp only [sx, Act.put]
 refine aaQa (i := 5) (RcB g (.slice A ys.length c) x) (v := (.pointer (some ⟨g, 0, none⟩))) rfl (by kernel_rfl) (by kernel_rfl) (by kernel_rfl) (fun _ _ _ h => h) (fun l w hw hS => hS (hw 13 (by kernel_rfl))) (TillP.io (by decide)) (by kernel_rfl) hS (fun w' hSw => ?_) (by rfl) ?_
 ·obtain ⟨s, s0, s1, s2, s3, s4, s5, s6, s7, s8, s9, s10, s11⟩ := hSw
  go_simp
 clear hS
 intro hS
 try simp only [sx, Act.put]
 refine aaQa (i := 6) (RcB g (.slice A ys.length c) x) (v := (.pointer (some ⟨g, 0, none⟩))) rfl (by kernel_rfl) (by kernel_rfl) (by kernel_rfl) (fun _ _ _ h => h) (fun l w hw hS => hS (hw 13 (by kernel_rfl))) (TillP.io (by decide)) (by kernel_rfl) hS (fun w' hSw => ?_) (by rfl) ?_
 ·obtain ⟨s, s0, s1, s2, s3, s4, s5, s6, s7, s8, s9, s10, s11⟩ := hSw
  go_simp
 clear hS
 intro hS
 try simp only [sx, Act.put]
 refine aaQa (i := 7) (RcB g (.slice A ys.length c) x) (v := (.pointer (some ⟨g, 1, none⟩))) rfl (by kernel_rfl) (by kernel_rfl) (by kernel_rfl) (fun _ _ _ h => h) (fun l w hw hS => hS (hw 13 (by kernel_rfl))) (TillP.io (by decide)) (by kernel_rfl) hS (fun w' hSw => ?_) (by rfl) ?_
 ·obtain ⟨s, s0, s1, s2, s3, s4, s5, s6, s7, s8, s9, s10, s11⟩ := hSw
  go_simp
 clear hS
 intro hS
 try simp only [sx, Act.put]
 refine aaQa (i := 8) (RcB g (.slice A ys.length c) x) (v := (.agg #[.string (mkS (x.S.T 0)), .string (mkS (x.S.T 1)), .string (mkS (x.S.T 2)), .string (mkS (x.S.T 3)), x.ss 0, x.ss 1, x.ss 2, x.ss 3, x.ss 4, x.ss 5, x.ss 6, x.fs])) rfl (by kernel_rfl) (by kernel_rfl) (by kernel_rfl) (fun _ _ _ h => h) (fun l w hw hS => hS (hw 13 (by kernel_rfl))) (TillP.io (by decide)) (by kernel_rfl) hS (fun w' hSw => ?_) (by rfl) ?_
 ·obtain ⟨s, s0, s1, s2, s3, s4, s5, s6, s7, s8, s9, s10, s11⟩ := hSw
  go_simp
 clear hS
 intro hS
 try simp only [sx, Act.put]
 refine aaQb (i := 9) (by kernel_rfl) rfl (fun K hK => ?_)
 go_simp
 have HBG : Hid (Below w2.heap.size w2 (w2.drew.alloc (.cells #[.string (mkS (x.S.T 0)), .string (mkS (x.S.T 1)), .string (mkS (x.S.T 2)), .string (mkS (x.S.T 3)), x.ss 0, x.ss 1, x.ss 2, x.ss 3, x.ss 4, x.ss 5, x.ss 6, x.fs] 37))) := (Below.refl w2.heap.size w2).drew.alloc (Nat.le_refl _) _
 have HAG := hQQ (H2.out.below HBG.out)
 refine hK.out _ _ (fun _ => HAG.out.rcb) ?_
 clear hS hK
 intro hS
 try simp only [sx, Act.put]
 refine aaQb (i := 10) (by kernel_rfl) rfl (fun K hK => ?_)
 have HCN : Hid (∀ (j : Nat) u, x.row[j]? = some u → (w2.drew.alloc (.cells #[.string (mkS (x.S.T 0)), .string (mkS (x.S.T 1)), .string (mkS (x.S.T 2)), .string (mkS (x.S.T 3)), x.ss 0, x.ss 1, x.ss 2, x.ss 3, x.ss 4, x.ss 5, x.ss 6, x.fs] 37)).cell? ((⟨w2.heap.size, 0, none⟩ : Addr).add j) = some u) := fun j u hj => abQ8 (Blk.new w2.drew 37 #[.string (mkS (x.S.T 0)), .string (mkS (x.S.T 1)), .string (mkS (x.S.T 2)), .string (mkS (x.S.T 3)), x.ss 0, x.ss 1, x.ss 2, x.ss 3, x.ss 4, x.ss 5, x.ss 6, x.fs]) rfl j u hj
 have hszG : B ≤ (w2.drew.alloc (.cells #[.string (mkS (x.S.T 0)), .string (mkS (x.S.T 1)), .string (mkS (x.S.T 2)), .string (mkS (x.S.T 3)), x.ss 0, x.ss 1, x.ss 2, x.ss 3, x.ss 4, x.ss 5, x.ss 6, x.fs] 37)).heap.size := Nat.le_trans HAG.out.le.2.1 HAG.out.le.2.2
 refine aaQo rfl (.tmp 21) (.tmp 26) 23 rfl B 37 i z 12 256 Tryz.underlying23 HI.out hz0 hz2 hz3 hz1 (by decide) (.slice A ys.length c) ys.length (rowsK ys) (by simp [Act.eval, Act.put]) HAG.out.row ⟨w2.heap.size, 0, none⟩ 1 1 x.row (by simp [Act.eval, Act.put]) rfl HCN.out HAG.out.last.one (by unfold maxLen; omega) (by omega) hszG ?_
 intro v9 w9 hown9 hg9 hat9
 have HPU := hQQ (HAG.out.push hown9 hg9)
 have hT9 := aaQi hg9
 have hgR : g ∉ (Value.slice A ys.length c).ownBlock.toList := fun hm => by obtain ⟨cs', hb⟩ := own_blk HAG.out.row (by simpa using hm); exact Blk.kind hb HAG.out.rd (by decide) rfl
 have R9 := hQQ (HAG.out.rd.turned hT9 hgR)
 have c9 := R9.out.cell 0
 simp [rdC] at c9
 have f9 := R9.out.free 0
 have HR9 : Hid ((RcB g (.slice A ys.length c) x) w9) := by
  have q1 := Blk.cell R9.out 1
  have q2 := Blk.cell R9.out 2
  have q3 := Blk.cell R9.out 3
  have q4 := Blk.cell R9.out 4
  have q5 := Blk.cell R9.out 5
  have q6 := Blk.cell R9.out 6
  have q7 := Blk.cell R9.out 7
  have q8 := Blk.cell R9.out 8
  have q9 := Blk.cell R9.out 9
  have q10 := Blk.cell R9.out 10
  have q11 := Blk.cell R9.out 11
  have q12 := Blk.cell R9.out 12
  simp [rdC] at q1 q2 q3 q4 q5 q6 q7 q8 q9 q10 q11 q12
  exact ⟨c9, q1, q2, q3, q4, q5, q6, q7, q8, q9, q10, q11, q12⟩
 have HV9 := hQQ (aaQc hown9)
 obtain ⟨A9, cc9, rfl, hn9, hm9⟩ := aaQc hown9
 clear hown9 hg9 hat9 hT9 hgR
 refine hK.out _ _ (fun _ => HR9.out) ?_
 clear hS hK
 intro hS
 try simp only [sx, Act.put]
 refine aaQa (i := 11) (fun w' => True) (v := (.pointer (some ⟨g, 0, none⟩))) rfl (by kernel_rfl) (by kernel_rfl) (by kernel_rfl) (fun _ _ _ h => h) (fun _ _ _ _ => trivial) (TillP.io (by decide)) (by kernel_rfl) hS (fun w' hSw => ?_) (by rfl) ?_
 ·go_simp
 clear hS
 intro hS
 try simp only [sx, Act.put]
 refine aaQa (i := 12) (fun w' => True) (v := (.pointer (some ⟨g, 0, none⟩))) rfl (by kernel_rfl) (by kernel_rfl) (by kernel_rfl) (fun _ _ _ h => h) (fun _ _ _ _ => trivial) (TillP.io (by decide)) (by kernel_rfl) hS (fun w' hSw => ?_) (by rfl) ?_
 ·go_simp
 clear hS
 intro hS
 try simp only [sx, Act.put]
 refine aaQb (i := 13) (by kernel_rfl) rfl (fun K hK => ?_)
 go_simp
 refine hK.out _ _ (fun h => by simp at h) ?_
 clear hS hK
 intro hS
 refine aaQh (by kernel_rfl) ?_ _
 try simp only [sx, Act.put]
 clear HR9 R9 HAG HCN HD
 go_wp2_with fail
 go_ret
 exact ⟨rfl, HPU.out.bel, fun _ => ⟨_, HPU.out⟩⟩
end
section
variable {w0 w w' : World} {B g b1 : Nat} {ys xs : List Sk5} {x : Sk5} {has : Bool} {v : Value}
theorem RfA.new {a b d : Bs} (h : RfA w0 w B g v xs x has) (ht : Turned [g] w w') (hr : Blk w' g 71 (rdC v (newX a b d) true)) : RfM w0 w' B g w.heap.size v xs (newX a b d) true := by
 refine ⟨hr, aaQf h.row ht (fun k hk hm => ?_), fun y hy => (h.old y hy).turned ht (fun k hk => .inr ?_), ?_, ⟨h.le.1, h.le.2, ht.size⟩, h.bel.trans ht (Fresh.refl _ _)⟩
 ·obtain ⟨cs', hb⟩ := own_blk h.row hk
  rw [List.mem_singleton.1 hm] at hb
  exact Blk.kind hb h.rd (by decide) rfl
 ·rw [List.mem_singleton.1 hk]
  exact NoRow.of h.rd (by decide) (by decide)
 ·refine ⟨fun i hi => World.ownsRow_nil _ _ _ _, fun i hi => rfl, fun i hi y hy => (by cases hy), fun i hi b hb => (by cases hb), fun i j _ _ _ k hk => (by cases hk), fun b hb => (by cases hb), World.ownsRow_nil _ _ _ _⟩
theorem RfA.rcb (h : RfA w0 w B g v xs x has) : RcB g v x w := by
 have r0 := Blk.cell h.rd 0
 have r1 := Blk.cell h.rd 1
 have r2 := Blk.cell h.rd 2
 have r3 := Blk.cell h.rd 3
 have r4 := Blk.cell h.rd 4
 have r5 := Blk.cell h.rd 5
 have r6 := Blk.cell h.rd 6
 have r7 := Blk.cell h.rd 7
 have r8 := Blk.cell h.rd 8
 have r9 := Blk.cell h.rd 9
 have r10 := Blk.cell h.rd 10
 have r11 := Blk.cell h.rd 11
 have r12 := Blk.cell h.rd 12
 simp [rdC] at r0 r1 r2 r3 r4 r5 r6 r7 r8 r9 r10 r11 r12
 exact ⟨r0, r1, r2, r3, r4, r5, r6, r7, r8, r9, r10, r11, r12⟩
theorem refSet12 {w : World} {g : Nat} {z0 z1 z2 z3 z4 z5 z6 z7 z8 z9 z10 z11 z12 z13 : Value} (h : Blk w g 71 #[z0, z1, z2, z3, z4, z5, z6, z7, z8, z9, z10, z11, z12, z13]) (a1 a2 a3 a4 a5 a6 a7 a8 a9 a10 a11 a12 : Value) : Blk ((((((((((((w.setCell ⟨g, 1, none⟩ a1).setCell ⟨g, 2, none⟩ a2).setCell ⟨g, 3, none⟩ a3).setCell ⟨g, 4, none⟩ a4).setCell ⟨g, 5, none⟩ a5).setCell ⟨g, 6, none⟩ a6).setCell ⟨g, 7, none⟩ a7).setCell ⟨g, 8, none⟩ a8).setCell ⟨g, 9, none⟩ a9).setCell ⟨g, 10, none⟩ a10).setCell ⟨g, 11, none⟩ a11).setCell ⟨g, 12, none⟩ a12) g 71 #[z0, a1, a2, a3, a4, a5, a6, a7, a8, a9, a10, a11, a12, z13] := by
 have h1 : Blk (w.setCell ⟨g, 1, none⟩ a1) g 71 #[z0, a1, z2, z3, z4, z5, z6, z7, z8, z9, z10, z11, z12, z13] := by
  have := h.set_ 1 a1
  simpa using this
 have h2 : Blk ((w.setCell ⟨g, 1, none⟩ a1).setCell ⟨g, 2, none⟩ a2) g 71 #[z0, a1, a2, z3, z4, z5, z6, z7, z8, z9, z10, z11, z12, z13] := by
  have := h1.set_ 2 a2
  simpa using this
 have h3 : Blk (((w.setCell ⟨g, 1, none⟩ a1).setCell ⟨g, 2, none⟩ a2).setCell ⟨g, 3, none⟩ a3) g 71 #[z0, a1, a2, a3, z4, z5, z6, z7, z8, z9, z10, z11, z12, z13] := by
  have := h2.set_ 3 a3
  simpa using this
 have h4 : Blk ((((w.setCell ⟨g, 1, none⟩ a1).setCell ⟨g, 2, none⟩ a2).setCell ⟨g, 3, none⟩ a3).setCell ⟨g, 4, none⟩ a4) g 71 #[z0, a1, a2, a3, a4, z5, z6, z7, z8, z9, z10, z11, z12, z13] := by
  have := h3.set_ 4 a4
  simpa using this
 have h5 : Blk (((((w.setCell ⟨g, 1, none⟩ a1).setCell ⟨g, 2, none⟩ a2).setCell ⟨g, 3, none⟩ a3).setCell ⟨g, 4, none⟩ a4).setCell ⟨g, 5, none⟩ a5) g 71 #[z0, a1, a2, a3, a4, a5, z6, z7, z8, z9, z10, z11, z12, z13] := by
  have := h4.set_ 5 a5
  simpa using this
 have h6 : Blk ((((((w.setCell ⟨g, 1, none⟩ a1).setCell ⟨g, 2, none⟩ a2).setCell ⟨g, 3, none⟩ a3).setCell ⟨g, 4, none⟩ a4).setCell ⟨g, 5, none⟩ a5).setCell ⟨g, 6, none⟩ a6) g 71 #[z0, a1, a2, a3, a4, a5, a6, z7, z8, z9, z10, z11, z12, z13] := by
  have := h5.set_ 6 a6
  simpa using this
 have h7 : Blk (((((((w.setCell ⟨g, 1, none⟩ a1).setCell ⟨g, 2, none⟩ a2).setCell ⟨g, 3, none⟩ a3).setCell ⟨g, 4, none⟩ a4).setCell ⟨g, 5, none⟩ a5).setCell ⟨g, 6, none⟩ a6).setCell ⟨g, 7, none⟩ a7) g 71 #[z0, a1, a2, a3, a4, a5, a6, a7, z8, z9, z10, z11, z12, z13] := by
  have := h6.set_ 7 a7
  simpa using this
 have h8 : Blk ((((((((w.setCell ⟨g, 1, none⟩ a1).setCell ⟨g, 2, none⟩ a2).setCell ⟨g, 3, none⟩ a3).setCell ⟨g, 4, none⟩ a4).setCell ⟨g, 5, none⟩ a5).setCell ⟨g, 6, none⟩ a6).setCell ⟨g, 7, none⟩ a7).setCell ⟨g, 8, none⟩ a8) g 71 #[z0, a1, a2, a3, a4, a5, a6, a7, a8, z9, z10, z11, z12, z13] := by
  have := h7.set_ 8 a8
  simpa using this
 have h9 : Blk (((((((((w.setCell ⟨g, 1, none⟩ a1).setCell ⟨g, 2, none⟩ a2).setCell ⟨g, 3, none⟩ a3).setCell ⟨g, 4, none⟩ a4).setCell ⟨g, 5, none⟩ a5).setCell ⟨g, 6, none⟩ a6).setCell ⟨g, 7, none⟩ a7).setCell ⟨g, 8, none⟩ a8).setCell ⟨g, 9, none⟩ a9) g 71 #[z0, a1, a2, a3, a4, a5, a6, a7, a8, a9, z10, z11, z12, z13] := by
  have := h8.set_ 9 a9
  simpa using this
 have h10 : Blk ((((((((((w.setCell ⟨g, 1, none⟩ a1).setCell ⟨g, 2, none⟩ a2).setCell ⟨g, 3, none⟩ a3).setCell ⟨g, 4, none⟩ a4).setCell ⟨g, 5, none⟩ a5).setCell ⟨g, 6, none⟩ a6).setCell ⟨g, 7, none⟩ a7).setCell ⟨g, 8, none⟩ a8).setCell ⟨g, 9, none⟩ a9).setCell ⟨g, 10, none⟩ a10) g 71 #[z0, a1, a2, a3, a4, a5, a6, a7, a8, a9, a10, z11, z12, z13] := by
  have := h9.set_ 10 a10
  simpa using this
 have h11 : Blk (((((((((((w.setCell ⟨g, 1, none⟩ a1).setCell ⟨g, 2, none⟩ a2).setCell ⟨g, 3, none⟩ a3).setCell ⟨g, 4, none⟩ a4).setCell ⟨g, 5, none⟩ a5).setCell ⟨g, 6, none⟩ a6).setCell ⟨g, 7, none⟩ a7).setCell ⟨g, 8, none⟩ a8).setCell ⟨g, 9, none⟩ a9).setCell ⟨g, 10, none⟩ a10).setCell ⟨g, 11, none⟩ a11) g 71 #[z0, a1, a2, a3, a4, a5, a6, a7, a8, a9, a10, a11, z12, z13] := by
  have := h10.set_ 11 a11
  simpa using this
 have h12 : Blk ((((((((((((w.setCell ⟨g, 1, none⟩ a1).setCell ⟨g, 2, none⟩ a2).setCell ⟨g, 3, none⟩ a3).setCell ⟨g, 4, none⟩ a4).setCell ⟨g, 5, none⟩ a5).setCell ⟨g, 6, none⟩ a6).setCell ⟨g, 7, none⟩ a7).setCell ⟨g, 8, none⟩ a8).setCell ⟨g, 9, none⟩ a9).setCell ⟨g, 10, none⟩ a10).setCell ⟨g, 11, none⟩ a11).setCell ⟨g, 12, none⟩ a12) g 71 #[z0, a1, a2, a3, a4, a5, a6, a7, a8, a9, a10, a11, a12, z13] := by
  have := h11.set_ 12 a12
  simpa using this
 exact h12
theorem agQt (vv : Bs) : ∀ p ∈ aeQm vv, p.length ≤ vv.length := by
 intro p hp
 rw [← afQm] at hp
 unfold adQw at hp
 obtain ⟨y, hy, rfl⟩ := List.mem_map.1 hp
 have := ahQn abQ9 (mkS vv) y hy
 rw [aaQg] at this
 rw [aaQd]
 exact this
def PkgR (w0 : World) (B g : Nat) (xs : List Sk5) (X : Except Int (List Sk)) (e : Ending) (w' : World) : Prop := match X with
 | .error n => e = .returned (.int .i64 n) ∧ n ≠ 0 ∧ Turned [g] w0 w'
 | .ok l => e = .returned (.int .i64 0) ∧ ∃ v' a b d b1, l = xs.map Sk5.S ++ [newS a b d] ∧ RfM w0 w' B g b1 v' xs (newX a b d) true
def WholeA (w0 : World) (B g : Nat) (xs : List Sk5) (e : Ending) (w' : World) : Prop := e = .returned (.int .i64 (aaQ4 (xs.map Sk5.S))) ∧ Turned [g] w0 w' ∧ (aaQ4 (xs.map Sk5.S) = 0 → ∃ v' x has, RfA w0 w' B g v' xs x has)
set_option maxHeartbeats 8000000 in
set_option maxRecDepth 1000000 in
theorem aoQw (vv : Bs) (hv : vv.length ≤ 40000) (HC : Calls Tryz.prog 39 #[.pointer (some ⟨g, 0, none⟩)] w (WholeA w0 B g xs)) : Calls Tryz.prog 79 #[.pointer (some ⟨g, 0, none⟩), .string (mkS vv)] w (PkgR w0 B g xs (abQk (xs.map Sk5.S) vv)) := by
 have C1 := hQQ HC
 have CW := hQQ (fun wx => adQ1 vv (by omega) wx)
 have HW : Hid (adQw vv = aeQm vv) := afQm vv
 obtain ⟨X, hX⟩ : ∃ X, X = abQk (xs.map Sk5.S) vv := ⟨_, rfl⟩
 rw [← hX]
 have HX : Hid (X = abQk (xs.map Sk5.S) vv) := hX
 clear HC hX
 go_enter Tryz.func79, Tryz.ntmps79
 go_wp2_with fail
 refine C1.out.mono ?_
 rintro e w1 ⟨rfl, hb1, hA1⟩
 have HB1 := hQQ hb1
 have HA1 := hQQ hA1
 clear hb1 hA1 C1
 by_cases h0 : aaQ4 (xs.map Sk5.S) = 0
 rotate_left
 ·have hne : (aaQ4 (xs.map Sk5.S) != 0) = true := by simp [h0]
  have HXe : Hid (X = .error (aaQ4 (xs.map Sk5.S))) := by
   show X = _
   rw [HX.out]
   unfold abQk
   rw [if_pos h0]
  have H0 := hQQ h0
  clear h0 HA1
  generalize aaQ4 (xs.map Sk5.S) = n at *
  go_wp2_with fail
  go_ret
  show PkgR _ _ _ _ X _ _
  rw [HXe.out]
  exact ⟨rfl, H0.out, HB1.out⟩
 have hne : (aaQ4 (xs.map Sk5.S) != 0) = false := by simp [h0]
 have hXb : X = if 200 ≤ xs.length then .error 131 else match headS (adQw vv) with
  | some S => .ok (xs.map Sk5.S ++ [S])
  | none => .error 130 := by
  rw [HX.out]
  unfold abQk
  rw [if_neg (by simp [h0]), List.length_map]
  rfl
 clear HX
 obtain ⟨v1, x1, has1, hA⟩ := HA1.out h0
 have HA := hQQ hA
 rw [h0] at hne
 rw [h0]
 clear h0 HA1
 obtain ⟨A, c, rfl, hc1, hc2⟩ := aaQc hA.row
 have r0 := Blk.cell hA.rd 0
 simp [rdC] at r0
 clear hA
 by_cases h200 : 200 ≤ xs.length
 ·have h2I : (200 : Int) ≤ (xs.length : Int) := by omega
  rw [if_pos h200] at hXb
  have HXe := hQQ hXb
  clear hXb h200
  go_wp2_with fail
  go_ret
  show PkgR _ _ _ _ X _ _
  rw [HXe.out]
  exact ⟨rfl, by decide, HB1.out⟩
 have h2I : ¬ (200 : Int) ≤ (xs.length : Int) := by omega
 rw [if_neg h200, HW.out] at hXb
 have HXb := hQQ hXb
 have hfs := agQt vv
 clear hXb HW
 have CW1 := hQQ (CW.out w1)
 clear CW
 generalize hws2 : aeQm vv = ws at *
 clear hws2
 go_wp2_with fail
 refine CW1.out.mono ?_
 rintro e w2 ⟨vw, rfl, hwo, hb2⟩
 obtain ⟨Aw, cw, rfl, hcw1, hcw2⟩ := aaQc hwo
 have HA2 := hQQ (HA.out.below hb2)
 have HB2 := hQQ (HB1.out.trans (Turned.of_below hb2 [g]) (Fresh.refl _ _))
 have HWO := hQQ hwo
 clear hb2 hwo CW1 r0 HA HB1
 by_cases h4 : ws.length = 4
 rotate_left
 ·have h4I : ¬ ((ws.length : Int) = 4) := by omega
  have h4b : ((ws.length : Int) != 4) = true := by simp; omega
  have HXe : Hid (X = .error 130) := by
   show X = _
   rw [HXb.out]
   have : headS ws = none := by
    match ws, h4 with
    | [], _ => rfl
    | [_], _ => rfl
    | [_, _], _ => rfl
    | [_, _, _], _ => rfl
    | [_, _, _, _], h => exact absurd rfl h
    | _ :: _ :: _ :: _ :: _ :: _, _ => rfl
   rw [this]
  clear HXb h4
  go_wp2_with fail
  go_ret
  show PkgR _ _ _ _ X _ _
  rw [HXe.out]
  exact ⟨rfl, by decide, HB2.out⟩
 obtain ⟨ba, bb, bc, bd, rfl⟩ : ∃ ba bb bc bd, ws = [ba, bb, bc, bd] := by
  match ws, h4 with
  | [ba, bb, bc, bd], _ => exact ⟨ba, bb, bc, bd, rfl⟩
 have lb := hfs bb (by simp)
 have lc := hfs bc (by simp)
 clear hfs
 have HXE : Hid (X = .ok (xs.map Sk5.S ++ [newS ba (if bc = [45] then bb else bb ++ 45 :: bc) bd])) := HXb.out
 obtain ⟨aw, rfl⟩ : ∃ aw, Aw = some ⟨aw, 0, none⟩ := by
  obtain ⟨b, e, hc⟩ := acQ7 HWO.out (k := 0) (u := .string (mkS ba)) rfl
  exact ⟨b, e⟩
 have HQ : Hid (∀ wx R, Turned R w2 wx → aw ∉ R → wx.cell? ⟨aw, 0, none⟩ = some (.string (mkS ba)) ∧ wx.cell? ⟨aw, 1, none⟩ = some (.string (mkS bb)) ∧ wx.cell? ⟨aw, 2, none⟩ = some (.string (mkS bc)) ∧ wx.cell? ⟨aw, 3, none⟩ = some (.string (mkS bd))) := fun wx R hb hn => by
  have h1 := aaQf HWO.out hb (fun k hk hm => by injection hk with hk; exact hn ((show aw = k from hk) ▸ hm))
  have f : ∀ {k : Nat} {u : Value}, ([ba, bb, bc, bd].map fun p => Value.string (mkS p))[k]? = some u → wx.cell? ⟨aw, k, none⟩ = some u := fun {k u} hk => by
   obtain ⟨b, e, hc⟩ := acQ7 h1 hk
   injection e with e
   injection e with e
   subst e
   exact hc
  exact ⟨f rfl, f rfl, f rfl, f rfl⟩
 obtain ⟨q0, q1, q2, q3⟩ := HQ.out w2 [] (Turned.refl _ _) (by simp)
 have hag : aw ≠ g := fun e => by
  obtain ⟨cs', hb⟩ := own_blk HWO.out (k := aw) rfl
  rw [e] at hb
  exact Blk.kind hb HA2.out.rd (by decide) rfl
 have hga : g ≠ aw := fun e => hag e.symm
 have kf := fun i => HA2.out.rd.free i
 obtain ⟨kz0, kz1, kz2, kz3, kz4, kz5, kz6, kz7, kz8, kz9, kz10, kz11, kz12⟩ := HA2.out.rcb
 have kz13 := HA2.out.rd.cell 13
 simp [rdC] at kz13
 have kf13 := kf 13
 have kf1 := kf 1
 have kf2 := kf 2
 have kf3 := kf 3
 have kf4 := kf 4
 have kf5 := kf 5
 have kf6 := kf 6
 have kf7 := kf 7
 have kf8 := kf 8
 have kf9 := kf 9
 have kf10 := kf 10
 have kf11 := kf 11
 have kf12 := kf 12
 clear kf HXb h4 HWO
 simp only [List.length_cons, List.length_nil, Nat.zero_add, Nat.reduceAdd]
 go_upto_region 10 with fail
 obtain ⟨w3, hw3⟩ : ∃ w3, w3 = w2.setCell ⟨g, 13, none⟩ (.bool true) := ⟨_, rfl⟩
 rw [← hw3]
 have HT3 : Hid (Turned [g] w2 w3) := by rw [hw3]; exact (Turned.refl _ _).setCell (.inl (by simp)) _
 have HR3 : Hid (Blk w3 g 71 (rdC (.slice A xs.length c) x1 true)) := by
  rw [hw3]
  exact HA2.out.rd.set_ 13 _
 clear hw3 q0 q1 q2 q3
 clear kz0 kz1 kz2 kz3 kz4 kz5 kz6 kz7 kz8 kz9 kz10 kz11 kz12 kz13 kf1 kf2 kf3 kf4 kf5 kf6 kf7 kf8 kf9 kf10 kf11 kf12 kf13
 obtain ⟨q0, q1, q2, q3⟩ := HQ.out w3 [g] HT3.out (by simp; exact hag)
 have HF3 := hQQ (fun i => HR3.out.free i)
 have k1 := HR3.out.cell 1
 have kf1 := HR3.out.free 1
 have k2 := HR3.out.cell 2
 have kf2 := HR3.out.free 2
 have k3 := HR3.out.cell 3
 have kf3 := HR3.out.free 3
 have k4 := HR3.out.cell 4
 have kf4 := HR3.out.free 4
 have k5 := HR3.out.cell 5
 have kf5 := HR3.out.free 5
 have k6 := HR3.out.cell 6
 have kf6 := HR3.out.free 6
 have k7 := HR3.out.cell 7
 have kf7 := HR3.out.free 7
 have k8 := HR3.out.cell 8
 have kf8 := HR3.out.free 8
 have k9 := HR3.out.cell 9
 have kf9 := HR3.out.free 9
 have k10 := HR3.out.cell 10
 have kf10 := HR3.out.free 10
 have k11 := HR3.out.cell 11
 have kf11 := HR3.out.free 11
 have k12 := HR3.out.cell 12
 have kf12 := HR3.out.free 12
 have k13 := HR3.out.cell 13
 have kf13 := HR3.out.free 13
 simp [rdC] at k1 k2 k3 k4 k5 k6 k7 k8 k9 k10 k11 k12 k13
 go_region
 obtain ⟨w4, hw4⟩ : ∃ w4, w4 = ((((((((((((w3.setCell ⟨g, 1, none⟩ (.string (mkS ba))).setCell ⟨g, 2, none⟩ (.string (mkS bb))).setCell ⟨g, 3, none⟩ (.string (mkS bd))).setCell ⟨g, 4, none⟩ (.string ⟨#[]⟩)).setCell ⟨g, 5, none⟩ (.slice none 0 0)).setCell ⟨g, 6, none⟩ (.slice none 0 0)).setCell ⟨g, 7, none⟩ (.slice none 0 0)).setCell ⟨g, 8, none⟩ (.slice none 0 0)).setCell ⟨g, 9, none⟩ (.slice none 0 0)).setCell ⟨g, 10, none⟩ (.slice none 0 0)).setCell ⟨g, 11, none⟩ (.slice none 0 0)).setCell ⟨g, 12, none⟩ (.slice none 0 0)) := ⟨_, rfl⟩
 rw [← hw4]
 have HR4' : Hid (Blk w4 g 71 (rdC (.slice A xs.length c) (newX ba bb bd) true)) := by
  rw [hw4]
  exact refSet12 HR3.out (.string (mkS ba)) (.string (mkS bb)) (.string (mkS bd)) (.string ⟨#[]⟩) (.slice none 0 0) (.slice none 0 0) (.slice none 0 0) (.slice none 0 0) (.slice none 0 0) (.slice none 0 0) (.slice none 0 0) (.slice none 0 0)
 have HT4' : Hid (Turned [g] w2 w4) := by rw [hw4]; exact ((((((((((((HT3.out.setCell (.inl (by simp)) (.string (mkS ba))).setCell (.inl (by simp)) (.string (mkS bb))).setCell (.inl (by simp)) (.string (mkS bd))).setCell (.inl (by simp)) (.string ⟨#[]⟩)).setCell (.inl (by simp)) (.slice none 0 0)).setCell (.inl (by simp)) (.slice none 0 0)).setCell (.inl (by simp)) (.slice none 0 0)).setCell (.inl (by simp)) (.slice none 0 0)).setCell (.inl (by simp)) (.slice none 0 0)).setCell (.inl (by simp)) (.slice none 0 0)).setCell (.inl (by simp)) (.slice none 0 0)).setCell (.inl (by simp)) (.slice none 0 0))
 clear hw4
 have HT4 : Hid (Turned [g] w2 w4.drew) := HT4'.out.trans (Turned.of_below (Below.refl _ _).drew [g]) (Fresh.refl _ _)
 have HR4 : Hid (Blk w4.drew g 71 (rdC (.slice A xs.length c) (newX ba bb bd) true)) := Blk.mono HR4'.out (Below.refl _ _).drew
 clear HR4' HT4' HF3 HT3 HR3 q0 q1 q2 q3 k1 kf1 k2 kf2 k3 kf3 k4 kf4 k5 kf5 k6 kf6 k7 kf7 k8 kf8 k9 kf9 k10 kf10 k11 kf11 k12 kf12 k13 kf13
 obtain ⟨w5, hw5⟩ : ∃ w5, w5 = w4.drew := ⟨_, rfl⟩
 rw [← hw5] at HT4 HR4 ⊢
 clear hw5
 obtain ⟨q0, q1, q2, q3⟩ := HQ.out w5 [g] HT4.out (by simp; exact hag)
 have k2 := HR4.out.cell 2
 have kf2 := HR4.out.free 2
 simp [rdC] at k2
 by_cases hc : bc = [45]
 ·rw [if_pos hc] at HXE
  have hcb : ((mkS bc).toList == ([45] : List UInt8)) = true := by rw [hc]; decide +kernel
  clear hc
  go_wp2_with fail
  go_ret
  show PkgR _ _ _ _ X _ _
  rw [HXE.out]
  exact ⟨rfl, _, _, _, _, _, rfl, HA2.out.new HT4.out HR4.out⟩
 ·rw [if_neg hc] at HXE
  have hcb : ((mkS bc).toList == ([45] : List UInt8)) = false := by
   rw [ByteArray.toList_eq, aaQn]
   simp
   exact hc
  clear hc
  have e45 : (⟨#[45]⟩ : ByteArray).size = 1 := rfl
  have hz1 : ¬ 9223372036854775807 < (mkS bb).size + 1 := by rw [aaQg]; omega
  have hz2 : ¬ 9223372036854775807 < (mkS bb ++ (⟨#[45]⟩ : ByteArray)).size + (mkS bc).size := by rw [ByteArray.size_append, aaQg, aaQg, e45]; omega
  have hz3 : ¬ 9223372036854775807 < (mkS bb).size + 1 + (mkS bc).size := by rw [aaQg, aaQg]; omega
  go_wp2_with fail
  go_region
  go_wp2_with fail
  go_ret
  show PkgR _ _ _ _ X _ _
  rw [HXE.out]
  have e : mkS bb ++ (⟨#[45]⟩ : ByteArray) ++ mkS bc = mkS (bb ++ 45 :: bc) := by
   refine s_ext ?_
   rw [ByteArray.append_assoc]
   simp [aaQn]
  have hF : Blk (w5.setCell ⟨g, 2, none⟩ (.string (mkS bb ++ (⟨#[45]⟩ : ByteArray) ++ mkS bc))) g 71 (rdC (.slice A xs.length c) (newX ba (bb ++ 45 :: bc) bd) true) := by
   rw [e]
   have := HR4.out.set_ 2 (.string (mkS (bb ++ 45 :: bc)))
   simp [rdC] at this
   exact this
  exact ⟨rfl, _, _, _, _, _, rfl, HA2.out.new (HT4.out.setCell (.inl (by simp)) _).drew (Blk.mono hF (Below.refl _ _).drew)⟩
end
end Go.Proofs.YtdhgiammfpjniaaGreatDoor
