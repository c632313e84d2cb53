/- Parts of the proof. -/
import Derived.Test.YtdhgiammfpjniaaGreatDoorZraz
import Derived.Test.YtdhgiammfpjniaaGreatDoorZrbe
import Derived.Test.YtdhgiammfpjniaaGreatDoorZrad
namespace Go.Proofs.YtdhgiammfpjniaaGreatDoor
set_option linter.unusedSimpArgs false
set_option linter.unusedVariables false
open Go.RowKit Go.MapKept
theorem arQk (i : Nat) (hi : i < 7) : Enters Tryz.prog (dlF i) := by
 match i, hi with
 | 0, _ => exact enters_of Tryz.func146 (by kernel_rfl) rfl
 | 1, _ => exact enters_of Tryz.func147 (by kernel_rfl) rfl
 | 2, _ => exact enters_of Tryz.func148 (by kernel_rfl) rfl
 | 3, _ => exact enters_of Tryz.func149 (by kernel_rfl) rfl
 | 4, _ => exact enters_of Tryz.func150 (by kernel_rfl) rfl
 | 5, _ => exact enters_of Tryz.func151 (by kernel_rfl) rfl
 | 6, _ => exact enters_of Tryz.func152 (by kernel_rfl) rfl
def NewD (w : World) (n0 : Nat) (d : Ev.Dep) (t : Value) : Prop := ∃ G : List Nat, Ev.Lay w (fun b => b ∈ G) d t ∧ ∀ b ∈ G, n0 ≤ b ∧ ∃ cs, Blk w b 39 cs
theorem NewD.of {text : ByteArray} {n0 : Nat} {w : World} {d : Ev.Dep} {t : Value} (h : Ev.Told text n0 w d t) : NewD w n0 d t ∧ Ev.parseD text.data.toList = (some d, 0) := by
 obtain ⟨h1, S, h2, h3, h4, _⟩ := h
 obtain ⟨G, hG⟩ := ahQt (w := w) (S := S) (fun b hb => by obtain ⟨cs, hc⟩ := h3 b hb; exact hc.lt)
 exact ⟨⟨G, h2.stay (fun b hb => (hG b).2 hb) (Ev.StayS.refl _ _), fun b hb => ⟨h4 b ((hG b).1 hb), h3 b ((hG b).1 hb)⟩⟩, h1⟩
theorem NewD.turned {w w' : World} {n0 : Nat} {d : Ev.Dep} {t : Value} {R : List Nat} (h : NewD w n0 d t) (ht : Turned R w w') (hR : ∀ k ∈ R, ∀ cs, ¬ Blk w k 39 cs) : NewD w' n0 d t := by
 obtain ⟨G, h1, h2⟩ := h
 refine ⟨G, Ev.Lay.stay (fun _ h => h) (Ev.StayS.turned ht (fun b hb hm => ?_)) d t h1, fun b hb => ?_⟩
 ·obtain ⟨_, cs, hc⟩ := h2 b hb
  exact hR b hm cs hc
 ·obtain ⟨h3, cs, hc⟩ := h2 b hb
  exact ⟨h3, cs, hc.turned ht (fun hm => hR b hm cs hc)⟩
theorem NewD.form {w : World} {n0 : Nat} {d : Ev.Dep} {t : Value} (h : NewD w n0 d t) : ∃ A c, t = .slice A d.args.length c := by
 obtain ⟨G, h1, _⟩ := h
 rw [Ev.lay_iff] at h1
 obtain ⟨A, c, h2, _⟩ := h1
 exact ⟨A, c, h2⟩
theorem aqQz {l : List UInt8} {n : Int} (h : Ev.parseD l = (none, n)) : n ≠ 0 := by
 unfold Ev.parseD at h
 split at h
 ·injection h with _ h; rw [← h]; decide
 ·split at h
  ·injection h with h _; cases h
  ·next hc => injection h with _ h; rw [← h]; exact hc
def rowQ (d : Ev.Dep) (t : Value) : List Value := [.int .i64 d.kind, .string d.name, .int .i64 d.op, .string d.evr, t]
theorem aoQ6 {text : ByteArray} {w w' : World} {e : Ending} (h : Ev.ParsePost text w e w') : Below w.heap.size w w' ∧ ∃ (d : Ev.Dep) (A : Option Addr) (c : Nat) (er : Int), e = .returned (.tuple #[.agg #[.int .i64 d.kind, .string d.name, .int .i64 d.op, .string d.evr, .slice A d.args.length c], .int .i64 er]) ∧ NewD w' w.heap.size d (.slice A d.args.length c) ∧ ((er = 0 ∧ (Ev.parseD text.data.toList).1 = some d) ∨ (er ≠ 0 ∧ (Ev.parseD text.data.toList).1 = none)) := by
 obtain ⟨hb, ⟨d, t, hto, rfl⟩ | ⟨n, hp, rfl⟩⟩ := h
 ·obtain ⟨hnd, hp⟩ := NewD.of hto
  obtain ⟨A, c, rfl⟩ := hnd.form
  exact ⟨hb, d, A, c, 0, rfl, hnd, .inl ⟨rfl, by rw [hp]⟩⟩
 ·exact ⟨hb, Ev.zeroD, none, 0, n, rfl, ⟨[], Ev.Lay.none_ _ _ _ _ _ _, fun b hb => by cases hb⟩, .inr ⟨aqQz hp, by rw [hp]⟩⟩
theorem SuM.not_dep {w0 w : World} {B g b1 : Nat} {r : Bs} {pb cap : Nat} {ys : List Sk5} {x : Sk5} (h : SuM w0 w B g b1 r pb cap ys x) {i : Nat} (hi : i < 7) : pb ∉ (x.ss i).ownBlock.toList := fun hm => by
 obtain ⟨_, cs, hpk⟩ := h.pkB
 obtain ⟨cs', hb⟩ := own_blk (h.last.own i hi) (by simpa using hm)
 exact Blk.kind hb hpk (by decide) rfl
def TillP (n : Nat) (C : World → Prop) (l : Array Bool) (w : World) : Prop := l.getD n true = false → C w
theorem TillP.io {n i : Nat} {C : World → Prop} (h : i ≠ n) (l : Array Bool) (w : World) : TillP n C (l.setIfInBounds i true) w ↔ TillP n C l w := by
 unfold TillP
 rw [getD_set_ne true h]
def DlB (cb pb o gd fd : Nat) (Ai : Option Addr) (n ci : Nat) (d : Ev.Dep) (At : Option Addr) (ct : Nat) (w : World) : Prop := w.cell? ⟨cb, 0, none⟩ = some (.func (.func fd) #[] #[]) ∧ w.cell? ⟨pb, o, none⟩ = some (.slice Ai n ci) ∧ w.cell? ⟨gd, 0, none⟩ = some (.int .i64 d.kind) ∧ w.cell? ⟨gd, 1, none⟩ = some (.string d.name) ∧ w.cell? ⟨gd, 2, none⟩ = some (.int .i64 d.op) ∧ w.cell? ⟨gd, 3, none⟩ = some (.string d.evr) ∧ w.cell? ⟨gd, 4, none⟩ = some (.slice At d.args.length ct)
section
variable {w0 w w' : World} {B g b1 : Nat} {r : Bs} {pb cap : Nat} {ys : List Sk5} {x : Sk5}
set_option maxHeartbeats 4000000 in
set_option maxRecDepth 100000 in
theorem act_dep (h : SuM w0 w B g b1 r pb cap ys x) {i : Nat} (hi : i < 7) {cb : Nat} (hcb : Blk w cb 127 #[fcV (dlF i)]) (v : Bs) (hv : v.length ≤ 40000) (hn : (x.rs i).length ≤ 100000) (hT : Ev.Tabs w) :
 Calls Tryz.prog 136 #[.pointer (some ⟨pb, ys.length * 12, none⟩), .string (mkS v), .pointer (some ⟨cb, 0, none⟩)] w fun e w' => match (Ev.parseD v).1 with
  | some d => e = .returned (.bool true) ∧ ∃ x', x'.S = ⟨x.S.T, updF x.S.D i (x.S.D i ++ [d]), x.S.fl⟩ ∧ SuM w0 w' B g b1 r pb cap ys x' ∧ Moved w w' pb x x'
  | none => e = .returned (.bool false) ∧ Below B w0 w' := by
 obtain ⟨is_, zs, his, hzs, hzs1, hzs2, hzs3⟩ := aaQ7
 have HIS := hQQ his
 have C := hQQ (Ev.depParse_any (mkS v) (by rw [aaQg]; omega) w hT)
 have HF := hQQ (fun wx (hb : Below w.heap.size w wx) => h.below hb)
 have HHD : Hid (b1 ≤ w.heap.size ∧ ∀ j, j < 7 → ∀ k, (x.ss j).ownBlock = some k → k < w.heap.size) := ⟨h.le.2.2, fun j hj k hk => adQx (h.last.own j hj) hk⟩
 have HCB := hQQ (fun wx (hb : Below w.heap.size w wx) => (Blk.mono hcb hb))
 have HCF := hQQ (fun wx (hb : Below w.heap.size w wx) => (Blk.mono hcb hb).cell 0)
 obtain ⟨Ai, ci, hfv, hc1, hc2⟩ := aaQc (h.last.own i hi)
 have ef := arQk i hi
 have HDL := hQQ (fun g o wx => dl_call i hi g o wx)
 have hr12 : x.row[4 + i]? = some (x.ss i) := rowK_at _ _ _ i hi
 have hcfu : fcV (dlF i) = .func (.func (dlF i)) #[] #[] := rfl
 obtain ⟨X, hX⟩ : ∃ X, X = (Ev.parseD v).1 := ⟨_, rfl⟩
 rw [← hX]
 clear h hv hcb his hT
 go_enter Tryz.func136, Tryz.ntmps136
 go_wp2_with fail
 refine C.out.mono ?_
 intro e w1 hpp
 obtain ⟨hb1, d, At, ct, er, rfl, hnd, hX2⟩ := aoQ6 hpp
 rw [aaQn, ← hX] at hX2
 have HX2 := hQQ hX2
 obtain ⟨w2, hw2⟩ : ∃ w2, w2 = w1.alloc (.cells #[.int .i64 d.kind, .string d.name, .int .i64 d.op, .string d.evr, .slice At d.args.length ct] 39) := ⟨_, rfl⟩
 have hb12 : Below w1.heap.size w1 w2 := by rw [hw2]; exact (Below.refl _ _).alloc (Nat.le_refl _) _
 have HB2 := hQQ (hb1.trans (hb12.mono hb1.size))
 have HND := hQQ (hnd.turned (Turned.of_below hb12 []) (fun k hk => by cases hk))
 have K2 : Hid (Blk w2 w1.heap.size 39 #[.int .i64 d.kind, .string d.name, .int .i64 d.op, .string d.evr, .slice At d.args.length ct]) := by rw [hw2]; exact Blk.new _ _ _
 have hgd1 : w.heap.size ≤ w1.heap.size := hb1.size
 clear hnd hb12 hb1 hpp C hX hX2
 go_upto_region 2 with fail
 rw [← hw2]
 clear hw2
 have H2 := hQQ (HF.out w2 HB2.out)
 have k0 := K2.out.cell 0
 have k1 := K2.out.cell 1
 have k2 := K2.out.cell 2
 have k3 := K2.out.cell 3
 have k4 := K2.out.cell 4
 simp at k0 k1 k2 k3 k4
 have cf0 : w2.cell? ⟨cb, 0, none⟩ = some (.func (.func (dlF i)) #[] #[]) := HCF.out w2 HB2.out
 have cl0 : w2.cell? ⟨pb, ys.length * 12 + (4 + i), none⟩ = some (.slice Ai (x.rs i).length ci) := by rw [← hfv]; exact H2.out.cell hr12
 have hcall : ∀ wx, (callFunc (dlF i) #[.pointer (some ⟨pb, ys.length * 12, none⟩)]).run Tryz.prog wx = .ok (.enter (dlF i) #[.pointer (some ⟨pb, ys.length * 12, none⟩)]) wx := fun wx => ef _ wx
 generalize dlF i = fd at *
 have HGD : Hid (w.heap.size ≤ w1.heap.size) := hgd1
 clear hgd1
 generalize w1.heap.size = gd at *
 obtain ⟨w3, hw3⟩ : ∃ w3, w3 = (w2.drew.alloc (.cells #[.int .i64 d.kind, .string d.name, .int .i64 d.op, .string d.evr, .slice At d.args.length ct] 39)) := ⟨_, rfl⟩
 have hb23 : Below w2.heap.size w2 w3 := by rw [hw3]; exact (Below.refl w2.heap.size w2).drew.alloc (Nat.le_refl _) _
 have H3 := hQQ (H2.out.below hb23)
 have HB3 := hQQ (HB2.out.trans (hb23.mono HB2.out.size))
 have HND3 := hQQ (HND.out.turned (Turned.of_below hb23 []) (fun k hk => by cases hk))
 have HO3 : Hid (w3.ownsRow b1 39 5 (.slice Ai (x.rs i).length ci) (x.rs i).length (Ev.cells5 (x.rs i))) := by rw [← hfv]; exact H3.out.last.own i hi
 have HCN : Hid (∀ (j : Nat) u, (rowQ d (.slice At d.args.length ct))[j]? = some u → w3.cell? ((⟨w2.heap.size, 0, none⟩ : Addr).add j) = some u) := by
  rw [hw3]
  intro j u hj
  exact abQ8 (Blk.new w2.drew 39 #[.int .i64 d.kind, .string d.name, .int .i64 d.op, .string d.evr, .slice At d.args.length ct]) rfl j u hj
 have hsz3 := H3.out.le.2.2
 rw [hw3] at HO3 HCN hsz3
 have cl3 : (w2.alloc (.cells #[.int .i64 d.kind, .string d.name, .int .i64 d.op, .string d.evr, .slice At d.args.length ct] 39)).cell? ⟨pb, ys.length * 12 + (4 + i), none⟩ = some (.slice Ai (x.rs i).length ci) := by rw [← hfv]; exact (H2.out.below ((Below.refl _ _).alloc (Nat.le_refl _) _)).cell hr12
 have cf3 : (w2.alloc (.cells #[.int .i64 d.kind, .string d.name, .int .i64 d.op, .string d.evr, .slice At d.args.length ct] 39)).cell? ⟨cb, 0, none⟩ = some (.func (.func fd) #[] #[]) := HCF.out _ (HB2.out.trans (((Below.refl w2.heap.size w2).alloc (Nat.le_refl _) _).mono HB2.out.size))
 have hcp : cb ≠ pb ∧ gd ≠ pb := by
  obtain ⟨_, cs, hpk⟩ := H2.out.pkB
  exact ⟨Blk.kind (HCB.out w2 HB2.out) hpk (by decide), Blk.kind K2.out hpk (by decide)⟩
 have hSD : Hid (∀ (w4 : World) (R : List Nat), Turned R w2 w4 → (∀ k ∈ R, (x.ss i).ownBlock = some k ∨ k = pb) → w4.cell? ⟨pb, ys.length * 12 + (4 + i), none⟩ = some (.slice Ai (x.rs i).length ci) → DlB cb pb (ys.length * 12 + (4 + i)) gd fd Ai (x.rs i).length ci d At ct w4) := fun w4 R ht hR hc => by
  have hn1 : cb ∉ R := fun hm => by
   rcases hR cb hm with h1 | h1
   ·obtain ⟨cs', hb⟩ := own_blk (H2.out.last.own i hi) h1
    exact Blk.kind (HCB.out w2 HB2.out) hb (by decide) rfl
   ·exact hcp.1 h1
  have hn2 : gd ∉ R := fun hm => by
   rcases hR gd hm with h1 | h1
   ·have := HHD.out.2 i hi gd h1
    have := HGD.out
    omega
   ·exact hcp.2 h1
  have b1 := (HCB.out w2 HB2.out).turned ht hn1
  have b2 := K2.out.turned ht hn2
  exact ⟨b1.cell 0, hc, b2.cell 0, b2.cell 1, b2.cell 2, b2.cell 3, b2.cell 4⟩
 have HD2 : Hid (DlB cb pb (ys.length * 12 + (4 + i)) gd fd Ai (x.rs i).length ci d At ct w2.drew) := hSD.out w2.drew [] (Turned.of_below ((Below.refl w2.heap.size w2).drew) []) (fun k hk => by cases hk) cl0
 have HD3 : Hid (DlB cb pb (ys.length * 12 + (4 + i)) gd fd Ai (x.rs i).length ci d At ct (w2.drew.alloc (.cells #[.int .i64 d.kind, .string d.name, .int .i64 d.op, .string d.evr, .slice At d.args.length ct] 39))) := hSD.out _ [] (Turned.of_below (by rw [← hw3]; exact hb23) []) (fun k hk => by cases hk) (by rw [← hw3, ← hfv]; exact H3.out.cell hr12)
 clear cl3 cf3 k0 k1 k2 k3 k4 cf0 cl0 hcp
 refine aaQu (TillP 12 (DlB cb pb (ys.length * 12 + (4 + i)) gd fd Ai (x.rs i).length ci d At ct)) (by kernel_rfl) (fun _ => HD2.out) (fun hS => ?_)
 try simp only [sx, Act.put]
 refine aaQa (i := 0) (DlB cb pb (ys.length * 12 + (4 + i)) gd fd Ai (x.rs i).length ci d At ct) (v := (.func (.func fd) #[] #[])) rfl (by kernel_rfl) (by kernel_rfl) (by kernel_rfl) (fun _ _ _ h => h) (fun l w hw hS => hS (hw 12 (by kernel_rfl))) (TillP.io (by decide)) (by kernel_rfl) hS (fun w' hSw => ?_) (by rfl) (fun hS => ?_)
 ·obtain ⟨s0, s1, s2, s3, s4, s5, s6⟩ := hSw
  go_simp
 try simp only [sx, Act.put]
 refine aaQa (i := 1) (DlB cb pb (ys.length * 12 + (4 + i)) gd fd Ai (x.rs i).length ci d At ct) (v := (.pointer (some ⟨pb, ys.length * 12, none⟩))) rfl (by kernel_rfl) (by kernel_rfl) (by kernel_rfl) (fun _ _ _ h => h) (fun l w hw hS => hS (hw 12 (by kernel_rfl))) (TillP.io (by decide)) (by kernel_rfl) hS (fun w' hSw => ?_) (by rfl) (fun hS => ?_)
 ·obtain ⟨s0, s1, s2, s3, s4, s5, s6⟩ := hSw
  go_simp
 try simp only [sx, Act.put]
 refine aaQa (i := 3) (DlB cb pb (ys.length * 12 + (4 + i)) gd fd Ai (x.rs i).length ci d At ct) (v := (.func (.func fd) #[] #[])) rfl (by kernel_rfl) (by kernel_rfl) (by kernel_rfl) (fun _ _ _ h => h) (fun l w hw hS => hS (hw 12 (by kernel_rfl))) (TillP.io (by decide)) (by kernel_rfl) hS (fun w' hSw => ?_) (by rfl) (fun hS => ?_)
 ·obtain ⟨s0, s1, s2, s3, s4, s5, s6⟩ := hSw
  go_simp
 try simp only [sx, Act.put]
 refine aaQa (i := 4) (DlB cb pb (ys.length * 12 + (4 + i)) gd fd Ai (x.rs i).length ci d At ct) (v := (.pointer (some ⟨pb, ys.length * 12, none⟩))) rfl (by kernel_rfl) (by kernel_rfl) (by kernel_rfl) (fun _ _ _ h => h) (fun l w hw hS => hS (hw 12 (by kernel_rfl))) (TillP.io (by decide)) (by kernel_rfl) hS (fun w' hSw => ?_) (by rfl) (fun hS => ?_)
 ·obtain ⟨s0, s1, s2, s3, s4, s5, s6⟩ := hSw
  go_simp
 try simp only [sx, Act.put]
 refine aaQa (i := 8) (DlB cb pb (ys.length * 12 + (4 + i)) gd fd Ai (x.rs i).length ci d At ct) (v := (.agg #[.int .i64 d.kind, .string d.name, .int .i64 d.op, .string d.evr, .slice At d.args.length ct])) rfl (by kernel_rfl) (by kernel_rfl) (by kernel_rfl) (fun _ _ _ h => h) (fun l w hw hS => hS (hw 12 (by kernel_rfl))) (TillP.io (by decide)) (by kernel_rfl) hS (fun w' hSw => ?_) (by rfl) (fun hS => ?_)
 ·obtain ⟨s0, s1, s2, s3, s4, s5, s6⟩ := hSw
  go_simp
 try simp only [sx, Act.put]
 refine abQx (i := 2) (j := 9) (by kernel_rfl) rfl rfl (fun K hK => ?_) (fun K hK => ?_)
 ·skip
  go_simp
  refine (HDL.out pb (ys.length * 12) _).mono ?_
  rintro e wq ⟨rfl, rfl⟩
  refine hK.out _ _ (fun _ => HD2.out) (fun hS => ?_)
  try simp only [sx, Act.put]
  refine abQx (i := 5) (j := 9) (by kernel_rfl) rfl rfl (fun K hK => ?_) (fun K hK => ?_)
  ·skip
   go_simp
   refine (HDL.out pb (ys.length * 12) _).mono ?_
   rintro e wq ⟨rfl, rfl⟩
   refine hK.out _ _ (fun _ => HD2.out) (fun hS => ?_)
   try simp only [sx, Act.put]
   refine aaQa (i := 6) (DlB cb pb (ys.length * 12 + (4 + i)) gd fd Ai (x.rs i).length ci d At ct) (v := (.pointer (some ⟨pb, ys.length * 12 + (4 + i), none⟩))) rfl (by kernel_rfl) (by kernel_rfl) (by kernel_rfl) (fun _ _ _ h => h) (fun l w hw hS => hS (hw 12 (by kernel_rfl))) (TillP.io (by decide)) (by kernel_rfl) hS (fun w' hSw => ?_) (by rfl) (fun hS => ?_)
   ·obtain ⟨s0, s1, s2, s3, s4, s5, s6⟩ := hSw
    go_simp
   try simp only [sx, Act.put]
   refine aaQa (i := 7) (DlB cb pb (ys.length * 12 + (4 + i)) gd fd Ai (x.rs i).length ci d At ct) (v := (.slice Ai (x.rs i).length ci)) rfl (by kernel_rfl) (by kernel_rfl) (by kernel_rfl) (fun _ _ _ h => h) (fun l w hw hS => hS (hw 12 (by kernel_rfl))) (TillP.io (by decide)) (by kernel_rfl) hS (fun w' hSw => ?_) (by rfl) (fun hS => ?_)
   ·obtain ⟨s0, s1, s2, s3, s4, s5, s6⟩ := hSw
    go_simp
   try simp only [sx, Act.put]
   refine aaQb (i := 9) (by kernel_rfl) rfl (fun K hK => ?_)
   go_simp
   refine hK.out _ _ (fun _ => HD3.out) (fun hS => ?_)
   try simp only [sx, Act.put]
   refine aaQb (i := 10) (by kernel_rfl) rfl (fun K hK => ?_)
   refine aaQo rfl (.tmp 20) (.tmp 22) 35 rfl b1 39 is_ zs 5 72 Tryz.underlying35 HIS.out hzs hzs2 hzs3 hzs1 (by decide) (.slice Ai (x.rs i).length ci) (x.rs i).length (Ev.cells5 (x.rs i)) (by simp [Act.eval, Act.put]) HO3.out ⟨w2.heap.size, 0, none⟩ 1 1 (rowQ d (.slice At d.args.length ct)) (by simp [Act.eval, Act.put]) rfl HCN.out (fun u hu => by simp [rowQ] at hu; rcases hu with rfl | rfl | rfl | rfl | rfl <;> rfl) (by unfold maxLen; omega) (by omega) hsz3 ?_
   intro v4 w4 hown4 hg4 hat4
   have hg5 : w3.grownBy w4 (x.ss i).ownBlock := (by rw [hw3, hfv]; exact hg4)
   have hat5 : v4.ownBlock = (x.ss i).ownBlock ∨ v4.ownBlock = some w3.heap.size := (by rw [hw3, hfv]; exact hat4)
   have HFI := hQQ (fun G hG1 hG2 => SuM.deps H3.out hi (d := d) (t := .slice At d.args.length ct) (G := G) hG1 hG2 hown4 hg5 hat5)
   have hT4 := H3.out.cellT (aaQi hg5) (H3.out.not_dep hi)
   have c4 : w4.cell? ⟨pb, ys.length * 12 + (4 + i), none⟩ = some (.slice Ai (x.rs i).length ci) := (by rw [← hfv]; exact hT4.1 (j := 4 + i) hr12)
   have f4 := hT4.2 (ys.length * 12 + (4 + i))
   have hT24 : Turned (x.ss i).ownBlock.toList w2 w4 := (Turned.of_below hb23 _).trans (aaQi hg5) (Fresh.refl _ _)
   have HD4 : Hid (DlB cb pb (ys.length * 12 + (4 + i)) gd fd Ai (x.rs i).length ci d At ct w4) := hSD.out w4 _ hT24 (fun k hk => .inl (by simpa using hk)) c4
   have HV4 := hQQ (aaQc hown4)
   obtain ⟨A4, cc4, rfl, hn4, hm4⟩ := aaQc hown4
   have HB4 : Hid (Below B w0 w4) := H3.out.bel.trans ((aaQi hg5).below (B := B) (fun k hk => Nat.le_trans H3.out.le.2.1 ((H3.out.last.own i hi).lt k (by simpa using hk)).1) (Nat.le_trans H3.out.le.2.1 H3.out.le.2.2))
   clear hown4 hg4 hat4 hg5 hat5 hT4 hT24
   refine hK.out _ _ (fun _ => HD4.out) (fun hS => ?_)
   try simp only [sx, Act.put]
   refine aaQa (i := 11) (DlB cb pb (ys.length * 12 + (4 + i)) gd fd Ai (x.rs i).length ci d At ct) (v := (.pointer (some ⟨pb, ys.length * 12 + (4 + i), none⟩))) rfl (by kernel_rfl) (by kernel_rfl) (by kernel_rfl) (fun _ _ _ h => h) (fun l w hw hS => hS (hw 12 (by kernel_rfl))) (TillP.io (by decide)) (by kernel_rfl) hS (fun w' hSw => ?_) (by rfl) (fun hS => ?_)
   ·obtain ⟨s0, s1, s2, s3, s4, s5, s6⟩ := hSw
    go_simp
   try simp only [sx, Act.put]
   refine aaQb (i := 12) (by kernel_rfl) rfl (fun K hK => ?_)
   go_simp
   refine hK.out _ _ (fun h => by simp at h) (fun hS => ?_)
   refine aaQh (by kernel_rfl) ?_ _
   try simp only [sx, Act.put]
   have HX3 := hQQ HX2.out
   rcases HX3.out with ⟨he, hx⟩ | ⟨he, hx⟩
   ·have HE : Hid (∃ x', x'.S = (⟨x.S.T, updF x.S.D i (x.S.D i ++ [d]), x.S.fl⟩ : Sk) ∧ SuM w0 (w4.setCell ⟨pb, ys.length * 12 + (4 + i), none⟩ (.slice A4 ((x.rs i).length + 1) cc4)) B g b1 r pb cap ys x' ∧ Moved w (w4.setCell ⟨pb, ys.length * 12 + (4 + i), none⟩ (.slice A4 ((x.rs i).length + 1) cc4)) pb x x') := by
     obtain ⟨G, hG1, hG2⟩ := HND3.out
     obtain ⟨h1, h2⟩ := HFI.out G hG1 (fun b hb => ⟨Nat.le_trans HHD.out.1 (hG2 b hb).1, (hG2 b hb).2, fun j hj e => by have := HHD.out.2 j hj b e; have := (hG2 b hb).1; omega⟩)
     exact ⟨_, rfl, h1, h2.behind HB3.out⟩
    clear HFI HV4 HD4 HND3 HB4 HX2 HX3
    subst hx
    rw [he]
    go_wp2_with fail
    go_ret
    exact ⟨by simp, HE.out⟩
   ·have HE : Hid (Below B w0 (w4.setCell ⟨pb, ys.length * 12 + (4 + i), none⟩ (.slice A4 ((x.rs i).length + 1) cc4))) := HB4.out.setCell H3.out.pkB.1 _
    clear HFI HV4 HD4 HND3 HB4 HX2 HX3
    subst hx
    have he2 : (er == 0) = false := by simp [he]
    go_wp2_with fail
    go_ret
    exact ⟨by first | rfl | simp [he], HE.out⟩
  ·skip
   go_simp
   refine hK.out _ _ (fun _ => HD3.out) (fun hS => ?_)
   try simp only [sx, Act.put]
   refine aaQb (i := 5) (by kernel_rfl) rfl (fun K hK => ?_)
   go_simp
   refine (HDL.out pb (ys.length * 12) _).mono ?_
   rintro e wq ⟨rfl, rfl⟩
   refine hK.out _ _ (fun _ => HD3.out) (fun hS => ?_)
   try simp only [sx, Act.put]
   refine aaQa (i := 6) (DlB cb pb (ys.length * 12 + (4 + i)) gd fd Ai (x.rs i).length ci d At ct) (v := (.pointer (some ⟨pb, ys.length * 12 + (4 + i), none⟩))) rfl (by kernel_rfl) (by kernel_rfl) (by kernel_rfl) (fun _ _ _ h => h) (fun l w hw hS => hS (hw 12 (by kernel_rfl))) (TillP.io (by decide)) (by kernel_rfl) hS (fun w' hSw => ?_) (by rfl) (fun hS => ?_)
   ·obtain ⟨s0, s1, s2, s3, s4, s5, s6⟩ := hSw
    go_simp
   try simp only [sx, Act.put]
   refine aaQa (i := 7) (DlB cb pb (ys.length * 12 + (4 + i)) gd fd Ai (x.rs i).length ci d At ct) (v := (.slice Ai (x.rs i).length ci)) rfl (by kernel_rfl) (by kernel_rfl) (by kernel_rfl) (fun _ _ _ h => h) (fun l w hw hS => hS (hw 12 (by kernel_rfl))) (TillP.io (by decide)) (by kernel_rfl) hS (fun w' hSw => ?_) (by rfl) (fun hS => ?_)
   ·obtain ⟨s0, s1, s2, s3, s4, s5, s6⟩ := hSw
    go_simp
   try simp only [sx, Act.put]
   refine aaQb (i := 10) (by kernel_rfl) rfl (fun K hK => ?_)
   refine aaQo rfl (.tmp 20) (.tmp 22) 35 rfl b1 39 is_ zs 5 72 Tryz.underlying35 HIS.out hzs hzs2 hzs3 hzs1 (by decide) (.slice Ai (x.rs i).length ci) (x.rs i).length (Ev.cells5 (x.rs i)) (by simp [Act.eval, Act.put]) HO3.out ⟨w2.heap.size, 0, none⟩ 1 1 (rowQ d (.slice At d.args.length ct)) (by simp [Act.eval, Act.put]) rfl HCN.out (fun u hu => by simp [rowQ] at hu; rcases hu with rfl | rfl | rfl | rfl | rfl <;> rfl) (by unfold maxLen; omega) (by omega) hsz3 ?_
   intro v4 w4 hown4 hg4 hat4
   have hg5 : w3.grownBy w4 (x.ss i).ownBlock := (by rw [hw3, hfv]; exact hg4)
   have hat5 : v4.ownBlock = (x.ss i).ownBlock ∨ v4.ownBlock = some w3.heap.size := (by rw [hw3, hfv]; exact hat4)
   have HFI := hQQ (fun G hG1 hG2 => SuM.deps H3.out hi (d := d) (t := .slice At d.args.length ct) (G := G) hG1 hG2 hown4 hg5 hat5)
   have hT4 := H3.out.cellT (aaQi hg5) (H3.out.not_dep hi)
   have c4 : w4.cell? ⟨pb, ys.length * 12 + (4 + i), none⟩ = some (.slice Ai (x.rs i).length ci) := (by rw [← hfv]; exact hT4.1 (j := 4 + i) hr12)
   have f4 := hT4.2 (ys.length * 12 + (4 + i))
   have hT24 : Turned (x.ss i).ownBlock.toList w2 w4 := (Turned.of_below hb23 _).trans (aaQi hg5) (Fresh.refl _ _)
   have HD4 : Hid (DlB cb pb (ys.length * 12 + (4 + i)) gd fd Ai (x.rs i).length ci d At ct w4) := hSD.out w4 _ hT24 (fun k hk => .inl (by simpa using hk)) c4
   have HV4 := hQQ (aaQc hown4)
   obtain ⟨A4, cc4, rfl, hn4, hm4⟩ := aaQc hown4
   have HB4 : Hid (Below B w0 w4) := H3.out.bel.trans ((aaQi hg5).below (B := B) (fun k hk => Nat.le_trans H3.out.le.2.1 ((H3.out.last.own i hi).lt k (by simpa using hk)).1) (Nat.le_trans H3.out.le.2.1 H3.out.le.2.2))
   clear hown4 hg4 hat4 hg5 hat5 hT4 hT24
   refine hK.out _ _ (fun _ => HD4.out) (fun hS => ?_)
   try simp only [sx, Act.put]
   refine aaQa (i := 11) (DlB cb pb (ys.length * 12 + (4 + i)) gd fd Ai (x.rs i).length ci d At ct) (v := (.pointer (some ⟨pb, ys.length * 12 + (4 + i), none⟩))) rfl (by kernel_rfl) (by kernel_rfl) (by kernel_rfl) (fun _ _ _ h => h) (fun l w hw hS => hS (hw 12 (by kernel_rfl))) (TillP.io (by decide)) (by kernel_rfl) hS (fun w' hSw => ?_) (by rfl) (fun hS => ?_)
   ·obtain ⟨s0, s1, s2, s3, s4, s5, s6⟩ := hSw
    go_simp
   try simp only [sx, Act.put]
   refine aaQb (i := 12) (by kernel_rfl) rfl (fun K hK => ?_)
   go_simp
   refine hK.out _ _ (fun h => by simp at h) (fun hS => ?_)
   refine aaQh (by kernel_rfl) ?_ _
   try simp only [sx, Act.put]
   have HX3 := hQQ HX2.out
   rcases HX3.out with ⟨he, hx⟩ | ⟨he, hx⟩
   ·have HE : Hid (∃ x', x'.S = (⟨x.S.T, updF x.S.D i (x.S.D i ++ [d]), x.S.fl⟩ : Sk) ∧ SuM w0 (w4.setCell ⟨pb, ys.length * 12 + (4 + i), none⟩ (.slice A4 ((x.rs i).length + 1) cc4)) B g b1 r pb cap ys x' ∧ Moved w (w4.setCell ⟨pb, ys.length * 12 + (4 + i), none⟩ (.slice A4 ((x.rs i).length + 1) cc4)) pb x x') := by
     obtain ⟨G, hG1, hG2⟩ := HND3.out
     obtain ⟨h1, h2⟩ := HFI.out G hG1 (fun b hb => ⟨Nat.le_trans HHD.out.1 (hG2 b hb).1, (hG2 b hb).2, fun j hj e => by have := HHD.out.2 j hj b e; have := (hG2 b hb).1; omega⟩)
     exact ⟨_, rfl, h1, h2.behind HB3.out⟩
    clear HFI HV4 HD4 HND3 HB4 HX2 HX3
    subst hx
    rw [he]
    go_wp2_with fail
    go_ret
    exact ⟨by simp, HE.out⟩
   ·have HE : Hid (Below B w0 (w4.setCell ⟨pb, ys.length * 12 + (4 + i), none⟩ (.slice A4 ((x.rs i).length + 1) cc4))) := HB4.out.setCell H3.out.pkB.1 _
    clear HFI HV4 HD4 HND3 HB4 HX2 HX3
    subst hx
    have he2 : (er == 0) = false := by simp [he]
    go_wp2_with fail
    go_ret
    exact ⟨by first | rfl | simp [he], HE.out⟩
 ·skip
  go_simp
  refine hK.out _ _ (fun _ => HD3.out) (fun hS => ?_)
  try simp only [sx, Act.put]
  refine aaQb (i := 2) (by kernel_rfl) rfl (fun K hK => ?_)
  go_simp
  refine (HDL.out pb (ys.length * 12) _).mono ?_
  rintro e wq ⟨rfl, rfl⟩
  refine hK.out _ _ (fun _ => HD3.out) (fun hS => ?_)
  try simp only [sx, Act.put]
  refine aaQb (i := 5) (by kernel_rfl) rfl (fun K hK => ?_)
  go_simp
  refine (HDL.out pb (ys.length * 12) _).mono ?_
  rintro e wq ⟨rfl, rfl⟩
  refine hK.out _ _ (fun _ => HD3.out) (fun hS => ?_)
  try simp only [sx, Act.put]
  refine aaQa (i := 6) (DlB cb pb (ys.length * 12 + (4 + i)) gd fd Ai (x.rs i).length ci d At ct) (v := (.pointer (some ⟨pb, ys.length * 12 + (4 + i), none⟩))) rfl (by kernel_rfl) (by kernel_rfl) (by kernel_rfl) (fun _ _ _ h => h) (fun l w hw hS => hS (hw 12 (by kernel_rfl))) (TillP.io (by decide)) (by kernel_rfl) hS (fun w' hSw => ?_) (by rfl) (fun hS => ?_)
  ·obtain ⟨s0, s1, s2, s3, s4, s5, s6⟩ := hSw
   go_simp
  try simp only [sx, Act.put]
  refine aaQa (i := 7) (DlB cb pb (ys.length * 12 + (4 + i)) gd fd Ai (x.rs i).length ci d At ct) (v := (.slice Ai (x.rs i).length ci)) rfl (by kernel_rfl) (by kernel_rfl) (by kernel_rfl) (fun _ _ _ h => h) (fun l w hw hS => hS (hw 12 (by kernel_rfl))) (TillP.io (by decide)) (by kernel_rfl) hS (fun w' hSw => ?_) (by rfl) (fun hS => ?_)
  ·obtain ⟨s0, s1, s2, s3, s4, s5, s6⟩ := hSw
   go_simp
  try simp only [sx, Act.put]
  refine aaQb (i := 10) (by kernel_rfl) rfl (fun K hK => ?_)
  refine aaQo rfl (.tmp 20) (.tmp 22) 35 rfl b1 39 is_ zs 5 72 Tryz.underlying35 HIS.out hzs hzs2 hzs3 hzs1 (by decide) (.slice Ai (x.rs i).length ci) (x.rs i).length (Ev.cells5 (x.rs i)) (by simp [Act.eval, Act.put]) HO3.out ⟨w2.heap.size, 0, none⟩ 1 1 (rowQ d (.slice At d.args.length ct)) (by simp [Act.eval, Act.put]) rfl HCN.out (fun u hu => by simp [rowQ] at hu; rcases hu with rfl | rfl | rfl | rfl | rfl <;> rfl) (by unfold maxLen; omega) (by omega) hsz3 ?_
  intro v4 w4 hown4 hg4 hat4
  have hg5 : w3.grownBy w4 (x.ss i).ownBlock := (by rw [hw3, hfv]; exact hg4)
  have hat5 : v4.ownBlock = (x.ss i).ownBlock ∨ v4.ownBlock = some w3.heap.size := (by rw [hw3, hfv]; exact hat4)
  have HFI := hQQ (fun G hG1 hG2 => SuM.deps H3.out hi (d := d) (t := .slice At d.args.length ct) (G := G) hG1 hG2 hown4 hg5 hat5)
  have hT4 := H3.out.cellT (aaQi hg5) (H3.out.not_dep hi)
  have c4 : w4.cell? ⟨pb, ys.length * 12 + (4 + i), none⟩ = some (.slice Ai (x.rs i).length ci) := (by rw [← hfv]; exact hT4.1 (j := 4 + i) hr12)
  have f4 := hT4.2 (ys.length * 12 + (4 + i))
  have hT24 : Turned (x.ss i).ownBlock.toList w2 w4 := (Turned.of_below hb23 _).trans (aaQi hg5) (Fresh.refl _ _)
  have HD4 : Hid (DlB cb pb (ys.length * 12 + (4 + i)) gd fd Ai (x.rs i).length ci d At ct w4) := hSD.out w4 _ hT24 (fun k hk => .inl (by simpa using hk)) c4
  have HV4 := hQQ (aaQc hown4)
  obtain ⟨A4, cc4, rfl, hn4, hm4⟩ := aaQc hown4
  have HB4 : Hid (Below B w0 w4) := H3.out.bel.trans ((aaQi hg5).below (B := B) (fun k hk => Nat.le_trans H3.out.le.2.1 ((H3.out.last.own i hi).lt k (by simpa using hk)).1) (Nat.le_trans H3.out.le.2.1 H3.out.le.2.2))
  clear hown4 hg4 hat4 hg5 hat5 hT4 hT24
  refine hK.out _ _ (fun _ => HD4.out) (fun hS => ?_)
  try simp only [sx, Act.put]
  refine aaQa (i := 11) (DlB cb pb (ys.length * 12 + (4 + i)) gd fd Ai (x.rs i).length ci d At ct) (v := (.pointer (some ⟨pb, ys.length * 12 + (4 + i), none⟩))) rfl (by kernel_rfl) (by kernel_rfl) (by kernel_rfl) (fun _ _ _ h => h) (fun l w hw hS => hS (hw 12 (by kernel_rfl))) (TillP.io (by decide)) (by kernel_rfl) hS (fun w' hSw => ?_) (by rfl) (fun hS => ?_)
  ·obtain ⟨s0, s1, s2, s3, s4, s5, s6⟩ := hSw
   go_simp
  try simp only [sx, Act.put]
  refine aaQb (i := 12) (by kernel_rfl) rfl (fun K hK => ?_)
  go_simp
  refine hK.out _ _ (fun h => by simp at h) (fun hS => ?_)
  refine aaQh (by kernel_rfl) ?_ _
  try simp only [sx, Act.put]
  have HX3 := hQQ HX2.out
  rcases HX3.out with ⟨he, hx⟩ | ⟨he, hx⟩
  ·have HE : Hid (∃ x', x'.S = (⟨x.S.T, updF x.S.D i (x.S.D i ++ [d]), x.S.fl⟩ : Sk) ∧ SuM w0 (w4.setCell ⟨pb, ys.length * 12 + (4 + i), none⟩ (.slice A4 ((x.rs i).length + 1) cc4)) B g b1 r pb cap ys x' ∧ Moved w (w4.setCell ⟨pb, ys.length * 12 + (4 + i), none⟩ (.slice A4 ((x.rs i).length + 1) cc4)) pb x x') := by
    obtain ⟨G, hG1, hG2⟩ := HND3.out
    obtain ⟨h1, h2⟩ := HFI.out G hG1 (fun b hb => ⟨Nat.le_trans HHD.out.1 (hG2 b hb).1, (hG2 b hb).2, fun j hj e => by have := HHD.out.2 j hj b e; have := (hG2 b hb).1; omega⟩)
    exact ⟨_, rfl, h1, h2.behind HB3.out⟩
   clear HFI HV4 HD4 HND3 HB4 HX2 HX3
   subst hx
   rw [he]
   go_wp2_with fail
   go_ret
   exact ⟨by simp, HE.out⟩
  ·have HE : Hid (Below B w0 (w4.setCell ⟨pb, ys.length * 12 + (4 + i), none⟩ (.slice A4 ((x.rs i).length + 1) cc4))) := HB4.out.setCell H3.out.pkB.1 _
   clear HFI HV4 HD4 HND3 HB4 HX2 HX3
   subst hx
   have he2 : (er == 0) = false := by simp [he]
   go_wp2_with fail
   go_ret
   exact ⟨by first | rfl | simp [he], HE.out⟩
end
end Go.Proofs.YtdhgiammfpjniaaGreatDoor
