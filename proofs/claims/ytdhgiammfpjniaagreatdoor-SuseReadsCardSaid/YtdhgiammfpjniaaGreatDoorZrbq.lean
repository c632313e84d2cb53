/- Parts of the proof. -/
import Derived.Test.YtdhgiammfpjniaaGreatDoorZrbp
namespace Go.Proofs.YtdhgiammfpjniaaGreatDoor
set_option linter.unusedSimpArgs false
set_option linter.unusedVariables false
open Go.RowKit Go.MapKept
theorem acQf {l : Bs} {n : Int} (h : Ev.parseD l = (none, n)) : n ≠ 0 := by
 unfold Ev.parseD at h
 split at h
 ·injection h with _ h; omega
 ·split at h
  ·injection h with h; cases h
  ·next hc => injection h with _ h; rw [← h]; exact hc
section
variable {w0 w w' : World} {B g b1 : Nat} {ys xs : List Sk5} {x : Sk5} {has : Bool} {v : Value}
theorem aeQs {w1 w2 : World} {i ct : Nat} {At : Option Addr} {d : Ev.Dep} {Sd : Nat → Prop} (hi : i < 7) (H : RfM w0 w B g b1 v ys x true) (hb1 : Below w.heap.size w w1) (hL : Ev.Lay w1 Sd d (.slice At d.args.length ct)) (hC : Ev.CleanS w1 Sd) (hS : ∀ b, Sd b → w.heap.size ≤ b) (hw2 : w2 = w1.alloc (.cells #[.int .i64 d.kind, .string d.name, .int .i64 d.op, .string d.evr, .slice At d.args.length ct] 39)) :
 ∃ Ai ci, x.ss i = .slice Ai (x.rs i).length ci ∧ (x.rs i).length ≤ ci ∧ ci ≤ maxLen ∧ w2.cell? ⟨g, 5 + i, none⟩ = some (.slice Ai (x.rs i).length ci) ∧ w2.frozen? ⟨g, 5 + i, none⟩ = false ∧ w2.cell? ⟨w1.heap.size, 0, none⟩ = some (.int .i64 d.kind) ∧ w2.cell? ⟨w1.heap.size, 1, none⟩ = some (.string d.name) ∧ w2.cell? ⟨w1.heap.size, 2, none⟩ = some (.int .i64 d.op) ∧ w2.cell? ⟨w1.heap.size, 3, none⟩ = some (.string d.evr) ∧ w2.cell? ⟨w1.heap.size, 4, none⟩ = some (.slice At d.args.length ct) ∧ Till [(8, ⟨g, 5 + i, none⟩, .slice Ai (x.rs i).length ci), (8, ⟨w1.heap.size, 0, none⟩, .int .i64 d.kind), (8, ⟨w1.heap.size, 1, none⟩, .string d.name), (8, ⟨w1.heap.size, 2, none⟩, .int .i64 d.op), (8, ⟨w1.heap.size, 3, none⟩, .string d.evr), (8, ⟨w1.heap.size, 4, none⟩, .slice At d.args.length ct)] (Array.replicate 15 false) w2.drew ∧ (∀ l, Till [(8, ⟨g, 5 + i, none⟩, .slice Ai (x.rs i).length ci), (8, ⟨w1.heap.size, 0, none⟩, .int .i64 d.kind), (8, ⟨w1.heap.size, 1, none⟩, .string d.name), (8, ⟨w1.heap.size, 2, none⟩, .int .i64 d.op), (8, ⟨w1.heap.size, 3, none⟩, .string d.evr), (8, ⟨w1.heap.size, 4, none⟩, .slice At d.args.length ct)] l (w2.drew.alloc (.cells #[.int .i64 0, .string ⟨#[]⟩, .int .i64 0, .string ⟨#[]⟩, .slice none 0 0] 39))) ∧ Hid (RfM w0 (w2.drew.alloc (.cells #[.int .i64 0, .string ⟨#[]⟩, .int .i64 0, .string ⟨#[]⟩, .slice none 0 0] 39)) B g b1 v ys x true) ∧ Hid ((w2.drew.alloc (.cells #[.int .i64 0, .string ⟨#[]⟩, .int .i64 0, .string ⟨#[]⟩, .slice none 0 0] 39)).ownsRow b1 39 5 (.slice Ai (x.rs i).length ci) (x.rs i).length (Ev.cells5 (x.rs i))) ∧ Hid (∃ G : List Nat, Ev.Lay (w2.drew.alloc (.cells #[.int .i64 0, .string ⟨#[]⟩, .int .i64 0, .string ⟨#[]⟩, .slice none 0 0] 39)) (fun b => b ∈ G) d (.slice At d.args.length ct) ∧ ∀ b ∈ G, b1 ≤ b ∧ (∃ cs, Blk (w2.drew.alloc (.cells #[.int .i64 0, .string ⟨#[]⟩, .int .i64 0, .string ⟨#[]⟩, .slice none 0 0] 39)) b 39 cs) ∧ (∀ j, j < 7 → (x.ss j).ownBlock ≠ some b)) ∧ b1 ≤ (w2.drew.alloc (.cells #[.int .i64 0, .string ⟨#[]⟩, .int .i64 0, .string ⟨#[]⟩, .slice none 0 0] 39)).heap.size := by
 have H1 := H.below hb1
 have HB2 : Below w1.heap.size w1 w2 := by rw [hw2]; exact (Below.refl _ _).alloc (Nat.le_refl _) _
 have HDk : Blk w2 w1.heap.size 39 #[.int .i64 d.kind, .string d.name, .int .i64 d.op, .string d.evr, .slice At d.args.length ct] := by rw [hw2]; exact Blk.new _ _ _
 have H2 := H1.below HB2
 have HL2 : Ev.Lay w2 Sd d (.slice At d.args.length ct) := hL.stay (fun _ h => h) (Ev.StayS.below' HB2)
 have HC2 : Ev.CleanS w2 Sd := hC.stay (Ev.StayS.below' HB2)
 obtain ⟨Ai, ci, hsi, hci1, hci2⟩ := aaQc (H2.last.own i hi)
 have q := H2.rcb13.2.2.2 i hi
 rw [hsi] at q
 have HB3 : Below w2.heap.size w2 (w2.drew.alloc (.cells #[.int .i64 0, .string ⟨#[]⟩, .int .i64 0, .string ⟨#[]⟩, .slice none 0 0] 39)) := (Below.refl w2.heap.size w2).drew.alloc (Nat.le_refl _) _
 have H3 := H2.below HB3
 have HD3 := Blk.mono HDk HB3
 refine ⟨Ai, ci, hsi, hci1, hci2, q, H2.rd.free _, HDk.cell 0, HDk.cell 1, HDk.cell 2, HDk.cell 3, HDk.cell 4, ?_, ?_, H3, ?_, ?_, H3.le.2.2⟩
 ·intro y hy _
  simp at hy
  rcases hy with rfl | rfl | rfl | rfl | rfl | rfl
  ·exact q
  ·exact HDk.cell 0
  ·exact HDk.cell 1
  ·exact HDk.cell 2
  ·exact HDk.cell 3
  ·exact HDk.cell 4
 ·intro l y hy _
  simp at hy
  rcases hy with rfl | rfl | rfl | rfl | rfl | rfl
  ·have := H3.rcb13.2.2.2 i hi
   rw [hsi] at this
   exact this
  ·exact HD3.cell 0
  ·exact HD3.cell 1
  ·exact HD3.cell 2
  ·exact HD3.cell 3
  ·exact HD3.cell 4
 ·have := H3.last.own i hi
  rw [hsi] at this
  exact this
 ·obtain ⟨G, hGi⟩ := ahQt (w := w2) (S := Sd) (fun b hb => by obtain ⟨cs, hb'⟩ := HC2 b hb; exact hb'.lt)
  refine ⟨G, HL2.stay (fun b hb => (hGi b).2 hb) (Ev.StayS.below' HB3), fun b hb => ?_⟩
  have hb' := (hGi b).1 hb
  have hge := hS b hb'
  refine ⟨Nat.le_trans H.le.2.2 hge, ?_, fun j hj e => ?_⟩
  ·obtain ⟨cs, h1⟩ := HC2 b hb'
   exact ⟨cs, Blk.mono h1 HB3⟩
  ·have := adQx (H.last.own j hj) e
   omega
theorem adQu {w3 w4 : World} {i ct ci : Nat} {At Ai : Option Addr} {d : Ev.Dep} {v4 : Value} (hi : i < 7) (hsi : x.ss i = .slice Ai (x.rs i).length ci) (H3 : RfM w0 w3 B g b1 v ys x true) (HG3 : ∃ G : List Nat, Ev.Lay w3 (fun b => b ∈ G) d (.slice At d.args.length ct) ∧ ∀ b ∈ G, b1 ≤ b ∧ (∃ cs, Blk w3 b 39 cs) ∧ (∀ j, j < 7 → (x.ss j).ownBlock ≠ some b)) (hown4 : w4.ownsRow b1 39 5 v4 ((x.rs i).length + 1) (Ev.cells5 (x.rs i) ++ [.int .i64 0, .string ⟨#[]⟩, .int .i64 0, .string ⟨#[]⟩, .slice none 0 0])) (hg4 : w3.grownBy w4 (Value.slice Ai (x.rs i).length ci).ownBlock) (hat4 : v4.ownBlock = (Value.slice Ai (x.rs i).length ci).ownBlock ∨ v4.ownBlock = some w3.heap.size) :
 ∃ gg c4, v4 = .slice (some ⟨gg, 0, none⟩) ((x.rs i).length + 1) c4 ∧ g ≠ gg ∧ ¬ gg = g ∧ Hid (∃ x', x'.S = (⟨x.S.T, updF x.S.D i (x.S.D i ++ [d]), x.S.fl⟩ : Sk) ∧ RfM w0 ((((((w4.setCell ⟨gg, (x.rs i).length * 5, none⟩ (.int .i64 d.kind)).setCell ⟨gg, (x.rs i).length * 5 + 1, none⟩ (.string d.name)).setCell ⟨gg, (x.rs i).length * 5 + 2, none⟩ (.int .i64 d.op)).setCell ⟨gg, (x.rs i).length * 5 + 3, none⟩ (.string d.evr)).setCell ⟨gg, (x.rs i).length * 5 + 4, none⟩ (.slice At d.args.length ct)).setCell ⟨g, 5 + i, none⟩ (.slice (some ⟨gg, 0, none⟩) ((x.rs i).length + 1) c4)) B g b1 v ys x' true) ∧ (x.rs i).length + 1 ≤ c4 ∧ c4 ≤ maxLen ∧ w4.cell? ⟨gg, (x.rs i).length * 5, none⟩ = some (.int .i64 0) ∧ w4.cell? ⟨gg, (x.rs i).length * 5 + 1, none⟩ = some (.string ⟨#[]⟩) ∧ w4.cell? ⟨gg, (x.rs i).length * 5 + 2, none⟩ = some (.int .i64 0) ∧ w4.cell? ⟨gg, (x.rs i).length * 5 + 3, none⟩ = some (.string ⟨#[]⟩) ∧ w4.cell? ⟨gg, (x.rs i).length * 5 + 4, none⟩ = some (.slice none 0 0) ∧ (∀ j, w4.frozen? ⟨gg, j, none⟩ = false) ∧ w4.cell? ⟨g, 5 + i, none⟩ = some (x.ss i) ∧ w4.frozen? ⟨g, 5 + i, none⟩ = false := by
 obtain ⟨gg, c4, rfl⟩ : ∃ gg c4, v4 = .slice (some ⟨gg, 0, none⟩) ((x.rs i).length + 1) c4 := by
  rcases hown4.2 with ⟨_, h2⟩ | ⟨g', cap, cur, h1, _⟩
  ·omega
  ·exact ⟨g', cap, h1⟩
 rw [← hsi] at hg4 hat4
 have hat5 : some gg = (x.ss i).ownBlock ∨ some gg = some w3.heap.size := hat4
 have hne : g ≠ gg := fun e => by
  rcases hat5 with e2 | e2
  ·obtain ⟨cs', hb⟩ := own_blk (H3.last.own i hi) e2.symm
   rw [← e] at hb
   exact Blk.kind hb H3.rd (by decide) rfl
  ·injection e2 with e2
   have := H3.rd.lt
   omega
 obtain ⟨G, hG1, hG2⟩ := HG3
 obtain ⟨cg, hcg4, _, hg5, hg6, _, hg7⟩ := Ev.own_blk hown4
 have hgn : g ∉ (x.ss i).ownBlock.toList := fun hm => by obtain ⟨cs', hb⟩ := own_blk (H3.last.own i hi) (by simpa using hm); exact Blk.kind hb H3.rd (by decide) rfl
 have R4 := H3.rd.turned (aaQi hg4) hgn
 have uo := R4.cell (5 + i)
 have e : (rdC v x true)[5 + i]? = some (x.ss i) := by
  rcases i with _ | _ | _ | _ | _ | _ | _ | i
  ·rfl
  ·rfl
  ·rfl
  ·rfl
  ·rfl
  ·rfl
  ·rfl
  ·omega
 have hD := H3.depsA hi hG1 hG2 hown4 hg4 hat5
 rw [show 4 + i + 1 = 5 + i from by omega] at hD
 exact ⟨gg, c4, rfl, hne, fun e => hne e.symm, ⟨_, rfl, hD⟩, hg5, hg6,
  Ev.row_at (j := (x.rs i).length * 5) hcg4 hg7 (by rw [List.getElem?_append_right (by rw [Ev.cells5_len]; exact Nat.le_refl _), Ev.cells5_len, Nat.sub_self]; rfl),
  Ev.row_at (j := (x.rs i).length * 5 + 1) hcg4 hg7 (by rw [List.getElem?_append_right (by rw [Ev.cells5_len]; omega), Ev.cells5_len, Nat.add_sub_cancel_left]; rfl),
  Ev.row_at (j := (x.rs i).length * 5 + 2) hcg4 hg7 (by rw [List.getElem?_append_right (by rw [Ev.cells5_len]; omega), Ev.cells5_len, Nat.add_sub_cancel_left]; rfl),
  Ev.row_at (j := (x.rs i).length * 5 + 3) hcg4 hg7 (by rw [List.getElem?_append_right (by rw [Ev.cells5_len]; omega), Ev.cells5_len, Nat.add_sub_cancel_left]; rfl),
  Ev.row_at (j := (x.rs i).length * 5 + 4) hcg4 hg7 (by rw [List.getElem?_append_right (by rw [Ev.cells5_len]; omega), Ev.cells5_len, Nat.add_sub_cancel_left]; rfl), fun j => hcg4.free j, uo.trans e, R4.free _⟩
set_option maxHeartbeats 8000000 in
set_option maxRecDepth 1000000 in
theorem amQn (h : RfM w0 w B g b1 v ys x true) (vv : Bs) (hv : vv.length ≤ 40000) (hn : (x.rs 0).length ≤ 100000) : Calls Tryz.prog 80 #[.pointer (some ⟨g, 0, none⟩), .string (mkS [80, 114, 118]), .string (mkS vv)] w (PutR w0 B g b1 v ys (actM (.dep 0) x.S vv)) := by
 have C := hQQ (Ev.refParseD_any (mkS vv) (by rw [aaQg]; omega) w)
 have H := hQQ h
 obtain ⟨X, hX⟩ : ∃ X, X = actM (.dep 0) x.S vv := ⟨_, rfl⟩
 rw [← hX]
 have HX : Hid (X = match (Ev.parseD vv).1 with | some d => some (⟨x.S.T, updF x.S.D 0 (x.S.D 0 ++ [d]), x.S.fl⟩ : Sk) | none => none) := hX
 obtain ⟨is_, zs, his, hzs, hzs1, hzs2, hzs3⟩ := aaQ7
 have HIS := hQQ his
 have hq0 : ((mkS [80, 114, 118]).toList == ([86, 110, 100] : List UInt8)) = false := by decide +kernel
 have hq1 : ((mkS [80, 114, 118]).toList == ([70, 108, 115] : List UInt8)) = false := by decide +kernel
 have hq2 : ((mkS [80, 114, 118]).toList == ([80, 114, 118] : List UInt8)) = true := by decide +kernel
 have hq3 : ((mkS [80, 114, 118]).toList == ([82, 101, 113] : List UInt8)) = false := by decide +kernel
 have hq4 : ((mkS [80, 114, 118]).toList == ([80, 114, 113] : List UInt8)) = false := by decide +kernel
 have hq5 : ((mkS [80, 114, 118]).toList == ([67, 111, 110] : List UInt8)) = false := by decide +kernel
 have hq6 : ((mkS [80, 114, 118]).toList == ([79, 98, 115] : List UInt8)) = false := by decide +kernel
 have hq7 : ((mkS [80, 114, 118]).toList == ([82, 101, 99] : List UInt8)) = false := by decide +kernel
 have hq8 : ((mkS [80, 114, 118]).toList == ([83, 117, 112] : List UInt8)) = false := by decide +kernel
 clear h hX his
 go_enter Tryz.func80, Tryz.ntmps80
 go_wp2_with fail
 refine C.out.mono ?_
 rintro e w1 ⟨hb1, hG⟩
 have HB1 := hQQ hb1
 have H1 := hQQ (H.out.below hb1)
 clear hb1 C hq0 hq1
 rcases hG with ⟨d, At, ct, Sd, hp, rfl, hL, hC, hS⟩ | ⟨n, hp, rfl⟩
 rotate_left
 ·have hp : Ev.parseD vv = (none, n) := hp
  have hn0 : (n != 0) = true := bne_iff_ne.2 (acQf hp)
  have HXn : Hid (X = none) := by show X = _; rw [HX.out, hp]
  have HZ : Hid (Turned [g] w0 (w1.alloc (.cells #[.int .i64 0, .string ⟨#[]⟩, .int .i64 0, .string ⟨#[]⟩, .slice none 0 0] 39))) := H1.out.bel.trans (Turned.of_below ((Below.refl _ _).alloc (Nat.le_refl _) _) [g]) (Fresh.refl _ _)
  clear HX hp
  go_wp2_with fail
  go_ret
  show PutR _ _ _ _ _ _ X _ _
  rw [HXn.out]
  exact ⟨rfl, HZ.out⟩
 have hp : Ev.parseD vv = (some d, 0) := hp
 have HXs : Hid (X = some ⟨x.S.T, updF x.S.D 0 (x.S.D 0 ++ [d]), x.S.fl⟩) := by show X = _; rw [HX.out, hp]
 have hp0 : ((0 : Int) != 0) = false := rfl
 obtain ⟨w2, hw2⟩ : ∃ w2, w2 = w1.alloc (.cells #[.int .i64 d.kind, .string d.name, .int .i64 d.op, .string d.evr, .slice At d.args.length ct] 39) := ⟨_, rfl⟩
 obtain ⟨Ai, ci, hsi, hci1, hci2, q, qf, d0, d1, d2, d3, d4, T0, T6, H3, OA, HG3, hsz3⟩ := aeQs (i := 0) (by omega) H.out HB1.out hL hC hS hw2
 have q : w2.cell? ⟨g, 5, none⟩ = some (.slice Ai (x.rs 0).length ci) := q
 have qf : w2.frozen? ⟨g, 5, none⟩ = false := qf
 clear HX hp hL hC hS
 unfold Ev.rowD
 go_upto_region 21 with fail
 try rw [← hw2]
 clear hw2
 refine aaQu (Till [(8, ⟨g, 5, none⟩, .slice Ai (x.rs 0).length ci), (8, ⟨w1.heap.size, 0, none⟩, .int .i64 d.kind), (8, ⟨w1.heap.size, 1, none⟩, .string d.name), (8, ⟨w1.heap.size, 2, none⟩, .int .i64 d.op), (8, ⟨w1.heap.size, 3, none⟩, .string d.evr), (8, ⟨w1.heap.size, 4, none⟩, .slice At d.args.length ct)]) (by kernel_rfl) T0 (fun hS => ?_)
 clear T0
 try simp only [sx, Act.put]
 refine aaQa (i := 0) (fun _ => True) (v := (.pointer (some ⟨g, 0, none⟩))) rfl (by kernel_rfl) (by kernel_rfl) (by kernel_rfl) (fun _ _ _ h => h) (fun _ _ _ _ => trivial) (Till.io rfl) (by kernel_rfl) hS (fun w' hSw => ?_) (by rfl) (fun hS => ?_)
 ·go_simp
 try simp only [sx, Act.put]
 refine aaQa (i := 1) (fun _ => True) (v := (.pointer (some ⟨g, 0, none⟩))) rfl (by kernel_rfl) (by kernel_rfl) (by kernel_rfl) (fun _ _ _ h => h) (fun _ _ _ _ => trivial) (Till.io rfl) (by kernel_rfl) hS (fun w' hSw => ?_) (by rfl) (fun hS => ?_)
 ·go_simp
 try simp only [sx, Act.put]
 refine aaQa (i := 2) (fun _ => True) (v := (.pointer (some ⟨g, 1, none⟩))) rfl (by kernel_rfl) (by kernel_rfl) (by kernel_rfl) (fun _ _ _ h => h) (fun _ _ _ _ => trivial) (Till.io rfl) (by kernel_rfl) hS (fun w' hSw => ?_) (by rfl) (fun hS => ?_)
 ·go_simp
 try simp only [sx, Act.put]
 refine aaQa (i := 3) (fun _ => True) (v := (.pointer (some ⟨g, 5, none⟩))) rfl (by kernel_rfl) (by kernel_rfl) (by kernel_rfl) (fun _ _ _ h => h) (fun _ _ _ _ => trivial) (Till.io rfl) (by kernel_rfl) hS (fun w' hSw => ?_) (by rfl) (fun hS => ?_)
 ·go_simp
 try simp only [sx, Act.put]
 refine aaQa (i := 4) (fun w' => w'.cell? ⟨g, 5, none⟩ = some (.slice Ai (x.rs 0).length ci)) (v := (.slice Ai (x.rs 0).length ci)) rfl (by kernel_rfl) (by kernel_rfl) (by kernel_rfl) (fun _ _ _ h => h) (fun l w hw hS => hS.out (k := 8) (by simp) (hw 8 (by kernel_rfl))) (Till.io rfl) (by kernel_rfl) hS (fun w' hSw => ?_) (by rfl) (fun hS => ?_)
 ·go_simp
 try simp only [sx, Act.put]
 refine aaQa (i := 5) (fun w' => w'.cell? ⟨w1.heap.size, 0, none⟩ = some (.int .i64 d.kind) ∧ w'.cell? ⟨w1.heap.size, 1, none⟩ = some (.string d.name) ∧ w'.cell? ⟨w1.heap.size, 2, none⟩ = some (.int .i64 d.op) ∧ w'.cell? ⟨w1.heap.size, 3, none⟩ = some (.string d.evr) ∧ w'.cell? ⟨w1.heap.size, 4, none⟩ = some (.slice At d.args.length ct)) (v := (.agg #[.int .i64 d.kind, .string d.name, .int .i64 d.op, .string d.evr, .slice At d.args.length ct])) rfl (by kernel_rfl) (by kernel_rfl) (by kernel_rfl) (fun _ _ _ h => h) (fun l w hw hS => ⟨hS.out (k := 8) (by simp) (hw 8 (by kernel_rfl)), hS.out (k := 8) (by simp) (hw 8 (by kernel_rfl)), hS.out (k := 8) (by simp) (hw 8 (by kernel_rfl)), hS.out (k := 8) (by simp) (hw 8 (by kernel_rfl)), hS.out (k := 8) (by simp) (hw 8 (by kernel_rfl))⟩) (Till.io rfl) (by kernel_rfl) hS (fun w' hSw => ?_) (by rfl) (fun hS => ?_)
 ·obtain ⟨e0, e1, e2, e3, e4⟩ := hSw
  go_simp
 try simp only [sx, Act.put]
 refine aaQa (i := 6) (fun _ => True) (v := (.int .i64 ((x.rs 0).length : Int))) rfl (by kernel_rfl) (by kernel_rfl) (by kernel_rfl) (fun _ _ _ h => h) (fun _ _ _ _ => trivial) (Till.io rfl) (by kernel_rfl) hS (fun w' hSw => ?_) (by rfl) (fun hS => ?_)
 ·go_simp
 try simp only [sx, Act.put]
 refine aaQb (i := 7) (by kernel_rfl) rfl (fun K hK => ?_)
 go_simp
 refine hK.out _ _ (T6 _) (fun hS => ?_)
 clear hK T6
 try simp only [sx, Act.put]
 refine aaQb (i := 8) (by kernel_rfl) rfl (fun K hK => ?_)
 refine aaQo rfl (.tmp 54) (.tmp 57) 35 rfl b1 39 is_ zs 5 72 Tryz.underlying35 HIS.out hzs hzs2 hzs3 hzs1 (by decide) (.slice Ai (x.rs 0).length ci) (x.rs 0).length (Ev.cells5 (x.rs 0)) (by simp [Act.eval, Act.put]) OA.out ⟨w2.heap.size, 0, none⟩ 1 1 [.int .i64 0, .string ⟨#[]⟩, .int .i64 0, .string ⟨#[]⟩, .slice none 0 0] (by simp [Act.eval, Act.put]) rfl (abQ8 (Blk.new w2.drew 39 #[.int .i64 0, .string ⟨#[]⟩, .int .i64 0, .string ⟨#[]⟩, .slice none 0 0]) rfl) (fun u hu => by simp at hu; rcases hu with rfl | rfl | rfl | rfl | rfl <;> rfl) (by unfold maxLen; omega) (by omega) hsz3 (fun v4 w4 hown4 hg4 hat4 => ?_)
 obtain ⟨gg, c4, rfl, hne, hne', HA, hg5, hg6, u0, u1, u2, u3, u4, uf, uo4, ufo⟩ := adQu (i := 0) (by omega) hsi H3.out HG3.out hown4 hg4 hat4
 have uo4 : w4.cell? ⟨g, 5, none⟩ = some (x.ss 0) := uo4
 have ufo : w4.frozen? ⟨g, 5, none⟩ = false := ufo
 have uf0 := uf ((x.rs 0).length * 5)
 have uf1 := uf ((x.rs 0).length * 5 + 1)
 have uf2 := uf ((x.rs 0).length * 5 + 2)
 have uf3 := uf ((x.rs 0).length * 5 + 3)
 have uf4 := uf ((x.rs 0).length * 5 + 4)
 unfold maxLen at hg6
 clear hown4 hg4 hat4 uf
 try simp only [sx, Act.put]
 refine hK.out _ _ (Ev.Till.over (k := 8) (by rfl) (by kernel_rfl)) (fun hS => ?_)
 clear hK
 try simp only [sx, Act.put]
 refine aaQa (i := 9) (fun _ => True) (v := (.pointer (some ⟨gg, (x.rs 0).length * 5, none⟩))) rfl (by kernel_rfl) (by kernel_rfl) (by kernel_rfl) (fun _ _ _ h => h) (fun _ _ _ _ => trivial) (Till.io rfl) (by kernel_rfl) hS (fun w' hSw => ?_) (by rfl) (fun hS => ?_)
 ·go_simp
  exact fun h => absurd h (by omega)
 try simp only [sx, Act.put]
 refine aaQa (i := 11) (fun _ => True) (v := (.pointer (some ⟨g, 0, none⟩))) rfl (by kernel_rfl) (by kernel_rfl) (by kernel_rfl) (fun _ _ _ h => h) (fun _ _ _ _ => trivial) (Till.io rfl) (by kernel_rfl) hS (fun w' hSw => ?_) (by rfl) (fun hS => ?_)
 ·go_simp
 try simp only [sx, Act.put]
 refine aaQa (i := 12) (fun _ => True) (v := (.pointer (some ⟨g, 1, none⟩))) rfl (by kernel_rfl) (by kernel_rfl) (by kernel_rfl) (fun _ _ _ h => h) (fun _ _ _ _ => trivial) (Till.io rfl) (by kernel_rfl) hS (fun w' hSw => ?_) (by rfl) (fun hS => ?_)
 ·go_simp
 try simp only [sx, Act.put]
 refine aaQa (i := 13) (fun _ => True) (v := (.pointer (some ⟨g, 5, none⟩))) rfl (by kernel_rfl) (by kernel_rfl) (by kernel_rfl) (fun _ _ _ h => h) (fun _ _ _ _ => trivial) (Till.io rfl) (by kernel_rfl) hS (fun w' hSw => ?_) (by rfl) (fun hS => ?_)
 ·go_simp
 try simp only [sx, Act.put]
 refine Ev.wpAnyS_two (i := 10) (j := 14) (by kernel_rfl) rfl rfl (fun K hK => ?_) (fun K hK => ?_)
 ·go_simp
  refine hK.out _ _ (Ev.Till.over (k := 8) (by rfl) (by kernel_rfl)) (fun hS => ?_)
  clear hK
  try simp only [sx, Act.put]
  refine aaQb (i := 14) (by kernel_rfl) rfl (fun K hK => ?_)
  go_simp
  refine hK.out _ _ (Ev.Till.over (k := 8) (by rfl) (by kernel_rfl)) (fun hS => ?_)
  clear hK
  try simp only [sx, Act.put]
  refine aaQh (by kernel_rfl) ?_ _
  try simp only [sx, Act.put]
  clear HG3 OA H3 hS
  go_wp2_with fail
  go_ret
  show PutR _ _ _ _ _ _ X _ _
  rw [HXs.out]
  refine ⟨rfl, ?_⟩
  exact HA.out
 ·go_simp
  refine hK.out _ _ (Ev.Till.over (k := 8) (by rfl) (by kernel_rfl)) (fun hS => ?_)
  clear hK
  try simp only [sx, Act.put]
  refine aaQb (i := 10) (by kernel_rfl) rfl (fun K hK => ?_)
  go_simp
  refine hK.out _ _ (Ev.Till.over (k := 8) (by rfl) (by kernel_rfl)) (fun hS => ?_)
  clear hK
  try simp only [sx, Act.put]
  refine aaQh (by kernel_rfl) ?_ _
  try simp only [sx, Act.put]
  clear HG3 OA H3 hS
  go_wp2_with fail
  go_ret
  show PutR _ _ _ _ _ _ X _ _
  rw [HXs.out]
  refine ⟨rfl, ?_⟩
  rw [acQi hne]
  exact HA.out
set_option maxHeartbeats 8000000 in
set_option maxRecDepth 1000000 in
theorem amQm (h : RfM w0 w B g b1 v ys x true) (vv : Bs) (hv : vv.length ≤ 40000) (hn : (x.rs 1).length ≤ 100000) : Calls Tryz.prog 80 #[.pointer (some ⟨g, 0, none⟩), .string (mkS [82, 101, 113]), .string (mkS vv)] w (PutR w0 B g b1 v ys (actM (.dep 1) x.S vv)) := by
 have C := hQQ (Ev.refParseD_any (mkS vv) (by rw [aaQg]; omega) w)
 have H := hQQ h
 obtain ⟨X, hX⟩ : ∃ X, X = actM (.dep 1) x.S vv := ⟨_, rfl⟩
 rw [← hX]
 have HX : Hid (X = match (Ev.parseD vv).1 with | some d => some (⟨x.S.T, updF x.S.D 1 (x.S.D 1 ++ [d]), x.S.fl⟩ : Sk) | none => none) := hX
 obtain ⟨is_, zs, his, hzs, hzs1, hzs2, hzs3⟩ := aaQ7
 have HIS := hQQ his
 have hq0 : ((mkS [82, 101, 113]).toList == ([86, 110, 100] : List UInt8)) = false := by decide +kernel
 have hq1 : ((mkS [82, 101, 113]).toList == ([70, 108, 115] : List UInt8)) = false := by decide +kernel
 have hq2 : ((mkS [82, 101, 113]).toList == ([80, 114, 118] : List UInt8)) = false := by decide +kernel
 have hq3 : ((mkS [82, 101, 113]).toList == ([82, 101, 113] : List UInt8)) = true := by decide +kernel
 have hq4 : ((mkS [82, 101, 113]).toList == ([80, 114, 113] : List UInt8)) = false := by decide +kernel
 have hq5 : ((mkS [82, 101, 113]).toList == ([67, 111, 110] : List UInt8)) = false := by decide +kernel
 have hq6 : ((mkS [82, 101, 113]).toList == ([79, 98, 115] : List UInt8)) = false := by decide +kernel
 have hq7 : ((mkS [82, 101, 113]).toList == ([82, 101, 99] : List UInt8)) = false := by decide +kernel
 have hq8 : ((mkS [82, 101, 113]).toList == ([83, 117, 112] : List UInt8)) = false := by decide +kernel
 clear h hX his
 go_enter Tryz.func80, Tryz.ntmps80
 go_wp2_with fail
 refine C.out.mono ?_
 rintro e w1 ⟨hb1, hG⟩
 have HB1 := hQQ hb1
 have H1 := hQQ (H.out.below hb1)
 clear hb1 C hq0 hq1
 rcases hG with ⟨d, At, ct, Sd, hp, rfl, hL, hC, hS⟩ | ⟨n, hp, rfl⟩
 rotate_left
 ·have hp : Ev.parseD vv = (none, n) := hp
  have hn0 : (n != 0) = true := bne_iff_ne.2 (acQf hp)
  have HXn : Hid (X = none) := by show X = _; rw [HX.out, hp]
  have HZ : Hid (Turned [g] w0 (w1.alloc (.cells #[.int .i64 0, .string ⟨#[]⟩, .int .i64 0, .string ⟨#[]⟩, .slice none 0 0] 39))) := H1.out.bel.trans (Turned.of_below ((Below.refl _ _).alloc (Nat.le_refl _) _) [g]) (Fresh.refl _ _)
  clear HX hp
  go_wp2_with fail
  go_ret
  show PutR _ _ _ _ _ _ X _ _
  rw [HXn.out]
  exact ⟨rfl, HZ.out⟩
 have hp : Ev.parseD vv = (some d, 0) := hp
 have HXs : Hid (X = some ⟨x.S.T, updF x.S.D 1 (x.S.D 1 ++ [d]), x.S.fl⟩) := by show X = _; rw [HX.out, hp]
 have hp0 : ((0 : Int) != 0) = false := rfl
 obtain ⟨w2, hw2⟩ : ∃ w2, w2 = w1.alloc (.cells #[.int .i64 d.kind, .string d.name, .int .i64 d.op, .string d.evr, .slice At d.args.length ct] 39) := ⟨_, rfl⟩
 obtain ⟨Ai, ci, hsi, hci1, hci2, q, qf, d0, d1, d2, d3, d4, T0, T6, H3, OA, HG3, hsz3⟩ := aeQs (i := 1) (by omega) H.out HB1.out hL hC hS hw2
 have q : w2.cell? ⟨g, 6, none⟩ = some (.slice Ai (x.rs 1).length ci) := q
 have qf : w2.frozen? ⟨g, 6, none⟩ = false := qf
 clear HX hp hL hC hS
 unfold Ev.rowD
 go_upto_region 23 with fail
 try rw [← hw2]
 clear hw2
 refine aaQu (Till [(8, ⟨g, 6, none⟩, .slice Ai (x.rs 1).length ci), (8, ⟨w1.heap.size, 0, none⟩, .int .i64 d.kind), (8, ⟨w1.heap.size, 1, none⟩, .string d.name), (8, ⟨w1.heap.size, 2, none⟩, .int .i64 d.op), (8, ⟨w1.heap.size, 3, none⟩, .string d.evr), (8, ⟨w1.heap.size, 4, none⟩, .slice At d.args.length ct)]) (by kernel_rfl) T0 (fun hS => ?_)
 clear T0
 try simp only [sx, Act.put]
 refine aaQa (i := 0) (fun _ => True) (v := (.pointer (some ⟨g, 0, none⟩))) rfl (by kernel_rfl) (by kernel_rfl) (by kernel_rfl) (fun _ _ _ h => h) (fun _ _ _ _ => trivial) (Till.io rfl) (by kernel_rfl) hS (fun w' hSw => ?_) (by rfl) (fun hS => ?_)
 ·go_simp
 try simp only [sx, Act.put]
 refine aaQa (i := 1) (fun _ => True) (v := (.pointer (some ⟨g, 0, none⟩))) rfl (by kernel_rfl) (by kernel_rfl) (by kernel_rfl) (fun _ _ _ h => h) (fun _ _ _ _ => trivial) (Till.io rfl) (by kernel_rfl) hS (fun w' hSw => ?_) (by rfl) (fun hS => ?_)
 ·go_simp
 try simp only [sx, Act.put]
 refine aaQa (i := 2) (fun _ => True) (v := (.pointer (some ⟨g, 1, none⟩))) rfl (by kernel_rfl) (by kernel_rfl) (by kernel_rfl) (fun _ _ _ h => h) (fun _ _ _ _ => trivial) (Till.io rfl) (by kernel_rfl) hS (fun w' hSw => ?_) (by rfl) (fun hS => ?_)
 ·go_simp
 try simp only [sx, Act.put]
 refine aaQa (i := 3) (fun _ => True) (v := (.pointer (some ⟨g, 6, none⟩))) rfl (by kernel_rfl) (by kernel_rfl) (by kernel_rfl) (fun _ _ _ h => h) (fun _ _ _ _ => trivial) (Till.io rfl) (by kernel_rfl) hS (fun w' hSw => ?_) (by rfl) (fun hS => ?_)
 ·go_simp
 try simp only [sx, Act.put]
 refine aaQa (i := 4) (fun w' => w'.cell? ⟨g, 6, none⟩ = some (.slice Ai (x.rs 1).length ci)) (v := (.slice Ai (x.rs 1).length ci)) rfl (by kernel_rfl) (by kernel_rfl) (by kernel_rfl) (fun _ _ _ h => h) (fun l w hw hS => hS.out (k := 8) (by simp) (hw 8 (by kernel_rfl))) (Till.io rfl) (by kernel_rfl) hS (fun w' hSw => ?_) (by rfl) (fun hS => ?_)
 ·go_simp
 try simp only [sx, Act.put]
 refine aaQa (i := 5) (fun w' => w'.cell? ⟨w1.heap.size, 0, none⟩ = some (.int .i64 d.kind) ∧ w'.cell? ⟨w1.heap.size, 1, none⟩ = some (.string d.name) ∧ w'.cell? ⟨w1.heap.size, 2, none⟩ = some (.int .i64 d.op) ∧ w'.cell? ⟨w1.heap.size, 3, none⟩ = some (.string d.evr) ∧ w'.cell? ⟨w1.heap.size, 4, none⟩ = some (.slice At d.args.length ct)) (v := (.agg #[.int .i64 d.kind, .string d.name, .int .i64 d.op, .string d.evr, .slice At d.args.length ct])) rfl (by kernel_rfl) (by kernel_rfl) (by kernel_rfl) (fun _ _ _ h => h) (fun l w hw hS => ⟨hS.out (k := 8) (by simp) (hw 8 (by kernel_rfl)), hS.out (k := 8) (by simp) (hw 8 (by kernel_rfl)), hS.out (k := 8) (by simp) (hw 8 (by kernel_rfl)), hS.out (k := 8) (by simp) (hw 8 (by kernel_rfl)), hS.out (k := 8) (by simp) (hw 8 (by kernel_rfl))⟩) (Till.io rfl) (by kernel_rfl) hS (fun w' hSw => ?_) (by rfl) (fun hS => ?_)
 ·obtain ⟨e0, e1, e2, e3, e4⟩ := hSw
  go_simp
 try simp only [sx, Act.put]
 refine aaQa (i := 6) (fun _ => True) (v := (.int .i64 ((x.rs 1).length : Int))) rfl (by kernel_rfl) (by kernel_rfl) (by kernel_rfl) (fun _ _ _ h => h) (fun _ _ _ _ => trivial) (Till.io rfl) (by kernel_rfl) hS (fun w' hSw => ?_) (by rfl) (fun hS => ?_)
 ·go_simp
 try simp only [sx, Act.put]
 refine aaQb (i := 7) (by kernel_rfl) rfl (fun K hK => ?_)
 go_simp
 refine hK.out _ _ (T6 _) (fun hS => ?_)
 clear hK T6
 try simp only [sx, Act.put]
 refine aaQb (i := 8) (by kernel_rfl) rfl (fun K hK => ?_)
 refine aaQo rfl (.tmp 69) (.tmp 72) 35 rfl b1 39 is_ zs 5 72 Tryz.underlying35 HIS.out hzs hzs2 hzs3 hzs1 (by decide) (.slice Ai (x.rs 1).length ci) (x.rs 1).length (Ev.cells5 (x.rs 1)) (by simp [Act.eval, Act.put]) OA.out ⟨w2.heap.size, 0, none⟩ 1 1 [.int .i64 0, .string ⟨#[]⟩, .int .i64 0, .string ⟨#[]⟩, .slice none 0 0] (by simp [Act.eval, Act.put]) rfl (abQ8 (Blk.new w2.drew 39 #[.int .i64 0, .string ⟨#[]⟩, .int .i64 0, .string ⟨#[]⟩, .slice none 0 0]) rfl) (fun u hu => by simp at hu; rcases hu with rfl | rfl | rfl | rfl | rfl <;> rfl) (by unfold maxLen; omega) (by omega) hsz3 (fun v4 w4 hown4 hg4 hat4 => ?_)
 obtain ⟨gg, c4, rfl, hne, hne', HA, hg5, hg6, u0, u1, u2, u3, u4, uf, uo4, ufo⟩ := adQu (i := 1) (by omega) hsi H3.out HG3.out hown4 hg4 hat4
 have uo4 : w4.cell? ⟨g, 6, none⟩ = some (x.ss 1) := uo4
 have ufo : w4.frozen? ⟨g, 6, none⟩ = false := ufo
 have uf0 := uf ((x.rs 1).length * 5)
 have uf1 := uf ((x.rs 1).length * 5 + 1)
 have uf2 := uf ((x.rs 1).length * 5 + 2)
 have uf3 := uf ((x.rs 1).length * 5 + 3)
 have uf4 := uf ((x.rs 1).length * 5 + 4)
 unfold maxLen at hg6
 clear hown4 hg4 hat4 uf
 try simp only [sx, Act.put]
 refine hK.out _ _ (Ev.Till.over (k := 8) (by rfl) (by kernel_rfl)) (fun hS => ?_)
 clear hK
 try simp only [sx, Act.put]
 refine aaQa (i := 9) (fun _ => True) (v := (.pointer (some ⟨gg, (x.rs 1).length * 5, none⟩))) rfl (by kernel_rfl) (by kernel_rfl) (by kernel_rfl) (fun _ _ _ h => h) (fun _ _ _ _ => trivial) (Till.io rfl) (by kernel_rfl) hS (fun w' hSw => ?_) (by rfl) (fun hS => ?_)
 ·go_simp
  exact fun h => absurd h (by omega)
 try simp only [sx, Act.put]
 refine aaQa (i := 11) (fun _ => True) (v := (.pointer (some ⟨g, 0, none⟩))) rfl (by kernel_rfl) (by kernel_rfl) (by kernel_rfl) (fun _ _ _ h => h) (fun _ _ _ _ => trivial) (Till.io rfl) (by kernel_rfl) hS (fun w' hSw => ?_) (by rfl) (fun hS => ?_)
 ·go_simp
 try simp only [sx, Act.put]
 refine aaQa (i := 12) (fun _ => True) (v := (.pointer (some ⟨g, 1, none⟩))) rfl (by kernel_rfl) (by kernel_rfl) (by kernel_rfl) (fun _ _ _ h => h) (fun _ _ _ _ => trivial) (Till.io rfl) (by kernel_rfl) hS (fun w' hSw => ?_) (by rfl) (fun hS => ?_)
 ·go_simp
 try simp only [sx, Act.put]
 refine aaQa (i := 13) (fun _ => True) (v := (.pointer (some ⟨g, 6, none⟩))) rfl (by kernel_rfl) (by kernel_rfl) (by kernel_rfl) (fun _ _ _ h => h) (fun _ _ _ _ => trivial) (Till.io rfl) (by kernel_rfl) hS (fun w' hSw => ?_) (by rfl) (fun hS => ?_)
 ·go_simp
 try simp only [sx, Act.put]
 refine Ev.wpAnyS_two (i := 10) (j := 14) (by kernel_rfl) rfl rfl (fun K hK => ?_) (fun K hK => ?_)
 ·go_simp
  refine hK.out _ _ (Ev.Till.over (k := 8) (by rfl) (by kernel_rfl)) (fun hS => ?_)
  clear hK
  try simp only [sx, Act.put]
  refine aaQb (i := 14) (by kernel_rfl) rfl (fun K hK => ?_)
  go_simp
  refine hK.out _ _ (Ev.Till.over (k := 8) (by rfl) (by kernel_rfl)) (fun hS => ?_)
  clear hK
  try simp only [sx, Act.put]
  refine aaQh (by kernel_rfl) ?_ _
  try simp only [sx, Act.put]
  clear HG3 OA H3 hS
  go_wp2_with fail
  go_ret
  show PutR _ _ _ _ _ _ X _ _
  rw [HXs.out]
  refine ⟨rfl, ?_⟩
  exact HA.out
 ·go_simp
  refine hK.out _ _ (Ev.Till.over (k := 8) (by rfl) (by kernel_rfl)) (fun hS => ?_)
  clear hK
  try simp only [sx, Act.put]
  refine aaQb (i := 10) (by kernel_rfl) rfl (fun K hK => ?_)
  go_simp
  refine hK.out _ _ (Ev.Till.over (k := 8) (by rfl) (by kernel_rfl)) (fun hS => ?_)
  clear hK
  try simp only [sx, Act.put]
  refine aaQh (by kernel_rfl) ?_ _
  try simp only [sx, Act.put]
  clear HG3 OA H3 hS
  go_wp2_with fail
  go_ret
  show PutR _ _ _ _ _ _ X _ _
  rw [HXs.out]
  refine ⟨rfl, ?_⟩
  rw [acQi hne]
  exact HA.out
set_option maxHeartbeats 8000000 in
set_option maxRecDepth 1000000 in
theorem amQl (h : RfM w0 w B g b1 v ys x true) (vv : Bs) (hv : vv.length ≤ 40000) (hn : (x.rs 2).length ≤ 100000) : Calls Tryz.prog 80 #[.pointer (some ⟨g, 0, none⟩), .string (mkS [80, 114, 113]), .string (mkS vv)] w (PutR w0 B g b1 v ys (actM (.dep 2) x.S vv)) := by
 have C := hQQ (Ev.refParseD_any (mkS vv) (by rw [aaQg]; omega) w)
 have H := hQQ h
 obtain ⟨X, hX⟩ : ∃ X, X = actM (.dep 2) x.S vv := ⟨_, rfl⟩
 rw [← hX]
 have HX : Hid (X = match (Ev.parseD vv).1 with | some d => some (⟨x.S.T, updF x.S.D 2 (x.S.D 2 ++ [d]), x.S.fl⟩ : Sk) | none => none) := hX
 obtain ⟨is_, zs, his, hzs, hzs1, hzs2, hzs3⟩ := aaQ7
 have HIS := hQQ his
 have hq0 : ((mkS [80, 114, 113]).toList == ([86, 110, 100] : List UInt8)) = false := by decide +kernel
 have hq1 : ((mkS [80, 114, 113]).toList == ([70, 108, 115] : List UInt8)) = false := by decide +kernel
 have hq2 : ((mkS [80, 114, 113]).toList == ([80, 114, 118] : List UInt8)) = false := by decide +kernel
 have hq3 : ((mkS [80, 114, 113]).toList == ([82, 101, 113] : List UInt8)) = false := by decide +kernel
 have hq4 : ((mkS [80, 114, 113]).toList == ([80, 114, 113] : List UInt8)) = true := by decide +kernel
 have hq5 : ((mkS [80, 114, 113]).toList == ([67, 111, 110] : List UInt8)) = false := by decide +kernel
 have hq6 : ((mkS [80, 114, 113]).toList == ([79, 98, 115] : List UInt8)) = false := by decide +kernel
 have hq7 : ((mkS [80, 114, 113]).toList == ([82, 101, 99] : List UInt8)) = false := by decide +kernel
 have hq8 : ((mkS [80, 114, 113]).toList == ([83, 117, 112] : List UInt8)) = false := by decide +kernel
 clear h hX his
 go_enter Tryz.func80, Tryz.ntmps80
 go_wp2_with fail
 refine C.out.mono ?_
 rintro e w1 ⟨hb1, hG⟩
 have HB1 := hQQ hb1
 have H1 := hQQ (H.out.below hb1)
 clear hb1 C hq0 hq1
 rcases hG with ⟨d, At, ct, Sd, hp, rfl, hL, hC, hS⟩ | ⟨n, hp, rfl⟩
 rotate_left
 ·have hp : Ev.parseD vv = (none, n) := hp
  have hn0 : (n != 0) = true := bne_iff_ne.2 (acQf hp)
  have HXn : Hid (X = none) := by show X = _; rw [HX.out, hp]
  have HZ : Hid (Turned [g] w0 (w1.alloc (.cells #[.int .i64 0, .string ⟨#[]⟩, .int .i64 0, .string ⟨#[]⟩, .slice none 0 0] 39))) := H1.out.bel.trans (Turned.of_below ((Below.refl _ _).alloc (Nat.le_refl _) _) [g]) (Fresh.refl _ _)
  clear HX hp
  go_wp2_with fail
  go_ret
  show PutR _ _ _ _ _ _ X _ _
  rw [HXn.out]
  exact ⟨rfl, HZ.out⟩
 have hp : Ev.parseD vv = (some d, 0) := hp
 have HXs : Hid (X = some ⟨x.S.T, updF x.S.D 2 (x.S.D 2 ++ [d]), x.S.fl⟩) := by show X = _; rw [HX.out, hp]
 have hp0 : ((0 : Int) != 0) = false := rfl
 obtain ⟨w2, hw2⟩ : ∃ w2, w2 = w1.alloc (.cells #[.int .i64 d.kind, .string d.name, .int .i64 d.op, .string d.evr, .slice At d.args.length ct] 39) := ⟨_, rfl⟩
 obtain ⟨Ai, ci, hsi, hci1, hci2, q, qf, d0, d1, d2, d3, d4, T0, T6, H3, OA, HG3, hsz3⟩ := aeQs (i := 2) (by omega) H.out HB1.out hL hC hS hw2
 have q : w2.cell? ⟨g, 7, none⟩ = some (.slice Ai (x.rs 2).length ci) := q
 have qf : w2.frozen? ⟨g, 7, none⟩ = false := qf
 clear HX hp hL hC hS
 unfold Ev.rowD
 go_upto_region 25 with fail
 try rw [← hw2]
 clear hw2
 refine aaQu (Till [(8, ⟨g, 7, none⟩, .slice Ai (x.rs 2).length ci), (8, ⟨w1.heap.size, 0, none⟩, .int .i64 d.kind), (8, ⟨w1.heap.size, 1, none⟩, .string d.name), (8, ⟨w1.heap.size, 2, none⟩, .int .i64 d.op), (8, ⟨w1.heap.size, 3, none⟩, .string d.evr), (8, ⟨w1.heap.size, 4, none⟩, .slice At d.args.length ct)]) (by kernel_rfl) T0 (fun hS => ?_)
 clear T0
 try simp only [sx, Act.put]
 refine aaQa (i := 0) (fun _ => True) (v := (.pointer (some ⟨g, 0, none⟩))) rfl (by kernel_rfl) (by kernel_rfl) (by kernel_rfl) (fun _ _ _ h => h) (fun _ _ _ _ => trivial) (Till.io rfl) (by kernel_rfl) hS (fun w' hSw => ?_) (by rfl) (fun hS => ?_)
 ·go_simp
 try simp only [sx, Act.put]
 refine aaQa (i := 1) (fun _ => True) (v := (.pointer (some ⟨g, 0, none⟩))) rfl (by kernel_rfl) (by kernel_rfl) (by kernel_rfl) (fun _ _ _ h => h) (fun _ _ _ _ => trivial) (Till.io rfl) (by kernel_rfl) hS (fun w' hSw => ?_) (by rfl) (fun hS => ?_)
 ·go_simp
 try simp only [sx, Act.put]
 refine aaQa (i := 2) (fun _ => True) (v := (.pointer (some ⟨g, 1, none⟩))) rfl (by kernel_rfl) (by kernel_rfl) (by kernel_rfl) (fun _ _ _ h => h) (fun _ _ _ _ => trivial) (Till.io rfl) (by kernel_rfl) hS (fun w' hSw => ?_) (by rfl) (fun hS => ?_)
 ·go_simp
 try simp only [sx, Act.put]
 refine aaQa (i := 3) (fun _ => True) (v := (.pointer (some ⟨g, 7, none⟩))) rfl (by kernel_rfl) (by kernel_rfl) (by kernel_rfl) (fun _ _ _ h => h) (fun _ _ _ _ => trivial) (Till.io rfl) (by kernel_rfl) hS (fun w' hSw => ?_) (by rfl) (fun hS => ?_)
 ·go_simp
 try simp only [sx, Act.put]
 refine aaQa (i := 4) (fun w' => w'.cell? ⟨g, 7, none⟩ = some (.slice Ai (x.rs 2).length ci)) (v := (.slice Ai (x.rs 2).length ci)) rfl (by kernel_rfl) (by kernel_rfl) (by kernel_rfl) (fun _ _ _ h => h) (fun l w hw hS => hS.out (k := 8) (by simp) (hw 8 (by kernel_rfl))) (Till.io rfl) (by kernel_rfl) hS (fun w' hSw => ?_) (by rfl) (fun hS => ?_)
 ·go_simp
 try simp only [sx, Act.put]
 refine aaQa (i := 5) (fun w' => w'.cell? ⟨w1.heap.size, 0, none⟩ = some (.int .i64 d.kind) ∧ w'.cell? ⟨w1.heap.size, 1, none⟩ = some (.string d.name) ∧ w'.cell? ⟨w1.heap.size, 2, none⟩ = some (.int .i64 d.op) ∧ w'.cell? ⟨w1.heap.size, 3, none⟩ = some (.string d.evr) ∧ w'.cell? ⟨w1.heap.size, 4, none⟩ = some (.slice At d.args.length ct)) (v := (.agg #[.int .i64 d.kind, .string d.name, .int .i64 d.op, .string d.evr, .slice At d.args.length ct])) rfl (by kernel_rfl) (by kernel_rfl) (by kernel_rfl) (fun _ _ _ h => h) (fun l w hw hS => ⟨hS.out (k := 8) (by simp) (hw 8 (by kernel_rfl)), hS.out (k := 8) (by simp) (hw 8 (by kernel_rfl)), hS.out (k := 8) (by simp) (hw 8 (by kernel_rfl)), hS.out (k := 8) (by simp) (hw 8 (by kernel_rfl)), hS.out (k := 8) (by simp) (hw 8 (by kernel_rfl))⟩) (Till.io rfl) (by kernel_rfl) hS (fun w' hSw => ?_) (by rfl) (fun hS => ?_)
 ·obtain ⟨e0, e1, e2, e3, e4⟩ := hSw
  go_simp
 try simp only [sx, Act.put]
 refine aaQa (i := 6) (fun _ => True) (v := (.int .i64 ((x.rs 2).length : Int))) rfl (by kernel_rfl) (by kernel_rfl) (by kernel_rfl) (fun _ _ _ h => h) (fun _ _ _ _ => trivial) (Till.io rfl) (by kernel_rfl) hS (fun w' hSw => ?_) (by rfl) (fun hS => ?_)
 ·go_simp
 try simp only [sx, Act.put]
 refine aaQb (i := 7) (by kernel_rfl) rfl (fun K hK => ?_)
 go_simp
 refine hK.out _ _ (T6 _) (fun hS => ?_)
 clear hK T6
 try simp only [sx, Act.put]
 refine aaQb (i := 8) (by kernel_rfl) rfl (fun K hK => ?_)
 refine aaQo rfl (.tmp 84) (.tmp 87) 35 rfl b1 39 is_ zs 5 72 Tryz.underlying35 HIS.out hzs hzs2 hzs3 hzs1 (by decide) (.slice Ai (x.rs 2).length ci) (x.rs 2).length (Ev.cells5 (x.rs 2)) (by simp [Act.eval, Act.put]) OA.out ⟨w2.heap.size, 0, none⟩ 1 1 [.int .i64 0, .string ⟨#[]⟩, .int .i64 0, .string ⟨#[]⟩, .slice none 0 0] (by simp [Act.eval, Act.put]) rfl (abQ8 (Blk.new w2.drew 39 #[.int .i64 0, .string ⟨#[]⟩, .int .i64 0, .string ⟨#[]⟩, .slice none 0 0]) rfl) (fun u hu => by simp at hu; rcases hu with rfl | rfl | rfl | rfl | rfl <;> rfl) (by unfold maxLen; omega) (by omega) hsz3 (fun v4 w4 hown4 hg4 hat4 => ?_)
 obtain ⟨gg, c4, rfl, hne, hne', HA, hg5, hg6, u0, u1, u2, u3, u4, uf, uo4, ufo⟩ := adQu (i := 2) (by omega) hsi H3.out HG3.out hown4 hg4 hat4
 have uo4 : w4.cell? ⟨g, 7, none⟩ = some (x.ss 2) := uo4
 have ufo : w4.frozen? ⟨g, 7, none⟩ = false := ufo
 have uf0 := uf ((x.rs 2).length * 5)
 have uf1 := uf ((x.rs 2).length * 5 + 1)
 have uf2 := uf ((x.rs 2).length * 5 + 2)
 have uf3 := uf ((x.rs 2).length * 5 + 3)
 have uf4 := uf ((x.rs 2).length * 5 + 4)
 unfold maxLen at hg6
 clear hown4 hg4 hat4 uf
 try simp only [sx, Act.put]
 refine hK.out _ _ (Ev.Till.over (k := 8) (by rfl) (by kernel_rfl)) (fun hS => ?_)
 clear hK
 try simp only [sx, Act.put]
 refine aaQa (i := 9) (fun _ => True) (v := (.pointer (some ⟨gg, (x.rs 2).length * 5, none⟩))) rfl (by kernel_rfl) (by kernel_rfl) (by kernel_rfl) (fun _ _ _ h => h) (fun _ _ _ _ => trivial) (Till.io rfl) (by kernel_rfl) hS (fun w' hSw => ?_) (by rfl) (fun hS => ?_)
 ·go_simp
  exact fun h => absurd h (by omega)
 try simp only [sx, Act.put]
 refine aaQa (i := 11) (fun _ => True) (v := (.pointer (some ⟨g, 0, none⟩))) rfl (by kernel_rfl) (by kernel_rfl) (by kernel_rfl) (fun _ _ _ h => h) (fun _ _ _ _ => trivial) (Till.io rfl) (by kernel_rfl) hS (fun w' hSw => ?_) (by rfl) (fun hS => ?_)
 ·go_simp
 try simp only [sx, Act.put]
 refine aaQa (i := 12) (fun _ => True) (v := (.pointer (some ⟨g, 1, none⟩))) rfl (by kernel_rfl) (by kernel_rfl) (by kernel_rfl) (fun _ _ _ h => h) (fun _ _ _ _ => trivial) (Till.io rfl) (by kernel_rfl) hS (fun w' hSw => ?_) (by rfl) (fun hS => ?_)
 ·go_simp
 try simp only [sx, Act.put]
 refine aaQa (i := 13) (fun _ => True) (v := (.pointer (some ⟨g, 7, none⟩))) rfl (by kernel_rfl) (by kernel_rfl) (by kernel_rfl) (fun _ _ _ h => h) (fun _ _ _ _ => trivial) (Till.io rfl) (by kernel_rfl) hS (fun w' hSw => ?_) (by rfl) (fun hS => ?_)
 ·go_simp
 try simp only [sx, Act.put]
 refine Ev.wpAnyS_two (i := 10) (j := 14) (by kernel_rfl) rfl rfl (fun K hK => ?_) (fun K hK => ?_)
 ·go_simp
  refine hK.out _ _ (Ev.Till.over (k := 8) (by rfl) (by kernel_rfl)) (fun hS => ?_)
  clear hK
  try simp only [sx, Act.put]
  refine aaQb (i := 14) (by kernel_rfl) rfl (fun K hK => ?_)
  go_simp
  refine hK.out _ _ (Ev.Till.over (k := 8) (by rfl) (by kernel_rfl)) (fun hS => ?_)
  clear hK
  try simp only [sx, Act.put]
  refine aaQh (by kernel_rfl) ?_ _
  try simp only [sx, Act.put]
  clear HG3 OA H3 hS
  go_wp2_with fail
  go_ret
  show PutR _ _ _ _ _ _ X _ _
  rw [HXs.out]
  refine ⟨rfl, ?_⟩
  exact HA.out
 ·go_simp
  refine hK.out _ _ (Ev.Till.over (k := 8) (by rfl) (by kernel_rfl)) (fun hS => ?_)
  clear hK
  try simp only [sx, Act.put]
  refine aaQb (i := 10) (by kernel_rfl) rfl (fun K hK => ?_)
  go_simp
  refine hK.out _ _ (Ev.Till.over (k := 8) (by rfl) (by kernel_rfl)) (fun hS => ?_)
  clear hK
  try simp only [sx, Act.put]
  refine aaQh (by kernel_rfl) ?_ _
  try simp only [sx, Act.put]
  clear HG3 OA H3 hS
  go_wp2_with fail
  go_ret
  show PutR _ _ _ _ _ _ X _ _
  rw [HXs.out]
  refine ⟨rfl, ?_⟩
  rw [acQi hne]
  exact HA.out
set_option maxHeartbeats 8000000 in
set_option maxRecDepth 1000000 in
theorem amQk (h : RfM w0 w B g b1 v ys x true) (vv : Bs) (hv : vv.length ≤ 40000) (hn : (x.rs 3).length ≤ 100000) : Calls Tryz.prog 80 #[.pointer (some ⟨g, 0, none⟩), .string (mkS [67, 111, 110]), .string (mkS vv)] w (PutR w0 B g b1 v ys (actM (.dep 3) x.S vv)) := by
 have C := hQQ (Ev.refParseD_any (mkS vv) (by rw [aaQg]; omega) w)
 have H := hQQ h
 obtain ⟨X, hX⟩ : ∃ X, X = actM (.dep 3) x.S vv := ⟨_, rfl⟩
 rw [← hX]
 have HX : Hid (X = match (Ev.parseD vv).1 with | some d => some (⟨x.S.T, updF x.S.D 3 (x.S.D 3 ++ [d]), x.S.fl⟩ : Sk) | none => none) := hX
 obtain ⟨is_, zs, his, hzs, hzs1, hzs2, hzs3⟩ := aaQ7
 have HIS := hQQ his
 have hq0 : ((mkS [67, 111, 110]).toList == ([86, 110, 100] : List UInt8)) = false := by decide +kernel
 have hq1 : ((mkS [67, 111, 110]).toList == ([70, 108, 115] : List UInt8)) = false := by decide +kernel
 have hq2 : ((mkS [67, 111, 110]).toList == ([80, 114, 118] : List UInt8)) = false := by decide +kernel
 have hq3 : ((mkS [67, 111, 110]).toList == ([82, 101, 113] : List UInt8)) = false := by decide +kernel
 have hq4 : ((mkS [67, 111, 110]).toList == ([80, 114, 113] : List UInt8)) = false := by decide +kernel
 have hq5 : ((mkS [67, 111, 110]).toList == ([67, 111, 110] : List UInt8)) = true := by decide +kernel
 have hq6 : ((mkS [67, 111, 110]).toList == ([79, 98, 115] : List UInt8)) = false := by decide +kernel
 have hq7 : ((mkS [67, 111, 110]).toList == ([82, 101, 99] : List UInt8)) = false := by decide +kernel
 have hq8 : ((mkS [67, 111, 110]).toList == ([83, 117, 112] : List UInt8)) = false := by decide +kernel
 clear h hX his
 go_enter Tryz.func80, Tryz.ntmps80
 go_wp2_with fail
 refine C.out.mono ?_
 rintro e w1 ⟨hb1, hG⟩
 have HB1 := hQQ hb1
 have H1 := hQQ (H.out.below hb1)
 clear hb1 C hq0 hq1
 rcases hG with ⟨d, At, ct, Sd, hp, rfl, hL, hC, hS⟩ | ⟨n, hp, rfl⟩
 rotate_left
 ·have hp : Ev.parseD vv = (none, n) := hp
  have hn0 : (n != 0) = true := bne_iff_ne.2 (acQf hp)
  have HXn : Hid (X = none) := by show X = _; rw [HX.out, hp]
  have HZ : Hid (Turned [g] w0 (w1.alloc (.cells #[.int .i64 0, .string ⟨#[]⟩, .int .i64 0, .string ⟨#[]⟩, .slice none 0 0] 39))) := H1.out.bel.trans (Turned.of_below ((Below.refl _ _).alloc (Nat.le_refl _) _) [g]) (Fresh.refl _ _)
  clear HX hp
  go_wp2_with fail
  go_ret
  show PutR _ _ _ _ _ _ X _ _
  rw [HXn.out]
  exact ⟨rfl, HZ.out⟩
 have hp : Ev.parseD vv = (some d, 0) := hp
 have HXs : Hid (X = some ⟨x.S.T, updF x.S.D 3 (x.S.D 3 ++ [d]), x.S.fl⟩) := by show X = _; rw [HX.out, hp]
 have hp0 : ((0 : Int) != 0) = false := rfl
 obtain ⟨w2, hw2⟩ : ∃ w2, w2 = w1.alloc (.cells #[.int .i64 d.kind, .string d.name, .int .i64 d.op, .string d.evr, .slice At d.args.length ct] 39) := ⟨_, rfl⟩
 obtain ⟨Ai, ci, hsi, hci1, hci2, q, qf, d0, d1, d2, d3, d4, T0, T6, H3, OA, HG3, hsz3⟩ := aeQs (i := 3) (by omega) H.out HB1.out hL hC hS hw2
 have q : w2.cell? ⟨g, 8, none⟩ = some (.slice Ai (x.rs 3).length ci) := q
 have qf : w2.frozen? ⟨g, 8, none⟩ = false := qf
 clear HX hp hL hC hS
 unfold Ev.rowD
 go_upto_region 27 with fail
 try rw [← hw2]
 clear hw2
 refine aaQu (Till [(8, ⟨g, 8, none⟩, .slice Ai (x.rs 3).length ci), (8, ⟨w1.heap.size, 0, none⟩, .int .i64 d.kind), (8, ⟨w1.heap.size, 1, none⟩, .string d.name), (8, ⟨w1.heap.size, 2, none⟩, .int .i64 d.op), (8, ⟨w1.heap.size, 3, none⟩, .string d.evr), (8, ⟨w1.heap.size, 4, none⟩, .slice At d.args.length ct)]) (by kernel_rfl) T0 (fun hS => ?_)
 clear T0
 try simp only [sx, Act.put]
 refine aaQa (i := 0) (fun _ => True) (v := (.pointer (some ⟨g, 0, none⟩))) rfl (by kernel_rfl) (by kernel_rfl) (by kernel_rfl) (fun _ _ _ h => h) (fun _ _ _ _ => trivial) (Till.io rfl) (by kernel_rfl) hS (fun w' hSw => ?_) (by rfl) (fun hS => ?_)
 ·go_simp
 try simp only [sx, Act.put]
 refine aaQa (i := 1) (fun _ => True) (v := (.pointer (some ⟨g, 0, none⟩))) rfl (by kernel_rfl) (by kernel_rfl) (by kernel_rfl) (fun _ _ _ h => h) (fun _ _ _ _ => trivial) (Till.io rfl) (by kernel_rfl) hS (fun w' hSw => ?_) (by rfl) (fun hS => ?_)
 ·go_simp
 try simp only [sx, Act.put]
 refine aaQa (i := 2) (fun _ => True) (v := (.pointer (some ⟨g, 1, none⟩))) rfl (by kernel_rfl) (by kernel_rfl) (by kernel_rfl) (fun _ _ _ h => h) (fun _ _ _ _ => trivial) (Till.io rfl) (by kernel_rfl) hS (fun w' hSw => ?_) (by rfl) (fun hS => ?_)
 ·go_simp
 try simp only [sx, Act.put]
 refine aaQa (i := 3) (fun _ => True) (v := (.pointer (some ⟨g, 8, none⟩))) rfl (by kernel_rfl) (by kernel_rfl) (by kernel_rfl) (fun _ _ _ h => h) (fun _ _ _ _ => trivial) (Till.io rfl) (by kernel_rfl) hS (fun w' hSw => ?_) (by rfl) (fun hS => ?_)
 ·go_simp
 try simp only [sx, Act.put]
 refine aaQa (i := 4) (fun w' => w'.cell? ⟨g, 8, none⟩ = some (.slice Ai (x.rs 3).length ci)) (v := (.slice Ai (x.rs 3).length ci)) rfl (by kernel_rfl) (by kernel_rfl) (by kernel_rfl) (fun _ _ _ h => h) (fun l w hw hS => hS.out (k := 8) (by simp) (hw 8 (by kernel_rfl))) (Till.io rfl) (by kernel_rfl) hS (fun w' hSw => ?_) (by rfl) (fun hS => ?_)
 ·go_simp
 try simp only [sx, Act.put]
 refine aaQa (i := 5) (fun w' => w'.cell? ⟨w1.heap.size, 0, none⟩ = some (.int .i64 d.kind) ∧ w'.cell? ⟨w1.heap.size, 1, none⟩ = some (.string d.name) ∧ w'.cell? ⟨w1.heap.size, 2, none⟩ = some (.int .i64 d.op) ∧ w'.cell? ⟨w1.heap.size, 3, none⟩ = some (.string d.evr) ∧ w'.cell? ⟨w1.heap.size, 4, none⟩ = some (.slice At d.args.length ct)) (v := (.agg #[.int .i64 d.kind, .string d.name, .int .i64 d.op, .string d.evr, .slice At d.args.length ct])) rfl (by kernel_rfl) (by kernel_rfl) (by kernel_rfl) (fun _ _ _ h => h) (fun l w hw hS => ⟨hS.out (k := 8) (by simp) (hw 8 (by kernel_rfl)), hS.out (k := 8) (by simp) (hw 8 (by kernel_rfl)), hS.out (k := 8) (by simp) (hw 8 (by kernel_rfl)), hS.out (k := 8) (by simp) (hw 8 (by kernel_rfl)), hS.out (k := 8) (by simp) (hw 8 (by kernel_rfl))⟩) (Till.io rfl) (by kernel_rfl) hS (fun w' hSw => ?_) (by rfl) (fun hS => ?_)
 ·obtain ⟨e0, e1, e2, e3, e4⟩ := hSw
  go_simp
 try simp only [sx, Act.put]
 refine aaQa (i := 6) (fun _ => True) (v := (.int .i64 ((x.rs 3).length : Int))) rfl (by kernel_rfl) (by kernel_rfl) (by kernel_rfl) (fun _ _ _ h => h) (fun _ _ _ _ => trivial) (Till.io rfl) (by kernel_rfl) hS (fun w' hSw => ?_) (by rfl) (fun hS => ?_)
 ·go_simp
 try simp only [sx, Act.put]
 refine aaQb (i := 7) (by kernel_rfl) rfl (fun K hK => ?_)
 go_simp
 refine hK.out _ _ (T6 _) (fun hS => ?_)
 clear hK T6
 try simp only [sx, Act.put]
 refine aaQb (i := 8) (by kernel_rfl) rfl (fun K hK => ?_)
 refine aaQo rfl (.tmp 99) (.tmp 102) 35 rfl b1 39 is_ zs 5 72 Tryz.underlying35 HIS.out hzs hzs2 hzs3 hzs1 (by decide) (.slice Ai (x.rs 3).length ci) (x.rs 3).length (Ev.cells5 (x.rs 3)) (by simp [Act.eval, Act.put]) OA.out ⟨w2.heap.size, 0, none⟩ 1 1 [.int .i64 0, .string ⟨#[]⟩, .int .i64 0, .string ⟨#[]⟩, .slice none 0 0] (by simp [Act.eval, Act.put]) rfl (abQ8 (Blk.new w2.drew 39 #[.int .i64 0, .string ⟨#[]⟩, .int .i64 0, .string ⟨#[]⟩, .slice none 0 0]) rfl) (fun u hu => by simp at hu; rcases hu with rfl | rfl | rfl | rfl | rfl <;> rfl) (by unfold maxLen; omega) (by omega) hsz3 (fun v4 w4 hown4 hg4 hat4 => ?_)
 obtain ⟨gg, c4, rfl, hne, hne', HA, hg5, hg6, u0, u1, u2, u3, u4, uf, uo4, ufo⟩ := adQu (i := 3) (by omega) hsi H3.out HG3.out hown4 hg4 hat4
 have uo4 : w4.cell? ⟨g, 8, none⟩ = some (x.ss 3) := uo4
 have ufo : w4.frozen? ⟨g, 8, none⟩ = false := ufo
 have uf0 := uf ((x.rs 3).length * 5)
 have uf1 := uf ((x.rs 3).length * 5 + 1)
 have uf2 := uf ((x.rs 3).length * 5 + 2)
 have uf3 := uf ((x.rs 3).length * 5 + 3)
 have uf4 := uf ((x.rs 3).length * 5 + 4)
 unfold maxLen at hg6
 clear hown4 hg4 hat4 uf
 try simp only [sx, Act.put]
 refine hK.out _ _ (Ev.Till.over (k := 8) (by rfl) (by kernel_rfl)) (fun hS => ?_)
 clear hK
 try simp only [sx, Act.put]
 refine aaQa (i := 9) (fun _ => True) (v := (.pointer (some ⟨gg, (x.rs 3).length * 5, none⟩))) rfl (by kernel_rfl) (by kernel_rfl) (by kernel_rfl) (fun _ _ _ h => h) (fun _ _ _ _ => trivial) (Till.io rfl) (by kernel_rfl) hS (fun w' hSw => ?_) (by rfl) (fun hS => ?_)
 ·go_simp
  exact fun h => absurd h (by omega)
 try simp only [sx, Act.put]
 refine aaQa (i := 11) (fun _ => True) (v := (.pointer (some ⟨g, 0, none⟩))) rfl (by kernel_rfl) (by kernel_rfl) (by kernel_rfl) (fun _ _ _ h => h) (fun _ _ _ _ => trivial) (Till.io rfl) (by kernel_rfl) hS (fun w' hSw => ?_) (by rfl) (fun hS => ?_)
 ·go_simp
 try simp only [sx, Act.put]
 refine aaQa (i := 12) (fun _ => True) (v := (.pointer (some ⟨g, 1, none⟩))) rfl (by kernel_rfl) (by kernel_rfl) (by kernel_rfl) (fun _ _ _ h => h) (fun _ _ _ _ => trivial) (Till.io rfl) (by kernel_rfl) hS (fun w' hSw => ?_) (by rfl) (fun hS => ?_)
 ·go_simp
 try simp only [sx, Act.put]
 refine aaQa (i := 13) (fun _ => True) (v := (.pointer (some ⟨g, 8, none⟩))) rfl (by kernel_rfl) (by kernel_rfl) (by kernel_rfl) (fun _ _ _ h => h) (fun _ _ _ _ => trivial) (Till.io rfl) (by kernel_rfl) hS (fun w' hSw => ?_) (by rfl) (fun hS => ?_)
 ·go_simp
 try simp only [sx, Act.put]
 refine Ev.wpAnyS_two (i := 10) (j := 14) (by kernel_rfl) rfl rfl (fun K hK => ?_) (fun K hK => ?_)
 ·go_simp
  refine hK.out _ _ (Ev.Till.over (k := 8) (by rfl) (by kernel_rfl)) (fun hS => ?_)
  clear hK
  try simp only [sx, Act.put]
  refine aaQb (i := 14) (by kernel_rfl) rfl (fun K hK => ?_)
  go_simp
  refine hK.out _ _ (Ev.Till.over (k := 8) (by rfl) (by kernel_rfl)) (fun hS => ?_)
  clear hK
  try simp only [sx, Act.put]
  refine aaQh (by kernel_rfl) ?_ _
  try simp only [sx, Act.put]
  clear HG3 OA H3 hS
  go_wp2_with fail
  go_ret
  show PutR _ _ _ _ _ _ X _ _
  rw [HXs.out]
  refine ⟨rfl, ?_⟩
  exact HA.out
 ·go_simp
  refine hK.out _ _ (Ev.Till.over (k := 8) (by rfl) (by kernel_rfl)) (fun hS => ?_)
  clear hK
  try simp only [sx, Act.put]
  refine aaQb (i := 10) (by kernel_rfl) rfl (fun K hK => ?_)
  go_simp
  refine hK.out _ _ (Ev.Till.over (k := 8) (by rfl) (by kernel_rfl)) (fun hS => ?_)
  clear hK
  try simp only [sx, Act.put]
  refine aaQh (by kernel_rfl) ?_ _
  try simp only [sx, Act.put]
  clear HG3 OA H3 hS
  go_wp2_with fail
  go_ret
  show PutR _ _ _ _ _ _ X _ _
  rw [HXs.out]
  refine ⟨rfl, ?_⟩
  rw [acQi hne]
  exact HA.out
set_option maxHeartbeats 8000000 in
set_option maxRecDepth 1000000 in
theorem amQj (h : RfM w0 w B g b1 v ys x true) (vv : Bs) (hv : vv.length ≤ 40000) (hn : (x.rs 4).length ≤ 100000) : Calls Tryz.prog 80 #[.pointer (some ⟨g, 0, none⟩), .string (mkS [79, 98, 115]), .string (mkS vv)] w (PutR w0 B g b1 v ys (actM (.dep 4) x.S vv)) := by
 have C := hQQ (Ev.refParseD_any (mkS vv) (by rw [aaQg]; omega) w)
 have H := hQQ h
 obtain ⟨X, hX⟩ : ∃ X, X = actM (.dep 4) x.S vv := ⟨_, rfl⟩
 rw [← hX]
 have HX : Hid (X = match (Ev.parseD vv).1 with | some d => some (⟨x.S.T, updF x.S.D 4 (x.S.D 4 ++ [d]), x.S.fl⟩ : Sk) | none => none) := hX
 obtain ⟨is_, zs, his, hzs, hzs1, hzs2, hzs3⟩ := aaQ7
 have HIS := hQQ his
 have hq0 : ((mkS [79, 98, 115]).toList == ([86, 110, 100] : List UInt8)) = false := by decide +kernel
 have hq1 : ((mkS [79, 98, 115]).toList == ([70, 108, 115] : List UInt8)) = false := by decide +kernel
 have hq2 : ((mkS [79, 98, 115]).toList == ([80, 114, 118] : List UInt8)) = false := by decide +kernel
 have hq3 : ((mkS [79, 98, 115]).toList == ([82, 101, 113] : List UInt8)) = false := by decide +kernel
 have hq4 : ((mkS [79, 98, 115]).toList == ([80, 114, 113] : List UInt8)) = false := by decide +kernel
 have hq5 : ((mkS [79, 98, 115]).toList == ([67, 111, 110] : List UInt8)) = false := by decide +kernel
 have hq6 : ((mkS [79, 98, 115]).toList == ([79, 98, 115] : List UInt8)) = true := by decide +kernel
 have hq7 : ((mkS [79, 98, 115]).toList == ([82, 101, 99] : List UInt8)) = false := by decide +kernel
 have hq8 : ((mkS [79, 98, 115]).toList == ([83, 117, 112] : List UInt8)) = false := by decide +kernel
 clear h hX his
 go_enter Tryz.func80, Tryz.ntmps80
 go_wp2_with fail
 refine C.out.mono ?_
 rintro e w1 ⟨hb1, hG⟩
 have HB1 := hQQ hb1
 have H1 := hQQ (H.out.below hb1)
 clear hb1 C hq0 hq1
 rcases hG with ⟨d, At, ct, Sd, hp, rfl, hL, hC, hS⟩ | ⟨n, hp, rfl⟩
 rotate_left
 ·have hp : Ev.parseD vv = (none, n) := hp
  have hn0 : (n != 0) = true := bne_iff_ne.2 (acQf hp)
  have HXn : Hid (X = none) := by show X = _; rw [HX.out, hp]
  have HZ : Hid (Turned [g] w0 (w1.alloc (.cells #[.int .i64 0, .string ⟨#[]⟩, .int .i64 0, .string ⟨#[]⟩, .slice none 0 0] 39))) := H1.out.bel.trans (Turned.of_below ((Below.refl _ _).alloc (Nat.le_refl _) _) [g]) (Fresh.refl _ _)
  clear HX hp
  go_wp2_with fail
  go_ret
  show PutR _ _ _ _ _ _ X _ _
  rw [HXn.out]
  exact ⟨rfl, HZ.out⟩
 have hp : Ev.parseD vv = (some d, 0) := hp
 have HXs : Hid (X = some ⟨x.S.T, updF x.S.D 4 (x.S.D 4 ++ [d]), x.S.fl⟩) := by show X = _; rw [HX.out, hp]
 have hp0 : ((0 : Int) != 0) = false := rfl
 obtain ⟨w2, hw2⟩ : ∃ w2, w2 = w1.alloc (.cells #[.int .i64 d.kind, .string d.name, .int .i64 d.op, .string d.evr, .slice At d.args.length ct] 39) := ⟨_, rfl⟩
 obtain ⟨Ai, ci, hsi, hci1, hci2, q, qf, d0, d1, d2, d3, d4, T0, T6, H3, OA, HG3, hsz3⟩ := aeQs (i := 4) (by omega) H.out HB1.out hL hC hS hw2
 have q : w2.cell? ⟨g, 9, none⟩ = some (.slice Ai (x.rs 4).length ci) := q
 have qf : w2.frozen? ⟨g, 9, none⟩ = false := qf
 clear HX hp hL hC hS
 unfold Ev.rowD
 go_upto_region 29 with fail
 try rw [← hw2]
 clear hw2
 refine aaQu (Till [(8, ⟨g, 9, none⟩, .slice Ai (x.rs 4).length ci), (8, ⟨w1.heap.size, 0, none⟩, .int .i64 d.kind), (8, ⟨w1.heap.size, 1, none⟩, .string d.name), (8, ⟨w1.heap.size, 2, none⟩, .int .i64 d.op), (8, ⟨w1.heap.size, 3, none⟩, .string d.evr), (8, ⟨w1.heap.size, 4, none⟩, .slice At d.args.length ct)]) (by kernel_rfl) T0 (fun hS => ?_)
 clear T0
 try simp only [sx, Act.put]
 refine aaQa (i := 0) (fun _ => True) (v := (.pointer (some ⟨g, 0, none⟩))) rfl (by kernel_rfl) (by kernel_rfl) (by kernel_rfl) (fun _ _ _ h => h) (fun _ _ _ _ => trivial) (Till.io rfl) (by kernel_rfl) hS (fun w' hSw => ?_) (by rfl) (fun hS => ?_)
 ·go_simp
 try simp only [sx, Act.put]
 refine aaQa (i := 1) (fun _ => True) (v := (.pointer (some ⟨g, 0, none⟩))) rfl (by kernel_rfl) (by kernel_rfl) (by kernel_rfl) (fun _ _ _ h => h) (fun _ _ _ _ => trivial) (Till.io rfl) (by kernel_rfl) hS (fun w' hSw => ?_) (by rfl) (fun hS => ?_)
 ·go_simp
 try simp only [sx, Act.put]
 refine aaQa (i := 2) (fun _ => True) (v := (.pointer (some ⟨g, 1, none⟩))) rfl (by kernel_rfl) (by kernel_rfl) (by kernel_rfl) (fun _ _ _ h => h) (fun _ _ _ _ => trivial) (Till.io rfl) (by kernel_rfl) hS (fun w' hSw => ?_) (by rfl) (fun hS => ?_)
 ·go_simp
 try simp only [sx, Act.put]
 refine aaQa (i := 3) (fun _ => True) (v := (.pointer (some ⟨g, 9, none⟩))) rfl (by kernel_rfl) (by kernel_rfl) (by kernel_rfl) (fun _ _ _ h => h) (fun _ _ _ _ => trivial) (Till.io rfl) (by kernel_rfl) hS (fun w' hSw => ?_) (by rfl) (fun hS => ?_)
 ·go_simp
 try simp only [sx, Act.put]
 refine aaQa (i := 4) (fun w' => w'.cell? ⟨g, 9, none⟩ = some (.slice Ai (x.rs 4).length ci)) (v := (.slice Ai (x.rs 4).length ci)) rfl (by kernel_rfl) (by kernel_rfl) (by kernel_rfl) (fun _ _ _ h => h) (fun l w hw hS => hS.out (k := 8) (by simp) (hw 8 (by kernel_rfl))) (Till.io rfl) (by kernel_rfl) hS (fun w' hSw => ?_) (by rfl) (fun hS => ?_)
 ·go_simp
 try simp only [sx, Act.put]
 refine aaQa (i := 5) (fun w' => w'.cell? ⟨w1.heap.size, 0, none⟩ = some (.int .i64 d.kind) ∧ w'.cell? ⟨w1.heap.size, 1, none⟩ = some (.string d.name) ∧ w'.cell? ⟨w1.heap.size, 2, none⟩ = some (.int .i64 d.op) ∧ w'.cell? ⟨w1.heap.size, 3, none⟩ = some (.string d.evr) ∧ w'.cell? ⟨w1.heap.size, 4, none⟩ = some (.slice At d.args.length ct)) (v := (.agg #[.int .i64 d.kind, .string d.name, .int .i64 d.op, .string d.evr, .slice At d.args.length ct])) rfl (by kernel_rfl) (by kernel_rfl) (by kernel_rfl) (fun _ _ _ h => h) (fun l w hw hS => ⟨hS.out (k := 8) (by simp) (hw 8 (by kernel_rfl)), hS.out (k := 8) (by simp) (hw 8 (by kernel_rfl)), hS.out (k := 8) (by simp) (hw 8 (by kernel_rfl)), hS.out (k := 8) (by simp) (hw 8 (by kernel_rfl)), hS.out (k := 8) (by simp) (hw 8 (by kernel_rfl))⟩) (Till.io rfl) (by kernel_rfl) hS (fun w' hSw => ?_) (by rfl) (fun hS => ?_)
 ·obtain ⟨e0, e1, e2, e3, e4⟩ := hSw
  go_simp
 try simp only [sx, Act.put]
 refine aaQa (i := 6) (fun _ => True) (v := (.int .i64 ((x.rs 4).length : Int))) rfl (by kernel_rfl) (by kernel_rfl) (by kernel_rfl) (fun _ _ _ h => h) (fun _ _ _ _ => trivial) (Till.io rfl) (by kernel_rfl) hS (fun w' hSw => ?_) (by rfl) (fun hS => ?_)
 ·go_simp
 try simp only [sx, Act.put]
 refine aaQb (i := 7) (by kernel_rfl) rfl (fun K hK => ?_)
 go_simp
 refine hK.out _ _ (T6 _) (fun hS => ?_)
 clear hK T6
 try simp only [sx, Act.put]
 refine aaQb (i := 8) (by kernel_rfl) rfl (fun K hK => ?_)
 refine aaQo rfl (.tmp 114) (.tmp 117) 35 rfl b1 39 is_ zs 5 72 Tryz.underlying35 HIS.out hzs hzs2 hzs3 hzs1 (by decide) (.slice Ai (x.rs 4).length ci) (x.rs 4).length (Ev.cells5 (x.rs 4)) (by simp [Act.eval, Act.put]) OA.out ⟨w2.heap.size, 0, none⟩ 1 1 [.int .i64 0, .string ⟨#[]⟩, .int .i64 0, .string ⟨#[]⟩, .slice none 0 0] (by simp [Act.eval, Act.put]) rfl (abQ8 (Blk.new w2.drew 39 #[.int .i64 0, .string ⟨#[]⟩, .int .i64 0, .string ⟨#[]⟩, .slice none 0 0]) rfl) (fun u hu => by simp at hu; rcases hu with rfl | rfl | rfl | rfl | rfl <;> rfl) (by unfold maxLen; omega) (by omega) hsz3 (fun v4 w4 hown4 hg4 hat4 => ?_)
 obtain ⟨gg, c4, rfl, hne, hne', HA, hg5, hg6, u0, u1, u2, u3, u4, uf, uo4, ufo⟩ := adQu (i := 4) (by omega) hsi H3.out HG3.out hown4 hg4 hat4
 have uo4 : w4.cell? ⟨g, 9, none⟩ = some (x.ss 4) := uo4
 have ufo : w4.frozen? ⟨g, 9, none⟩ = false := ufo
 have uf0 := uf ((x.rs 4).length * 5)
 have uf1 := uf ((x.rs 4).length * 5 + 1)
 have uf2 := uf ((x.rs 4).length * 5 + 2)
 have uf3 := uf ((x.rs 4).length * 5 + 3)
 have uf4 := uf ((x.rs 4).length * 5 + 4)
 unfold maxLen at hg6
 clear hown4 hg4 hat4 uf
 try simp only [sx, Act.put]
 refine hK.out _ _ (Ev.Till.over (k := 8) (by rfl) (by kernel_rfl)) (fun hS => ?_)
 clear hK
 try simp only [sx, Act.put]
 refine aaQa (i := 9) (fun _ => True) (v := (.pointer (some ⟨gg, (x.rs 4).length * 5, none⟩))) rfl (by kernel_rfl) (by kernel_rfl) (by kernel_rfl) (fun _ _ _ h => h) (fun _ _ _ _ => trivial) (Till.io rfl) (by kernel_rfl) hS (fun w' hSw => ?_) (by rfl) (fun hS => ?_)
 ·go_simp
  exact fun h => absurd h (by omega)
 try simp only [sx, Act.put]
 refine aaQa (i := 11) (fun _ => True) (v := (.pointer (some ⟨g, 0, none⟩))) rfl (by kernel_rfl) (by kernel_rfl) (by kernel_rfl) (fun _ _ _ h => h) (fun _ _ _ _ => trivial) (Till.io rfl) (by kernel_rfl) hS (fun w' hSw => ?_) (by rfl) (fun hS => ?_)
 ·go_simp
 try simp only [sx, Act.put]
 refine aaQa (i := 12) (fun _ => True) (v := (.pointer (some ⟨g, 1, none⟩))) rfl (by kernel_rfl) (by kernel_rfl) (by kernel_rfl) (fun _ _ _ h => h) (fun _ _ _ _ => trivial) (Till.io rfl) (by kernel_rfl) hS (fun w' hSw => ?_) (by rfl) (fun hS => ?_)
 ·go_simp
 try simp only [sx, Act.put]
 refine aaQa (i := 13) (fun _ => True) (v := (.pointer (some ⟨g, 9, none⟩))) rfl (by kernel_rfl) (by kernel_rfl) (by kernel_rfl) (fun _ _ _ h => h) (fun _ _ _ _ => trivial) (Till.io rfl) (by kernel_rfl) hS (fun w' hSw => ?_) (by rfl) (fun hS => ?_)
 ·go_simp
 try simp only [sx, Act.put]
 refine Ev.wpAnyS_two (i := 10) (j := 14) (by kernel_rfl) rfl rfl (fun K hK => ?_) (fun K hK => ?_)
 ·go_simp
  refine hK.out _ _ (Ev.Till.over (k := 8) (by rfl) (by kernel_rfl)) (fun hS => ?_)
  clear hK
  try simp only [sx, Act.put]
  refine aaQb (i := 14) (by kernel_rfl) rfl (fun K hK => ?_)
  go_simp
  refine hK.out _ _ (Ev.Till.over (k := 8) (by rfl) (by kernel_rfl)) (fun hS => ?_)
  clear hK
  try simp only [sx, Act.put]
  refine aaQh (by kernel_rfl) ?_ _
  try simp only [sx, Act.put]
  clear HG3 OA H3 hS
  go_wp2_with fail
  go_ret
  show PutR _ _ _ _ _ _ X _ _
  rw [HXs.out]
  refine ⟨rfl, ?_⟩
  exact HA.out
 ·go_simp
  refine hK.out _ _ (Ev.Till.over (k := 8) (by rfl) (by kernel_rfl)) (fun hS => ?_)
  clear hK
  try simp only [sx, Act.put]
  refine aaQb (i := 10) (by kernel_rfl) rfl (fun K hK => ?_)
  go_simp
  refine hK.out _ _ (Ev.Till.over (k := 8) (by rfl) (by kernel_rfl)) (fun hS => ?_)
  clear hK
  try simp only [sx, Act.put]
  refine aaQh (by kernel_rfl) ?_ _
  try simp only [sx, Act.put]
  clear HG3 OA H3 hS
  go_wp2_with fail
  go_ret
  show PutR _ _ _ _ _ _ X _ _
  rw [HXs.out]
  refine ⟨rfl, ?_⟩
  rw [acQi hne]
  exact HA.out
set_option maxHeartbeats 8000000 in
set_option maxRecDepth 1000000 in
theorem amQi (h : RfM w0 w B g b1 v ys x true) (vv : Bs) (hv : vv.length ≤ 40000) (hn : (x.rs 5).length ≤ 100000) : Calls Tryz.prog 80 #[.pointer (some ⟨g, 0, none⟩), .string (mkS [82, 101, 99]), .string (mkS vv)] w (PutR w0 B g b1 v ys (actM (.dep 5) x.S vv)) := by
 have C := hQQ (Ev.refParseD_any (mkS vv) (by rw [aaQg]; omega) w)
 have H := hQQ h
 obtain ⟨X, hX⟩ : ∃ X, X = actM (.dep 5) x.S vv := ⟨_, rfl⟩
 rw [← hX]
 have HX : Hid (X = match (Ev.parseD vv).1 with | some d => some (⟨x.S.T, updF x.S.D 5 (x.S.D 5 ++ [d]), x.S.fl⟩ : Sk) | none => none) := hX
 obtain ⟨is_, zs, his, hzs, hzs1, hzs2, hzs3⟩ := aaQ7
 have HIS := hQQ his
 have hq0 : ((mkS [82, 101, 99]).toList == ([86, 110, 100] : List UInt8)) = false := by decide +kernel
 have hq1 : ((mkS [82, 101, 99]).toList == ([70, 108, 115] : List UInt8)) = false := by decide +kernel
 have hq2 : ((mkS [82, 101, 99]).toList == ([80, 114, 118] : List UInt8)) = false := by decide +kernel
 have hq3 : ((mkS [82, 101, 99]).toList == ([82, 101, 113] : List UInt8)) = false := by decide +kernel
 have hq4 : ((mkS [82, 101, 99]).toList == ([80, 114, 113] : List UInt8)) = false := by decide +kernel
 have hq5 : ((mkS [82, 101, 99]).toList == ([67, 111, 110] : List UInt8)) = false := by decide +kernel
 have hq6 : ((mkS [82, 101, 99]).toList == ([79, 98, 115] : List UInt8)) = false := by decide +kernel
 have hq7 : ((mkS [82, 101, 99]).toList == ([82, 101, 99] : List UInt8)) = true := by decide +kernel
 have hq8 : ((mkS [82, 101, 99]).toList == ([83, 117, 112] : List UInt8)) = false := by decide +kernel
 clear h hX his
 go_enter Tryz.func80, Tryz.ntmps80
 go_wp2_with fail
 refine C.out.mono ?_
 rintro e w1 ⟨hb1, hG⟩
 have HB1 := hQQ hb1
 have H1 := hQQ (H.out.below hb1)
 clear hb1 C hq0 hq1
 rcases hG with ⟨d, At, ct, Sd, hp, rfl, hL, hC, hS⟩ | ⟨n, hp, rfl⟩
 rotate_left
 ·have hp : Ev.parseD vv = (none, n) := hp
  have hn0 : (n != 0) = true := bne_iff_ne.2 (acQf hp)
  have HXn : Hid (X = none) := by show X = _; rw [HX.out, hp]
  have HZ : Hid (Turned [g] w0 (w1.alloc (.cells #[.int .i64 0, .string ⟨#[]⟩, .int .i64 0, .string ⟨#[]⟩, .slice none 0 0] 39))) := H1.out.bel.trans (Turned.of_below ((Below.refl _ _).alloc (Nat.le_refl _) _) [g]) (Fresh.refl _ _)
  clear HX hp
  go_wp2_with fail
  go_ret
  show PutR _ _ _ _ _ _ X _ _
  rw [HXn.out]
  exact ⟨rfl, HZ.out⟩
 have hp : Ev.parseD vv = (some d, 0) := hp
 have HXs : Hid (X = some ⟨x.S.T, updF x.S.D 5 (x.S.D 5 ++ [d]), x.S.fl⟩) := by show X = _; rw [HX.out, hp]
 have hp0 : ((0 : Int) != 0) = false := rfl
 obtain ⟨w2, hw2⟩ : ∃ w2, w2 = w1.alloc (.cells #[.int .i64 d.kind, .string d.name, .int .i64 d.op, .string d.evr, .slice At d.args.length ct] 39) := ⟨_, rfl⟩
 obtain ⟨Ai, ci, hsi, hci1, hci2, q, qf, d0, d1, d2, d3, d4, T0, T6, H3, OA, HG3, hsz3⟩ := aeQs (i := 5) (by omega) H.out HB1.out hL hC hS hw2
 have q : w2.cell? ⟨g, 10, none⟩ = some (.slice Ai (x.rs 5).length ci) := q
 have qf : w2.frozen? ⟨g, 10, none⟩ = false := qf
 clear HX hp hL hC hS
 unfold Ev.rowD
 go_upto_region 31 with fail
 try rw [← hw2]
 clear hw2
 refine aaQu (Till [(8, ⟨g, 10, none⟩, .slice Ai (x.rs 5).length ci), (8, ⟨w1.heap.size, 0, none⟩, .int .i64 d.kind), (8, ⟨w1.heap.size, 1, none⟩, .string d.name), (8, ⟨w1.heap.size, 2, none⟩, .int .i64 d.op), (8, ⟨w1.heap.size, 3, none⟩, .string d.evr), (8, ⟨w1.heap.size, 4, none⟩, .slice At d.args.length ct)]) (by kernel_rfl) T0 (fun hS => ?_)
 clear T0
 try simp only [sx, Act.put]
 refine aaQa (i := 0) (fun _ => True) (v := (.pointer (some ⟨g, 0, none⟩))) rfl (by kernel_rfl) (by kernel_rfl) (by kernel_rfl) (fun _ _ _ h => h) (fun _ _ _ _ => trivial) (Till.io rfl) (by kernel_rfl) hS (fun w' hSw => ?_) (by rfl) (fun hS => ?_)
 ·go_simp
 try simp only [sx, Act.put]
 refine aaQa (i := 1) (fun _ => True) (v := (.pointer (some ⟨g, 0, none⟩))) rfl (by kernel_rfl) (by kernel_rfl) (by kernel_rfl) (fun _ _ _ h => h) (fun _ _ _ _ => trivial) (Till.io rfl) (by kernel_rfl) hS (fun w' hSw => ?_) (by rfl) (fun hS => ?_)
 ·go_simp
 try simp only [sx, Act.put]
 refine aaQa (i := 2) (fun _ => True) (v := (.pointer (some ⟨g, 1, none⟩))) rfl (by kernel_rfl) (by kernel_rfl) (by kernel_rfl) (fun _ _ _ h => h) (fun _ _ _ _ => trivial) (Till.io rfl) (by kernel_rfl) hS (fun w' hSw => ?_) (by rfl) (fun hS => ?_)
 ·go_simp
 try simp only [sx, Act.put]
 refine aaQa (i := 3) (fun _ => True) (v := (.pointer (some ⟨g, 10, none⟩))) rfl (by kernel_rfl) (by kernel_rfl) (by kernel_rfl) (fun _ _ _ h => h) (fun _ _ _ _ => trivial) (Till.io rfl) (by kernel_rfl) hS (fun w' hSw => ?_) (by rfl) (fun hS => ?_)
 ·go_simp
 try simp only [sx, Act.put]
 refine aaQa (i := 4) (fun w' => w'.cell? ⟨g, 10, none⟩ = some (.slice Ai (x.rs 5).length ci)) (v := (.slice Ai (x.rs 5).length ci)) rfl (by kernel_rfl) (by kernel_rfl) (by kernel_rfl) (fun _ _ _ h => h) (fun l w hw hS => hS.out (k := 8) (by simp) (hw 8 (by kernel_rfl))) (Till.io rfl) (by kernel_rfl) hS (fun w' hSw => ?_) (by rfl) (fun hS => ?_)
 ·go_simp
 try simp only [sx, Act.put]
 refine aaQa (i := 5) (fun w' => w'.cell? ⟨w1.heap.size, 0, none⟩ = some (.int .i64 d.kind) ∧ w'.cell? ⟨w1.heap.size, 1, none⟩ = some (.string d.name) ∧ w'.cell? ⟨w1.heap.size, 2, none⟩ = some (.int .i64 d.op) ∧ w'.cell? ⟨w1.heap.size, 3, none⟩ = some (.string d.evr) ∧ w'.cell? ⟨w1.heap.size, 4, none⟩ = some (.slice At d.args.length ct)) (v := (.agg #[.int .i64 d.kind, .string d.name, .int .i64 d.op, .string d.evr, .slice At d.args.length ct])) rfl (by kernel_rfl) (by kernel_rfl) (by kernel_rfl) (fun _ _ _ h => h) (fun l w hw hS => ⟨hS.out (k := 8) (by simp) (hw 8 (by kernel_rfl)), hS.out (k := 8) (by simp) (hw 8 (by kernel_rfl)), hS.out (k := 8) (by simp) (hw 8 (by kernel_rfl)), hS.out (k := 8) (by simp) (hw 8 (by kernel_rfl)), hS.out (k := 8) (by simp) (hw 8 (by kernel_rfl))⟩) (Till.io rfl) (by kernel_rfl) hS (fun w' hSw => ?_) (by rfl) (fun hS => ?_)
 ·obtain ⟨e0, e1, e2, e3, e4⟩ := hSw
  go_simp
 try simp only [sx, Act.put]
 refine aaQa (i := 6) (fun _ => True) (v := (.int .i64 ((x.rs 5).length : Int))) rfl (by kernel_rfl) (by kernel_rfl) (by kernel_rfl) (fun _ _ _ h => h) (fun _ _ _ _ => trivial) (Till.io rfl) (by kernel_rfl) hS (fun w' hSw => ?_) (by rfl) (fun hS => ?_)
 ·go_simp
 try simp only [sx, Act.put]
 refine aaQb (i := 7) (by kernel_rfl) rfl (fun K hK => ?_)
 go_simp
 refine hK.out _ _ (T6 _) (fun hS => ?_)
 clear hK T6
 try simp only [sx, Act.put]
 refine aaQb (i := 8) (by kernel_rfl) rfl (fun K hK => ?_)
 refine aaQo rfl (.tmp 129) (.tmp 132) 35 rfl b1 39 is_ zs 5 72 Tryz.underlying35 HIS.out hzs hzs2 hzs3 hzs1 (by decide) (.slice Ai (x.rs 5).length ci) (x.rs 5).length (Ev.cells5 (x.rs 5)) (by simp [Act.eval, Act.put]) OA.out ⟨w2.heap.size, 0, none⟩ 1 1 [.int .i64 0, .string ⟨#[]⟩, .int .i64 0, .string ⟨#[]⟩, .slice none 0 0] (by simp [Act.eval, Act.put]) rfl (abQ8 (Blk.new w2.drew 39 #[.int .i64 0, .string ⟨#[]⟩, .int .i64 0, .string ⟨#[]⟩, .slice none 0 0]) rfl) (fun u hu => by simp at hu; rcases hu with rfl | rfl | rfl | rfl | rfl <;> rfl) (by unfold maxLen; omega) (by omega) hsz3 (fun v4 w4 hown4 hg4 hat4 => ?_)
 obtain ⟨gg, c4, rfl, hne, hne', HA, hg5, hg6, u0, u1, u2, u3, u4, uf, uo4, ufo⟩ := adQu (i := 5) (by omega) hsi H3.out HG3.out hown4 hg4 hat4
 have uo4 : w4.cell? ⟨g, 10, none⟩ = some (x.ss 5) := uo4
 have ufo : w4.frozen? ⟨g, 10, none⟩ = false := ufo
 have uf0 := uf ((x.rs 5).length * 5)
 have uf1 := uf ((x.rs 5).length * 5 + 1)
 have uf2 := uf ((x.rs 5).length * 5 + 2)
 have uf3 := uf ((x.rs 5).length * 5 + 3)
 have uf4 := uf ((x.rs 5).length * 5 + 4)
 unfold maxLen at hg6
 clear hown4 hg4 hat4 uf
 try simp only [sx, Act.put]
 refine hK.out _ _ (Ev.Till.over (k := 8) (by rfl) (by kernel_rfl)) (fun hS => ?_)
 clear hK
 try simp only [sx, Act.put]
 refine aaQa (i := 9) (fun _ => True) (v := (.pointer (some ⟨gg, (x.rs 5).length * 5, none⟩))) rfl (by kernel_rfl) (by kernel_rfl) (by kernel_rfl) (fun _ _ _ h => h) (fun _ _ _ _ => trivial) (Till.io rfl) (by kernel_rfl) hS (fun w' hSw => ?_) (by rfl) (fun hS => ?_)
 ·go_simp
  exact fun h => absurd h (by omega)
 try simp only [sx, Act.put]
 refine aaQa (i := 11) (fun _ => True) (v := (.pointer (some ⟨g, 0, none⟩))) rfl (by kernel_rfl) (by kernel_rfl) (by kernel_rfl) (fun _ _ _ h => h) (fun _ _ _ _ => trivial) (Till.io rfl) (by kernel_rfl) hS (fun w' hSw => ?_) (by rfl) (fun hS => ?_)
 ·go_simp
 try simp only [sx, Act.put]
 refine aaQa (i := 12) (fun _ => True) (v := (.pointer (some ⟨g, 1, none⟩))) rfl (by kernel_rfl) (by kernel_rfl) (by kernel_rfl) (fun _ _ _ h => h) (fun _ _ _ _ => trivial) (Till.io rfl) (by kernel_rfl) hS (fun w' hSw => ?_) (by rfl) (fun hS => ?_)
 ·go_simp
 try simp only [sx, Act.put]
 refine aaQa (i := 13) (fun _ => True) (v := (.pointer (some ⟨g, 10, none⟩))) rfl (by kernel_rfl) (by kernel_rfl) (by kernel_rfl) (fun _ _ _ h => h) (fun _ _ _ _ => trivial) (Till.io rfl) (by kernel_rfl) hS (fun w' hSw => ?_) (by rfl) (fun hS => ?_)
 ·go_simp
 try simp only [sx, Act.put]
 refine Ev.wpAnyS_two (i := 10) (j := 14) (by kernel_rfl) rfl rfl (fun K hK => ?_) (fun K hK => ?_)
 ·go_simp
  refine hK.out _ _ (Ev.Till.over (k := 8) (by rfl) (by kernel_rfl)) (fun hS => ?_)
  clear hK
  try simp only [sx, Act.put]
  refine aaQb (i := 14) (by kernel_rfl) rfl (fun K hK => ?_)
  go_simp
  refine hK.out _ _ (Ev.Till.over (k := 8) (by rfl) (by kernel_rfl)) (fun hS => ?_)
  clear hK
  try simp only [sx, Act.put]
  refine aaQh (by kernel_rfl) ?_ _
  try simp only [sx, Act.put]
  clear HG3 OA H3 hS
  go_wp2_with fail
  go_ret
  show PutR _ _ _ _ _ _ X _ _
  rw [HXs.out]
  refine ⟨rfl, ?_⟩
  exact HA.out
 ·go_simp
  refine hK.out _ _ (Ev.Till.over (k := 8) (by rfl) (by kernel_rfl)) (fun hS => ?_)
  clear hK
  try simp only [sx, Act.put]
  refine aaQb (i := 10) (by kernel_rfl) rfl (fun K hK => ?_)
  go_simp
  refine hK.out _ _ (Ev.Till.over (k := 8) (by rfl) (by kernel_rfl)) (fun hS => ?_)
  clear hK
  try simp only [sx, Act.put]
  refine aaQh (by kernel_rfl) ?_ _
  try simp only [sx, Act.put]
  clear HG3 OA H3 hS
  go_wp2_with fail
  go_ret
  show PutR _ _ _ _ _ _ X _ _
  rw [HXs.out]
  refine ⟨rfl, ?_⟩
  rw [acQi hne]
  exact HA.out
set_option maxHeartbeats 8000000 in
set_option maxRecDepth 1000000 in
theorem amQh (h : RfM w0 w B g b1 v ys x true) (vv : Bs) (hv : vv.length ≤ 40000) (hn : (x.rs 6).length ≤ 100000) : Calls Tryz.prog 80 #[.pointer (some ⟨g, 0, none⟩), .string (mkS [83, 117, 112]), .string (mkS vv)] w (PutR w0 B g b1 v ys (actM (.dep 6) x.S vv)) := by
 have C := hQQ (Ev.refParseD_any (mkS vv) (by rw [aaQg]; omega) w)
 have H := hQQ h
 obtain ⟨X, hX⟩ : ∃ X, X = actM (.dep 6) x.S vv := ⟨_, rfl⟩
 rw [← hX]
 have HX : Hid (X = match (Ev.parseD vv).1 with | some d => some (⟨x.S.T, updF x.S.D 6 (x.S.D 6 ++ [d]), x.S.fl⟩ : Sk) | none => none) := hX
 obtain ⟨is_, zs, his, hzs, hzs1, hzs2, hzs3⟩ := aaQ7
 have HIS := hQQ his
 have hq0 : ((mkS [83, 117, 112]).toList == ([86, 110, 100] : List UInt8)) = false := by decide +kernel
 have hq1 : ((mkS [83, 117, 112]).toList == ([70, 108, 115] : List UInt8)) = false := by decide +kernel
 have hq2 : ((mkS [83, 117, 112]).toList == ([80, 114, 118] : List UInt8)) = false := by decide +kernel
 have hq3 : ((mkS [83, 117, 112]).toList == ([82, 101, 113] : List UInt8)) = false := by decide +kernel
 have hq4 : ((mkS [83, 117, 112]).toList == ([80, 114, 113] : List UInt8)) = false := by decide +kernel
 have hq5 : ((mkS [83, 117, 112]).toList == ([67, 111, 110] : List UInt8)) = false := by decide +kernel
 have hq6 : ((mkS [83, 117, 112]).toList == ([79, 98, 115] : List UInt8)) = false := by decide +kernel
 have hq7 : ((mkS [83, 117, 112]).toList == ([82, 101, 99] : List UInt8)) = false := by decide +kernel
 have hq8 : ((mkS [83, 117, 112]).toList == ([83, 117, 112] : List UInt8)) = true := by decide +kernel
 clear h hX his
 go_enter Tryz.func80, Tryz.ntmps80
 go_wp2_with fail
 refine C.out.mono ?_
 rintro e w1 ⟨hb1, hG⟩
 have HB1 := hQQ hb1
 have H1 := hQQ (H.out.below hb1)
 clear hb1 C hq0 hq1
 rcases hG with ⟨d, At, ct, Sd, hp, rfl, hL, hC, hS⟩ | ⟨n, hp, rfl⟩
 rotate_left
 ·have hp : Ev.parseD vv = (none, n) := hp
  have hn0 : (n != 0) = true := bne_iff_ne.2 (acQf hp)
  have HXn : Hid (X = none) := by show X = _; rw [HX.out, hp]
  have HZ : Hid (Turned [g] w0 (w1.alloc (.cells #[.int .i64 0, .string ⟨#[]⟩, .int .i64 0, .string ⟨#[]⟩, .slice none 0 0] 39))) := H1.out.bel.trans (Turned.of_below ((Below.refl _ _).alloc (Nat.le_refl _) _) [g]) (Fresh.refl _ _)
  clear HX hp
  go_wp2_with fail
  go_ret
  show PutR _ _ _ _ _ _ X _ _
  rw [HXn.out]
  exact ⟨rfl, HZ.out⟩
 have hp : Ev.parseD vv = (some d, 0) := hp
 have HXs : Hid (X = some ⟨x.S.T, updF x.S.D 6 (x.S.D 6 ++ [d]), x.S.fl⟩) := by show X = _; rw [HX.out, hp]
 have hp0 : ((0 : Int) != 0) = false := rfl
 obtain ⟨w2, hw2⟩ : ∃ w2, w2 = w1.alloc (.cells #[.int .i64 d.kind, .string d.name, .int .i64 d.op, .string d.evr, .slice At d.args.length ct] 39) := ⟨_, rfl⟩
 obtain ⟨Ai, ci, hsi, hci1, hci2, q, qf, d0, d1, d2, d3, d4, T0, T6, H3, OA, HG3, hsz3⟩ := aeQs (i := 6) (by omega) H.out HB1.out hL hC hS hw2
 have q : w2.cell? ⟨g, 11, none⟩ = some (.slice Ai (x.rs 6).length ci) := q
 have qf : w2.frozen? ⟨g, 11, none⟩ = false := qf
 clear HX hp hL hC hS
 unfold Ev.rowD
 go_upto_region 33 with fail
 try rw [← hw2]
 clear hw2
 refine aaQu (Till [(8, ⟨g, 11, none⟩, .slice Ai (x.rs 6).length ci), (8, ⟨w1.heap.size, 0, none⟩, .int .i64 d.kind), (8, ⟨w1.heap.size, 1, none⟩, .string d.name), (8, ⟨w1.heap.size, 2, none⟩, .int .i64 d.op), (8, ⟨w1.heap.size, 3, none⟩, .string d.evr), (8, ⟨w1.heap.size, 4, none⟩, .slice At d.args.length ct)]) (by kernel_rfl) T0 (fun hS => ?_)
 clear T0
 try simp only [sx, Act.put]
 refine aaQa (i := 0) (fun _ => True) (v := (.pointer (some ⟨g, 0, none⟩))) rfl (by kernel_rfl) (by kernel_rfl) (by kernel_rfl) (fun _ _ _ h => h) (fun _ _ _ _ => trivial) (Till.io rfl) (by kernel_rfl) hS (fun w' hSw => ?_) (by rfl) (fun hS => ?_)
 ·go_simp
 try simp only [sx, Act.put]
 refine aaQa (i := 1) (fun _ => True) (v := (.pointer (some ⟨g, 0, none⟩))) rfl (by kernel_rfl) (by kernel_rfl) (by kernel_rfl) (fun _ _ _ h => h) (fun _ _ _ _ => trivial) (Till.io rfl) (by kernel_rfl) hS (fun w' hSw => ?_) (by rfl) (fun hS => ?_)
 ·go_simp
 try simp only [sx, Act.put]
 refine aaQa (i := 2) (fun _ => True) (v := (.pointer (some ⟨g, 1, none⟩))) rfl (by kernel_rfl) (by kernel_rfl) (by kernel_rfl) (fun _ _ _ h => h) (fun _ _ _ _ => trivial) (Till.io rfl) (by kernel_rfl) hS (fun w' hSw => ?_) (by rfl) (fun hS => ?_)
 ·go_simp
 try simp only [sx, Act.put]
 refine aaQa (i := 3) (fun _ => True) (v := (.pointer (some ⟨g, 11, none⟩))) rfl (by kernel_rfl) (by kernel_rfl) (by kernel_rfl) (fun _ _ _ h => h) (fun _ _ _ _ => trivial) (Till.io rfl) (by kernel_rfl) hS (fun w' hSw => ?_) (by rfl) (fun hS => ?_)
 ·go_simp
 try simp only [sx, Act.put]
 refine aaQa (i := 4) (fun w' => w'.cell? ⟨g, 11, none⟩ = some (.slice Ai (x.rs 6).length ci)) (v := (.slice Ai (x.rs 6).length ci)) rfl (by kernel_rfl) (by kernel_rfl) (by kernel_rfl) (fun _ _ _ h => h) (fun l w hw hS => hS.out (k := 8) (by simp) (hw 8 (by kernel_rfl))) (Till.io rfl) (by kernel_rfl) hS (fun w' hSw => ?_) (by rfl) (fun hS => ?_)
 ·go_simp
 try simp only [sx, Act.put]
 refine aaQa (i := 5) (fun w' => w'.cell? ⟨w1.heap.size, 0, none⟩ = some (.int .i64 d.kind) ∧ w'.cell? ⟨w1.heap.size, 1, none⟩ = some (.string d.name) ∧ w'.cell? ⟨w1.heap.size, 2, none⟩ = some (.int .i64 d.op) ∧ w'.cell? ⟨w1.heap.size, 3, none⟩ = some (.string d.evr) ∧ w'.cell? ⟨w1.heap.size, 4, none⟩ = some (.slice At d.args.length ct)) (v := (.agg #[.int .i64 d.kind, .string d.name, .int .i64 d.op, .string d.evr, .slice At d.args.length ct])) rfl (by kernel_rfl) (by kernel_rfl) (by kernel_rfl) (fun _ _ _ h => h) (fun l w hw hS => ⟨hS.out (k := 8) (by simp) (hw 8 (by kernel_rfl)), hS.out (k := 8) (by simp) (hw 8 (by kernel_rfl)), hS.out (k := 8) (by simp) (hw 8 (by kernel_rfl)), hS.out (k := 8) (by simp) (hw 8 (by kernel_rfl)), hS.out (k := 8) (by simp) (hw 8 (by kernel_rfl))⟩) (Till.io rfl) (by kernel_rfl) hS (fun w' hSw => ?_) (by rfl) (fun hS => ?_)
 ·obtain ⟨e0, e1, e2, e3, e4⟩ := hSw
  go_simp
 try simp only [sx, Act.put]
 refine aaQa (i := 6) (fun _ => True) (v := (.int .i64 ((x.rs 6).length : Int))) rfl (by kernel_rfl) (by kernel_rfl) (by kernel_rfl) (fun _ _ _ h => h) (fun _ _ _ _ => trivial) (Till.io rfl) (by kernel_rfl) hS (fun w' hSw => ?_) (by rfl) (fun hS => ?_)
 ·go_simp
 try simp only [sx, Act.put]
 refine aaQb (i := 7) (by kernel_rfl) rfl (fun K hK => ?_)
 go_simp
 refine hK.out _ _ (T6 _) (fun hS => ?_)
 clear hK T6
 try simp only [sx, Act.put]
 refine aaQb (i := 8) (by kernel_rfl) rfl (fun K hK => ?_)
 refine aaQo rfl (.tmp 144) (.tmp 147) 35 rfl b1 39 is_ zs 5 72 Tryz.underlying35 HIS.out hzs hzs2 hzs3 hzs1 (by decide) (.slice Ai (x.rs 6).length ci) (x.rs 6).length (Ev.cells5 (x.rs 6)) (by simp [Act.eval, Act.put]) OA.out ⟨w2.heap.size, 0, none⟩ 1 1 [.int .i64 0, .string ⟨#[]⟩, .int .i64 0, .string ⟨#[]⟩, .slice none 0 0] (by simp [Act.eval, Act.put]) rfl (abQ8 (Blk.new w2.drew 39 #[.int .i64 0, .string ⟨#[]⟩, .int .i64 0, .string ⟨#[]⟩, .slice none 0 0]) rfl) (fun u hu => by simp at hu; rcases hu with rfl | rfl | rfl | rfl | rfl <;> rfl) (by unfold maxLen; omega) (by omega) hsz3 (fun v4 w4 hown4 hg4 hat4 => ?_)
 obtain ⟨gg, c4, rfl, hne, hne', HA, hg5, hg6, u0, u1, u2, u3, u4, uf, uo4, ufo⟩ := adQu (i := 6) (by omega) hsi H3.out HG3.out hown4 hg4 hat4
 have uo4 : w4.cell? ⟨g, 11, none⟩ = some (x.ss 6) := uo4
 have ufo : w4.frozen? ⟨g, 11, none⟩ = false := ufo
 have uf0 := uf ((x.rs 6).length * 5)
 have uf1 := uf ((x.rs 6).length * 5 + 1)
 have uf2 := uf ((x.rs 6).length * 5 + 2)
 have uf3 := uf ((x.rs 6).length * 5 + 3)
 have uf4 := uf ((x.rs 6).length * 5 + 4)
 unfold maxLen at hg6
 clear hown4 hg4 hat4 uf
 try simp only [sx, Act.put]
 refine hK.out _ _ (Ev.Till.over (k := 8) (by rfl) (by kernel_rfl)) (fun hS => ?_)
 clear hK
 try simp only [sx, Act.put]
 refine aaQa (i := 9) (fun _ => True) (v := (.pointer (some ⟨gg, (x.rs 6).length * 5, none⟩))) rfl (by kernel_rfl) (by kernel_rfl) (by kernel_rfl) (fun _ _ _ h => h) (fun _ _ _ _ => trivial) (Till.io rfl) (by kernel_rfl) hS (fun w' hSw => ?_) (by rfl) (fun hS => ?_)
 ·go_simp
  exact fun h => absurd h (by omega)
 try simp only [sx, Act.put]
 refine aaQa (i := 11) (fun _ => True) (v := (.pointer (some ⟨g, 0, none⟩))) rfl (by kernel_rfl) (by kernel_rfl) (by kernel_rfl) (fun _ _ _ h => h) (fun _ _ _ _ => trivial) (Till.io rfl) (by kernel_rfl) hS (fun w' hSw => ?_) (by rfl) (fun hS => ?_)
 ·go_simp
 try simp only [sx, Act.put]
 refine aaQa (i := 12) (fun _ => True) (v := (.pointer (some ⟨g, 1, none⟩))) rfl (by kernel_rfl) (by kernel_rfl) (by kernel_rfl) (fun _ _ _ h => h) (fun _ _ _ _ => trivial) (Till.io rfl) (by kernel_rfl) hS (fun w' hSw => ?_) (by rfl) (fun hS => ?_)
 ·go_simp
 try simp only [sx, Act.put]
 refine aaQa (i := 13) (fun _ => True) (v := (.pointer (some ⟨g, 11, none⟩))) rfl (by kernel_rfl) (by kernel_rfl) (by kernel_rfl) (fun _ _ _ h => h) (fun _ _ _ _ => trivial) (Till.io rfl) (by kernel_rfl) hS (fun w' hSw => ?_) (by rfl) (fun hS => ?_)
 ·go_simp
 try simp only [sx, Act.put]
 refine Ev.wpAnyS_two (i := 10) (j := 14) (by kernel_rfl) rfl rfl (fun K hK => ?_) (fun K hK => ?_)
 ·go_simp
  refine hK.out _ _ (Ev.Till.over (k := 8) (by rfl) (by kernel_rfl)) (fun hS => ?_)
  clear hK
  try simp only [sx, Act.put]
  refine aaQb (i := 14) (by kernel_rfl) rfl (fun K hK => ?_)
  go_simp
  refine hK.out _ _ (Ev.Till.over (k := 8) (by rfl) (by kernel_rfl)) (fun hS => ?_)
  clear hK
  try simp only [sx, Act.put]
  refine aaQh (by kernel_rfl) ?_ _
  try simp only [sx, Act.put]
  clear HG3 OA H3 hS
  go_wp2_with fail
  go_ret
  show PutR _ _ _ _ _ _ X _ _
  rw [HXs.out]
  refine ⟨rfl, ?_⟩
  exact HA.out
 ·go_simp
  refine hK.out _ _ (Ev.Till.over (k := 8) (by rfl) (by kernel_rfl)) (fun hS => ?_)
  clear hK
  try simp only [sx, Act.put]
  refine aaQb (i := 10) (by kernel_rfl) rfl (fun K hK => ?_)
  go_simp
  refine hK.out _ _ (Ev.Till.over (k := 8) (by rfl) (by kernel_rfl)) (fun hS => ?_)
  clear hK
  try simp only [sx, Act.put]
  refine aaQh (by kernel_rfl) ?_ _
  try simp only [sx, Act.put]
  clear HG3 OA H3 hS
  go_wp2_with fail
  go_ret
  show PutR _ _ _ _ _ _ X _ _
  rw [HXs.out]
  refine ⟨rfl, ?_⟩
  rw [acQi hne]
  exact HA.out
theorem anQk (t vv : Bs) (S : Sk) : putT t [vv] S = actM (mgOf t) S vv := by
 show (match actM (mgOf t) S vv with | some S' => putM (mgOf t) [] S' | none => none) = _
 cases actM (mgOf t) S vv with
 | none => rfl
 | some S' => rfl
theorem aoQv (h : RfM w0 w B g b1 v ys x true) (t vv : Bs) (hv : vv.length ≤ 40000) (hfl : x.S.fl.length ≤ 100000) (hrs : ∀ i, i < 7 → (x.rs i).length ≤ 100000) : Calls Tryz.prog 80 #[.pointer (some ⟨g, 0, none⟩), .string (mkS t), .string (mkS vv)] w (PutR w0 B g b1 v ys (putT t [vv] x.S)) := by
 rw [anQk]
 by_cases h0 : t = vndN
 ·subst h0
  exact aoQt h vv
 by_cases h1 : t = flsN
 ·subst h1
  exact aoQu h vv hv hfl
 by_cases k0 : t = [80, 114, 118]
 ·subst k0; exact amQn h vv hv (hrs 0 (by omega))
 by_cases k1 : t = [82, 101, 113]
 ·subst k1; exact amQm h vv hv (hrs 1 (by omega))
 by_cases k2 : t = [80, 114, 113]
 ·subst k2; exact amQl h vv hv (hrs 2 (by omega))
 by_cases k3 : t = [67, 111, 110]
 ·subst k3; exact amQk h vv hv (hrs 3 (by omega))
 by_cases k4 : t = [79, 98, 115]
 ·subst k4; exact amQj h vv hv (hrs 4 (by omega))
 by_cases k5 : t = [82, 101, 99]
 ·subst k5; exact amQi h vv hv (hrs 5 (by omega))
 by_cases k6 : t = [83, 117, 112]
 ·subst k6; exact amQh h vv hv (hrs 6 (by omega))
 have hm : mgOf t = .none := by
  unfold mgOf
  rw [if_neg h0, if_neg h1]
  have : ixIn tagsN t 0 = none := by simp [ixIn, tagsN, k0, k1, k2, k3, k4, k5, k6]
  rw [this]
 rw [hm]
 refine amQg h t vv h0 h1 (fun k hk => ?_)
 simp only [tagsN, List.mem_cons, List.not_mem_nil, or_false] at hk
 rcases hk with rfl | rfl | rfl | rfl | rfl | rfl | rfl <;> assumption
end
end Go.Proofs.YtdhgiammfpjniaaGreatDoor
