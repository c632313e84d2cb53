/- Parts of the proof. -/
import Derived.Test.YtdhgiammfpjniaaGreatDoorZrap
import Derived.Test.YtdhgiammfpjniaaGreatDoorZrax
import Derived.Test.YtdhgiammfpjniaaGreatDoorZrao
import Derived.Test.YtdhgiammfpjniaaGreatDoorZran
namespace Go.Proofs.YtdhgiammfpjniaaGreatDoor
set_option linter.unusedSimpArgs false
set_option linter.unusedVariables false
open Go.RowKit Go.MapKept
theorem aaQ5 {fn : Func} {t u v x : Tmp} (h : fn.results = #[.tmp t, .tmp u, .tmp v, .tmp x]) (tmps : Array Value) (P : Program) (w : World) :
 (results fn tmps).run P w = .ok (.tuple #[tmps.getD t undef, tmps.getD u undef, tmps.getD v undef, tmps.getD x undef]) w := by
 simp [results, h]
def RdR (w : World) (g : Nat) (r : Bs) (v : Value) : Prop := Blk w g 67 #[.string (mkS r), v]
set_option maxHeartbeats 1000000 in
set_option maxRecDepth 100000 in
theorem ahQl (l : Bs) (hl : l.length ≤ 40000) (w : World) : Calls Tryz.prog 73 #[.string (mkS l)] w fun e w' => e = .returned (.bool (isLay l)) ∧ Below w.heap.size w w' := by
 have C := hQQ (alQk l (by omega) w)
 have hla : Hid (mkS dLayS = ⟨#[32, 9]⟩) := rfl
 rw [hla.out] at C
 have hq : Hid ((mkS (dTrim l)).toList.isEmpty = isLay l) := abQb _
 clear hla hl
 generalize isLay l = q at *
 generalize mkS (dTrim l) = SD at *
 generalize mkS l = SL at *
 go_enter Tryz.func73, Tryz.ntmps73
 go_wp2_with fail
 refine C.out.mono ?_
 rintro e w1 ⟨rfl, hb⟩
 have HB := hQQ hb
 clear hb C
 go_wp2_with fail
 go_ret
 exact ⟨by rw [← hq.out]; first | rfl | simp, HB.out⟩
set_option maxHeartbeats 1000000 in
set_option maxRecDepth 100000 in
theorem anQt (g : Nat) (r : Bs) (v : Value) (w : World) (h : RdR w g r v) (hr : r.length ≤ 40000) (hM : MaxAt w) : Calls Tryz.prog 72 #[.pointer (some ⟨g, 0, none⟩)] w fun e w' => e = .returned (.string (mkS (Lib.cut r [10]).1)) ∧ RdR w' g (Lib.cut r [10]).2.1 v ∧ Turned [g] w w' := by
 have C := hQQ (anQ4 10 r hr w hM)
 have hnl : Hid (mkS [10] = ⟨#[10]⟩) := rfl
 rw [hnl.out] at C
 have H := hQQ h
 have r0 := Blk.cell h 0
 simp at r0
 clear h hr hM hnl
 generalize (Lib.cut r [10]).1 = ln at *
 generalize (Lib.cut r [10]).2.1 = rest at *
 generalize (Lib.cut r [10]).2.2 = fd at *
 go_enter Tryz.func72, Tryz.ntmps72
 go_wp2_with fail
 refine C.out.mono ?_
 rintro e w1 ⟨rfl, hb⟩
 have H1 := hQQ (Blk.mono H.out hb)
 have T1 := hQQ (Turned.of_below hb [g])
 have r1 := H1.out.cell 0
 have f1 := H1.out.free 0
 simp at r1
 clear hb C H r0
 go_wp2_with fail
 go_ret
 exact ⟨rfl, H1.out.set_ 0 _, T1.out.setCell (.inl (by simp)) _⟩
def adQ5 (x : UInt8 × Bs × Bs × Bool) : Value := .tuple #[.string (mkS [x.1]), .string (mkS x.2.1), .string (mkS x.2.2.1), .bool x.2.2.2]
theorem aoQ4 (b : UInt8) (r : Bs) : acQl (b :: r) = if b = 61 then (61, (Lib.cut r [58]).1, aaQ2 (Lib.cut r [58]).2.1, tagOk (Lib.cut r [58])) else if b = 43 then (43, (Lib.cut r [58]).1, (Lib.cut r [58]).2.1, tagOk (Lib.cut r [58]) && isLay (Lib.cut r [58]).2.1) else (b, (Lib.cut r [58]).1, (Lib.cut r [58]).2.1, false) := rfl
set_option maxHeartbeats 4000000 in
set_option maxRecDepth 100000 in
theorem aqQu (b : UInt8) (r : Bs) (hl : (b :: r).length ≤ 40000) (w : World) (hM : MaxAt w) : Calls Tryz.prog 74 #[.string (mkS (b :: r))] w fun e w' => e = .returned (adQ5 (acQl (b :: r))) ∧ Below w.heap.size w w' := by
 rw [aoQ4]
 have hrl : r.length ≤ 40000 := by simp at hl; omega
 have C := hQQ (anQ4 58 r hrl w hM)
 have hco : Hid (mkS [58] = ⟨#[58]⟩) := rfl
 rw [hco.out] at C
 obtain ⟨l1, l2, _⟩ := agQr 58 r
 have CB := hQQ (fun wx => alQn dLay_ok (Lib.cut r [58]).1 (by omega) wx)
 have hla : Hid (mkS dLayS = ⟨#[32, 9]⟩) := rfl
 rw [hla.out] at CB
 have CL := hQQ (fun wx => ahQl (Lib.cut r [58]).2.1 (by omega) wx)
 have CP := hQQ (fun wx => Tryz.strings_TrimPrefix (mkS (Lib.cut r [58]).2.1) ⟨#[32]⟩ wx)
 have hcb : (⟨(Lib.trimPrefix (mkS (Lib.cut r [58]).2.1).data.toList (⟨#[32]⟩ : ByteArray).data.toList).toArray⟩ : ByteArray) = mkS (aaQ2 (Lib.cut r [58]).2.1) := by
  rw [aaQn]
  unfold aaQ2 Lib.trimPrefix
  show _ = mkS _
  split <;> simp_all [mkS]
 rw [hcb] at CP
 have hx1 : (mkS (b :: r)).extract 0 1 = mkS [b] := by rw [agQn]; rfl
 have hx2 : (mkS (b :: r)).extract 1 (mkS (b :: r)).size = mkS r := by rw [ajQa]; rfl
 have hsz : 1 ≤ (mkS (b :: r)).size := by rw [aaQg]; simp
 have hszI : (1 : Int) ≤ ((mkS (b :: r)).size : Int) := by omega
 have hq1 : ((mkS [b]).toList == ([61] : List UInt8)) = decide (b = 61) := by
  rw [ByteArray.toList_eq, aaQn]
  by_cases h : b = 61 <;> simp [h]
 have hq2 : ((mkS [b]).toList == ([43] : List UInt8)) = decide (b = 43) := by
  rw [ByteArray.toList_eq, aaQn]
  by_cases h : b = 43 <;> simp [h]
 have htk : tagOk (Lib.cut r [58]) = ((Lib.cut r [58]).2.2 && !(Lib.cut r [58]).1.isEmpty && !decide (adQ3 dLayS (Lib.cut r [58]).1 < (Lib.cut r [58]).1.length)) := rfl
 rw [htk]
 have hem := abQb (Lib.cut r [58]).1
 clear hco hla hcb hl hrl htk l1 l2
 generalize isLay (Lib.cut r [58]).2.1 = ql at *
 generalize decide (adQ3 dLayS (Lib.cut r [58]).1 < (Lib.cut r [58]).1.length) = qc at *
 generalize aaQ2 (Lib.cut r [58]).2.1 = cb at *
 generalize (Lib.cut r [58]).1 = nm at *
 generalize (Lib.cut r [58]).2.1 = sd at *
 generalize (Lib.cut r [58]).2.2 = fd at *
 generalize mkS (b :: r) = SL at *
 generalize nm.isEmpty = qe at *
 obtain ⟨SB, hSB⟩ : ∃ SB, SB = mkS [b] := ⟨_, rfl⟩
 have HSB := hQQ hSB
 rw [← hSB] at hx1 hq1 hq2
 clear hSB
 by_cases hb1 : b = 61
 ·rw [decide_eq_true hb1] at hq1
  rw [if_pos hb1, ← hb1]
  clear hb1 hq2
  go_enter Tryz.func74, Tryz.ntmps74
  go_wp2_with fail
  refine C.out.mono ?_
  rintro e w1 ⟨rfl, hb⟩
  have HB1 := hQQ hb
  clear hb C
  cases fd with
  | false =>
    clear CB
    go_wp2_with fail
    refine (CP.out _).mono ?_
    rintro e wq ⟨rfl, rfl⟩
    go_wp2_with fail
    (try simp only [Exit.inBlock, Exit.then]); refine bodyPost_ret (aaQ5 rfl _ _ _) rfl ?_
    exact ⟨by rw [HSB.out]; rfl, HB1.out⟩
  | true =>
    cases qe with
    | true =>
      clear CB
      go_wp2_with fail
      refine (CP.out _).mono ?_
      rintro e wq ⟨rfl, rfl⟩
      go_wp2_with fail
      (try simp only [Exit.inBlock, Exit.then]); refine bodyPost_ret (aaQ5 rfl _ _ _) rfl ?_
      exact ⟨by rw [HSB.out]; rfl, HB1.out⟩
    | false =>
      cases qc with
      | true =>
        go_wp2_with fail
        refine (CB.out _).mono ?_
        rintro e w2 ⟨rfl, hb⟩
        have HB2 := hQQ (HB1.out.trans (hb.mono HB1.out.size))
        clear hb CB
        go_wp2_with fail
        refine (CP.out _).mono ?_
        rintro e wq ⟨rfl, rfl⟩
        go_wp2_with fail
        (try simp only [Exit.inBlock, Exit.then]); refine bodyPost_ret (aaQ5 rfl _ _ _) rfl ?_
        exact ⟨by rw [HSB.out]; rfl, HB2.out⟩
      | false =>
        go_wp2_with fail
        refine (CB.out _).mono ?_
        rintro e w2 ⟨rfl, hb⟩
        have HB2 := hQQ (HB1.out.trans (hb.mono HB1.out.size))
        clear hb CB
        go_wp2_with fail
        refine (CP.out _).mono ?_
        rintro e wq ⟨rfl, rfl⟩
        go_wp2_with fail
        (try simp only [Exit.inBlock, Exit.then]); refine bodyPost_ret (aaQ5 rfl _ _ _) rfl ?_
        exact ⟨by rw [HSB.out]; rfl, HB2.out⟩
 ·rw [decide_eq_false hb1] at hq1
  rw [if_neg hb1]
  by_cases hb2 : b = 43
  ·rw [decide_eq_true hb2] at hq2
   rw [if_pos hb2, ← hb2]
   clear hb1 hb2
   go_enter Tryz.func74, Tryz.ntmps74
   go_wp2_with fail
   refine C.out.mono ?_
   rintro e w1 ⟨rfl, hb⟩
   have HB1 := hQQ hb
   clear hb C
   cases fd with
   | false =>
     clear CB
     go_wp2_with fail
     (try simp only [Exit.inBlock, Exit.then]); refine bodyPost_ret (aaQ5 rfl _ _ _) rfl ?_
     exact ⟨by rw [HSB.out]; simp [adQ5], HB1.out⟩
   | true =>
     cases qe with
     | true =>
       clear CB
       go_wp2_with fail
       (try simp only [Exit.inBlock, Exit.then]); refine bodyPost_ret (aaQ5 rfl _ _ _) rfl ?_
       exact ⟨by rw [HSB.out]; simp [adQ5], HB1.out⟩
     | false =>
       cases qc with
       | true =>
         go_wp2_with fail
         refine (CB.out _).mono ?_
         rintro e w2 ⟨rfl, hb⟩
         have HB2 := hQQ (HB1.out.trans (hb.mono HB1.out.size))
         clear hb CB
         go_wp2_with fail
         (try simp only [Exit.inBlock, Exit.then]); refine bodyPost_ret (aaQ5 rfl _ _ _) rfl ?_
         exact ⟨by rw [HSB.out]; simp [adQ5], HB2.out⟩
       | false =>
         go_wp2_with fail
         refine (CB.out _).mono ?_
         rintro e w2 ⟨rfl, hb⟩
         have HB2 := hQQ (HB1.out.trans (hb.mono HB1.out.size))
         clear hb CB
         go_wp2_with fail
         refine (CL.out _).mono ?_
         rintro e wq ⟨rfl, hb⟩
         have HBq := hQQ (HB2.out.trans (hb.mono HB2.out.size))
         clear hb CL
         go_wp2_with fail
         (try simp only [Exit.inBlock, Exit.then]); refine bodyPost_ret (aaQ5 rfl _ _ _) rfl ?_
         exact ⟨by rw [HSB.out]; simp [adQ5], HBq.out⟩
  ·rw [decide_eq_false hb2] at hq2
   rw [if_neg hb2]
   clear hb1 hb2
   go_enter Tryz.func74, Tryz.ntmps74
   go_wp2_with fail
   refine C.out.mono ?_
   rintro e w1 ⟨rfl, hb⟩
   have HB1 := hQQ hb
   clear hb C
   cases fd with
   | false =>
     clear CB
     go_wp2_with fail
     (try simp only [Exit.inBlock, Exit.then]); refine bodyPost_ret (aaQ5 rfl _ _ _) rfl ?_
     exact ⟨by rw [HSB.out]; simp [adQ5], HB1.out⟩
   | true =>
     cases qe with
     | true =>
       clear CB
       go_wp2_with fail
       (try simp only [Exit.inBlock, Exit.then]); refine bodyPost_ret (aaQ5 rfl _ _ _) rfl ?_
       exact ⟨by rw [HSB.out]; simp [adQ5], HB1.out⟩
     | false =>
       cases qc with
       | true =>
         go_wp2_with fail
         refine (CB.out _).mono ?_
         rintro e w2 ⟨rfl, hb⟩
         have HB2 := hQQ (HB1.out.trans (hb.mono HB1.out.size))
         clear hb CB
         go_wp2_with fail
         (try simp only [Exit.inBlock, Exit.then]); refine bodyPost_ret (aaQ5 rfl _ _ _) rfl ?_
         exact ⟨by rw [HSB.out]; simp [adQ5], HB2.out⟩
       | false =>
         go_wp2_with fail
         refine (CB.out _).mono ?_
         rintro e w2 ⟨rfl, hb⟩
         have HB2 := hQQ (HB1.out.trans (hb.mono HB1.out.size))
         clear hb CB
         go_wp2_with fail
         (try simp only [Exit.inBlock, Exit.then]); refine bodyPost_ret (aaQ5 rfl _ _ _) rfl ?_
         exact ⟨by rw [HSB.out]; simp [adQ5], HB2.out⟩
structure Sk5 where
 S : Sk
 ss : Nat → Value
 rs : Nat → Ev.Rows5
 F : List Nat
 fs : Value
def strR (l : List Bs) : List Value := l.map fun p => Value.string (mkS p)
def rowK (T : Nat → Bs) (ss : Nat → Value) (fs : Value) : List Value := [.string (mkS (T 0)), .string (mkS (T 1)), .string (mkS (T 2)), .string (mkS (T 3)), ss 0, ss 1, ss 2, ss 3, ss 4, ss 5, ss 6, fs]
def Sk5.row (x : Sk5) : List Value := rowK x.S.T x.ss x.fs
def rowsK : List Sk5 → List Value
 | [] => []
 | x :: r => x.row ++ rowsK r
theorem agQ5 (m : List Sk5) : ∀ l : List Sk5, rowsK (l ++ m) = rowsK l ++ rowsK m
 | [] => rfl
 | x :: r => by show _ ++ rowsK (r ++ m) = (_ ++ rowsK r) ++ _; rw [agQ5 m r, List.append_assoc]
theorem adQ0 : ∀ l : List Sk5, (rowsK l).length = l.length * 12
 | [] => rfl
 | x :: r => by
   show (x.row ++ rowsK r).length = (r.length + 1) * 12
   rw [List.length_append, adQ0 r]
   show 12 + _ = _
   omega
def NoRow (w : World) (k : Nat) : Prop := (∀ cs, ¬ Blk w k 39 cs) ∧ ∀ cs, ¬ Blk w k 9 cs
theorem NoRow.of {w : World} {k : Nat} {t : TypeId} {cs : Array Value} (h : Blk w k t cs) (h1 : t ≠ 39) (h2 : t ≠ 9) : NoRow w k := ⟨fun cs' h' => Blk.kind h h' h1 rfl, fun cs' h' => Blk.kind h h' h2 rfl⟩
theorem own_blk {w : World} {base e size n : Nat} {v : Value} {xs : List Value} (h : w.ownsRow base e size v n xs) {k : Nat} (hk : v.ownBlock = some k) : ∃ cs, Blk w k e cs := by
 rcases h.2 with ⟨rfl, _⟩ | ⟨g, cap, cur, rfl, _, hg, _⟩
 ·cases hk
 ·injection hk with hk
  subst hk
  exact ⟨cur, hg⟩
structure OldM (w : World) (b1 : Nat) (x : Sk5) : Prop where
 own : ∀ i, i < 7 → w.ownsRow 0 39 5 (x.ss i) (x.rs i).length (Ev.cells5 (x.rs i))
 is : ∀ i, i < 7 → (x.rs i).map Prod.fst = x.S.D i
 lay : ∀ i, i < 7 → ∀ y ∈ x.rs i, Ev.Lay w (fun b => b ∈ x.F) y.1 y.2
 dep : ∀ b ∈ x.F, b < b1 ∧ ∃ cs, Blk w b 39 cs
 fil : w.ownsRow 0 9 1 x.fs x.S.fl.length (strR x.S.fl)
 lt : (∀ i, i < 7 → ∀ k, (x.ss i).ownBlock = some k → k < b1) ∧ ∀ k, x.fs.ownBlock = some k → k < b1
structure LaM (w : World) (b1 : Nat) (x : Sk5) : Prop where
 own : ∀ i, i < 7 → w.ownsRow b1 39 5 (x.ss i) (x.rs i).length (Ev.cells5 (x.rs i))
 is : ∀ i, i < 7 → (x.rs i).map Prod.fst = x.S.D i
 lay : ∀ i, i < 7 → ∀ y ∈ x.rs i, Ev.Lay w (fun b => b ∈ x.F) y.1 y.2
 far : ∀ i, i < 7 → ∀ b ∈ x.F, (x.ss i).ownBlock ≠ some b
 apart : ∀ i j, i < 7 → j < 7 → i ≠ j → ∀ k, (x.ss i).ownBlock = some k → (x.ss j).ownBlock ≠ some k
 dep : ∀ b ∈ x.F, b1 ≤ b ∧ ∃ cs, Blk w b 39 cs
 fil : w.ownsRow b1 9 1 x.fs x.S.fl.length (strR x.S.fl)
section
variable {w w' : World} {b1 : Nat} {x : Sk5} {R : List Nat}
theorem OldM.turned (h : OldM w b1 x) (ht : Turned R w w') (hR : ∀ k ∈ R, b1 ≤ k ∨ NoRow w k) : OldM w' b1 x := by
 have h1 : ∀ b cs, Blk w b 39 cs → b < b1 → b ∉ R := fun b cs hb hl hm => by
  rcases hR b hm with h3 | h3
  ·omega
  ·exact h3.1 _ hb
 refine ⟨fun i hi => aaQf (h.own i hi) ht (fun k hk hm => ?_), h.is, fun i hi y hy => Ev.Lay.stay (fun _ h => h) (Ev.StayS.turned ht (fun b hb hm => ?_)) y.1 y.2 (h.lay i hi y hy), fun b hb => ?_, aaQf h.fil ht (fun k hk hm => ?_), h.lt⟩
 ·obtain ⟨cs, hb⟩ := own_blk (h.own i hi) hk
  exact h1 k cs hb (h.lt.1 i hi k hk) hm
 ·obtain ⟨hl, cs, hc⟩ := h.dep b hb
  exact h1 b cs hc hl hm
 ·obtain ⟨hl, cs, hc⟩ := h.dep b hb
  exact ⟨hl, cs, hc.turned ht (h1 b cs hc hl)⟩
 ·obtain ⟨cs, hb⟩ := own_blk h.fil hk
  rcases hR k hm with h3 | h3
  ·have := h.lt.2 k hk; omega
  ·exact h3.2 _ hb
theorem OldM.below (h : OldM w b1 x) (hb : Below w.heap.size w w') : OldM w' b1 x := h.turned (Turned.of_below hb []) (fun k hk => by cases hk)
theorem LaM.turned (h : LaM w b1 x) (ht : Turned R w w') (hR : ∀ k ∈ R, w.heap.size ≤ k ∨ NoRow w k) : LaM w' b1 x := by
 have h1 : ∀ b cs, Blk w b 39 cs → b ∉ R := fun b cs hb hm => by
  rcases hR b hm with h3 | h3
  ·have := hb.lt; omega
  ·exact h3.1 _ hb
 refine ⟨fun i hi => aaQf (h.own i hi) ht (fun k hk hm => ?_), h.is, fun i hi y hy => Ev.Lay.stay (fun _ h => h) (Ev.StayS.turned ht (fun b hb hm => ?_)) y.1 y.2 (h.lay i hi y hy), h.far, h.apart, fun b hb => ?_, aaQf h.fil ht (fun k hk hm => ?_)⟩
 ·obtain ⟨cs, hb⟩ := own_blk (h.own i hi) hk
  exact h1 k cs hb hm
 ·obtain ⟨hl, cs, hc⟩ := h.dep b hb
  exact h1 b cs hc hm
 ·obtain ⟨hl, cs, hc⟩ := h.dep b hb
  exact ⟨hl, cs, hc.turned ht (h1 b cs hc)⟩
 ·obtain ⟨cs, hb⟩ := own_blk h.fil hk
  rcases hR k hm with h3 | h3
  ·have := hb.lt; omega
  ·exact h3.2 _ hb
theorem LaM.below (h : LaM w b1 x) (hb : Below w.heap.size w w') : LaM w' b1 x := h.turned (Turned.of_below hb []) (fun k hk => by cases hk)
theorem LaM.old (h : LaM w b1 x) : OldM w w.heap.size x :=
 ⟨fun i hi => anQl (h.own i hi), h.is, h.lay, fun b hb => by
  obtain ⟨_, cs, hc⟩ := h.dep b hb
  exact ⟨hc.lt, cs, hc⟩, anQl h.fil, fun i hi k hk => adQx (h.own i hi) hk, fun k hk => adQx h.fil hk⟩
theorem OldM.mono {b2 : Nat} (h : OldM w b1 x) (hb : b1 ≤ b2) : OldM w b2 x :=
 ⟨h.own, h.is, h.lay, fun b hb' => ⟨Nat.lt_of_lt_of_le (h.dep b hb').1 hb, (h.dep b hb').2⟩, h.fil, fun i hi k hk => Nat.lt_of_lt_of_le (h.lt.1 i hi k hk) hb, fun k hk => Nat.lt_of_lt_of_le (h.lt.2 k hk) hb⟩
end
theorem afQv {w : World} {base e size n g c : Nat} {xs : List Value} (h : w.ownsRow base e size (.slice (some ⟨g, 0, none⟩) n c) n xs) {k : Nat} (hk : k < n * size) (u : Value) : (w.setCell ⟨g, k, none⟩ u).ownsRow base e size (.slice (some ⟨g, 0, none⟩) n c) n (xs.set k u) := by
 refine ⟨by rw [List.length_set]; exact h.1, ?_⟩
 rcases h.2 with ⟨hv, _⟩ | ⟨g', cap, cur, hv, hb, hg, h1, h2, h3, h4⟩
 ·cases hv
 ·injection hv with hv hn hc
  injection hv with hv
  injection hv with hv
  subst hv hc
  have hB : Blk w g e cur := hg
  refine .inr ⟨g, c, cur.setIfInBounds k u, rfl, hb, hB.set_ k u, h1, h2, by simpa using h3, ?_⟩
  rw [Array.toList_setIfInBounds, List.take_set, h4]
structure SuM (w0 w : World) (B g b1 : Nat) (r : Bs) (pb cap : Nat) (ys : List Sk5) (x : Sk5) : Prop where
 rd : RdR w g r (.slice (some ⟨pb, 0, none⟩) (ys.length + 1) cap)
 row : w.ownsRow B 37 12 (.slice (some ⟨pb, 0, none⟩) (ys.length + 1) cap) (ys.length + 1) (rowsK ys ++ x.row)
 old : ∀ y ∈ ys, OldM w b1 y
 last : LaM w b1 x
 le : B ≤ g ∧ B ≤ b1 ∧ b1 ≤ w.heap.size
 bel : Below B w0 w
section
variable {w0 w w' : World} {B g b1 : Nat} {r : Bs} {pb cap : Nat} {ys : List Sk5} {x x' : Sk5} {R : List Nat}
theorem SuM.pkB (h : SuM w0 w B g b1 r pb cap ys x) : B ≤ pb ∧ ∃ cs, Blk w pb 37 cs := by
 obtain ⟨cs, hb⟩ := own_blk h.row (k := pb) rfl
 exact ⟨(h.row.lt pb rfl).1, cs, hb⟩
theorem SuM.below (h : SuM w0 w B g b1 r pb cap ys x) (hb : Below w.heap.size w w') : SuM w0 w' B g b1 r pb cap ys x :=
 ⟨Blk.mono h.rd hb, aaQf h.row (Turned.of_below hb []) (fun k hk hm => by cases hm), fun y hy => (h.old y hy).below hb, h.last.below hb, ⟨h.le.1, h.le.2.1, Nat.le_trans h.le.2.2 hb.size⟩, h.bel.trans (hb.mono (Nat.le_trans h.le.2.1 h.le.2.2))⟩
theorem SuM.line {r' : Bs} (h : SuM w0 w B g b1 r pb cap ys x) (ht : Turned [g] w w') (hr : RdR w' g r' (.slice (some ⟨pb, 0, none⟩) (ys.length + 1) cap)) : SuM w0 w' B g b1 r' pb cap ys x := by
 have hN : NoRow w g := NoRow.of h.rd (by decide) (by decide)
 have hne : pb ≠ g := by
  obtain ⟨_, cs, hb⟩ := h.pkB
  exact Blk.kind hb h.rd (by decide)
 refine ⟨hr, aaQf h.row ht (fun k hk hm => ?_), fun y hy => (h.old y hy).turned ht (fun k hk => .inr (by rw [List.mem_singleton.1 hk]; exact hN)), h.last.turned ht (fun k hk => .inr (by rw [List.mem_singleton.1 hk]; exact hN)), ⟨h.le.1, h.le.2.1, Nat.le_trans h.le.2.2 ht.size⟩, h.bel.trans (ht.below (fun k hk => by rw [List.mem_singleton.1 hk]; exact h.le.1) (Nat.le_trans h.le.2.1 h.le.2.2))⟩
 injection hk with hk
 exact hne (hk.trans (List.mem_singleton.1 hm))
theorem SuM.put (h : SuM w0 w B g b1 r pb cap ys x) (ht : Turned R w w') (hR : ∀ k ∈ R, b1 ≤ k ∧ (∀ cs, ¬ Blk w k 37 cs) ∧ ∀ cs, ¬ Blk w k 67 cs) {j : Nat} (hj : j < 12) {u : Value} (hrow : x'.row = x.row.set j u) (hl : LaM (w'.setCell ⟨pb, ys.length * 12 + j, none⟩ u) b1 x') :
 SuM w0 (w'.setCell ⟨pb, ys.length * 12 + j, none⟩ u) B g b1 r pb cap ys x' := by
 obtain ⟨hpB, cs, hpk⟩ := h.pkB
 have hpR : pb ∉ R := fun hm => (hR pb hm).2.1 _ hpk
 have hgR : g ∉ R := fun hm => (hR g hm).2.2 _ h.rd
 have hpk' : Blk w' pb 37 cs := hpk.turned ht hpR
 have hrow' := aaQf h.row ht (fun k hk hm => by injection hk with hk; rw [← hk] at hm; exact hpR hm)
 have hne : g ≠ pb := fun e => by
  have h1 := h.rd
  rw [e] at h1
  exact Blk.kind h1 hpk (by decide) rfl
 have hT : Turned (pb :: R) w (w'.setCell ⟨pb, ys.length * 12 + j, none⟩ u) := (ht.more (fun k hk => List.mem_cons_of_mem _ hk)).setCell (.inl (by simp)) _
 refine ⟨(h.rd.turned ht hgR).far hne _, ?_, fun y hy => (h.old y hy).turned hT (fun k hk => ?_), hl, ⟨h.le.1, h.le.2.1, Nat.le_trans h.le.2.2 hT.size⟩, h.bel.trans (hT.below (fun k hk => ?_) (Nat.le_trans h.le.2.1 h.le.2.2))⟩
 ·have := afQv hrow' (k := ys.length * 12 + j) (by rw [Nat.add_mul]; omega) u
  rw [List.set_append_right _ _ (by rw [adQ0]; omega), adQ0, show ys.length * 12 + j - ys.length * 12 = j from by omega, ← hrow] at this
  exact this
 ·rcases List.mem_cons.1 hk with rfl | hk
  ·exact .inr (NoRow.of hpk (by decide) (by decide))
  ·exact .inl (hR k hk).1
 ·rcases List.mem_cons.1 hk with rfl | hk
  ·exact hpB
  ·exact Nat.le_trans h.le.2.1 (hR k hk).1
theorem SuM.cell (h : SuM w0 w B g b1 r pb cap ys x) {j : Nat} {u : Value} (hu : x.row[j]? = some u) : w.cell? ⟨pb, ys.length * 12 + j, none⟩ = some u := by
 have hk : (rowsK ys ++ x.row)[ys.length * 12 + j]? = some u := by
  rw [List.getElem?_append_right (by rw [adQ0]; omega), adQ0, show ys.length * 12 + j - ys.length * 12 = j from by omega]
  exact hu
 obtain ⟨b, e, hc⟩ := abQl h.row hk
 injection e with e
 injection e with e
 subst e
 exact hc
theorem SuM.free (h : SuM w0 w B g b1 r pb cap ys x) (i : Nat) : w.frozen? ⟨pb, i, none⟩ = false := by
 obtain ⟨_, cs, hb⟩ := h.pkB
 exact hb.free i
end
theorem end_cat (t : Bs) : (⟨#[45]⟩ : ByteArray) ++ mkS t ++ ⟨#[58]⟩ = mkS (45 :: t ++ [58]) := s_ext (by simp [mkS])
def ahQx (w : World) (g : Nat) (v : Value) (r : Bs) (X : Option (List Bs × List Bs)) (e : Ending) (w' : World) : Prop := match X with
 | some (vs, ls') => ∃ r' vv, e = .returned (.tuple #[vv, .bool true]) ∧ aaQm r' = ls' ∧ vs.length + r'.length ≤ r.length ∧ RdR w' g r' v ∧ w'.ownsRow w.heap.size 9 1 vv vs.length (strR vs) ∧ vs.length ≤ 40000 ∧ (∀ p ∈ vs, p.length ≤ 40000) ∧ Turned [g] w w'
 | none => ∃ r', e = .returned (.tuple #[.slice none 0 0, .bool false]) ∧ RdR w' g r' v ∧ Turned [g] w w'
set_option maxHeartbeats 8000000 in
set_option maxRecDepth 1000000 in
theorem arQw (w0 w : World) (g : Nat) (t r : Bs) (v : Value) (h : RdR w g r v) (hr : r.length ≤ 40000) (ht : t.length ≤ 40000) (hM : MaxAt w0) (hg : w0.heap.size ≤ g) (hb : Below w0.heap.size w0 w) (hs : w0.heap.size ≤ w.heap.size) :
 Calls Tryz.prog 75 #[.pointer (some ⟨g, 0, none⟩), .string (mkS t)] w (ahQx w g v r (abQj t (aaQm r) [])) := by
 obtain ⟨is_, zs, his, hzs, hzs1, hzs2, hzs3⟩ := adQs
 have HIS := hQQ his
 have H := hQQ h
 have CL := hQQ (fun wx (r1 : Bs) (h1 : RdR wx g r1 v) (hr1 : r1.length ≤ 40000) (htx : Turned [g] w wx) => anQt g r1 v wx h1 hr1 (hM.below (hb.trans (htx.below (fun k hk => by rw [List.mem_singleton.1 hk]; exact hg) hs))))
 have CY := hQQ (fun wx (p : Bs) (hp : p.length ≤ 40000) => ahQl p hp wx)
 have CP := hQQ (fun wx (l : Bs) => Tryz.strings_CutPrefix (mkS l) (mkS (45 :: t ++ [58])) wx)
 have hcat := end_cat t
 have hts : (mkS t).size ≤ 40000 := by rw [aaQg]; exact ht
 have HTP : Hid (∀ l : Bs, Lib.hasPrefix l (45 :: t ++ [58]) = true → (⟨(Lib.trimPrefix (mkS l).data.toList (mkS (45 :: t ++ [58])).data.toList).toArray⟩ : ByteArray) = mkS (l.drop (t.length + 2))) := fun l hl => by
  rw [aaQn, aaQn]
  unfold Lib.trimPrefix
  rw [if_pos hl]
  show mkS _ = _
  have : (45 :: t ++ [58] : Bs).length = t.length + 2 := by simp
  rw [this]
 have HTL : Hid (∀ l : Bs, Lib.hasPrefix (mkS l).data.toList (mkS (45 :: t ++ [58])).data.toList = Lib.hasPrefix l (45 :: t ++ [58])) := fun l => by rw [aaQn, aaQn]
 have hgl : g < w.heap.size := h.lt
 obtain ⟨X, hX⟩ : ∃ X, X = abQj t (aaQm r) [] := ⟨_, rfl⟩
 rw [← hX]
 have HX : Hid (abQj t (aaQm r) [] = X) := hX.symm
 have HR := hQQ hr
 clear hX h hr ht hM hb his
 generalize hE : mkS (45 :: t ++ [58]) = E at *
 clear hE
 go_enter Tryz.func75, Tryz.ntmps75
 go_wp2_with fail
 go_loopg [7] (r.length + 1) (fun gk v7 wx => ∃ (r1 : Bs) (vs : List Bs) (A : Option Addr) (c : Nat), v7 = .slice A vs.length c ∧ r1.length < gk ∧ Hid (r1.length ≤ r.length) ∧ vs.length + r1.length ≤ r.length ∧ Hid (∀ p ∈ vs, p.length ≤ 40000) ∧ Hid (RdR wx g r1 v) ∧ Hid (wx.ownsRow w.heap.size 9 1 (.slice A vs.length c) vs.length (strR vs)) ∧ Hid (Turned [g] w wx) ∧ Hid (abQj t (aaQm r1) vs = X))
 case atStart => exact ⟨r, [], none, 0, rfl, by omega, Nat.le_refl _, by simp, hQQ (fun p hp => by cases hp), H, World.ownsRow_nil _ _ _ _, Turned.refl _ _, HX⟩
 case round =>
  obtain ⟨r1, vs, A, c, rfl, hlt, HRL, hvl, HVL, HRd, HO, HT, HXk⟩ := hrel
  clear H HX
  have r0 := Blk.cell HRd.out 0
  simp at r0
  by_cases hr0 : r1 = []
  ·have he : (mkS r1).toList.isEmpty = true := by rw [abQb, hr0]; rfl
   have hXk := HXk.out
   rw [hr0] at hXk
   have HXe : Hid (X = none) := hXk.symm
   clear hXk HXk
   have HRx : Hid (RdR wr g r1 v) := HRd
   clear HRd hr0
   generalize mkS r1 = SR at *
   go_wp2_with fail
   go_ret2
   show ahQx _ _ _ _ X _ _
   rw [HXe.out]
   exact ⟨r1, rfl, HRx.out, HT.out⟩
  have he : (mkS r1).toList.isEmpty = false := by rw [abQb]; simpa using hr0
  have hXk := HXk.out
  rw [afQz hr0] at hXk
  obtain ⟨l1, _, l3⟩ := agQr 10 r1
  obtain ⟨l3, l4⟩ := l3 hr0
  have hrr := HRL.out
  have hR40 := HR.out
  have CLk := hQQ (CL.out wr r1 HRd.out (by omega) HT.out)
  clear HXk hr0
  generalize (Lib.cut r1 [10]).1 = ln at *
  generalize (Lib.cut r1 [10]).2.1 = rest at *
  go_wp2_with fail
  refine CLk.out.mono ?_
  rintro e w2 ⟨rfl, hrd, ht2⟩
  have HR2 := hQQ hrd
  have HO2 := hQQ (aaQf HO.out ht2 (fun k hk hm => by
   have := (HO.out.lt k hk).1
   have := List.mem_singleton.1 hm
   omega))
  have HT2 := hQQ (HT.out.trans ht2 (Fresh.refl _ _))
  clear hrd ht2 HRd HO HT CLk r0 he
  have CPk := hQQ (CP.out w2 ln)
  rw [HTL.out] at CPk
  have hstep : (if endB t ln = true then some (vs, aaQm rest) else if isLay ln = true then abQj t (aaQm rest) vs else abQj t (aaQm rest) (vs ++ [ln])) = X := hXk
  clear hXk
  have CYl := hQQ (fun wx => CY.out wx ln (by omega))
  have CYs := hQQ (fun wx => CY.out wx (ln.drop (t.length + 2)) (by simp; omega))
  have hend : endB t ln = (Lib.hasPrefix ln (45 :: t ++ [58]) && isLay (ln.drop (t.length + 2))) := rfl
  cases hpf : Lib.hasPrefix ln (45 :: t ++ [58]) with
  | true =>
    rw [hpf] at CPk hend
    rw [HTP.out ln hpf] at CPk
    clear hpf
    go_wp2_with fail
    refine CPk.out.mono ?_
    rintro e w3 ⟨rfl, rfl⟩
    clear CPk
    go_wp2_with fail
    refine (CYs.out _).mono ?_
    rintro e w4 ⟨rfl, hb⟩
    have HR4 := hQQ (Blk.mono HR2.out hb)
    have HO4 := hQQ (aaQf HO2.out (Turned.of_below hb []) (fun k hk hm => by cases hm))
    have HT4 := hQQ (HT2.out.trans (Turned.of_below hb [g]) (Fresh.refl _ _))
    clear hb HR2 HO2 HT2 CYs
    cases hly : isLay (ln.drop (t.length + 2)) with
    | true =>
      rw [hly] at hend
      rw [hend] at hstep
      have HXe : Hid (X = some (vs, aaQm rest)) := hstep.symm
      clear hstep hend hly CYl
      go_wp2_with fail
      go_ret2
      show ahQx _ _ _ _ X _ _
      rw [HXe.out]
      exact ⟨rest, _, rfl, rfl, by omega, HR4.out, HO4.out, by omega, HVL.out, HT4.out⟩
    | false =>
      rw [hly] at hend
      rw [hend] at hstep
      clear hend hly
      go_wp2_with fail
      refine (CYl.out _).mono ?_
      rintro e w5 ⟨rfl, hb⟩
      have HR5 := hQQ (Blk.mono HR4.out hb)
      have HO5 := hQQ (aaQf HO4.out (Turned.of_below hb []) (fun k hk hm => by cases hm))
      have HT5 := hQQ (HT4.out.trans (Turned.of_below hb [g]) (Fresh.refl _ _))
      clear hb HR4 HO4 HT4 CYl
      cases hll : isLay ln with
      | true =>
        rw [hll] at hstep
        have HXn : Hid (abQj t (aaQm rest) vs = X) := hstep
        clear hstep hll
        go_wp2_with fail
        go_roundg (gk - 1)
        case measure => omega
        case rel => exact ⟨rest, vs, A, c, rfl, by omega, (by omega : _ ≤ _), by omega, HVL, HR5, HO5, HT5, HXn⟩
      | false =>
        rw [hll] at hstep
        have HXn : Hid (abQj t (aaQm rest) (vs ++ [ln]) = X) := hstep
        clear hstep hll
        obtain ⟨w6, hw6⟩ : ∃ w6, w6 = w5.alloc (.cells #[.string (mkS ln)] 9) := ⟨_, rfl⟩
        have hb6 : Below w5.heap.size w5 w6 := by rw [hw6]; exact (Below.refl _ _).alloc (Nat.le_refl _) _
        have HR6 := hQQ (Blk.mono HR5.out hb6)
        have HO6 := hQQ (aaQf HO5.out (Turned.of_below hb6 []) (fun k hk hm => by cases hm))
        have HT6 := hQQ (HT5.out.trans (Turned.of_below hb6 [g]) (Fresh.refl _ _))
        have HCN : Hid (∀ (j : Nat) u, [Value.string (mkS ln)][j]? = some u → w6.cell? ((⟨w5.heap.size, 0, none⟩ : Addr).add j) = some u) := by rw [hw6]; exact cell_one_new _ _ _
        have hs6 : w.heap.size ≤ w6.heap.size := HT6.out.size
        have HLN : Hid (∀ p ∈ vs ++ [ln], p.length ≤ 40000) := fun p hp => by
         rcases List.mem_append.1 hp with hp | hp
         ·exact HVL.out p hp
         ·rw [List.mem_singleton.1 hp]; omega
        rw [hw6] at HO6 HCN hs6
        clear hb6 HR5 HO5 HT5
        go_wp2_with (go_loud (at_builtin; refine wpList_append_own_at _ rfl (.tmp 36) (.tmp 38) 32 rfl w.heap.size 9 is_ zs 1 16 Tryz.underlying32 HIS.out hzs hzs2 hzs3 hzs1 (by decide) (.slice A vs.length c) vs.length (strR vs) rfl HO6.out ⟨w5.heap.size, 0, none⟩ 1 1 [.string (mkS ln)] rfl rfl HCN.out (by intro u hu; simp at hu; subst hu; rfl) (by unfold maxLen; omega) (by omega) hs6 ?_; intro v7 w7 hown7 hg7 hnil7 hat7; rw [← hw6] at hg7; have HR7 : Hid (RdR w7 g rest v) := HR6.out.turned (aaQi hg7) (fun hm => by have h1 : (Value.slice A vs.length c).ownBlock = some g := (by simpa using hm); have := (HO6.out.lt g h1).1; omega); have HT7 : Hid (Turned [g] w w7) := HT6.out.grown hg7 (fun k hk => .inr (HO6.out.lt k hk).1); obtain ⟨A7, c7, hv7, hn7, hm7⟩ := aaQc hown7; subst hv7; have HO7 : Hid (w7.ownsRow w.heap.size 9 1 (.slice A7 (vs ++ [ln]).length c7) (vs ++ [ln]).length (strR (vs ++ [ln]))) := (by unfold strR at hown7 ⊢; rw [List.map_append, List.length_append]; exact hown7); clear hown7 hg7 hnil7 hat7 HR6 HT6))
        go_roundg (gk - 1)
        case measure => omega
        case rel => exact ⟨rest, vs ++ [ln], A7, c7, by rw [List.length_append]; rfl, by omega, (by omega : _ ≤ _), by rw [List.length_append]; simp; omega, HLN, HR7, HO7, HT7, HXn⟩
  | false =>
    rw [hpf] at CPk hend
    rw [hend] at hstep
    clear hpf hend CYs
    go_wp2_with fail
    refine CPk.out.mono ?_
    rintro e w3 ⟨rfl, rfl⟩
    clear CPk
    go_wp2_with fail
    refine (CYl.out _).mono ?_
    rintro e w5 ⟨rfl, hb⟩
    have HR5 := hQQ (Blk.mono HR2.out hb)
    have HO5 := hQQ (aaQf HO2.out (Turned.of_below hb []) (fun k hk hm => by cases hm))
    have HT5 := hQQ (HT2.out.trans (Turned.of_below hb [g]) (Fresh.refl _ _))
    clear hb HR2 HO2 HT2 CYl
    cases hll : isLay ln with
    | true =>
      rw [hll] at hstep
      have HXn : Hid (abQj t (aaQm rest) vs = X) := hstep
      clear hstep hll
      go_wp2_with fail
      go_roundg (gk - 1)
      case measure => omega
      case rel => exact ⟨rest, vs, A, c, rfl, by omega, (by omega : _ ≤ _), by omega, HVL, HR5, HO5, HT5, HXn⟩
    | false =>
      rw [hll] at hstep
      have HXn : Hid (abQj t (aaQm rest) (vs ++ [ln]) = X) := hstep
      clear hstep hll
      obtain ⟨w6, hw6⟩ : ∃ w6, w6 = w5.alloc (.cells #[.string (mkS ln)] 9) := ⟨_, rfl⟩
      have hb6 : Below w5.heap.size w5 w6 := by rw [hw6]; exact (Below.refl _ _).alloc (Nat.le_refl _) _
      have HR6 := hQQ (Blk.mono HR5.out hb6)
      have HO6 := hQQ (aaQf HO5.out (Turned.of_below hb6 []) (fun k hk hm => by cases hm))
      have HT6 := hQQ (HT5.out.trans (Turned.of_below hb6 [g]) (Fresh.refl _ _))
      have HCN : Hid (∀ (j : Nat) u, [Value.string (mkS ln)][j]? = some u → w6.cell? ((⟨w5.heap.size, 0, none⟩ : Addr).add j) = some u) := by rw [hw6]; exact cell_one_new _ _ _
      have hs6 : w.heap.size ≤ w6.heap.size := HT6.out.size
      have HLN : Hid (∀ p ∈ vs ++ [ln], p.length ≤ 40000) := fun p hp => by
       rcases List.mem_append.1 hp with hp | hp
       ·exact HVL.out p hp
       ·rw [List.mem_singleton.1 hp]; omega
      rw [hw6] at HO6 HCN hs6
      clear hb6 HR5 HO5 HT5
      go_wp2_with (go_loud (at_builtin; refine wpList_append_own_at _ rfl (.tmp 36) (.tmp 38) 32 rfl w.heap.size 9 is_ zs 1 16 Tryz.underlying32 HIS.out hzs hzs2 hzs3 hzs1 (by decide) (.slice A vs.length c) vs.length (strR vs) rfl HO6.out ⟨w5.heap.size, 0, none⟩ 1 1 [.string (mkS ln)] rfl rfl HCN.out (by intro u hu; simp at hu; subst hu; rfl) (by unfold maxLen; omega) (by omega) hs6 ?_; intro v7 w7 hown7 hg7 hnil7 hat7; rw [← hw6] at hg7; have HR7 : Hid (RdR w7 g rest v) := HR6.out.turned (aaQi hg7) (fun hm => by have h1 : (Value.slice A vs.length c).ownBlock = some g := (by simpa using hm); have := (HO6.out.lt g h1).1; omega); have HT7 : Hid (Turned [g] w w7) := HT6.out.grown hg7 (fun k hk => .inr (HO6.out.lt k hk).1); obtain ⟨A7, c7, hv7, hn7, hm7⟩ := aaQc hown7; subst hv7; have HO7 : Hid (w7.ownsRow w.heap.size 9 1 (.slice A7 (vs ++ [ln]).length c7) (vs ++ [ln]).length (strR (vs ++ [ln]))) := (by unfold strR at hown7 ⊢; rw [List.map_append, List.length_append]; exact hown7); clear hown7 hg7 hnil7 hat7 HR6 HT6))
      go_roundg (gk - 1)
      case measure => omega
      case rel => exact ⟨rest, vs ++ [ln], A7, c7, by rw [List.length_append]; rfl, by omega, (by omega : _ ≤ _), by rw [List.length_append]; simp; omega, HLN, HR7, HO7, HT7, HXn⟩
end Go.Proofs.YtdhgiammfpjniaaGreatDoor
