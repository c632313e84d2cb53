/- Parts of the proof. -/
import Derived.Test.YtdhgiammfpjniaaGreatDoorZrba
import Derived.Test.YtdhgiammfpjniaaGreatDoorZrbl
import Derived.Test.YtdhgiammfpjniaaGreatDoorZrao
namespace Go.Proofs.YtdhgiammfpjniaaGreatDoor
set_option linter.unusedSimpArgs false
set_option linter.unusedVariables false
open Go.RowKit Go.MapKept
set_option maxRecDepth 100000 in
theorem arQr (s : ByteArray) (w : World) (hs : s.size ≤ 100000) : Calls Tryz.prog 48 #[.string s] w fun e w' => e = .returned (.string s) ∧ Below w.heap.size w w' := by
 have C := hQQ (Tryz.stringslite_Clone s w (by omega))
 go_enter Tryz.func48, Tryz.ntmps48
 go_wp2_with fail
 refine C.out.mono ?_
 rintro e w1 ⟨rfl, hb⟩
 have HB := hQQ hb
 clear hb
 go_wp2_with fail
 go_ret
 exact ⟨rfl, HB.out⟩
theorem anQz : ∃ i z, Tryz.prog.info? 37 = some i ∧ i.zero = some z ∧ z.cells.size = 12 ∧ i.size = 12 ∧ i.bytes = 256 := by
 have h : (Tryz.prog.info? 37).map (fun i => (i.zero.map fun z => z.cells.size, i.size, i.bytes)) = some (some 12, 12, 256) := by kernel_rfl
 obtain ⟨i, hi, h2⟩ := Option.map_eq_some_iff.1 h
 simp only [Prod.mk.injEq] at h2
 obtain ⟨z, hz, hz1⟩ := Option.map_eq_some_iff.1 h2.1
 exact ⟨i, z, hi, hz, hz1, h2.2.1, h2.2.2⟩
theorem arQx (x : Nat) (W : World) : FnGives Tryz.prog 141 #[] #[encR x] (.bool (abQ9 x)) W := by
 have hx : encR x = .int .i32 (x : Int) := rfl
 rw [hx]
 have he : abQ9 x = ((x : Int) == 32) := by unfold abQ9; rw [Bool.eq_iff_iff]; simp; omega
 rw [he]
 clear hx he
 unfold FnGives
 go_enter Tryz.func141, Tryz.ntmps141
 go_wp2_with fail
 go_ret
 exact ⟨rfl, 0, rfl⟩
theorem ahQn (p : Nat → Bool) (s : ByteArray) : ∀ y ∈ Lib.goFieldsP p s, y.size ≤ s.size := by
 intro y hy
 unfold Lib.goFieldsP at hy
 obtain ⟨x, _, rfl⟩ := List.mem_map.1 hy
 rw [ByteArray.size_extract]
 omega
theorem akQ0 (s : ByteArray) : mkS s.data.toList = s := s_ext (by rw [aaQn])
def WdB (Aw : Nat) (ba bd : ByteArray) (w : World) : Prop := w.cell? ⟨Aw, 0, none⟩ = some (.string ba) ∧ w.cell? ⟨Aw, 3, none⟩ = some (.string bd)
def RpB (g : Nat) (A : Option Addr) (n c pk : Nat) (ba wv bd : ByteArray) (w : World) : Prop := w.cell? ⟨g, 1, none⟩ = some (.slice A n c) ∧ w.cell? ⟨pk, 0, none⟩ = some (.string ba) ∧ w.cell? ⟨pk, 1, none⟩ = some (.string wv) ∧ w.cell? ⟨pk, 2, none⟩ = some (.string bd) ∧ w.cell? ⟨pk, 3, none⟩ = some (.string ⟨#[]⟩) ∧ w.cell? ⟨pk, 4, none⟩ = some (.slice none 0 0) ∧ w.cell? ⟨pk, 5, none⟩ = some (.slice none 0 0) ∧ w.cell? ⟨pk, 6, none⟩ = some (.slice none 0 0) ∧ w.cell? ⟨pk, 7, none⟩ = some (.slice none 0 0) ∧ w.cell? ⟨pk, 8, none⟩ = some (.slice none 0 0) ∧ w.cell? ⟨pk, 9, none⟩ = some (.slice none 0 0) ∧ w.cell? ⟨pk, 10, none⟩ = some (.slice none 0 0) ∧ w.cell? ⟨pk, 11, none⟩ = some (.slice none 0 0)
def adQk (w0 w : World) (B g : Nat) (r : Bs) (xs : List Sk5) (X : Except Int (List Sk)) (e : Ending) (w' : World) : Prop := match X with
 | .error n => e = .returned (.int .i64 n) ∧ n ≠ 0 ∧ Below B w0 w'
 | .ok l => e = .returned (.int .i64 0) ∧ ∃ a b d pb cap b1, l = xs.map Sk5.S ++ [newS a b d] ∧ SuM w0 w' B g b1 r pb cap xs (newX a b d) ∧ ∃ R, Turned R w w' ∧ ∀ k ∈ R, ∃ t cs, Blk w k t cs ∧ (t = 37 ∨ t = 67)
theorem arQd {l : List ByteArray} {ba bb bc bd : ByteArray} (h : l = [ba, bb, bc, bd]) : headS (l.map fun s => s.data.toList) = some (newS ba.data.toList (if bc = ⟨#[45]⟩ then bb.data.toList else bb.data.toList ++ 45 :: bc.data.toList) bd.data.toList) := by
 subst h
 show some (newS _ (if bc.data.toList = [45] then _ else _) _) = _
 have : (bc.data.toList = [45]) ↔ bc = ⟨#[45]⟩ := ⟨fun h => by rw [← akQ0 bc, h]; rfl, fun h => by rw [h]⟩
 by_cases hc : bc = ⟨#[45]⟩
 ·rw [if_pos (this.2 hc), if_pos hc]
 ·rw [if_neg (fun h => hc (this.1 h)), if_neg hc]
theorem no45 {bc : ByteArray} (hc : ¬ bc = ⟨#[45]⟩) : (bc.toList == ([45] : List UInt8)) = false := by
 rw [ByteArray.toList_eq]
 simp
 intro e
 apply hc
 rw [← akQ0 bc]
 have : bc.data.toList = [45] := by rw [e]
 rw [this]
 rfl
set_option maxHeartbeats 16000000 in
set_option maxRecDepth 1000000 in
theorem arQz {w0 w : World} {B g : Nat} {r : Bs} {A : Option Addr} {c : Nat} {xs : List Sk5} (hA : AllM w0 w B g r (.slice A xs.length c) xs) {acc : List Sk} (hacc : acc = xs.map Sk5.S) (hC : Calls Tryz.prog 71 #[.pointer (some ⟨g, 0, none⟩)] w fun e w' => e = .returned (.int .i64 (aaQ4 acc)) ∧ Below w.heap.size w w') (v : Bs) (hv : v.length ≤ 40000) :
 Calls Tryz.prog 78 #[.pointer (some ⟨g, 0, none⟩), .string (mkS v)] w (adQk w0 w B g r xs (abQk acc v)) := by
 obtain ⟨i, z, hi, hz0, hz1, hz2, hz3⟩ := anQz
 have HI := hQQ hi
 have C1 := hQQ hC
 have HA := hQQ hA
 have hlen : acc.length = xs.length := by rw [hacc, List.length_map]
 have CF := hQQ (fun wx => Tryz.strings_FieldsFunc 141 #[] (enters_of Tryz.func141 (by kernel_rfl) rfl) abQ9 (mkS v) wx (by rw [aaQg]; omega) (fun W x _ => arQx x W))
 have CC := hQQ (fun (s : ByteArray) (hs : s.size ≤ 100000) wx => arQr s wx hs)
 have hfs := ahQn abQ9 (mkS v)
 rw [aaQg] at hfs
 have HW : Hid (adQw v = (Lib.goFieldsP abQ9 (mkS v)).map fun s => s.data.toList) := rfl
 have hxl : xs.length ≤ maxLen := by
  obtain ⟨A', c', e', h1, h2⟩ := aaQc hA.row
  omega
 unfold maxLen at hxl
 obtain ⟨X, hX⟩ : ∃ X, X = abQk acc v := ⟨_, rfl⟩
 rw [← hX]
 have HX : Hid (X = abQk acc v) := hX
 have HACC := hQQ hacc
 clear hX hC hA hi hacc
 have hws := aaQ4 acc
 go_enter Tryz.func78, Tryz.ntmps78
 go_wp2_with fail
 refine C1.out.mono ?_
 rintro e w1 ⟨rfl, hb1⟩
 have HB1 := hQQ hb1
 have HA1 := hQQ (HA.out.below hb1)
 clear hb1 C1
 by_cases h0 : aaQ4 acc = 0
 rotate_left
 ·have hne : (aaQ4 acc != 0) = true := by simp [h0]
  have HXe : Hid (X = .error (aaQ4 acc)) := by
   show X = _
   rw [HX.out]
   unfold abQk
   rw [if_pos h0]
  have H0 := hQQ h0
  clear h0
  generalize aaQ4 acc = n at *
  go_wp2_with fail
  go_ret
  show adQk _ _ _ _ _ _ X _ _
  rw [HXe.out]
  exact ⟨rfl, H0.out, HA1.out.bel⟩
 have hne : (aaQ4 acc != 0) = false := by simp [h0]
 have hXb : X = if 200 ≤ xs.length then .error 131 else match headS (adQw v) with
  | some S => .ok (acc ++ [S])
  | none => .error 130 := by
  rw [HX.out]
  unfold abQk
  rw [if_neg (by simp [h0]), hlen]
  rfl
 clear HX
 rw [h0] at hne
 rw [h0]
 clear h0
 have r1 := Blk.cell HA1.out.rd 1
 simp at r1
 by_cases h200 : 200 ≤ xs.length
 ·have h2I : (200 : Int) ≤ (xs.length : Int) := by omega
  rw [if_pos h200] at hXb
  have HXe := hQQ hXb
  clear hXb h200
  go_wp2_with fail
  go_ret
  show adQk _ _ _ _ _ _ X _ _
  rw [HXe.out]
  exact ⟨rfl, by decide, HA1.out.bel⟩
 have h2I : ¬ (200 : Int) ≤ (xs.length : Int) := by omega
 rw [if_neg h200, HW.out] at hXb
 have HXb := hQQ hXb
 clear hXb HW
 generalize hws2 : Lib.goFieldsP abQ9 (mkS v) = ws at *
 clear hws2
 go_wp2_with fail
 refine (CF.out _).mono ?_
 rintro e w2 ⟨Aw, rfl, hAw, hwo, hb2⟩
 have HA2 := hQQ (HA1.out.below hb2)
 have HB2 := hQQ (HB1.out.trans (hb2.mono HB1.out.size))
 have HWO := hQQ hwo
 clear hb2 hwo CF r1 HA1 HB1
 by_cases h4 : ws.length = 4
 rotate_left
 ·have h4I : ¬ ((ws.length : Int) = 4) := by omega
  have h4b : ((ws.length : Int) != 4) = true := by simp; omega
  have HXe : Hid (X = .error 130) := by
   show X = _
   rw [HXb.out]
   have : headS (ws.map fun s => s.data.toList) = none := by
    unfold headS
    split
    ·next he =>
     have := congrArg List.length he
     rw [List.length_map] at this
     exact absurd this h4
    ·rfl
   rw [this]
  clear HXb h4
  go_wp2_with fail
  go_ret
  show adQk _ _ _ _ _ _ X _ _
  rw [HXe.out]
  exact ⟨rfl, by decide, HA2.out.bel⟩
 obtain ⟨ba, bb, bc, bd, rfl⟩ : ∃ ba bb bc bd, ws = [ba, bb, bc, bd] := by
  match ws, h4 with
  | [ba, bb, bc, bd], _ => exact ⟨ba, bb, bc, bd, rfl⟩
 have HXe := hQQ HXb.out
 rw [arQd rfl] at HXe
 have HXE : Hid (X = .ok (acc ++ [newS ba.data.toList (if bc = ⟨#[45]⟩ then bb.data.toList else bb.data.toList ++ 45 :: bc.data.toList) bd.data.toList])) := HXe
 have la := hfs ba (by simp)
 have lb := hfs bb (by simp)
 have lc := hfs bc (by simp)
 have ld := hfs bd (by simp)
 have HQ : Hid (∀ wx, Below w2.heap.size w2 wx → wx.cell? ⟨Aw, 0, none⟩ = some (.string ba) ∧ wx.cell? ⟨Aw, 1, none⟩ = some (.string bb) ∧ wx.cell? ⟨Aw, 2, none⟩ = some (.string bc) ∧ wx.cell? ⟨Aw, 3, none⟩ = some (.string bd)) := fun wx hb => by
  have h1 := aaQf HWO.out (Turned.of_below hb []) (fun k hk hm => by cases hm)
  have f : ∀ {k : Nat} {u : Value}, ([ba, bb, bc, bd].map Value.string)[k]? = some u → wx.cell? ⟨Aw, k, none⟩ = some u := fun {k u} hk => by
   obtain ⟨b, e, hc⟩ := acQ7 h1 hk
   injection e with e
   injection e with e
   subst e
   exact hc
  exact ⟨f rfl, f rfl, f rfl, f rfl⟩
 have h4I : ((4 : Nat) : Int) = 4 := rfl
 obtain ⟨q0, q1, q2, q3⟩ := HQ.out w2 (Below.refl _ _)
 clear hfs HXb HXe h4 HWO hAw
 simp only [List.length_cons, List.length_nil, Nat.zero_add, Nat.reduceAdd]
 obtain ⟨ver, hver⟩ : ∃ ver : ByteArray, ver = if bc = ⟨#[45]⟩ then bb else bb ++ ((⟨#[45]⟩ : ByteArray) ++ bc) := ⟨_, rfl⟩
 have HVR : Hid (ver.data.toList = if bc = ⟨#[45]⟩ then bb.data.toList else bb.data.toList ++ 45 :: bc.data.toList) := by
  show ver.data.toList = _
  rw [hver]
  by_cases hc : bc = ⟨#[45]⟩
  ·rw [if_pos hc, if_pos hc]
  ·rw [if_neg hc, if_neg hc]; simp
 have hvz : ver.size ≤ 100000 := by
  rw [hver]
  have e45 : (⟨#[45]⟩ : ByteArray).size = 1 := rfl
  by_cases hc : bc = ⟨#[45]⟩
  ·rw [if_pos hc]; omega
  ·rw [if_neg hc]; simp; omega
 rw [← HVR.out] at HXE
 have HVE := hQQ hver
 clear hver
 have hve := HVE.out
 clear HVE
 by_cases hc : bc = ⟨#[45]⟩
 all_goals first
  | (rw [if_pos hc] at hve; have hcb : (bc.toList == ([45] : List UInt8)) = true := (by rw [hc]; decide +kernel); subst hve; clear hc; go_upto_region 12 with fail)
  | (rw [if_neg hc] at hve; have hcb : (bc.toList == ([45] : List UInt8)) = false := no45 hc; clear hc; go_upto_region 12 with fail; rw [← hve]; clear hve)
 all_goals
  have HSD : Hid (WdB Aw ba bd w2.drew) := ⟨q0, q3⟩
  have HB2d : Hid (Below w2.heap.size w2 w2.drew) := (Below.refl _ _).drew
  go_cut [8] from 38 to 48 (fun v8 wx => ∃ pk, v8 = .pointer (some ⟨pk, 0, none⟩) ∧ Hid (w.heap.size ≤ pk) ∧ Hid (Below w2.heap.size w2 wx) ∧ Hid (Blk wx pk 37 #[.string ba, .string ver, .string bd, .string ⟨#[]⟩, .slice none 0 0, .slice none 0 0, .slice none 0 0, .slice none 0 0, .slice none 0 0, .slice none 0 0, .slice none 0 0, .slice none 0 0]))
  case first =>
   refine aaQu (TillP 12 (WdB Aw ba bd)) (by kernel_rfl) (fun _ => HSD.out) (fun hS => ?_)
   try simp only [sx, Act.put]
   refine aaQa (i := 0) (WdB Aw ba bd) (v := (.slice (some ⟨Aw, 0, none⟩) 4 4)) rfl (by kernel_rfl) (by kernel_rfl) (by kernel_rfl) (fun _ _ _ h => h) (fun l w hw hS => hS (hw 12 (by kernel_rfl))) (TillP.io (by decide)) (by kernel_rfl) hS (fun w' hSw => ?_) (by rfl) ?_
   ·obtain ⟨s0, s3⟩ := hSw
    go_simp
   clear hS
   intro hS
   try simp only [sx, Act.put]
   refine aaQa (i := 1) (WdB Aw ba bd) (v := (.pointer (some ⟨Aw, 0, none⟩))) rfl (by kernel_rfl) (by kernel_rfl) (by kernel_rfl) (fun _ _ _ h => h) (fun l w hw hS => hS (hw 12 (by kernel_rfl))) (TillP.io (by decide)) (by kernel_rfl) hS (fun w' hSw => ?_) (by rfl) ?_
   ·obtain ⟨s0, s3⟩ := hSw
    go_simp
   clear hS
   intro hS
   try simp only [sx, Act.put]
   refine aaQa (i := 2) (WdB Aw ba bd) (v := (.string ba)) rfl (by kernel_rfl) (by kernel_rfl) (by kernel_rfl) (fun _ _ _ h => h) (fun l w hw hS => hS (hw 12 (by kernel_rfl))) (TillP.io (by decide)) (by kernel_rfl) hS (fun w' hSw => ?_) (by rfl) ?_
   ·obtain ⟨s0, s3⟩ := hSw
    go_simp
   clear hS
   intro hS
   try simp only [sx, Act.put]
   refine aaQa (i := 4) (WdB Aw ba bd) (v := (.string ver)) rfl (by kernel_rfl) (by kernel_rfl) (by kernel_rfl) (fun _ _ _ h => h) (fun l w hw hS => hS (hw 12 (by kernel_rfl))) (TillP.io (by decide)) (by kernel_rfl) hS (fun w' hSw => ?_) (by rfl) ?_
   ·obtain ⟨s0, s3⟩ := hSw
    go_simp
   clear hS
   intro hS
   try simp only [sx, Act.put]
   refine aaQa (i := 6) (WdB Aw ba bd) (v := (.slice (some ⟨Aw, 0, none⟩) 4 4)) rfl (by kernel_rfl) (by kernel_rfl) (by kernel_rfl) (fun _ _ _ h => h) (fun l w hw hS => hS (hw 12 (by kernel_rfl))) (TillP.io (by decide)) (by kernel_rfl) hS (fun w' hSw => ?_) (by rfl) ?_
   ·obtain ⟨s0, s3⟩ := hSw
    go_simp
   clear hS
   intro hS
   try simp only [sx, Act.put]
   refine aaQa (i := 7) (WdB Aw ba bd) (v := (.pointer (some ⟨Aw, 3, none⟩))) rfl (by kernel_rfl) (by kernel_rfl) (by kernel_rfl) (fun _ _ _ h => h) (fun l w hw hS => hS (hw 12 (by kernel_rfl))) (TillP.io (by decide)) (by kernel_rfl) hS (fun w' hSw => ?_) (by rfl) ?_
   ·obtain ⟨s0, s3⟩ := hSw
    go_simp
   clear hS
   intro hS
   try simp only [sx, Act.put]
   refine aaQa (i := 8) (WdB Aw ba bd) (v := (.string bd)) rfl (by kernel_rfl) (by kernel_rfl) (by kernel_rfl) (fun _ _ _ h => h) (fun l w hw hS => hS (hw 12 (by kernel_rfl))) (TillP.io (by decide)) (by kernel_rfl) hS (fun w' hSw => ?_) (by rfl) ?_
   ·obtain ⟨s0, s3⟩ := hSw
    go_simp
   clear hS
   intro hS
   try simp only [sx, Act.put]
   refine abQx (i := 3) (j := 11) (by kernel_rfl) rfl rfl (fun K hK => ?_) (fun K hK => ?_)
   ·skip
    go_simp
    refine (CC.out ba (by omega) _).mono ?_
    rintro e w3 ⟨rfl, hb⟩
    have HB3 := hQQ (HB2d.out.trans (hb.mono HB2d.out.size))
    have HS3 : Hid (WdB Aw ba bd w3) := ⟨(HQ.out _ HB3.out).1, (HQ.out _ HB3.out).2.2.2⟩
    clear hb
    refine hK.out _ _ (fun _ => HS3.out) ?_
    clear hS hK
    intro hS
    try simp only [sx, Act.put]
    refine abQx (i := 5) (j := 11) (by kernel_rfl) rfl rfl (fun K hK => ?_) (fun K hK => ?_)
    ·skip
     go_simp
     refine (CC.out ver hvz _).mono ?_
     rintro e w4 ⟨rfl, hb⟩
     have HB4 := hQQ (HB3.out.trans (hb.mono HB3.out.size))
     have HS4 : Hid (WdB Aw ba bd w4) := ⟨(HQ.out _ HB4.out).1, (HQ.out _ HB4.out).2.2.2⟩
     clear hb
     refine hK.out _ _ (fun _ => HS4.out) ?_
     clear hS hK
     intro hS
     try simp only [sx, Act.put]
     refine abQx (i := 9) (j := 11) (by kernel_rfl) rfl rfl (fun K hK => ?_) (fun K hK => ?_)
     ·skip
      go_simp
      refine (CC.out bd (by omega) _).mono ?_
      rintro e w5 ⟨rfl, hb⟩
      have HB5 := hQQ (HB4.out.trans (hb.mono HB4.out.size))
      have HS5 : Hid (WdB Aw ba bd w5) := ⟨(HQ.out _ HB5.out).1, (HQ.out _ HB5.out).2.2.2⟩
      clear hb
      refine hK.out _ _ (fun _ => HS5.out) ?_
      clear hS hK
      intro hS
      try simp only [sx, Act.put]
      refine aaQa (i := 10) (WdB Aw ba bd) (v := (.agg #[.string ba, .string ver, .string bd, .string ⟨#[]⟩, .slice none 0 0, .slice none 0 0, .slice none 0 0, .slice none 0 0, .slice none 0 0, .slice none 0 0, .slice none 0 0, .slice none 0 0])) rfl (by kernel_rfl) (by kernel_rfl) (by kernel_rfl) (fun _ _ _ h => h) (fun l w hw hS => hS (hw 12 (by kernel_rfl))) (TillP.io (by decide)) (by kernel_rfl) hS (fun w' hSw => ?_) (by rfl) ?_
      ·obtain ⟨s0, s3⟩ := hSw
       go_simp
      clear hS
      intro hS
      try simp only [sx, Act.put]
      refine aaQb (i := 11) (by kernel_rfl) rfl (fun K hK => ?_)
      go_simp
      have HBa : Hid (Below w2.heap.size w2 (w5.alloc (.cells #[.string ⟨#[]⟩, .string ⟨#[]⟩, .string ⟨#[]⟩, .string ⟨#[]⟩, .slice none 0 0, .slice none 0 0, .slice none 0 0, .slice none 0 0, .slice none 0 0, .slice none 0 0, .slice none 0 0, .slice none 0 0] 37))) := HB5.out.alloc HB5.out.size _
      have Ka : Hid (Blk (w5.alloc (.cells #[.string ⟨#[]⟩, .string ⟨#[]⟩, .string ⟨#[]⟩, .string ⟨#[]⟩, .slice none 0 0, .slice none 0 0, .slice none 0 0, .slice none 0 0, .slice none 0 0, .slice none 0 0, .slice none 0 0, .slice none 0 0] 37)) w5.heap.size 37 #[.string ⟨#[]⟩, .string ⟨#[]⟩, .string ⟨#[]⟩, .string ⟨#[]⟩, .slice none 0 0, .slice none 0 0, .slice none 0 0, .slice none 0 0, .slice none 0 0, .slice none 0 0, .slice none 0 0, .slice none 0 0]) := Blk.new _ _ _
      have HGa : Hid (w2.heap.size ≤ w5.heap.size) := HB5.out.size
      have HSa : Hid (WdB Aw ba bd (w5.alloc (.cells #[.string ⟨#[]⟩, .string ⟨#[]⟩, .string ⟨#[]⟩, .string ⟨#[]⟩, .slice none 0 0, .slice none 0 0, .slice none 0 0, .slice none 0 0, .slice none 0 0, .slice none 0 0, .slice none 0 0, .slice none 0 0] 37))) := ⟨(HQ.out _ HBa.out).1, (HQ.out _ HBa.out).2.2.2⟩
      refine hK.out _ _ (fun _ => HSa.out) ?_
      clear hS hK
      intro hS
      try simp only [sx, Act.put]
      refine aaQb (i := 12) (by kernel_rfl) rfl (fun K hK => ?_)
      have hge : w2.heap.size ≤ w5.heap.size := HB5.out.size
      have HPK : Hid (w.heap.size ≤ w5.heap.size) := Nat.le_trans HB2.out.size hge
      obtain ⟨wF, hwF⟩ : ∃ wF, wF = (w5.alloc (.cells #[.string ba, .string ver, .string bd, .string ⟨#[]⟩, .slice none 0 0, .slice none 0 0, .slice none 0 0, .slice none 0 0, .slice none 0 0, .slice none 0 0, .slice none 0 0, .slice none 0 0] 37)) := ⟨_, rfl⟩
      have HBF : Hid (Below w2.heap.size w2 wF) := by rw [hwF]; exact HB5.out.alloc HB5.out.size _
      have KF : Hid (Blk wF w5.heap.size 37 #[.string ba, .string ver, .string bd, .string ⟨#[]⟩, .slice none 0 0, .slice none 0 0, .slice none 0 0, .slice none 0 0, .slice none 0 0, .slice none 0 0, .slice none 0 0, .slice none 0 0]) := by rw [hwF]; exact Blk.new _ _ _
      go_simp
      refine hK.out _ _ (fun h => by simp at h) ?_
      clear hS hK
      intro hS
      refine aaQh (by kernel_rfl) ?_ _
      try simp only [sx, Act.put]
      rw [← hwF]
      clear hwF hS
      go_wp2_with fail
      go_meet
      exact ⟨_, rfl, HPK, HBF, KF⟩
     ·skip
      go_simp
      have HBa : Hid (Below w2.heap.size w2 (w4.alloc (.cells #[.string ⟨#[]⟩, .string ⟨#[]⟩, .string ⟨#[]⟩, .string ⟨#[]⟩, .slice none 0 0, .slice none 0 0, .slice none 0 0, .slice none 0 0, .slice none 0 0, .slice none 0 0, .slice none 0 0, .slice none 0 0] 37))) := HB4.out.alloc HB4.out.size _
      have Ka : Hid (Blk (w4.alloc (.cells #[.string ⟨#[]⟩, .string ⟨#[]⟩, .string ⟨#[]⟩, .string ⟨#[]⟩, .slice none 0 0, .slice none 0 0, .slice none 0 0, .slice none 0 0, .slice none 0 0, .slice none 0 0, .slice none 0 0, .slice none 0 0] 37)) w4.heap.size 37 #[.string ⟨#[]⟩, .string ⟨#[]⟩, .string ⟨#[]⟩, .string ⟨#[]⟩, .slice none 0 0, .slice none 0 0, .slice none 0 0, .slice none 0 0, .slice none 0 0, .slice none 0 0, .slice none 0 0, .slice none 0 0]) := Blk.new _ _ _
      have HGa : Hid (w2.heap.size ≤ w4.heap.size) := HB4.out.size
      have HSa : Hid (WdB Aw ba bd (w4.alloc (.cells #[.string ⟨#[]⟩, .string ⟨#[]⟩, .string ⟨#[]⟩, .string ⟨#[]⟩, .slice none 0 0, .slice none 0 0, .slice none 0 0, .slice none 0 0, .slice none 0 0, .slice none 0 0, .slice none 0 0, .slice none 0 0] 37))) := ⟨(HQ.out _ HBa.out).1, (HQ.out _ HBa.out).2.2.2⟩
      refine hK.out _ _ (fun _ => HSa.out) ?_
      clear hS hK
      intro hS
      try simp only [sx, Act.put]
      refine aaQb (i := 9) (by kernel_rfl) rfl (fun K hK => ?_)
      go_simp
      refine (CC.out bd (by omega) _).mono ?_
      rintro e w5 ⟨rfl, hb⟩
      have HB5 := hQQ (HBa.out.trans (hb.mono HBa.out.size))
      have K5 := hQQ (Blk.mono Ka.out hb)
      have HS5 : Hid (WdB Aw ba bd w5) := ⟨(HQ.out _ HB5.out).1, (HQ.out _ HB5.out).2.2.2⟩
      clear hb
      refine hK.out _ _ (fun _ => HS5.out) ?_
      clear hS hK
      intro hS
      try simp only [sx, Act.put]
      refine aaQa (i := 10) (WdB Aw ba bd) (v := (.agg #[.string ba, .string ver, .string bd, .string ⟨#[]⟩, .slice none 0 0, .slice none 0 0, .slice none 0 0, .slice none 0 0, .slice none 0 0, .slice none 0 0, .slice none 0 0, .slice none 0 0])) rfl (by kernel_rfl) (by kernel_rfl) (by kernel_rfl) (fun _ _ _ h => h) (fun l w hw hS => hS (hw 12 (by kernel_rfl))) (TillP.io (by decide)) (by kernel_rfl) hS (fun w' hSw => ?_) (by rfl) ?_
      ·obtain ⟨s0, s3⟩ := hSw
       go_simp
      clear hS
      intro hS
      try simp only [sx, Act.put]
      refine aaQb (i := 12) (by kernel_rfl) rfl (fun K hK => ?_)
      have k0 : w5.cell? ⟨w4.heap.size, 0, none⟩ = some (.string ⟨#[]⟩) := K5.out.cell 0
      have kf0 : w5.frozen? ⟨w4.heap.size, 0, none⟩ = false := K5.out.free 0
      have k1 : w5.cell? ⟨w4.heap.size, 1, none⟩ = some (.string ⟨#[]⟩) := K5.out.cell 1
      have kf1 : w5.frozen? ⟨w4.heap.size, 1, none⟩ = false := K5.out.free 1
      have k2 : w5.cell? ⟨w4.heap.size, 2, none⟩ = some (.string ⟨#[]⟩) := K5.out.cell 2
      have kf2 : w5.frozen? ⟨w4.heap.size, 2, none⟩ = false := K5.out.free 2
      have k3 : w5.cell? ⟨w4.heap.size, 3, none⟩ = some (.string ⟨#[]⟩) := K5.out.cell 3
      have kf3 : w5.frozen? ⟨w4.heap.size, 3, none⟩ = false := K5.out.free 3
      have k4 : w5.cell? ⟨w4.heap.size, 4, none⟩ = some (.slice none 0 0) := K5.out.cell 4
      have kf4 : w5.frozen? ⟨w4.heap.size, 4, none⟩ = false := K5.out.free 4
      have k5 : w5.cell? ⟨w4.heap.size, 5, none⟩ = some (.slice none 0 0) := K5.out.cell 5
      have kf5 : w5.frozen? ⟨w4.heap.size, 5, none⟩ = false := K5.out.free 5
      have k6 : w5.cell? ⟨w4.heap.size, 6, none⟩ = some (.slice none 0 0) := K5.out.cell 6
      have kf6 : w5.frozen? ⟨w4.heap.size, 6, none⟩ = false := K5.out.free 6
      have k7 : w5.cell? ⟨w4.heap.size, 7, none⟩ = some (.slice none 0 0) := K5.out.cell 7
      have kf7 : w5.frozen? ⟨w4.heap.size, 7, none⟩ = false := K5.out.free 7
      have k8 : w5.cell? ⟨w4.heap.size, 8, none⟩ = some (.slice none 0 0) := K5.out.cell 8
      have kf8 : w5.frozen? ⟨w4.heap.size, 8, none⟩ = false := K5.out.free 8
      have k9 : w5.cell? ⟨w4.heap.size, 9, none⟩ = some (.slice none 0 0) := K5.out.cell 9
      have kf9 : w5.frozen? ⟨w4.heap.size, 9, none⟩ = false := K5.out.free 9
      have k10 : w5.cell? ⟨w4.heap.size, 10, none⟩ = some (.slice none 0 0) := K5.out.cell 10
      have kf10 : w5.frozen? ⟨w4.heap.size, 10, none⟩ = false := K5.out.free 10
      have k11 : w5.cell? ⟨w4.heap.size, 11, none⟩ = some (.slice none 0 0) := K5.out.cell 11
      have kf11 : w5.frozen? ⟨w4.heap.size, 11, none⟩ = false := K5.out.free 11
      have hge : w2.heap.size ≤ w4.heap.size := HB4.out.size
      have HPK : Hid (w.heap.size ≤ w4.heap.size) := Nat.le_trans HB2.out.size hge
      obtain ⟨wF, hwF⟩ : ∃ wF, wF = ((((((((((((w5.setCell ⟨w4.heap.size, 0, none⟩ (.string ba)).setCell ⟨w4.heap.size, 1, none⟩ (.string ver)).setCell ⟨w4.heap.size, 2, none⟩ (.string bd)).setCell ⟨w4.heap.size, 3, none⟩ (.string ⟨#[]⟩)).setCell ⟨w4.heap.size, 4, none⟩ (.slice none 0 0)).setCell ⟨w4.heap.size, 5, none⟩ (.slice none 0 0)).setCell ⟨w4.heap.size, 6, none⟩ (.slice none 0 0)).setCell ⟨w4.heap.size, 7, none⟩ (.slice none 0 0)).setCell ⟨w4.heap.size, 8, none⟩ (.slice none 0 0)).setCell ⟨w4.heap.size, 9, none⟩ (.slice none 0 0)).setCell ⟨w4.heap.size, 10, none⟩ (.slice none 0 0)).setCell ⟨w4.heap.size, 11, none⟩ (.slice none 0 0)) := ⟨_, rfl⟩
      have HBF : Hid (Below w2.heap.size w2 wF) := by rw [hwF]; exact ((((((((((((HB5.out.setCell hge _).setCell hge _).setCell hge _).setCell hge _).setCell hge _).setCell hge _).setCell hge _).setCell hge _).setCell hge _).setCell hge _).setCell hge _).setCell hge _)
      have KF : Hid (Blk wF w4.heap.size 37 #[.string ba, .string ver, .string bd, .string ⟨#[]⟩, .slice none 0 0, .slice none 0 0, .slice none 0 0, .slice none 0 0, .slice none 0 0, .slice none 0 0, .slice none 0 0, .slice none 0 0]) := by rw [hwF]; exact set12 K5.out (.string ba) (.string ver) (.string bd) (.string ⟨#[]⟩) (.slice none 0 0) (.slice none 0 0) (.slice none 0 0) (.slice none 0 0) (.slice none 0 0) (.slice none 0 0) (.slice none 0 0) (.slice none 0 0)
      go_simp
      refine hK.out _ _ (fun h => by simp at h) ?_
      clear hS hK
      intro hS
      refine aaQh (by kernel_rfl) ?_ _
      try simp only [sx, Act.put]
      rw [← hwF]
      clear hwF hS
      go_wp2_with fail
      go_meet
      exact ⟨_, rfl, HPK, HBF, KF⟩
    ·skip
     go_simp
     have HBa : Hid (Below w2.heap.size w2 (w3.alloc (.cells #[.string ⟨#[]⟩, .string ⟨#[]⟩, .string ⟨#[]⟩, .string ⟨#[]⟩, .slice none 0 0, .slice none 0 0, .slice none 0 0, .slice none 0 0, .slice none 0 0, .slice none 0 0, .slice none 0 0, .slice none 0 0] 37))) := HB3.out.alloc HB3.out.size _
     have Ka : Hid (Blk (w3.alloc (.cells #[.string ⟨#[]⟩, .string ⟨#[]⟩, .string ⟨#[]⟩, .string ⟨#[]⟩, .slice none 0 0, .slice none 0 0, .slice none 0 0, .slice none 0 0, .slice none 0 0, .slice none 0 0, .slice none 0 0, .slice none 0 0] 37)) w3.heap.size 37 #[.string ⟨#[]⟩, .string ⟨#[]⟩, .string ⟨#[]⟩, .string ⟨#[]⟩, .slice none 0 0, .slice none 0 0, .slice none 0 0, .slice none 0 0, .slice none 0 0, .slice none 0 0, .slice none 0 0, .slice none 0 0]) := Blk.new _ _ _
     have HGa : Hid (w2.heap.size ≤ w3.heap.size) := HB3.out.size
     have HSa : Hid (WdB Aw ba bd (w3.alloc (.cells #[.string ⟨#[]⟩, .string ⟨#[]⟩, .string ⟨#[]⟩, .string ⟨#[]⟩, .slice none 0 0, .slice none 0 0, .slice none 0 0, .slice none 0 0, .slice none 0 0, .slice none 0 0, .slice none 0 0, .slice none 0 0] 37))) := ⟨(HQ.out _ HBa.out).1, (HQ.out _ HBa.out).2.2.2⟩
     refine hK.out _ _ (fun _ => HSa.out) ?_
     clear hS hK
     intro hS
     try simp only [sx, Act.put]
     refine aaQb (i := 5) (by kernel_rfl) rfl (fun K hK => ?_)
     go_simp
     refine (CC.out ver hvz _).mono ?_
     rintro e w4 ⟨rfl, hb⟩
     have HB4 := hQQ (HBa.out.trans (hb.mono HBa.out.size))
     have K4 := hQQ (Blk.mono Ka.out hb)
     have HS4 : Hid (WdB Aw ba bd w4) := ⟨(HQ.out _ HB4.out).1, (HQ.out _ HB4.out).2.2.2⟩
     clear hb
     refine hK.out _ _ (fun _ => HS4.out) ?_
     clear hS hK
     intro hS
     try simp only [sx, Act.put]
     refine aaQb (i := 9) (by kernel_rfl) rfl (fun K hK => ?_)
     go_simp
     refine (CC.out bd (by omega) _).mono ?_
     rintro e w5 ⟨rfl, hb⟩
     have HB5 := hQQ (HB4.out.trans (hb.mono HB4.out.size))
     have K5 := hQQ (Blk.mono K4.out hb)
     have HS5 : Hid (WdB Aw ba bd w5) := ⟨(HQ.out _ HB5.out).1, (HQ.out _ HB5.out).2.2.2⟩
     clear hb
     refine hK.out _ _ (fun _ => HS5.out) ?_
     clear hS hK
     intro hS
     try simp only [sx, Act.put]
     refine aaQa (i := 10) (WdB Aw ba bd) (v := (.agg #[.string ba, .string ver, .string bd, .string ⟨#[]⟩, .slice none 0 0, .slice none 0 0, .slice none 0 0, .slice none 0 0, .slice none 0 0, .slice none 0 0, .slice none 0 0, .slice none 0 0])) rfl (by kernel_rfl) (by kernel_rfl) (by kernel_rfl) (fun _ _ _ h => h) (fun l w hw hS => hS (hw 12 (by kernel_rfl))) (TillP.io (by decide)) (by kernel_rfl) hS (fun w' hSw => ?_) (by rfl) ?_
     ·obtain ⟨s0, s3⟩ := hSw
      go_simp
     clear hS
     intro hS
     try simp only [sx, Act.put]
     refine aaQb (i := 12) (by kernel_rfl) rfl (fun K hK => ?_)
     have k0 : w5.cell? ⟨w3.heap.size, 0, none⟩ = some (.string ⟨#[]⟩) := K5.out.cell 0
     have kf0 : w5.frozen? ⟨w3.heap.size, 0, none⟩ = false := K5.out.free 0
     have k1 : w5.cell? ⟨w3.heap.size, 1, none⟩ = some (.string ⟨#[]⟩) := K5.out.cell 1
     have kf1 : w5.frozen? ⟨w3.heap.size, 1, none⟩ = false := K5.out.free 1
     have k2 : w5.cell? ⟨w3.heap.size, 2, none⟩ = some (.string ⟨#[]⟩) := K5.out.cell 2
     have kf2 : w5.frozen? ⟨w3.heap.size, 2, none⟩ = false := K5.out.free 2
     have k3 : w5.cell? ⟨w3.heap.size, 3, none⟩ = some (.string ⟨#[]⟩) := K5.out.cell 3
     have kf3 : w5.frozen? ⟨w3.heap.size, 3, none⟩ = false := K5.out.free 3
     have k4 : w5.cell? ⟨w3.heap.size, 4, none⟩ = some (.slice none 0 0) := K5.out.cell 4
     have kf4 : w5.frozen? ⟨w3.heap.size, 4, none⟩ = false := K5.out.free 4
     have k5 : w5.cell? ⟨w3.heap.size, 5, none⟩ = some (.slice none 0 0) := K5.out.cell 5
     have kf5 : w5.frozen? ⟨w3.heap.size, 5, none⟩ = false := K5.out.free 5
     have k6 : w5.cell? ⟨w3.heap.size, 6, none⟩ = some (.slice none 0 0) := K5.out.cell 6
     have kf6 : w5.frozen? ⟨w3.heap.size, 6, none⟩ = false := K5.out.free 6
     have k7 : w5.cell? ⟨w3.heap.size, 7, none⟩ = some (.slice none 0 0) := K5.out.cell 7
     have kf7 : w5.frozen? ⟨w3.heap.size, 7, none⟩ = false := K5.out.free 7
     have k8 : w5.cell? ⟨w3.heap.size, 8, none⟩ = some (.slice none 0 0) := K5.out.cell 8
     have kf8 : w5.frozen? ⟨w3.heap.size, 8, none⟩ = false := K5.out.free 8
     have k9 : w5.cell? ⟨w3.heap.size, 9, none⟩ = some (.slice none 0 0) := K5.out.cell 9
     have kf9 : w5.frozen? ⟨w3.heap.size, 9, none⟩ = false := K5.out.free 9
     have k10 : w5.cell? ⟨w3.heap.size, 10, none⟩ = some (.slice none 0 0) := K5.out.cell 10
     have kf10 : w5.frozen? ⟨w3.heap.size, 10, none⟩ = false := K5.out.free 10
     have k11 : w5.cell? ⟨w3.heap.size, 11, none⟩ = some (.slice none 0 0) := K5.out.cell 11
     have kf11 : w5.frozen? ⟨w3.heap.size, 11, none⟩ = false := K5.out.free 11
     have hge : w2.heap.size ≤ w3.heap.size := HB3.out.size
     have HPK : Hid (w.heap.size ≤ w3.heap.size) := Nat.le_trans HB2.out.size hge
     obtain ⟨wF, hwF⟩ : ∃ wF, wF = ((((((((((((w5.setCell ⟨w3.heap.size, 0, none⟩ (.string ba)).setCell ⟨w3.heap.size, 1, none⟩ (.string ver)).setCell ⟨w3.heap.size, 2, none⟩ (.string bd)).setCell ⟨w3.heap.size, 3, none⟩ (.string ⟨#[]⟩)).setCell ⟨w3.heap.size, 4, none⟩ (.slice none 0 0)).setCell ⟨w3.heap.size, 5, none⟩ (.slice none 0 0)).setCell ⟨w3.heap.size, 6, none⟩ (.slice none 0 0)).setCell ⟨w3.heap.size, 7, none⟩ (.slice none 0 0)).setCell ⟨w3.heap.size, 8, none⟩ (.slice none 0 0)).setCell ⟨w3.heap.size, 9, none⟩ (.slice none 0 0)).setCell ⟨w3.heap.size, 10, none⟩ (.slice none 0 0)).setCell ⟨w3.heap.size, 11, none⟩ (.slice none 0 0)) := ⟨_, rfl⟩
     have HBF : Hid (Below w2.heap.size w2 wF) := by rw [hwF]; exact ((((((((((((HB5.out.setCell hge _).setCell hge _).setCell hge _).setCell hge _).setCell hge _).setCell hge _).setCell hge _).setCell hge _).setCell hge _).setCell hge _).setCell hge _).setCell hge _)
     have KF : Hid (Blk wF w3.heap.size 37 #[.string ba, .string ver, .string bd, .string ⟨#[]⟩, .slice none 0 0, .slice none 0 0, .slice none 0 0, .slice none 0 0, .slice none 0 0, .slice none 0 0, .slice none 0 0, .slice none 0 0]) := by rw [hwF]; exact set12 K5.out (.string ba) (.string ver) (.string bd) (.string ⟨#[]⟩) (.slice none 0 0) (.slice none 0 0) (.slice none 0 0) (.slice none 0 0) (.slice none 0 0) (.slice none 0 0) (.slice none 0 0) (.slice none 0 0)
     go_simp
     refine hK.out _ _ (fun h => by simp at h) ?_
     clear hS hK
     intro hS
     refine aaQh (by kernel_rfl) ?_ _
     try simp only [sx, Act.put]
     rw [← hwF]
     clear hwF hS
     go_wp2_with fail
     go_meet
     exact ⟨_, rfl, HPK, HBF, KF⟩
   ·skip
    go_simp
    have HBa : Hid (Below w2.heap.size w2 (w2.drew.alloc (.cells #[.string ⟨#[]⟩, .string ⟨#[]⟩, .string ⟨#[]⟩, .string ⟨#[]⟩, .slice none 0 0, .slice none 0 0, .slice none 0 0, .slice none 0 0, .slice none 0 0, .slice none 0 0, .slice none 0 0, .slice none 0 0] 37))) := HB2d.out.alloc HB2d.out.size _
    have Ka : Hid (Blk (w2.drew.alloc (.cells #[.string ⟨#[]⟩, .string ⟨#[]⟩, .string ⟨#[]⟩, .string ⟨#[]⟩, .slice none 0 0, .slice none 0 0, .slice none 0 0, .slice none 0 0, .slice none 0 0, .slice none 0 0, .slice none 0 0, .slice none 0 0] 37)) w2.drew.heap.size 37 #[.string ⟨#[]⟩, .string ⟨#[]⟩, .string ⟨#[]⟩, .string ⟨#[]⟩, .slice none 0 0, .slice none 0 0, .slice none 0 0, .slice none 0 0, .slice none 0 0, .slice none 0 0, .slice none 0 0, .slice none 0 0]) := Blk.new _ _ _
    have HGa : Hid (w2.heap.size ≤ w2.drew.heap.size) := HB2d.out.size
    have HSa : Hid (WdB Aw ba bd (w2.drew.alloc (.cells #[.string ⟨#[]⟩, .string ⟨#[]⟩, .string ⟨#[]⟩, .string ⟨#[]⟩, .slice none 0 0, .slice none 0 0, .slice none 0 0, .slice none 0 0, .slice none 0 0, .slice none 0 0, .slice none 0 0, .slice none 0 0] 37))) := ⟨(HQ.out _ HBa.out).1, (HQ.out _ HBa.out).2.2.2⟩
    refine hK.out _ _ (fun _ => HSa.out) ?_
    clear hS hK
    intro hS
    try simp only [sx, Act.put]
    refine aaQb (i := 3) (by kernel_rfl) rfl (fun K hK => ?_)
    go_simp
    refine (CC.out ba (by omega) _).mono ?_
    rintro e w3 ⟨rfl, hb⟩
    have HB3 := hQQ (HBa.out.trans (hb.mono HBa.out.size))
    have K3 := hQQ (Blk.mono Ka.out hb)
    have HS3 : Hid (WdB Aw ba bd w3) := ⟨(HQ.out _ HB3.out).1, (HQ.out _ HB3.out).2.2.2⟩
    clear hb
    refine hK.out _ _ (fun _ => HS3.out) ?_
    clear hS hK
    intro hS
    try simp only [sx, Act.put]
    refine aaQb (i := 5) (by kernel_rfl) rfl (fun K hK => ?_)
    go_simp
    refine (CC.out ver hvz _).mono ?_
    rintro e w4 ⟨rfl, hb⟩
    have HB4 := hQQ (HB3.out.trans (hb.mono HB3.out.size))
    have K4 := hQQ (Blk.mono K3.out hb)
    have HS4 : Hid (WdB Aw ba bd w4) := ⟨(HQ.out _ HB4.out).1, (HQ.out _ HB4.out).2.2.2⟩
    clear hb
    refine hK.out _ _ (fun _ => HS4.out) ?_
    clear hS hK
    intro hS
    try simp only [sx, Act.put]
    refine aaQb (i := 9) (by kernel_rfl) rfl (fun K hK => ?_)
    go_simp
    refine (CC.out bd (by omega) _).mono ?_
    rintro e w5 ⟨rfl, hb⟩
    have HB5 := hQQ (HB4.out.trans (hb.mono HB4.out.size))
    have K5 := hQQ (Blk.mono K4.out hb)
    have HS5 : Hid (WdB Aw ba bd w5) := ⟨(HQ.out _ HB5.out).1, (HQ.out _ HB5.out).2.2.2⟩
    clear hb
    refine hK.out _ _ (fun _ => HS5.out) ?_
    clear hS hK
    intro hS
    try simp only [sx, Act.put]
    refine aaQa (i := 10) (WdB Aw ba bd) (v := (.agg #[.string ba, .string ver, .string bd, .string ⟨#[]⟩, .slice none 0 0, .slice none 0 0, .slice none 0 0, .slice none 0 0, .slice none 0 0, .slice none 0 0, .slice none 0 0, .slice none 0 0])) rfl (by kernel_rfl) (by kernel_rfl) (by kernel_rfl) (fun _ _ _ h => h) (fun l w hw hS => hS (hw 12 (by kernel_rfl))) (TillP.io (by decide)) (by kernel_rfl) hS (fun w' hSw => ?_) (by rfl) ?_
    ·obtain ⟨s0, s3⟩ := hSw
     go_simp
    clear hS
    intro hS
    try simp only [sx, Act.put]
    refine aaQb (i := 12) (by kernel_rfl) rfl (fun K hK => ?_)
    have k0 : w5.cell? ⟨w2.heap.size, 0, none⟩ = some (.string ⟨#[]⟩) := K5.out.cell 0
    have kf0 : w5.frozen? ⟨w2.heap.size, 0, none⟩ = false := K5.out.free 0
    have k1 : w5.cell? ⟨w2.heap.size, 1, none⟩ = some (.string ⟨#[]⟩) := K5.out.cell 1
    have kf1 : w5.frozen? ⟨w2.heap.size, 1, none⟩ = false := K5.out.free 1
    have k2 : w5.cell? ⟨w2.heap.size, 2, none⟩ = some (.string ⟨#[]⟩) := K5.out.cell 2
    have kf2 : w5.frozen? ⟨w2.heap.size, 2, none⟩ = false := K5.out.free 2
    have k3 : w5.cell? ⟨w2.heap.size, 3, none⟩ = some (.string ⟨#[]⟩) := K5.out.cell 3
    have kf3 : w5.frozen? ⟨w2.heap.size, 3, none⟩ = false := K5.out.free 3
    have k4 : w5.cell? ⟨w2.heap.size, 4, none⟩ = some (.slice none 0 0) := K5.out.cell 4
    have kf4 : w5.frozen? ⟨w2.heap.size, 4, none⟩ = false := K5.out.free 4
    have k5 : w5.cell? ⟨w2.heap.size, 5, none⟩ = some (.slice none 0 0) := K5.out.cell 5
    have kf5 : w5.frozen? ⟨w2.heap.size, 5, none⟩ = false := K5.out.free 5
    have k6 : w5.cell? ⟨w2.heap.size, 6, none⟩ = some (.slice none 0 0) := K5.out.cell 6
    have kf6 : w5.frozen? ⟨w2.heap.size, 6, none⟩ = false := K5.out.free 6
    have k7 : w5.cell? ⟨w2.heap.size, 7, none⟩ = some (.slice none 0 0) := K5.out.cell 7
    have kf7 : w5.frozen? ⟨w2.heap.size, 7, none⟩ = false := K5.out.free 7
    have k8 : w5.cell? ⟨w2.heap.size, 8, none⟩ = some (.slice none 0 0) := K5.out.cell 8
    have kf8 : w5.frozen? ⟨w2.heap.size, 8, none⟩ = false := K5.out.free 8
    have k9 : w5.cell? ⟨w2.heap.size, 9, none⟩ = some (.slice none 0 0) := K5.out.cell 9
    have kf9 : w5.frozen? ⟨w2.heap.size, 9, none⟩ = false := K5.out.free 9
    have k10 : w5.cell? ⟨w2.heap.size, 10, none⟩ = some (.slice none 0 0) := K5.out.cell 10
    have kf10 : w5.frozen? ⟨w2.heap.size, 10, none⟩ = false := K5.out.free 10
    have k11 : w5.cell? ⟨w2.heap.size, 11, none⟩ = some (.slice none 0 0) := K5.out.cell 11
    have kf11 : w5.frozen? ⟨w2.heap.size, 11, none⟩ = false := K5.out.free 11
    have hge : w2.heap.size ≤ w2.heap.size := Nat.le_refl _
    have HPK : Hid (w.heap.size ≤ w2.heap.size) := Nat.le_trans HB2.out.size hge
    obtain ⟨wF, hwF⟩ : ∃ wF, wF = ((((((((((((w5.setCell ⟨w2.heap.size, 0, none⟩ (.string ba)).setCell ⟨w2.heap.size, 1, none⟩ (.string ver)).setCell ⟨w2.heap.size, 2, none⟩ (.string bd)).setCell ⟨w2.heap.size, 3, none⟩ (.string ⟨#[]⟩)).setCell ⟨w2.heap.size, 4, none⟩ (.slice none 0 0)).setCell ⟨w2.heap.size, 5, none⟩ (.slice none 0 0)).setCell ⟨w2.heap.size, 6, none⟩ (.slice none 0 0)).setCell ⟨w2.heap.size, 7, none⟩ (.slice none 0 0)).setCell ⟨w2.heap.size, 8, none⟩ (.slice none 0 0)).setCell ⟨w2.heap.size, 9, none⟩ (.slice none 0 0)).setCell ⟨w2.heap.size, 10, none⟩ (.slice none 0 0)).setCell ⟨w2.heap.size, 11, none⟩ (.slice none 0 0)) := ⟨_, rfl⟩
    have HBF : Hid (Below w2.heap.size w2 wF) := by rw [hwF]; exact ((((((((((((HB5.out.setCell hge _).setCell hge _).setCell hge _).setCell hge _).setCell hge _).setCell hge _).setCell hge _).setCell hge _).setCell hge _).setCell hge _).setCell hge _).setCell hge _)
    have KF : Hid (Blk wF w2.heap.size 37 #[.string ba, .string ver, .string bd, .string ⟨#[]⟩, .slice none 0 0, .slice none 0 0, .slice none 0 0, .slice none 0 0, .slice none 0 0, .slice none 0 0, .slice none 0 0, .slice none 0 0]) := by rw [hwF]; exact set12 K5.out (.string ba) (.string ver) (.string bd) (.string ⟨#[]⟩) (.slice none 0 0) (.slice none 0 0) (.slice none 0 0) (.slice none 0 0) (.slice none 0 0) (.slice none 0 0) (.slice none 0 0) (.slice none 0 0)
    go_simp
    refine hK.out _ _ (fun h => by simp at h) ?_
    clear hS hK
    intro hS
    refine aaQh (by kernel_rfl) ?_ _
    try simp only [sx, Act.put]
    rw [← hwF]
    clear hwF hS
    go_wp2_with fail
    go_meet
    exact ⟨_, rfl, HPK, HBF, KF⟩
  case rest =>
   obtain ⟨pk, rfl, HPK, HBF, KF⟩ := hcut
   obtain ⟨wF, hwF⟩ : ∃ x, x = wc := ⟨_, rfl⟩
   subst hwF
   have HAF := hQQ (HA2.out.below HBF.out)
   have HTF := hQQ (HB2.out.trans (HBF.out.mono HB2.out.size))
   clear HQ CC HBF
   have HRP : Hid (RpB g A xs.length c pk ba ver bd wF.drew) := ⟨by have := HAF.out.rd.cell 1; simpa using this, KF.out.cell 0, KF.out.cell 1, KF.out.cell 2, KF.out.cell 3, KF.out.cell 4, KF.out.cell 5, KF.out.cell 6, KF.out.cell 7, KF.out.cell 8, KF.out.cell 9, KF.out.cell 10, KF.out.cell 11⟩
   go_upto_region 13 with fail
   refine aaQu (TillP 10 (RpB g A xs.length c pk ba ver bd)) (by kernel_rfl) (fun _ => HRP.out) (fun hS => ?_)
   try simp only [sx, Act.put]
   refine aaQa (i := 0) (RpB g A xs.length c pk ba ver bd) (v := (.pointer (some ⟨g, 0, none⟩))) rfl (by kernel_rfl) (by kernel_rfl) (by kernel_rfl) (fun _ _ _ h => h) (fun l w hw hS => hS (hw 10 (by kernel_rfl))) (TillP.io (by decide)) (by kernel_rfl) hS (fun w' hSw => ?_) (by rfl) ?_
   ·obtain ⟨s, s0, s1, s2, s3, s4, s5, s6, s7, s8, s9, s10, s11⟩ := hSw
    go_simp
   clear hS
   intro hS
   try simp only [sx, Act.put]
   refine aaQa (i := 1) (RpB g A xs.length c pk ba ver bd) (v := (.pointer (some ⟨g, 0, none⟩))) rfl (by kernel_rfl) (by kernel_rfl) (by kernel_rfl) (fun _ _ _ h => h) (fun l w hw hS => hS (hw 10 (by kernel_rfl))) (TillP.io (by decide)) (by kernel_rfl) hS (fun w' hSw => ?_) (by rfl) ?_
   ·obtain ⟨s, s0, s1, s2, s3, s4, s5, s6, s7, s8, s9, s10, s11⟩ := hSw
    go_simp
   clear hS
   intro hS
   try simp only [sx, Act.put]
   refine aaQa (i := 2) (RpB g A xs.length c pk ba ver bd) (v := (.pointer (some ⟨g, 0, none⟩))) rfl (by kernel_rfl) (by kernel_rfl) (by kernel_rfl) (fun _ _ _ h => h) (fun l w hw hS => hS (hw 10 (by kernel_rfl))) (TillP.io (by decide)) (by kernel_rfl) hS (fun w' hSw => ?_) (by rfl) ?_
   ·obtain ⟨s, s0, s1, s2, s3, s4, s5, s6, s7, s8, s9, s10, s11⟩ := hSw
    go_simp
   clear hS
   intro hS
   try simp only [sx, Act.put]
   refine aaQa (i := 3) (RpB g A xs.length c pk ba ver bd) (v := (.pointer (some ⟨g, 1, none⟩))) rfl (by kernel_rfl) (by kernel_rfl) (by kernel_rfl) (fun _ _ _ h => h) (fun l w hw hS => hS (hw 10 (by kernel_rfl))) (TillP.io (by decide)) (by kernel_rfl) hS (fun w' hSw => ?_) (by rfl) ?_
   ·obtain ⟨s, s0, s1, s2, s3, s4, s5, s6, s7, s8, s9, s10, s11⟩ := hSw
    go_simp
   clear hS
   intro hS
   try simp only [sx, Act.put]
   refine aaQa (i := 4) (RpB g A xs.length c pk ba ver bd) (v := (.slice A xs.length c)) rfl (by kernel_rfl) (by kernel_rfl) (by kernel_rfl) (fun _ _ _ h => h) (fun l w hw hS => hS (hw 10 (by kernel_rfl))) (TillP.io (by decide)) (by kernel_rfl) hS (fun w' hSw => ?_) (by rfl) ?_
   ·obtain ⟨s, s0, s1, s2, s3, s4, s5, s6, s7, s8, s9, s10, s11⟩ := hSw
    go_simp
   clear hS
   intro hS
   try simp only [sx, Act.put]
   refine aaQa (i := 5) (RpB g A xs.length c pk ba ver bd) (v := (.agg #[.string ba, .string ver, .string bd, .string ⟨#[]⟩, .slice none 0 0, .slice none 0 0, .slice none 0 0, .slice none 0 0, .slice none 0 0, .slice none 0 0, .slice none 0 0, .slice none 0 0])) rfl (by kernel_rfl) (by kernel_rfl) (by kernel_rfl) (fun _ _ _ h => h) (fun l w hw hS => hS (hw 10 (by kernel_rfl))) (TillP.io (by decide)) (by kernel_rfl) hS (fun w' hSw => ?_) (by rfl) ?_
   ·obtain ⟨s, s0, s1, s2, s3, s4, s5, s6, s7, s8, s9, s10, s11⟩ := hSw
    go_simp
   clear hS
   intro hS
   try simp only [sx, Act.put]
   refine aaQb (i := 6) (by kernel_rfl) rfl (fun K hK => ?_)
   go_simp
   have HBG : Hid (Below wF.heap.size wF (wF.drew.alloc (.cells #[.string ba, .string ver, .string bd, .string ⟨#[]⟩, .slice none 0 0, .slice none 0 0, .slice none 0 0, .slice none 0 0, .slice none 0 0, .slice none 0 0, .slice none 0 0, .slice none 0 0] 37))) := (Below.refl wF.heap.size wF).drew.alloc (Nat.le_refl _) _
   have HAG := hQQ (HAF.out.below HBG.out)
   have HKG := hQQ (Blk.mono KF.out HBG.out)
   have HRG : Hid (RpB g A xs.length c pk ba ver bd (wF.drew.alloc (.cells #[.string ba, .string ver, .string bd, .string ⟨#[]⟩, .slice none 0 0, .slice none 0 0, .slice none 0 0, .slice none 0 0, .slice none 0 0, .slice none 0 0, .slice none 0 0, .slice none 0 0] 37))) := ⟨by have := HAG.out.rd.cell 1; simpa using this, HKG.out.cell 0, HKG.out.cell 1, HKG.out.cell 2, HKG.out.cell 3, HKG.out.cell 4, HKG.out.cell 5, HKG.out.cell 6, HKG.out.cell 7, HKG.out.cell 8, HKG.out.cell 9, HKG.out.cell 10, HKG.out.cell 11⟩
   refine hK.out _ _ (fun _ => HRG.out) ?_
   clear hS hK
   intro hS
   try simp only [sx, Act.put]
   refine aaQb (i := 7) (by kernel_rfl) rfl (fun K hK => ?_)
   have HCN : Hid (∀ (j : Nat) u, (#[.string ba, .string ver, .string bd, .string ⟨#[]⟩, .slice none 0 0, .slice none 0 0, .slice none 0 0, .slice none 0 0, .slice none 0 0, .slice none 0 0, .slice none 0 0, .slice none 0 0] : Array Value).toList[j]? = some u → (wF.drew.alloc (.cells #[.string ba, .string ver, .string bd, .string ⟨#[]⟩, .slice none 0 0, .slice none 0 0, .slice none 0 0, .slice none 0 0, .slice none 0 0, .slice none 0 0, .slice none 0 0, .slice none 0 0] 37)).cell? ((⟨wF.heap.size, 0, none⟩ : Addr).add j) = some u) := fun j u hj => abQ8 (Blk.new wF.drew 37 #[.string ba, .string ver, .string bd, .string ⟨#[]⟩, .slice none 0 0, .slice none 0 0, .slice none 0 0, .slice none 0 0, .slice none 0 0, .slice none 0 0, .slice none 0 0, .slice none 0 0]) rfl j u hj
   have hszG := HAG.out.le.2
   refine aaQo rfl (.tmp 53) (.tmp 55) 23 rfl B 37 i z 12 256 Tryz.underlying23 HI.out hz0 hz2 hz3 hz1 (by decide) (.slice A xs.length c) xs.length (rowsK xs) (by simp [Act.eval, Act.put]) HAG.out.row ⟨wF.heap.size, 0, none⟩ 1 1 (#[.string ba, .string ver, .string bd, .string ⟨#[]⟩, .slice none 0 0, .slice none 0 0, .slice none 0 0, .slice none 0 0, .slice none 0 0, .slice none 0 0, .slice none 0 0, .slice none 0 0] : Array Value).toList (by simp [Act.eval, Act.put]) rfl HCN.out (fun u hu => by simp at hu; rcases hu with rfl | rfl | rfl | rfl | rfl | rfl | rfl | rfl | rfl | rfl | rfl | rfl <;> rfl) (by unfold maxLen; omega) (by omega) hszG ?_
   intro v9 w9 hown9 hg9 hat9
   have HPU := hQQ (HAG.out.push (a := ba.data.toList) (b := (ver : ByteArray).data.toList) (d := bd.data.toList) (by have e : (newX ba.data.toList (ver : ByteArray).data.toList bd.data.toList).row = (#[.string ba, .string ver, .string bd, .string ⟨#[]⟩, .slice none 0 0, .slice none 0 0, .slice none 0 0, .slice none 0 0, .slice none 0 0, .slice none 0 0, .slice none 0 0, .slice none 0 0] : Array Value).toList := (by show [Value.string (mkS ba.data.toList), Value.string (mkS (ver : ByteArray).data.toList), Value.string (mkS bd.data.toList), _, _, _, _, _, _, _, _, _] = _; rw [akQ0, akQ0, akQ0]; rfl); rw [e]; exact hown9) hg9)
   have hT9 := aaQi hg9
   have hgR : g ∉ (Value.slice A xs.length c).ownBlock.toList := fun hm => by obtain ⟨cs', hb⟩ := own_blk HAG.out.row (by simpa using hm); exact Blk.kind hb HAG.out.rd (by decide) rfl
   have hpR : pk ∉ (Value.slice A xs.length c).ownBlock.toList := fun hm => by have h1 := adQx HA.out.row (k := pk) (by simpa using hm); have := HPK.out; omega
   have K9 := hQQ (HKG.out.turned hT9 hpR)
   have R9 := hQQ (HAG.out.rd.turned hT9 hgR)
   have HR9 : Hid (RpB g A xs.length c pk ba ver bd w9) := ⟨by have := R9.out.cell 1; simpa using this, K9.out.cell 0, K9.out.cell 1, K9.out.cell 2, K9.out.cell 3, K9.out.cell 4, K9.out.cell 5, K9.out.cell 6, K9.out.cell 7, K9.out.cell 8, K9.out.cell 9, K9.out.cell 10, K9.out.cell 11⟩
   have c9 := HR9.out.1
   have f9 := R9.out.free 1
   have HM9 : Hid (∃ R, Turned R w (w9.setCell ⟨g, 1, none⟩ v9) ∧ ∀ k ∈ R, ∃ t cs, Blk w k t cs ∧ (t = 37 ∨ t = 67)) := ⟨g :: (Value.slice A xs.length c).ownBlock.toList, (((Turned.of_below (HTF.out.trans (HBG.out.mono HTF.out.size)) _).trans (hT9.more (fun k hk => List.mem_cons_of_mem _ hk)) (Fresh.refl _ _)).setCell (.inl (by simp)) _), fun k hk => by
    rcases List.mem_cons.1 hk with rfl | hk
    ·exact ⟨_, _, HA.out.rd, .inr rfl⟩
    ·obtain ⟨cs', hb⟩ := own_blk HA.out.row (k := k) (by simpa using hk)
     exact ⟨_, cs', hb, .inl rfl⟩⟩
   have HV9 := hQQ (aaQc hown9)
   obtain ⟨A9, cc9, rfl, hn9, hm9⟩ := aaQc hown9
   clear hown9 hg9 hat9 hT9 hgR hpR
   refine hK.out _ _ (fun _ => HR9.out) ?_
   clear hS hK
   intro hS
   try simp only [sx, Act.put]
   refine aaQa (i := 8) (fun w' => True) (v := (.pointer (some ⟨g, 0, none⟩))) rfl (by kernel_rfl) (by kernel_rfl) (by kernel_rfl) (fun _ _ _ h => h) (fun _ _ _ _ => trivial) (TillP.io (by decide)) (by kernel_rfl) hS (fun w' hSw => ?_) (by rfl) ?_
   ·go_simp
   clear hS
   intro hS
   try simp only [sx, Act.put]
   refine aaQa (i := 9) (fun w' => True) (v := (.pointer (some ⟨g, 1, none⟩))) rfl (by kernel_rfl) (by kernel_rfl) (by kernel_rfl) (fun _ _ _ h => h) (fun _ _ _ _ => trivial) (TillP.io (by decide)) (by kernel_rfl) hS (fun w' hSw => ?_) (by rfl) ?_
   ·go_simp
   clear hS
   intro hS
   try simp only [sx, Act.put]
   refine aaQb (i := 10) (by kernel_rfl) rfl (fun K hK => ?_)
   go_simp
   refine hK.out _ _ (fun h => by simp at h) ?_
   clear hS hK
   intro hS
   refine aaQh (by kernel_rfl) ?_ _
   try simp only [sx, Act.put]
   clear HR9 K9 R9 HAG HKG HRG HCN HAF KF
   go_wp2_with fail
   go_ret
   show adQk _ _ _ _ _ _ X _ _
   rw [HXE.out]
   obtain ⟨pb9, cap9, e9, hsu⟩ := HPU.out
   exact ⟨rfl, _, _, _, pb9, cap9, _, by rw [HACC.out], hsu, HM9.out⟩
end Go.Proofs.YtdhgiammfpjniaaGreatDoor
