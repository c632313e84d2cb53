/- The document's own words of a package's texts: its architecture, its vendor, its files. The document's own word of a package's dependencies. The document's own check of a package. Copies in memory of their own: strings.Clone, listApart, depApart. Copies in memory of their own: depApart, listApart. -/
import Derived.Test.YtpmfmkpfjomgnaaGreatDoorZag
import Derived.Test.YtpmfmkpfjomgnaaGreatDoorZaj
import Derived.Test.YtpmfmkpfjomgnaaGreatDoorZai
import Derived.Laws.MakeOwn
import Derived.Lib.SliceRun
import Derived.Test.YtpmfmkpfjomgnaaGreatDoorZac
/- The document's own words of a package's texts: its architecture, its vendor, its files. -/
namespace Go.Proofs.YtpmfmkpfjomgnaaGreatDoor
set_option linter.unusedSimpArgs false
set_option linter.unusedVariables false
open Go.RowKit

def isArchB (c : UInt8) : Bool := decide (97 ≤ c.toNat ∧ c.toNat ≤ 122 ∨ 48 ≤ c.toNat ∧ c.toNat ≤ 57 ∨ c.toNat = 95)
def archR (s : ByteArray) : Bool := s.data.toList.all isArchB && (decide (1 ≤ s.size) && decide (s.size ≤ 20))
def isShownB (c : UInt8) : Bool := decide (32 ≤ c.toNat ∧ c.toNat ≤ 126)
def shownR (s : ByteArray) : Bool := s.data.toList.all isShownB
theorem all_not {p : UInt8 → Bool} {l : List UInt8} {k : Nat} {c : UInt8} (hc : l[k]? = some c) (hp : p c = false) : l.all p = false := by
  cases hx : l.all p with
  | false => rfl
  | true =>
    have := List.all_eq_true.1 hx c (List.mem_of_getElem? hc)
    rw [hp] at this; cases this
set_option maxHeartbeats 2000000 in
set_option maxRecDepth 100000 in
theorem refArch_any (s : ByteArray) (hs : s.size ≤ maxLen) (w : World) :
    Calls Tryz.prog 92 #[.string s] w fun e w' => e = .returned (.bool (archR s)) ∧ w = w' := by
  unfold maxLen at hs
  obtain ⟨y, hy⟩ : ∃ y, y = archR s := ⟨_, rfl⟩
  rw [← hy]
  have HX := Lib.hid hy
  clear hy
  go_enter Tryz.func92, Tryz.ntmps92
  go_wp2_with fail
  go_loop [3] (fun i => ∃ k : Nat, k ≤ s.size ∧ i = .int .i64 (k : Int) ∧ Hid ((s.data.toList.take k).all isArchB = true)) (fun i => s.size - (intOf i).toNat)
  case atStart => exact ⟨0, Nat.zero_le _, rfl, show (s.data.toList.take 0).all isArchB = true from rfl⟩
  case round =>
    obtain ⟨k, hk, rfl, hall⟩ := hrel
    by_cases hlt : k < s.size
    · have HB := Lib.hid (byte_at hlt)
      have HY : Hid ((97 ≤ s[k].toNat ∧ s[k].toNat ≤ 122 ∨ 48 ≤ s[k].toNat ∧ s[k].toNat ≤ 57 ∨ s[k].toNat = 95) → (s.data.toList.take (k + 1)).all isArchB = true) := fun h => all_snoc hall.out HB.out (decide_eq_true h)
      have HNo : Hid (¬ (97 ≤ s[k].toNat ∧ s[k].toNat ≤ 122 ∨ 48 ≤ s[k].toNat ∧ s[k].toNat ≤ 57 ∨ s[k].toNat = 95) → y = false) := fun h => by
        show y = false
        rw [HX.out]; unfold archR
        rw [all_not HB.out (decide_eq_false h)]; rfl
      clear hall
      have h256 : s[k].toNat < 256 := s[k].toNat_lt
      have hcs : (s[k].toNat = 95 ∧ ((s[k].toNat : Int) != 95) = false) ∨ (s[k].toNat ≠ 95 ∧ ((s[k].toNat : Int) != 95) = true) := by
        by_cases h : s[k].toNat = 95
        · exact .inl ⟨h, by rw [h]; rfl⟩
        · exact .inr ⟨h, bne_iff_ne.2 (by omega)⟩
      rcases hcs with ⟨h95, t95⟩ | ⟨h95, t95⟩
      all_goals
        go_wp2_with fail
      all_goals
        first
        | (go_ret
           exact ⟨ret_bool (by rw [HNo.out (by omega)]), rfl⟩)
        | (go_round
           case rel => exact ⟨k + 1, by omega, by go_num, HY.out (by omega)⟩
           case measure => simp [intOf]; omega)
    · have HM : Hid (y = (decide (1 ≤ s.size) && decide (s.size ≤ 20))) := by
        show y = _
        have := hall.out
        rw [List.take_of_length_le (by simp; omega)] at this
        rw [HX.out]
        unfold archR
        rw [this]; rfl
      clear hall
      go_wp2_with fail
      all_goals
        go_ret
        refine ⟨ret_bool ?_, rfl⟩
        rw [HM.out, Bool.eq_iff_iff]
        simp <;> omega
set_option maxHeartbeats 2000000 in
set_option maxRecDepth 100000 in
theorem refShown_any (s : ByteArray) (hs : s.size ≤ maxLen) (w : World) :
    Calls Tryz.prog 93 #[.string s] w fun e w' => e = .returned (.bool (shownR s)) ∧ w = w' := by
  unfold maxLen at hs
  obtain ⟨y, hy⟩ : ∃ y, y = shownR s := ⟨_, rfl⟩
  rw [← hy]
  have HX := Lib.hid hy
  clear hy
  go_enter Tryz.func93, Tryz.ntmps93
  go_wp2_with fail
  go_loop [3] (fun i => ∃ k : Nat, k ≤ s.size ∧ i = .int .i64 (k : Int) ∧ Hid ((s.data.toList.take k).all isShownB = true)) (fun i => s.size - (intOf i).toNat)
  case atStart => exact ⟨0, Nat.zero_le _, rfl, show (s.data.toList.take 0).all isShownB = true from rfl⟩
  case round =>
    obtain ⟨k, hk, rfl, hall⟩ := hrel
    by_cases hlt : k < s.size
    · have HB := Lib.hid (byte_at hlt)
      have HY : Hid ((32 ≤ s[k].toNat ∧ s[k].toNat ≤ 126) → (s.data.toList.take (k + 1)).all isShownB = true) := fun h => all_snoc hall.out HB.out (decide_eq_true h)
      have HNo : Hid (¬ (32 ≤ s[k].toNat ∧ s[k].toNat ≤ 126) → y = false) := fun h => by
        show y = false
        rw [HX.out]; unfold shownR
        rw [all_not HB.out (decide_eq_false h)]
      clear hall
      have h256 : s[k].toNat < 256 := s[k].toNat_lt
      go_wp2_with fail
      all_goals
        first
        | (go_ret
           exact ⟨ret_bool (by rw [HNo.out (by omega)]), rfl⟩)
        | (go_round
           case rel => exact ⟨k + 1, by omega, by go_num, HY.out (by omega)⟩
           case measure => simp [intOf]; omega)
    · have HM : Hid (y = true) := by
        show y = _
        have := hall.out
        rw [List.take_of_length_le (by simp; omega)] at this
        rw [HX.out]
        unfold shownR
        rw [this]
      clear hall
      go_wp2_with fail
      go_ret
      exact ⟨ret_bool (by rw [HM.out]), rfl⟩
theorem noFile_no {s : ByteArray} (h : nameB s.data.toList = false) : noFile s = true := by unfold noFile; rw [h]; simp
theorem noFile_head {s : ByteArray} (hp : 0 < s.size) (h : nameB s.data.toList = true) : noFile s = !decide (s[0] = 47) := by
  unfold noFile
  rw [h, list_cons hp]
  simp [Lib.hasPrefix, List.isPrefixOf]
  rw [Bool.eq_iff_iff, beq_iff_eq, decide_eq_true_eq]
  exact ⟨Eq.symm, Eq.symm⟩
theorem name_some {s : ByteArray} (h : nameB s.data.toList = true) : 0 < s.size := by
  rcases Nat.eq_zero_or_pos s.size with h0 | h0
  · rw [list_nil h0, name_no (.inl rfl)] at h; cases h
  · exact h0
set_option maxHeartbeats 4000000 in
set_option maxRecDepth 100000 in
theorem refFiles_any (fl : List ByteArray) (A : Option Addr) (c : Nat) (T : Nat → Prop) (w : World) (hA : TextsAt w T fl A) (hl : fl.length ≤ c) (hc : c ≤ maxLen) (hsm : ∀ s ∈ fl, s.size ≤ maxLen) :
    Calls Tryz.prog 95 #[.slice A fl.length c] w fun e w' => e = .returned (.bool (!filesBad fl)) ∧ w = w' := by
  unfold maxLen at hc
  obtain ⟨y, hy⟩ : ∃ y, y = !filesBad fl := ⟨_, rfl⟩
  rw [← hy]
  have HX := Lib.hid hy
  have HA := Lib.hid hA
  have HS := Lib.hid hsm
  clear hy hA hsm
  have hlb : fl.length ≤ 9223372036854775807 := by omega
  by_cases h16 : 16 < fl.length
  · have t16 : (16 : Int) < (fl.length : Int) := by omega
    have HV : Hid (y = false) := by show y = _; rw [HX.out]; simp [filesBad, h16]
    clear HX h16
    go_enter Tryz.func95, Tryz.ntmps95
    go_wp2_with fail
    go_ret
    exact ⟨ret_bool (by rw [HV.out]), rfl⟩
  have t16 : ¬ (16 : Int) < (fl.length : Int) := by omega
  have HX2 : Hid (y = !fl.any noFile) := by show y = _; rw [HX.out]; simp [filesBad, h16]
  clear HX h16
  go_enter Tryz.func95, Tryz.ntmps95
  go_wp2_with fail
  go_loop [3] (fun i => ∃ k : Nat, k ≤ fl.length ∧ i = .int .i64 (k : Int) ∧ Hid (∀ a ∈ fl.take k, noFile a = false)) (fun i => fl.length - (intOf i).toNat)
  case atStart => exact ⟨0, Nat.zero_le _, rfl, show ∀ a ∈ fl.take 0, noFile a = false from fun a ha => by simp at ha⟩
  case round =>
    obtain ⟨k, hk, rfl, hall⟩ := hrel
    by_cases hlt : k < fl.length
    · obtain ⟨s, hsk⟩ : ∃ s, fl[k]? = some s := ⟨_, List.getElem?_eq_getElem hlt⟩
      obtain ⟨b, o, hAe, _, hcell⟩ := HA.out k s hsk
      subst hAe
      have hm := List.mem_of_getElem? hsk
      have hsz := HS.out s hm
      have HY : Hid (noFile s = false → ∀ a ∈ fl.take (k + 1), noFile a = false) := fun h a ha => by
        rw [List.take_add_one, hsk] at ha
        rcases List.mem_append.1 ha with h1 | h1
        · exact hall.out a h1
        · have : a = s := by simpa using h1
          rw [this]; exact h
      have HNo : Hid (noFile s = true → y = false) := fun h => by
        show y = false
        rw [HX2.out, List.any_eq_true.2 ⟨s, hm, h⟩]; rfl
      have CN := Lib.hid (fun w => refNameD_any s hsz w)
      cases hn : nameB s.data.toList with
      | false =>
        have HV : Hid (y = false) := HNo.out (noFile_no hn)
        rw [hn] at CN
        clear hall hsk hm hsz HY HNo hn
        go_wp2_with fail
        refine (CN.out _).mono ?_
        rintro e w1 ⟨rfl, rfl⟩
        go_wp2_with fail
        go_ret
        exact ⟨ret_bool (by rw [HV.out]), rfl⟩
      | true =>
        have hp := name_some hn
        have hf := noFile_head hp hn
        rw [hn] at CN
        unfold maxLen at hsz
        by_cases h47 : s[0] = 47
        · obtain ⟨t1, t2⟩ := u8_hit (n := 47) rfl h47
          have HV := Lib.hid (HY.out (by rw [hf]; simp [h47]))
          clear hall hsk hm HY HNo hn hf h47
          go_wp2_with fail
          refine (CN.out _).mono ?_
          rintro e w1 ⟨rfl, rfl⟩
          go_wp2_with fail
          go_round
          case rel => exact ⟨k + 1, by omega, by go_num, HV⟩
          case measure => simp [intOf]; omega
        · obtain ⟨t1, t2⟩ := u8_miss (n := 47) rfl h47
          have HV : Hid (y = false) := HNo.out (by rw [hf]; simp [h47])
          clear hall hsk hm HY HNo hn hf h47
          go_wp2_with fail
          refine (CN.out _).mono ?_
          rintro e w1 ⟨rfl, rfl⟩
          go_wp2_with fail
          go_ret
          exact ⟨ret_bool (by rw [HV.out]), rfl⟩
    · have HV : Hid (y = true) := by
        show y = _
        rw [HX2.out]
        have : fl.any noFile = false := by
          rw [List.any_eq_false]
          intro a ha
          have := hall.out a (by rw [List.take_of_length_le (by omega)]; exact ha)
          simp [this]
        rw [this]; rfl
      clear hall
      go_wp2_with fail
      go_ret
      exact ⟨ret_bool (by rw [HV.out]), rfl⟩
/-- The lists of a package, in memory of their own. -/
def ListsPost (ss : Nat → Value) (w : World) (e : Ending) (w' : World) : Prop :=
  ∃ b, e = .returned (.slice (some ⟨b, 0, none⟩) 7 7) ∧ Blk w' b 41 #[ss 0, ss 1, ss 2, ss 3, ss 4, ss 5, ss 6] ∧ Below w.heap.size w w'
set_option maxHeartbeats 2000000 in
set_option maxRecDepth 100000 in
theorem refLists_any (p : Pkg) (ss : Nat → Value) (fs : Value) (hss : ∀ i, i < 7 → ∃ B n m, ss i = .slice B n m) (w : World) :
    Calls Tryz.prog 37 #[.agg (rowP p ss fs)] w (ListsPost ss w) := by
  obtain ⟨B0, n0, m0, s0⟩ := hss 0 (by omega)
  obtain ⟨B1, n1, m1, s1⟩ := hss 1 (by omega)
  obtain ⟨B2, n2, m2, s2⟩ := hss 2 (by omega)
  obtain ⟨B3, n3, m3, s3⟩ := hss 3 (by omega)
  obtain ⟨B4, n4, m4, s4⟩ := hss 4 (by omega)
  obtain ⟨B5, n5, m5, s5⟩ := hss 5 (by omega)
  obtain ⟨B6, n6, m6, s6⟩ := hss 6 (by omega)
  unfold rowP ListsPost
  rw [s0, s1, s2, s3, s4, s5, s6]
  clear hss s0 s1 s2 s3 s4 s5 s6
  go_enter Tryz.func37, Tryz.ntmps37
  go_wp2_with fail
  go_ret
  exact ⟨_, rfl, Blk.new' (by simp), ((Below.refl _ _).alloc (Nat.le_refl _) _).alloc (by simp) _⟩
end Go.Proofs.YtpmfmkpfjomgnaaGreatDoor

/- The document's own word of a package's dependencies. -/
namespace Go.Proofs.YtpmfmkpfjomgnaaGreatDoor
set_option linter.unusedSimpArgs false
set_option linter.unusedVariables false
open Go.RowKit

/-! The dependencies. -/
def okD (i : Nat) (d : Dep) : Bool := decide (checkN d = 0 ∧ ((i = 0 ∨ i = 4) → d.kind = 1) ∧ (i = 0 → d.op = 0 ∨ d.op = 2))
def okL (p : Pkg) (i : Nat) : Bool := decide ((p.ls i).length ≤ 16) && (p.ls i).all (okD i)
def depsB (p : Pkg) : Bool := (List.range 7).all (okL p)
theorem row7 (ss : Nat → Value) : ∀ k, k < 7 → (#[ss 0, ss 1, ss 2, ss 3, ss 4, ss 5, ss 6] : Array Value)[k]? = some (ss k)
  | 0, _ => rfl
  | 1, _ => rfl
  | 2, _ => rfl
  | 3, _ => rfl
  | 4, _ => rfl
  | 5, _ => rfl
  | 6, _ => rfl
  | _ + 7, h => absurd h (by omega)
theorem ne_cs (a b : Int) : (a = b ∧ (a != b) = false ∧ (a == b) = true) ∨ (a ≠ b ∧ (a != b) = true ∧ (a == b) = false) := by
  by_cases h : a = b
  · exact .inl ⟨h, by simp [h], by simp [h]⟩
  · exact .inr ⟨h, bne_iff_ne.2 h, beq_eq_false_iff_ne.2 h⟩
set_option maxHeartbeats 8000000 in
set_option maxRecDepth 100000 in
theorem refDeps_any (p : Pkg) (ss : Nat → Value) (fs : Value) (S T : Nat → Prop) (w0 : World) (hP : PkgAt w0 S T p ss fs) (hsm : ∀ i, i < 7 → ∀ d ∈ p.ls i, small d ∧ nodes d ≤ 4194304) :
    Calls Tryz.prog 94 #[.agg (rowP p ss fs)] w0 fun e w' => e = .returned (.bool (depsB p)) ∧ Below w0.heap.size w0 w' := by
  obtain ⟨y, hy⟩ : ∃ y, y = depsB p := ⟨_, rfl⟩
  rw [← hy]
  have HNo : Hid (∀ i, i < 7 → okL p i = false → y = false) := fun i hi h => by
    rw [hy]
    cases hx : depsB p with
    | false => rfl
    | true =>
      have := List.all_eq_true.1 hx i (List.mem_range.2 hi)
      rw [h] at this; cases this
  have HYes : Hid ((∀ i, i < 7 → okL p i = true) → y = true) := fun h => by
    rw [hy]
    exact List.all_eq_true.2 fun i hi => h i (List.mem_range.1 hi)
  obtain ⟨w1, hw1⟩ : ∃ w1, w1 = w0.alloc (.cells (rowP p ss fs) 44) := ⟨_, rfl⟩
  have hb0 : Below w0.heap.size w0 w1 := by rw [hw1]; exact (Below.refl _ _).alloc (Nat.le_refl _) _
  have K0 : Blk w1 w0.heap.size 44 (rowP p ss fs) := by rw [hw1]; exact Blk.new _ _ _
  have hSL : ∀ i, i < 7 → ∃ B n m, ss i = .slice B n m := fun i hi => by
    obtain ⟨B, m, h, _⟩ := hP.lists i hi
    exact ⟨B, _, m, h⟩
  have CL := Lib.hid (refLists_any p ss fs hSL w1)
  have HF : Hid (∀ wx, Below w1.heap.size w1 wx → PkgAt wx S T p ss fs ∧ Below w0.heap.size w0 wx) := fun wx hb => by
    have h1 := hb0.trans (hb.mono hb0.size)
    exact ⟨hP.below h1, h1⟩
  have HSM := Lib.hid hsm
  have HSL := Lib.hid hSL
  have q0 := K0.cell 0
  have q1 := K0.cell 1
  have q2 := K0.cell 2
  have q3 := K0.cell 3
  have q4 := K0.cell 4
  have q5 := K0.cell 5
  have q6 := K0.cell 6
  have q7 := K0.cell 7
  have q8 := K0.cell 8
  have q9 := K0.cell 9
  have q10 := K0.cell 10
  have q11 := K0.cell 11
  unfold rowP at CL q0 q1 q2 q3 q4 q5 q6 q7 q8 q9 q10 q11
  simp at q0 q1 q2 q3 q4 q5 q6 q7 q8 q9 q10 q11
  clear hP hsm hy hb0 K0 hSL
  unfold rowP at hw1
  unfold rowP
  go_enter Tryz.func94, Tryz.ntmps94
  go_upto_region 1 with fail
  rw [← hw1]
  clear hw1
  go_wp2_with fail
  refine CL.out.mono ?_
  rintro e w2 ⟨bl, rfl, hbl, hb2⟩
  have HW2 : Hid (∀ wx, Below w2.heap.size w2 wx → Blk wx bl 41 #[ss 0, ss 1, ss 2, ss 3, ss 4, ss 5, ss 6] ∧ PkgAt wx S T p ss fs ∧ Below w0.heap.size w0 wx) := fun wx hb => by
    obtain ⟨h1, h2⟩ := HF.out wx (hb2.trans (hb.mono hb2.size))
    exact ⟨hbl.below hb hbl.lt, h1, h2⟩
  clear hb2 hbl CL HF q0 q1 q2 q3 q4 q5 q6 q7 q8 q9 q10 q11
  go_wp2_with fail
  go_loopw [4] (fun v wx => ∃ k : Nat, k ≤ 7 ∧ v = .int .i64 (k : Int) ∧ Hid (∀ i, i < k → okL p i = true) ∧ Hid (Below w2.heap.size w2 wx)) (fun v _ => 7 - (intOf v).toNat)
  case atStart => exact ⟨0, by omega, rfl, (show ∀ i, i < 0 → okL p i = true from fun i hi => by omega), (show Below w2.heap.size w2 w2 from Below.refl _ _)⟩
  case round =>
    obtain ⟨k, hk, rfl, hok, hb⟩ := hrel
    by_cases hlt : k < 7
    · obtain ⟨Kr, hPr, hBr⟩ := HW2.out wr hb.out
      have hc := (Kr.cell k).trans (row7 ss k hlt)
      obtain ⟨A, c, hs, hl1, hl2, hl3, hA⟩ := hPr.lists k hlt
      rw [hs] at hc
      have HBr := Lib.hid hBr
      clear Kr hPr hBr hl3 hA
      unfold maxLen at hl2
      have hN1 := HNo.out k hlt
      by_cases h16 : 16 < (p.ls k).length
      · have t16 : (16 : Int) < ((p.ls k).length : Int) := by omega
        have HV : Hid (y = false) := hN1 (by unfold okL; rw [decide_eq_false (by omega)]; rfl)
        clear h16 hN1
        go_wp2_with fail
        go_ret
        exact ⟨ret_bool (by rw [HV.out]), HBr.out⟩
      have t16 : ¬ (16 : Int) < ((p.ls k).length : Int) := by omega
      have HN1 : Hid ((p.ls k).all (okD k) = false → y = false) := fun h => hN1 (by unfold okL; rw [h]; simp)
      have HY1 : Hid ((p.ls k).all (okD k) = true → okL p k = true) := fun h => by unfold okL; rw [h, decide_eq_true (by omega)]; rfl
      have hlb : (p.ls k).length ≤ 16 := by omega
      clear h16 hN1 HBr
      have HS := Lib.hid hs
      clear hs
      go_wp2_with fail
      go_loopw [5] (fun v wx => ∃ j : Nat, j ≤ (p.ls k).length ∧ v = .int .i64 (j : Int) ∧ Hid (((p.ls k).take j).all (okD k) = true) ∧ Hid (Below w2.heap.size w2 wx)) (fun v _ => (p.ls k).length - (intOf v).toNat)
      case atStart => exact ⟨0, Nat.zero_le _, rfl, rfl, hb⟩
      case round =>
        clear hb hc
        obtain ⟨j, hj, rfl, hall, hbj⟩ := hrel
        obtain ⟨Kr, hPr, hBr⟩ := HW2.out wr hbj.out
        have hc := (Kr.cell k).trans (row7 ss k hlt)
        obtain ⟨A', c', hs', -, -, -, hA⟩ := hPr.lists k hlt
        rw [HS.out] at hs' hc
        injection hs' with g1 g2 g3
        subst g1; subst g3
        have HBr := Lib.hid hBr
        clear Kr hPr hBr g2
        by_cases hltj : j < (p.ls k).length
        · obtain ⟨a, ha⟩ : ∃ a, (p.ls k)[j]? = some a := ⟨_, List.getElem?_eq_getElem hltj⟩
          have hm := List.mem_of_getElem? ha
          obtain ⟨hs1, hs2⟩ := HSM.out k hlt a hm
          have HD1 : Hid (¬ (checkN a = 0 ∧ ((k = 0 ∨ k = 4) → a.kind = 1) ∧ (k = 0 → a.op = 0 ∨ a.op = 2)) → y = false) := fun h => HN1.out (by
            replace h : okD k a = false := decide_eq_false h
            cases hx : (p.ls k).all (okD k) with
            | false => rfl
            | true => have := List.all_eq_true.1 hx a hm; rw [h] at this; cases this)
          have HD2 : Hid ((checkN a = 0 ∧ ((k = 0 ∨ k = 4) → a.kind = 1) ∧ (k = 0 → a.op = 0 ∨ a.op = 2)) → ((p.ls k).take (j + 1)).all (okD k) = true) := fun h => by
            replace h : okD k a = true := decide_eq_true h
            rw [List.take_add_one, ha, List.all_append, hall.out]; simp [h]
          obtain ⟨b', o', t, hA', hSb, hC, hLa⟩ := hA j a ha
          obtain ⟨At, ct, rfl, _, _⟩ := hLa.form_
          subst hA'
          obtain ⟨e0, e1, e2, e3, e4⟩ := hC
          obtain ⟨wA, hwA⟩ : ∃ wA, wA = wr.alloc (.cells (rowD a (.slice At a.args.length ct)) 50) := ⟨_, rfl⟩
          have KA : Blk wA wr.heap.size 50 (rowD a (.slice At a.args.length ct)) := by rw [hwA]; exact Blk.new _ _ _
          have hbr : Below wr.heap.size wr wA := by rw [hwA]; exact (Below.refl _ _).alloc (Nat.le_refl _) _
          have CC := Lib.hid (refCheckD_any a _ S wA (hLa.stay (fun _ h => h) (StayS.below' hbr)) hs1 hs2)
          have HW : Hid (∀ wx, Below wA.heap.size wA wx → wx.cell? ⟨wr.heap.size, 0, none⟩ = some (.int .i64 a.kind) ∧ wx.cell? ⟨wr.heap.size, 2, none⟩ = some (.int .i64 a.op) ∧ Below w2.heap.size w2 wx ∧ Below w0.heap.size w0 wx) := fun wx hbx => by
            have KX := KA.below hbx KA.lt
            have hx := hbj.out.trans ((hbr.trans (hbx.mono hbr.size)).mono hbj.out.size)
            exact ⟨KX.cell 0, KX.cell 2, hx, (HW2.out wx hx).2.2⟩
          have q0 := KA.cell 0
          have q1 := KA.cell 1
          have q2 := KA.cell 2
          have q3 := KA.cell 3
          have q4 := KA.cell 4
          unfold rowD at q0 q1 q2 q3 q4 hwA CC
          simp at q0 q1 q2 q3 q4
          clear KA hbr hLa ha hm hs1 hs2 hall HSM hSb hA hbj HBr
          go_upto_region 11 with fail
          rw [← hwA]
          clear e0 e1 e2 e3 e4 hc hwA
          go_wp2_with fail
          refine CC.out.mono ?_
          rintro e w3 ⟨rfl, hb3⟩
          obtain ⟨u0, u2, hx2, hx0⟩ := HW.out w3 hb3
          have HX2 := Lib.hid hx2
          have HX0 := Lib.hid hx0
          clear hb3 hx2 hx0 CC HW q0 q1 q2 q3 q4
          generalize checkN a = n at *
          generalize a.kind = K at *
          generalize a.op = o at *
          rcases ne_cs n 0 with ⟨h1, t1, s1⟩ | ⟨h1, t1, s1⟩
          · rcases ne_cs (k : Int) 0 with ⟨h2, t2, s2⟩ | ⟨h2, t2, s2⟩
            · rcases ne_cs K 1 with ⟨h4, t4, s4⟩ | ⟨h4, t4, s4⟩
              · rcases ne_cs o 0 with ⟨h5, t5, s5⟩ | ⟨h5, t5, s5⟩
                · have HV := Lib.hid (HD2.out (by omega))
                  clear HD1 HD2
                  try clear h1
                  try clear h2
                  try clear h3
                  try clear h4
                  try clear h5
                  try clear h6
                  go_wp2_with fail
                  go_roundw
                  case rel => exact ⟨j + 1, by omega, by go_num, HV, HX2⟩
                  case measure => simp [intOf]; omega
                · rcases ne_cs o 2 with ⟨h6, t6, s6⟩ | ⟨h6, t6, s6⟩
                  · have HV := Lib.hid (HD2.out (by omega))
                    clear HD1 HD2
                    try clear h1
                    try clear h2
                    try clear h3
                    try clear h4
                    try clear h5
                    try clear h6
                    go_wp2_with fail
                    go_roundw
                    case rel => exact ⟨j + 1, by omega, by go_num, HV, HX2⟩
                    case measure => simp [intOf]; omega
                  · have HV : Hid (y = false) := HD1.out (by omega)
                    clear HD1 HD2
                    try clear h1
                    try clear h2
                    try clear h3
                    try clear h4
                    try clear h5
                    try clear h6
                    go_wp2_with fail
                    go_ret
                    exact ⟨ret_bool (by rw [HV.out]), HX0.out⟩
              · have HV : Hid (y = false) := HD1.out (by omega)
                clear HD1 HD2
                try clear h1
                try clear h2
                try clear h3
                try clear h4
                try clear h5
                try clear h6
                go_wp2_with fail
                go_ret
                exact ⟨ret_bool (by rw [HV.out]), HX0.out⟩
            · rcases ne_cs (k : Int) 4 with ⟨h3, t3, s3⟩ | ⟨h3, t3, s3⟩
              · rcases ne_cs K 1 with ⟨h4, t4, s4⟩ | ⟨h4, t4, s4⟩
                · have HV := Lib.hid (HD2.out (by omega))
                  clear HD1 HD2
                  try clear h1
                  try clear h2
                  try clear h3
                  try clear h4
                  try clear h5
                  try clear h6
                  go_wp2_with fail
                  go_roundw
                  case rel => exact ⟨j + 1, by omega, by go_num, HV, HX2⟩
                  case measure => simp [intOf]; omega
                · have HV : Hid (y = false) := HD1.out (by omega)
                  clear HD1 HD2
                  try clear h1
                  try clear h2
                  try clear h3
                  try clear h4
                  try clear h5
                  try clear h6
                  go_wp2_with fail
                  go_ret
                  exact ⟨ret_bool (by rw [HV.out]), HX0.out⟩
              · have HV := Lib.hid (HD2.out (by omega))
                clear HD1 HD2
                try clear h1
                try clear h2
                try clear h3
                try clear h4
                try clear h5
                try clear h6
                go_wp2_with fail
                go_roundw
                case rel => exact ⟨j + 1, by omega, by go_num, HV, HX2⟩
                case measure => simp [intOf]; omega
          · have HV : Hid (y = false) := HD1.out (by omega)
            clear HD1 HD2
            try clear h1
            try clear h2
            try clear h3
            try clear h4
            try clear h5
            try clear h6
            go_wp2_with fail
            go_ret
            exact ⟨ret_bool (by rw [HV.out]), HX0.out⟩
        · have HV : Hid (∀ i, i < k + 1 → okL p i = true) := fun i hi => by
            rcases Nat.lt_or_ge i k with h | h
            · exact hok.out i h
            · obtain rfl : i = k := by omega
              have := hall.out
              rw [List.take_of_length_le (by omega)] at this
              exact HY1.out this
          clear hall hA hok
          go_wp2_with fail
          go_roundw
          case rel => exact ⟨k + 1, by omega, by go_num, HV, hbj⟩
          case measure => simp [intOf]; omega
    · obtain rfl : k = 7 := by omega
      have HV : Hid (y = true) := HYes.out hok.out
      have hBr := (HW2.out wr hb.out).2.2
      have HBr := Lib.hid hBr
      clear hlt hBr
      go_wp2_with fail
      go_ret
      exact ⟨ret_bool (by rw [HV.out]), HBr.out⟩
end Go.Proofs.YtpmfmkpfjomgnaaGreatDoor

/- The document's own check of a package. -/
namespace Go.Proofs.YtpmfmkpfjomgnaaGreatDoor
set_option linter.unusedSimpArgs false
set_option linter.unusedVariables false
open Go.RowKit

def vendorR (s : ByteArray) : Bool := shownR s && decide (s.size ≤ 60)
def headR (p : Pkg) : Int := if nameB p.name.data.toList = false then 60 else if evrB p.evr.data.toList = false then 61 else if archR p.arch = false then 62 else if vendorR p.vendor = false then 63 else 0
def chkR (p : Pkg) : Int := if headR p ≠ 0 then headR p else if depsB p = false then 64 else if filesBad p.files = true then 65 else 0
structure RefSmall (p : Pkg) : Prop where
  name : p.name.size ≤ maxLen
  evr : p.evr.size ≤ maxLen
  arch : p.arch.size ≤ maxLen
  vendor : p.vendor.size ≤ maxLen
  files : ∀ s ∈ p.files, s.size ≤ maxLen
  deps : ∀ i, i < 7 → ∀ d ∈ p.ls i, small d ∧ nodes d ≤ 4194304
set_option maxHeartbeats 8000000 in
set_option maxRecDepth 100000 in
theorem refCheckP_any (p : Pkg) (ss : Nat → Value) (fs : Value) (S T : Nat → Prop) (w0 : World) (hP : PkgAt w0 S T p ss fs) (hsm : RefSmall p) :
    Calls Tryz.prog 49 #[.agg (rowP p ss fs)] w0 fun e w' => e = .returned (.int .i64 (chkR p)) ∧ Below w0.heap.size w0 w' := by
  obtain ⟨y, hy⟩ : ∃ y, y = chkR p := ⟨_, rfl⟩
  rw [← hy]
  have HY := Lib.hid hy
  clear hy
  obtain ⟨w1, hw1⟩ : ∃ w1, w1 = w0.alloc (.cells (rowP p ss fs) 44) := ⟨_, rfl⟩
  have hb0 : Below w0.heap.size w0 w1 := by rw [hw1]; exact (Below.refl _ _).alloc (Nat.le_refl _) _
  have K0 : Blk w1 w0.heap.size 44 (rowP p ss fs) := by rw [hw1]; exact Blk.new _ _ _
  have CN := Lib.hid (refNameD_any p.name hsm.name w1)
  have CE := Lib.hid (refParse_any p.evr hsm.evr w1)
  have HF : Hid (∀ wx, Below w1.heap.size w1 wx → Blk wx w0.heap.size 44 (rowP p ss fs) ∧ PkgAt wx S T p ss fs ∧ Below w0.heap.size w0 wx) := fun wx hb => by
    have h1 := hb0.trans (hb.mono hb0.size)
    exact ⟨K0.below hb K0.lt, hP.below h1, h1⟩
  have HSM := Lib.hid hsm
  unfold PPost at CE
  obtain ⟨ea, eb, ec, hev⟩ := evrV_agg (parse p.evr.data.toList)
  rw [hev] at CE
  have hee := errV_ok p.evr.data.toList
  obtain ⟨n, hn⟩ : ∃ n, n = errV (parse p.evr.data.toList) := ⟨_, rfl⟩
  rw [← hn] at CE hee
  have HEE := Lib.hid hee
  obtain ⟨A, c, rfl, hl1, hl2, hl3, hA⟩ := hP.files
  have k0 := K0.cell 0
  have k1 := K0.cell 1
  unfold rowP at k0 k1
  simp at k0 k1
  have HB0 := Lib.hid hb0
  clear hb0 K0 hP hsm hev hee hn hl1 hl2 hl3 hA
  unfold rowP at hw1 ⊢
  cases hname : nameB p.name.data.toList with
  | false =>
    have HV : Hid (y = 60) := by show y = _; rw [HY.out]; unfold chkR headR; simp [hname]
    rw [hname] at CN
    clear hname HY CE HEE HF HSM k1
    go_enter Tryz.func49, Tryz.ntmps49
    go_upto_region 1 with fail
    rw [← hw1]
    clear hw1
    go_wp2_with fail
    refine CN.out.mono ?_
    rintro e w2 ⟨rfl, rfl⟩
    go_wp2_with fail
    go_ret
    exact ⟨by rw [HV.out]; rfl, HB0.out⟩
  | true =>
  rw [hname] at CN
  have HN := Lib.hid hname
  clear hname
  go_enter Tryz.func49, Tryz.ntmps49
  go_upto_region 1 with fail
  rw [← hw1]
  clear hw1
  go_wp2_with fail
  refine CN.out.mono ?_
  rintro e w1x ⟨rfl, rfl⟩
  clear CN HB0
  go_wp2_with fail
  refine CE.out.mono ?_
  rintro e w2 ⟨rfl, hb2⟩
  clear CE k0 k1
  have hb3 : Below w1.heap.size w1 (w2.alloc (.cells #[.string ea, .string eb, .string ec] 143)) := hb2.alloc hb2.size _
  obtain ⟨w3, hw3⟩ : ∃ w3, w3 = w2.alloc (.cells #[.string ea, .string eb, .string ec] 143) := ⟨_, rfl⟩
  rw [← hw3] at hb3
  obtain ⟨K3, hP3, hB3⟩ := HF.out _ hb3
  have HB3 := Lib.hid hb3
  have HB3w := Lib.hid hB3
  clear hb2 hb3 hB3
  go_upto_region 5 with fail
  rw [← hw3]
  clear hw3
  cases hevr : evrB p.evr.data.toList with
  | false =>
    have hne : (n == 0) = false := by rw [HEE.out, hevr]
    have hne' : (n != 0) = true := by simpa using hne
    have HV : Hid (y = 61) := by show y = _; rw [HY.out]; unfold chkR headR; simp [HN.out, hevr]
    clear hevr K3 hP3
    go_wp2_with fail
    go_ret
    exact ⟨by rw [HV.out]; rfl, HB3w.out⟩
  | true =>
  have hne : (n == 0) = true := by rw [HEE.out, hevr]
  have hne' : (n != 0) = false := by simpa using hne
  have k2 := K3.cell 2
  have k3 := K3.cell 3
  unfold rowP at k2 k3
  simp at k2 k3
  have CA := Lib.hid (refArch_any p.arch HSM.out.arch w3)
  have CV := Lib.hid (refShown_any p.vendor HSM.out.vendor w3)
  have HE := Lib.hid hevr
  clear hevr
  cases harch : archR p.arch with
  | false =>
    have HV : Hid (y = 62) := by show y = _; rw [HY.out]; unfold chkR headR; simp [HN.out, HE.out, harch]
    rw [harch] at CA
    clear harch K3 hP3 CV
    go_wp2_with fail
    refine CA.out.mono ?_
    rintro e w4 ⟨rfl, rfl⟩
    go_wp2_with fail
    go_ret
    exact ⟨by rw [HV.out]; rfl, HB3w.out⟩
  | true =>
  rw [harch] at CA
  have HA := Lib.hid harch
  clear harch
  have hvs := HSM.out.vendor
  unfold maxLen at hvs
  by_cases hven : vendorR p.vendor = false
  · have HV : Hid (y = 63) := by show y = _; rw [HY.out]; unfold chkR headR; simp [HN.out, HE.out, HA.out, hven]
    have hcs : shownR p.vendor = false ∨ (shownR p.vendor = true ∧ 60 < p.vendor.size) := by
      unfold vendorR at hven
      cases hsh : shownR p.vendor with
      | false => exact .inl rfl
      | true => rw [hsh] at hven; exact .inr ⟨rfl, by simpa using hven⟩
    clear hven K3 hP3
    rcases hcs with h1 | ⟨h1, h2⟩
    · rw [h1] at CV
      clear h1
      go_wp2_with fail
      refine CA.out.mono ?_
      rintro e w4 ⟨rfl, rfl⟩
      go_wp2_with fail
      refine CV.out.mono ?_
      rintro e w4 ⟨rfl, rfl⟩
      go_wp2_with fail
      go_ret
      exact ⟨by rw [HV.out]; rfl, HB3w.out⟩
    · have t60 : (60 : Int) < (p.vendor.size : Int) := by omega
      rw [h1] at CV
      clear h1
      go_wp2_with fail
      refine CA.out.mono ?_
      rintro e w4 ⟨rfl, rfl⟩
      go_wp2_with fail
      refine CV.out.mono ?_
      rintro e w4 ⟨rfl, rfl⟩
      go_wp2_with fail
      go_ret
      exact ⟨by rw [HV.out]; rfl, HB3w.out⟩
  have hven : vendorR p.vendor = true := by simpa using hven
  have h1 : shownR p.vendor = true := by unfold vendorR at hven; simp at hven; exact hven.1
  have h2 : p.vendor.size ≤ 60 := by unfold vendorR at hven; simp at hven; exact hven.2
  have t60 : ¬ (60 : Int) < (p.vendor.size : Int) := by omega
  rw [h1] at CV
  have H0 : Hid (headR p = 0) := by
    show headR p = 0
    unfold headR
    simp [HN.out, HE.out, HA.out, hven]
  have CD := Lib.hid (refDeps_any p ss (.slice A p.files.length c) S T w3 hP3 HSM.out.deps)
  have q4 := K3.cell 4
  have q5 := K3.cell 5
  have q6 := K3.cell 6
  have q7 := K3.cell 7
  have q8 := K3.cell 8
  have q9 := K3.cell 9
  have q10 := K3.cell 10
  have q11 := K3.cell 11
  have q0 := K3.cell 0
  have q1 := K3.cell 1
  unfold rowP at CD q0 q1 q4 q5 q6 q7 q8 q9 q10 q11
  simp at q0 q1 q4 q5 q6 q7 q8 q9 q10 q11
  have HSS : Hid (∀ i, i < 7 → ∃ B m, ss i = .slice B (p.ls i).length m) := fun i hi => by
    obtain ⟨B, m, h, _⟩ := hP3.lists i hi
    exact ⟨B, m, h⟩
  clear h1 h2 hven K3 hP3
  obtain ⟨B0, m0, s0⟩ := HSS.out 0 (by omega)
  obtain ⟨B1, m1, s1⟩ := HSS.out 1 (by omega)
  obtain ⟨B2, m2, s2⟩ := HSS.out 2 (by omega)
  obtain ⟨B3, m3, s3⟩ := HSS.out 3 (by omega)
  obtain ⟨B4, m4, s4⟩ := HSS.out 4 (by omega)
  obtain ⟨B5, m5, s5⟩ := HSS.out 5 (by omega)
  obtain ⟨B6, m6, s6⟩ := HSS.out 6 (by omega)
  rw [s0, s1, s2, s3, s4, s5, s6] at CD
  rw [s0] at q4
  rw [s1] at q5
  rw [s2] at q6
  rw [s3] at q7
  rw [s4] at q8
  rw [s5] at q9
  rw [s6] at q10
  clear s0 s1 s2 s3 s4 s5 s6 HSS
  go_wp2_with fail
  refine CA.out.mono ?_
  rintro e w4 ⟨rfl, rfl⟩
  go_wp2_with fail
  refine CV.out.mono ?_
  rintro e w4 ⟨rfl, rfl⟩
  clear CA CV
  go_wp2_with fail
  refine CD.out.mono ?_
  rintro e w7 ⟨rfl, hb7⟩
  have HB7 : Hid (Below w1.heap.size w1 w7) := HB3.out.trans (hb7.mono HB3.out.size)
  clear hb7 CD HB3 HB3w q0 q1 k2 k3 q4 q5 q6 q7 q8 q9 q10 q11
  obtain ⟨K7, hP7, hB7⟩ := HF.out _ HB7.out
  have HB7w := Lib.hid hB7
  cases hd : depsB p with
  | false =>
    have HV : Hid (y = 64) := by show y = _; rw [HY.out]; unfold chkR; simp [H0.out, hd]
    clear hd K7 hP7 hB7
    go_wp2_with fail
    go_ret
    exact ⟨by rw [HV.out]; rfl, HB7w.out⟩
  | true =>
  have r11 := K7.cell 11
  unfold rowP at r11
  simp at r11
  obtain ⟨Af, cf, hfe, hf1, hf2, hf3, hfA⟩ := hP7.files
  injection hfe with e1 e2 e3
  subst e1; subst e3
  have CF := Lib.hid (refFiles_any p.files A c T w7 hfA hf1 hf2 HSM.out.files)
  have HV : Hid (y = if filesBad p.files = true then 65 else 0) := by show y = _; rw [HY.out]; unfold chkR; simp [H0.out, hd]
  clear hd K7 hP7 hB7 hfA e2 hf1 hf2 hf3
  generalize filesBad p.files = bad at *
  go_wp2_with fail
  refine CF.out.mono ?_
  rintro e w8 ⟨rfl, rfl⟩
  cases bad <;>
  · go_wp2_with fail
    go_ret
    exact ⟨by rw [HV.out]; rfl, HB7w.out⟩
end Go.Proofs.YtpmfmkpfjomgnaaGreatDoor

/- Copies in memory of their own: strings.Clone, listApart, depApart. -/
namespace Go.Proofs.YtpmfmkpfjomgnaaGreatDoor
set_option linter.unusedSimpArgs false
set_option linter.unusedVariables false
open Go.RowKit

set_option maxRecDepth 100000 in
theorem cloneL_any (s : ByteArray) (hs : s.size ≤ 281474976710656) (w : World) : Calls Tryz.prog 47 #[.string s] w fun e w' => e = .returned (.string s) ∧ Below w.heap.size w w' := by
  have C := Lib.hid (fun w => Tryz.stringslite_Clone s w hs)
  clear hs
  go_enter Tryz.func47, Tryz.ntmps47
  go_wp2_with fail
  refine (C.out _).mono ?_
  rintro e w1 ⟨rfl, hb1⟩
  go_wp2_with fail
  go_ret
  exact ⟨rfl, hb1⟩
theorem nil_none (t e : TypeId) (h : Tryz.prog.underlying t = some (.slice e)) (n c : Nat) (w : World) : (binOp .eql t (.slice none n c) (.slice none 0 0)).run Tryz.prog w = .ok (.bool true) w := Lib.run_eql_slice_nil w _ _ none n c 0 0 h
theorem nil_some (t e : TypeId) (h : Tryz.prog.underlying t = some (.slice e)) (a : Addr) (n c : Nat) (w : World) : (binOp .eql t (.slice (some a) n c) (.slice none 0 0)).run Tryz.prog w = .ok (.bool false) w := Lib.run_eql_slice_nil w _ _ (some a) n c 0 0 h
/-- A new slice's cells. -/
theorem make_any (t e : TypeId) (sz bytes : Nat) (h1 : Tryz.prog.underlying t = some (.slice e)) (h2 : ∃ i z, Tryz.prog.info? e = some i ∧ i.zero = some z ∧ i.size = sz ∧ i.bytes = bytes) (n : Nat) (hn : bytes * n ≤ 281474976710656) (hm : n ≤ maxLen) :
    ∃ cs : Array Value, cs.size = n * sz ∧ ∀ w : World, (Instr.makeSlice t (.int .i64 (n : Int)) (.int .i64 (n : Int))).run Tryz.prog w = .ok (.slice (some ⟨w.heap.size, 0, none⟩) n n) (w.alloc (.cells cs e)) := by
  obtain ⟨i, z, hi, hz, hs, hb⟩ := h2
  refine ⟨madeCells z.cells (n * i.size), by rw [← hs]; exact size_madeCells _ _, fun w => ?_⟩
  have hm' : (n : Int) ≤ 9223372036854775807 := by unfold maxLen at hm; omega
  have hb' : (i.bytes : Int) * (n : Int) ≤ 281474976710656 := by
    have h : ((bytes * n : Nat) : Int) ≤ 281474976710656 := by omega
    rw [hb]
    rwa [Int.natCast_mul] at h
  have := _root_.Go.run_make (w := w) t e i z h1 hi hz .i64 .i64 (n : Int) (n : Int) (by omega) (Int.le_refl _) hb' hm'
  rw [Int.toNat_natCast] at this
  exact this
theorem info_str : ∃ i z, Tryz.prog.info? 9 = some i ∧ i.zero = some z ∧ i.size = 1 ∧ i.bytes = 16 := by
  have h : (Tryz.prog.info? 9).map (fun i => (i.zero.isSome, i.size, i.bytes)) = some (true, 1, 16) := by kernel_rfl
  obtain ⟨i, hi, h2⟩ := Option.map_eq_some_iff.1 h
  simp only [Prod.mk.injEq] at h2
  obtain ⟨z, hz⟩ := Option.isSome_iff_exists.1 h2.1
  exact ⟨i, z, hi, hz, h2.2.1, h2.2.2⟩

/-- S's blocks are rows of texts, none of them marked. -/
def CleanT (w : World) (T : Nat → Prop) : Prop := ∀ b, T b → ∃ cs, Blk w b 9 cs
theorem CleanT.stay {w w' : World} {T : Nat → Prop} (h : CleanT w T) (hw : StayS T w w') : CleanT w' T := fun b hb => by
  obtain ⟨cs, hc⟩ := h b hb
  exact ⟨cs, (hw b hb hc.lt).trans hc⟩
def AllStr (fl : List ByteArray) : Prop := ∀ s ∈ fl, s.size ≤ 281474976710656
set_option maxHeartbeats 2000000 in
set_option maxRecDepth 100000 in
theorem strApart_any (fl : List ByteArray) (s : Value) (T : Nat → Prop) (w0 : World) (hF : FilesAt w0 T fl s) (hs : AllStr fl) (hn : fl.length ≤ 1073741824) :
    Calls Tryz.prog 87 #[s, .func (.func 47) #[] #[]] w0 fun e w' => Below w0.heap.size w0 w' ∧ ∃ A c T', e = .returned (.slice A fl.length c) ∧ FilesAt w' T' fl (.slice A fl.length c) ∧ CleanT w' T' ∧ ∀ b, T' b → w0.heap.size ≤ b := by
  obtain ⟨A, c, rfl, h1, h2, h3, hA⟩ := hF
  unfold maxLen at h2
  cases A with
  | none =>
    have h30 := h3 rfl
    obtain rfl : fl = [] := List.eq_nil_of_length_eq_zero (by omega)
    obtain rfl := h30
    have HP : Hid (∃ A c T', Ending.returned (.slice none 0 0) = .returned (.slice A ([] : List ByteArray).length c) ∧ FilesAt w0 T' [] (.slice A ([] : List ByteArray).length c) ∧ CleanT w0 T' ∧ ∀ b, T' b → w0.heap.size ≤ b) :=
      ⟨none, 0, fun _ => False, rfl, ⟨none, 0, rfl, Nat.le_refl _, by simp [maxLen], fun _ => rfl, fun k s hk => by simp at hk⟩, (fun b hb => hb.elim), (fun b hb => hb.elim)⟩
    clear h1 h2 h3 hA hs hn
    have qn := nil_none 42 9 Tryz.underlying42 0 0
    go_enter Tryz.func87, Tryz.ntmps87
    go_wp2_with fail
    go_ret
    exact ⟨Below.refl _ _, HP.out⟩
  | some ad =>
    obtain ⟨cs, hcs, hmk⟩ := make_any 42 9 1 16 Tryz.underlying42 info_str fl.length (by omega) (by unfold maxLen; omega)
    have hmk0 := hmk w0
    have ef := enters_of Tryz.func47 (by kernel_rfl) rfl
    have HCS : Hid (cs.size = fl.length) := by show _ = _; omega
    have HA := Lib.hid hA
    have HS := Lib.hid hs
    have hb0 : Below w0.heap.size w0 (w0.alloc (.cells cs 9)) := (Below.refl _ _).alloc (Nat.le_refl _) _
    have K0 : Blk (w0.alloc (.cells cs 9)) w0.heap.size 9 cs := Blk.new _ _ _
    have HI : Hid (Below w0.heap.size w0 (w0.alloc (.cells cs 9)) ∧ ∃ cs', cs'.size = fl.length ∧ Blk (w0.alloc (.cells cs 9)) w0.heap.size 9 cs' ∧ ∀ j, j < 0 → ∀ s, fl[j]? = some s → cs'[j]? = some (.string s)) := ⟨hb0, cs, HCS.out, K0, fun j hj => by omega⟩
    clear hcs hmk hA hs h3 hb0 K0
    have qn := nil_some 42 9 Tryz.underlying42 ad fl.length c w0
    go_enter Tryz.func87, Tryz.ntmps87
    go_wp2_with fail
    clear hmk0
    generalize w0.alloc (.cells cs 9) = w1 at *
    go_loopw [15] (fun v wx => ∃ k : Nat, k ≤ fl.length ∧ v = .int .i64 (k : Int) ∧ Hid (Below w0.heap.size w0 wx ∧ ∃ cs' : Array Value, cs'.size = fl.length ∧ Blk wx w0.heap.size 9 cs' ∧ ∀ j, j < k → ∀ s, fl[j]? = some s → cs'[j]? = some (.string s))) (fun v _ => fl.length - (intOf v).toNat)
    case atStart => exact ⟨0, Nat.zero_le _, rfl, HI⟩
    case round =>
      clear HI
      obtain ⟨k, hk, rfl, HR⟩ := hrel
      obtain ⟨hb, cs', hsz, K, hvals⟩ := HR.out
      by_cases hlt : k < fl.length
      · obtain ⟨b, o, e, hTb, hc⟩ := HA.out k fl[k] (List.getElem?_eq_getElem hlt)
        injection e with e
        subst e
        have hc2 := (World.cell?_of_block (hb.block b (cell_lt hc))).trans hc
        have C := Lib.hid (cloneL_any fl[k] (HS.out _ (List.getElem_mem hlt)))
        have hz := hb.size
        have HB := Lib.hid hb
        have HK := Lib.hid K
        have HV := Lib.hid hvals
        have HSZ := Lib.hid hsz
        clear hc hb K hvals hsz HR
        go_wp2_with fail
        refine (C.out _).mono ?_
        rintro e w2 ⟨rfl, hb2⟩
        have K2 := HK.out.below hb2 HK.out.lt
        have k2 := K2.cell k
        have f2 := K2.free k
        have hkc : k < cs'.size := by have := HSZ.out; omega
        obtain ⟨old, hold⟩ : ∃ old, cs'[k]? = some old := ⟨_, Array.getElem?_eq_getElem hkc⟩
        rw [hold] at k2
        have hN : Below w0.heap.size w0 (w2.setCell ⟨w0.heap.size, k, none⟩ (.string fl[k])) := (HB.out.trans (hb2.mono hz)).setCell (Nat.le_refl _) _
        have KN := K2.set_ k (.string fl[k])
        have HN : Hid (Below w0.heap.size w0 (w2.setCell ⟨w0.heap.size, k, none⟩ (.string fl[k])) ∧ ∃ cs2 : Array Value, cs2.size = fl.length ∧ Blk (w2.setCell ⟨w0.heap.size, k, none⟩ (.string fl[k])) w0.heap.size 9 cs2 ∧ ∀ j, j < k + 1 → ∀ s, fl[j]? = some s → cs2[j]? = some (.string s)) := by
          refine ⟨hN, _, by rw [Array.size_setIfInBounds]; exact HSZ.out, KN, fun j hj s hs => ?_⟩
          by_cases hjk : j = k
          · subst hjk
            rw [List.getElem?_eq_getElem hlt] at hs
            injection hs with hs
            subst hs
            simp [hkc]
          · rw [Array.getElem?_setIfInBounds_ne (Ne.symm hjk)]
            exact HV.out j (by omega) s hs
        clear hb2 K2 hN KN C HB HK HV HSZ hkc hold
        go_wp2_with fail
        go_roundw
        case rel => exact ⟨k + 1, by omega, by go_num, HN⟩
        case measure => simp [intOf]; omega
      · have HP : Hid (∃ A c T', Ending.returned (.slice (some ⟨w0.heap.size, 0, none⟩) fl.length fl.length) = .returned (.slice A fl.length c) ∧ FilesAt wr T' fl (.slice A fl.length c) ∧ CleanT wr T' ∧ ∀ b, T' b → w0.heap.size ≤ b) :=
          ⟨_, _, fun b => b = w0.heap.size, rfl, ⟨_, _, rfl, Nat.le_refl _, by unfold maxLen; omega, (fun h => by cases h), fun j s hj => ⟨_, 0, rfl, rfl, by
            rw [Nat.zero_add, K.cell j]
            exact hvals j (by have := (List.getElem?_eq_some_iff.1 hj).1; omega) s hj⟩⟩, (fun b hb => by subst hb; exact ⟨_, K⟩), (fun b hb => by subst hb; exact Nat.le_refl _)⟩
        have HB := Lib.hid hb
        clear hb K hvals HR hsz
        go_wp2_with fail
        go_ret
        exact ⟨HB.out, HP.out⟩

theorem info_dep3 : ∃ i z, Tryz.prog.info? 50 = some i ∧ i.zero = some z ∧ i.size = 5 ∧ i.bytes = 72 := by
  have h : (Tryz.prog.info? 50).map (fun i => (i.zero.isSome, i.size, i.bytes)) = some (true, 5, 72) := by kernel_rfl
  obtain ⟨i, hi, h2⟩ := Option.map_eq_some_iff.1 h
  simp only [Prod.mk.injEq] at h2
  obtain ⟨z, hz⟩ := Option.isSome_iff_exists.1 h2.1
  exact ⟨i, z, hi, hz, h2.2.1, h2.2.2⟩
/-- A copy of d is answered, in new blocks of its own. -/
def ApartOk (d : Dep) : Prop := ∀ (s : Value) (S : Nat → Prop) (w : World), Lay w S d s → small d → nodes d ≤ 4194304 → Calls Tryz.prog 86 #[.agg (rowD d s)] w fun e w' => Below w.heap.size w w' ∧ ∃ A c S', e = .returned (.agg (rowD d (.slice A d.args.length c))) ∧ Lay w' S' d (.slice A d.args.length c) ∧ CleanS w' S' ∧ ∀ b, S' b → w.heap.size ≤ b
/-- While a list is copied: block g holds the copies of its first things. -/
structure CSt (w0 wx : World) (g : Nat) (n : Nat) (ds : List Dep) (r : Rows5) (S : Nat → Prop) : Prop where
  below : Below w0.heap.size w0 wx
  blk : ∃ cs : Array Value, cs.size = n * 5 ∧ Blk wx g 50 cs ∧ ∀ j, j < r.length * 5 → cs[j]? = (cells5 r)[j]?
  names : r.map Prod.fst = ds.take r.length
  lays : ∀ x ∈ r, Lay wx S x.1 x.2
  clean : CleanS wx S
  far : ∀ b, S b → w0.heap.size ≤ b ∧ b ≠ g
theorem five_cells {cs : Array Value} {k : Nat} {v0 v1 v2 v3 v4 : Value} {r : Rows5} {x : Dep × Value} (hk : r.length = k) (hsz : k * 5 + 5 ≤ cs.size) (h : ∀ j, j < r.length * 5 → cs[j]? = (cells5 r)[j]?) (hv : [v0, v1, v2, v3, v4] = cells5 [x]) :
    ∀ j, j < (r ++ [x]).length * 5 → (((((cs.setIfInBounds (k * 5) v0).setIfInBounds (k * 5 + 1) v1).setIfInBounds (k * 5 + 2) v2).setIfInBounds (k * 5 + 3) v3).setIfInBounds (k * 5 + 4) v4)[j]? = (cells5 (r ++ [x]))[j]? := by
  intro j hj
  subst hk
  rw [cells5_append, ← hv]
  simp only [List.length_append, List.length_cons, List.length_nil] at hj
  by_cases hlt : j < r.length * 5
  · rw [List.getElem?_append_left (by rw [cells5_len]; exact hlt), ← h j hlt]
    rw [Array.getElem?_setIfInBounds_ne (by omega), Array.getElem?_setIfInBounds_ne (by omega), Array.getElem?_setIfInBounds_ne (by omega), Array.getElem?_setIfInBounds_ne (by omega), Array.getElem?_setIfInBounds_ne (by omega)]
  · rw [List.getElem?_append_right (by rw [cells5_len]; omega), cells5_len]
    have : j = r.length * 5 ∨ j = r.length * 5 + 1 ∨ j = r.length * 5 + 2 ∨ j = r.length * 5 + 3 ∨ j = r.length * 5 + 4 := by omega
    rcases this with rfl | rfl | rfl | rfl | rfl
    · rw [Array.getElem?_setIfInBounds_ne (by omega), Array.getElem?_setIfInBounds_ne (by omega), Array.getElem?_setIfInBounds_ne (by omega), Array.getElem?_setIfInBounds_ne (by omega), Array.getElem?_setIfInBounds_self]
      rw [if_pos (by first | omega | (simp; omega)), Nat.sub_self]; rfl
    · rw [Array.getElem?_setIfInBounds_ne (by omega), Array.getElem?_setIfInBounds_ne (by omega), Array.getElem?_setIfInBounds_ne (by omega), Array.getElem?_setIfInBounds_self]
      rw [if_pos (by first | omega | (simp; omega)), Nat.add_sub_cancel_left]; rfl
    · rw [Array.getElem?_setIfInBounds_ne (by omega), Array.getElem?_setIfInBounds_ne (by omega), Array.getElem?_setIfInBounds_self]
      rw [if_pos (by first | omega | (simp; omega)), Nat.add_sub_cancel_left]; rfl
    · rw [Array.getElem?_setIfInBounds_ne (by omega), Array.getElem?_setIfInBounds_self]
      rw [if_pos (by first | omega | (simp; omega)), Nat.add_sub_cancel_left]; rfl
    · rw [Array.getElem?_setIfInBounds_self]
      rw [if_pos (by first | omega | (simp; omega)), Nat.add_sub_cancel_left]; rfl
section
variable {w0 wx w' : World} {g n : Nat} {ds : List Dep} {r : Rows5} {S : Nat → Prop}
theorem CSt.below_ (h : CSt w0 wx g n ds r S) (hb : Below wx.heap.size wx w') : CSt w0 w' g n ds r S := by
  obtain ⟨cs, h1, h2, h3⟩ := h.blk
  exact ⟨h.below.trans (hb.mono h.below.size), ⟨cs, h1, h2.below hb h2.lt, h3⟩, h.names, fun x hx => (h.lays x hx).stay (fun _ h => h) (StayS.below' hb), h.clean.stay (StayS.below' hb), h.far⟩
/-- The five stores of one thing more. -/
def put5 (w : World) (g k : Nat) (d : Dep) (t : Value) : World := ((((w.setCell ⟨g, k * 5, none⟩ (.int .i64 d.kind)).setCell ⟨g, k * 5 + 1, none⟩ (.string d.name)).setCell ⟨g, k * 5 + 2, none⟩ (.int .i64 d.op)).setCell ⟨g, k * 5 + 3, none⟩ (.string d.evr)).setCell ⟨g, k * 5 + 4, none⟩ t
theorem put5_turned (w : World) (g k : Nat) (d : Dep) (s : Value) : Turned [g] w (put5 w g k d s) := (((((Turned.refl _ _).setCell (.inl (by simp)) _).setCell (.inl (by simp)) _).setCell (.inl (by simp)) _).setCell (.inl (by simp)) _).setCell (.inl (by simp)) _
theorem CSt.put (h : CSt w0 wx g n ds r S) (hg : w0.heap.size ≤ g) {d : Dep} {t : Value} {S2 : Nat → Prop} (hd : ds[r.length]? = some d) (hlt : r.length < n) (hL : Lay wx S2 d t) (hC : CleanS wx S2) (hS : ∀ b, S2 b → w0.heap.size ≤ b ∧ b ≠ g) :
    CSt w0 (put5 wx g r.length d t) g n ds (r ++ [(d, t)]) (fun b => S b ∨ S2 b) := by
  obtain ⟨cs, h1, h2, h3⟩ := h.blk
  have ht := put5_turned wx g r.length d t
  have hst : ∀ (T : Nat → Prop), (∀ b, T b → w0.heap.size ≤ b ∧ b ≠ g) → StayS T wx (put5 wx g r.length d t) := fun T hT => StayS.turned ht fun b hb hm => (hT b hb).2 (by simpa using hm)
  have h1' := hst S h.far
  have h2' := hst S2 hS
  refine ⟨h.below.trans (ht.below (fun k hk => by simp at hk; omega) h.below.size), ⟨_, ?_, ((((h2.set_ _ _).set_ _ _).set_ _ _).set_ _ _).set_ _ _, five_cells rfl (by omega) h3 rfl⟩, ?_, fun x hx => ?_, fun b hb => ?_, fun b hb => ?_⟩
  · simp only [Array.size_setIfInBounds]; exact h1
  · rw [List.map_append, h.names, List.length_append]
    show _ = ds.take (r.length + 1)
    rw [List.take_add_one, hd]; rfl
  · rcases List.mem_append.1 hx with hx | hx
    · exact (h.lays x hx).stay (fun _ h => .inl h) h1'
    · simp at hx; subst hx
      exact hL.stay (fun _ h => .inr h) h2'
  · rcases hb with hb | hb
    · exact h.clean.stay h1' b hb
    · exact hC.stay h2' b hb
  · rcases hb with hb | hb
    · exact h.far b hb
    · exact hS b hb
theorem CSt.done (h : CSt w0 wx g n ds r S) (hg : w0.heap.size ≤ g) (hr : r.length = ds.length) (hn : n = ds.length) (hm : ds.length ≤ maxLen) :
    ListAt wx (fun b => S b ∨ b = g) ds (.slice (some ⟨g, 0, none⟩) ds.length ds.length) ∧ CleanS wx (fun b => S b ∨ b = g) ∧ ∀ b, S b ∨ b = g → w0.heap.size ≤ b := by
  obtain ⟨cs, h1, h2, h3⟩ := h.blk
  have hnm := h.names
  rw [hr, List.take_length] at hnm
  refine ⟨⟨_, _, rfl, Nat.le_refl _, hm, (fun h => by cases h), fun j a hj => ?_⟩, fun b hb => ?_, fun b hb => ?_⟩
  · rw [← hnm, List.getElem?_map, Option.map_eq_some_iff] at hj
    obtain ⟨x, hx, rfl⟩ := hj
    have hjl := (List.getElem?_eq_some_iff.1 hx).1
    obtain ⟨q0, q1, q2, q3, q4⟩ := cells5_at hx
    have hc : ∀ i, i < 5 → wx.cell? ⟨g, 0 + j * 5 + i, none⟩ = (cells5 r)[j * 5 + i]? := fun i hi => by
      rw [h2.cell, Nat.zero_add]
      exact h3 _ (by omega)
    exact ⟨g, 0, x.2, rfl, .inr rfl, ⟨(hc 0 (by omega)).trans q0, (hc 1 (by omega)).trans q1, (hc 2 (by omega)).trans q2, (hc 3 (by omega)).trans q3, (hc 4 (by omega)).trans q4⟩, (h.lays x (List.mem_of_getElem? hx)).stay (fun _ h => .inl h) (StayS.refl _ _)⟩
  · rcases hb with hb | rfl
    · exact h.clean b hb
    · exact ⟨cs, h2⟩
  · rcases hb with hb | rfl
    · exact (h.far b hb).1
    · exact hg
end
/-- What a copied list is. -/
def ListNew (w0 : World) (ds : List Dep) (e : Ending) (w' : World) : Prop := Below w0.heap.size w0 w' ∧ ∃ A c S', e = .returned (.slice A ds.length c) ∧ ListAt w' S' ds (.slice A ds.length c) ∧ CleanS w' S' ∧ ∀ b, S' b → w0.heap.size ≤ b
set_option maxHeartbeats 4000000 in
set_option maxRecDepth 100000 in
theorem listApart_of (ds : List Dep) (hall : ∀ d ∈ ds, ApartOk d) (s : Value) (S : Nat → Prop) (w0 : World) (hL : ListAt w0 S ds s) (hsm : ∀ d ∈ ds, small d ∧ nodes d ≤ 4194304) (hn : ds.length ≤ 4194304) :
    Calls Tryz.prog 85 #[s, .func (.func 86) #[] #[]] w0 (ListNew w0 ds) := by
  obtain ⟨A, c, rfl, h1, h2, h3, hA⟩ := hL
  unfold maxLen at h2
  cases A with
  | none =>
    have h30 := h3 rfl
    obtain rfl : ds = [] := List.eq_nil_of_length_eq_zero (by omega)
    obtain rfl := h30
    have HP : Hid (ListNew w0 [] (.returned (.slice none 0 0)) w0) :=
      ⟨Below.refl _ _, none, 0, fun _ => False, rfl, ⟨none, 0, rfl, Nat.le_refl _, by simp [maxLen], fun _ => rfl, fun k s hk => by simp at hk⟩, (fun b hb => hb.elim), (fun b hb => hb.elim)⟩
    have qn := nil_none 41 50 Tryz.underlying41 0 0
    clear h1 h2 h3 hA hsm hn hall
    go_enter Tryz.func85, Tryz.ntmps85
    go_wp2_with fail
    go_ret
    exact HP.out
  | some ad =>
    obtain ⟨cs, hcs, hmk⟩ := make_any 41 50 5 72 Tryz.underlying41 info_dep3 ds.length (by omega) (by unfold maxLen; omega)
    have hmk0 := hmk w0
    have ef := enters_of Tryz.func86 (by kernel_rfl) rfl
    have HA := Lib.hid hA
    have HAL := Lib.hid hall
    have HSM := Lib.hid hsm
    have hb0 : Below w0.heap.size w0 (w0.alloc (.cells cs 50)) := (Below.refl _ _).alloc (Nat.le_refl _) _
    obtain ⟨R, HR⟩ : ∃ R : World → Rows5 → (Nat → Prop) → Prop, Hid (∀ wx r Sr, R wx r Sr ↔ CSt w0 wx w0.heap.size ds.length ds r Sr) := ⟨fun wx r Sr => CSt w0 wx w0.heap.size ds.length ds r Sr, fun _ _ _ => Iff.rfl⟩
    have HI : Hid (R (w0.alloc (.cells cs 50)) [] (fun _ => False)) := (HR.out _ _ _).2 ⟨hb0, ⟨cs, hcs, Blk.new _ _ _, fun j hj => by simp at hj⟩, rfl, (fun x hx => by cases hx), (fun b hb => hb.elim), (fun b hb => hb.elim)⟩
    have qn := nil_some 41 50 Tryz.underlying41 ad ds.length c w0
    clear hcs hmk hA hall h3 hb0 hsm
    go_enter Tryz.func85, Tryz.ntmps85
    go_wp2_with fail
    clear hmk0
    generalize w0.alloc (.cells cs 50) = w1 at *
    go_loopw [15] (fun v wx => ∃ (k : Nat) (r : Rows5) (Sr : Nat → Prop), k ≤ ds.length ∧ v = .int .i64 (k : Int) ∧ r.length = k ∧ Hid (R wx r Sr)) (fun v _ => ds.length - (intOf v).toNat)
    case atStart => exact ⟨0, [], _, Nat.zero_le _, rfl, rfl, HI⟩
    case round =>
      clear HI
      obtain ⟨k, r, Sr, hk, rfl, hrk, HRr⟩ := hrel
      have hO := (HR.out _ _ _).1 HRr.out
      by_cases hlt : k < ds.length
      · obtain ⟨b, o, t, e, hSb, hC, hLa⟩ := HA.out k ds[k] (List.getElem?_eq_getElem hlt)
        injection e with e
        subst e
        obtain ⟨At, ct, rfl, _, _⟩ := hLa.form_
        have hC2 := hC.stay (hO.below.block b hC.lt)
        obtain ⟨c0, c1, c2, c3, c4⟩ := hC2
        have hba : Below wr.heap.size wr (wr.alloc (.cells (rowD ds[k] (.slice At ds[k].args.length ct)) 50)) := (Below.refl _ _).alloc (Nat.le_refl _) _
        have hO2 := hO.below_ hba
        have C := Lib.hid (HAL.out ds[k] (List.getElem_mem hlt) (.slice At ds[k].args.length ct) S (wr.alloc (.cells (rowD ds[k] (.slice At ds[k].args.length ct)) 50)) (hLa.stay (fun _ h => h) (StayS.below' hO2.below)) (HSM.out _ (List.getElem_mem hlt)).1 (HSM.out _ (List.getElem_mem hlt)).2)
        have HO := Lib.hid hO2
        have HLT := Lib.hid (List.getElem?_eq_getElem hlt)
        unfold rowD at C HO
        clear hC hSb hLa hO hba hO2 HRr
        go_wp2_with fail
        refine C.out.mono ?_
        rintro e w2 ⟨hb2, A2, n2, S2, rfl, hL2, hC2, hS2⟩
        have hO3 := HO.out.below_ hb2
        obtain ⟨cs2, hs2, hK2, _⟩ := hO3.blk
        have hg0 : w0.heap.size < wr.heap.size + 1 := by have := HO.out.blk; obtain ⟨q, _, hq, _⟩ := this; have := hq.lt; simpa using this
        have hN := hO3.put (Nat.le_refl _) (d := ds[k]) (by rw [hrk]; exact HLT.out) (by rw [hrk]; exact hlt) hL2 hC2 (fun b hb => by have h1 := hS2 b hb; simp at h1; omega)
        rw [hrk] at hN
        have HN : Hid (R _ _ _) := (HR.out _ _ _).2 hN
        have f0 := hK2.free (k * 5)
        have f1 := hK2.free (k * 5 + 1)
        have f2 := hK2.free (k * 5 + 2)
        have f3 := hK2.free (k * 5 + 3)
        have f4 := hK2.free (k * 5 + 4)
        obtain ⟨o0, q0⟩ : ∃ u, w2.cell? ⟨w0.heap.size, k * 5, none⟩ = some u := ⟨_, (hK2.cell _).trans (Array.getElem?_eq_getElem (by omega))⟩
        obtain ⟨o1, q1⟩ : ∃ u, w2.cell? ⟨w0.heap.size, k * 5 + 1, none⟩ = some u := ⟨_, (hK2.cell _).trans (Array.getElem?_eq_getElem (by omega))⟩
        obtain ⟨o2, q2⟩ : ∃ u, w2.cell? ⟨w0.heap.size, k * 5 + 2, none⟩ = some u := ⟨_, (hK2.cell _).trans (Array.getElem?_eq_getElem (by omega))⟩
        obtain ⟨o3, q3⟩ : ∃ u, w2.cell? ⟨w0.heap.size, k * 5 + 3, none⟩ = some u := ⟨_, (hK2.cell _).trans (Array.getElem?_eq_getElem (by omega))⟩
        obtain ⟨o4, q4⟩ : ∃ u, w2.cell? ⟨w0.heap.size, k * 5 + 4, none⟩ = some u := ⟨_, (hK2.cell _).trans (Array.getElem?_eq_getElem (by omega))⟩
        unfold put5 at HN
        clear hb2 hL2 hC2 hS2 hO3 hs2 hK2 hN HO C hg0
        go_wp2_with fail
        go_roundw
        case rel => exact ⟨k + 1, _, _, by omega, by go_num, by simp [hrk], HN⟩
        case measure => simp [intOf]; omega
      · obtain ⟨hD1, hD2, hD3⟩ := hO.done (Nat.le_refl _) (by omega) rfl (by unfold maxLen; omega)
        have HP : Hid (ListNew w0 ds (.returned (.slice (some ⟨w0.heap.size, 0, none⟩) ds.length ds.length)) wr) := ⟨hO.below, _, _, _, rfl, hD1, hD2, hD3⟩
        clear hD1 hD2 hD3 hO HRr
        go_wp2_with fail
        go_ret
        exact HP.out
end Go.Proofs.YtpmfmkpfjomgnaaGreatDoor

/- Copies in memory of their own: depApart, listApart. -/
namespace Go.Proofs.YtpmfmkpfjomgnaaGreatDoor
set_option linter.unusedSimpArgs false
set_option linter.unusedVariables false
open Go.RowKit

def zr5 : Array Value := #[.int .i64 0, .string ⟨#[]⟩, .int .i64 0, .string ⟨#[]⟩, .slice none 0 0]
/-- While a dependency's texts are copied: its box, the room for the copy; what stood ahead. -/
structure ASt (w0 : World) (d : Dep) (s : Value) (wx : World) : Prop where
  below : Below w0.heap.size w0 wx
  box : Blk wx w0.heap.size 50 (rowD d s)
  room : Blk wx (w0.heap.size + 1) 50 zr5
theorem ASt.below_ {w0 wx w' : World} {d : Dep} {s : Value} (h : ASt w0 d s wx) (hb : Below wx.heap.size wx w') : ASt w0 d s w' := ⟨h.below.trans (hb.mono h.below.size), h.box.below hb h.box.lt, h.room.below hb h.room.lt⟩
theorem ASt.set_ {w0 wx : World} {d : Dep} {s : Value} (h : ASt w0 d s wx) {i : Nat} {u : Value} (hu : (rowD d s).setIfInBounds i u = rowD d s) : ASt w0 d s (wx.setCell ⟨w0.heap.size, i, none⟩ u) :=
  ⟨h.below.setCell (Nat.le_refl _) _, by have := h.box.set_ i u; rwa [hu] at this, h.room.far (by simp) _⟩
theorem load5d {w : World} {g : Nat} {x0 x1 x2 x3 x4 : Value} (h : Blk w g 50 #[x0, x1, x2, x3, x4]) : (loadVar 50 ⟨g, 0, none⟩).run Tryz.prog w = .ok (.agg #[x0, x1, x2, x3, x4]) w := by
  have b0 := h.cell 0
  have b1 := h.cell 1
  have b2 := h.cell 2
  have b3 := h.cell 3
  have b4 := h.cell 4
  simp at b0 b1 b2 b3 b4
  clear h
  go_simp
theorem five_blk' {w : World} {g : Nat} {x0 x1 x2 x3 x4 : Value} (h : Blk w g 50 #[x0, x1, x2, x3, x4]) (d : Dep) (s : Value) : Blk (((((w.setCell ⟨g, 0, none⟩ (.int .i64 d.kind)).setCell ⟨g, 1, none⟩ (.string d.name)).setCell ⟨g, 2, none⟩ (.int .i64 d.op)).setCell ⟨g, 3, none⟩ (.string d.evr)).setCell ⟨g, 4, none⟩ s) g 50 (rowD d s) := ((((h.set_ 0 (.int .i64 d.kind)).set_ 1 (.string d.name)).set_ 2 (.int .i64 d.op)).set_ 3 (.string d.evr)).set_ 4 s
set_option maxHeartbeats 4000000 in
set_option maxRecDepth 100000 in
theorem apart_node (d : Dep) (ih : ∀ a ∈ d.args, ApartOk a) : ApartOk d := by
  intro s S w hL hsm hN
  obtain ⟨A, c, rfl, hc1, hc2, hA⟩ := hL.args_
  obtain ⟨hs1, hs2, hsa⟩ := small_parts hsm
  have hnd := nodes_parts d
  have hge := nodesA_ge d.args
  have CN := Lib.hid (cloneL_any d.name (by omega))
  have CV := Lib.hid (cloneL_any d.evr (by omega))
  have HLA : Hid (∀ wx, Below w.heap.size w wx → Calls Tryz.prog 85 #[.slice A d.args.length c, .func (.func 86) #[] #[]] wx (ListNew wx d.args)) := fun wx hb =>
    listApart_of d.args ih _ S wx ⟨A, c, rfl, hc1, hc2, (fun h => by subst h; exact hL.nil_.1), hA.stay (fun _ h => h) (StayS.below' hb)⟩ (fun a ha => ⟨hsa a ha, by have := nodesA_mem ha; omega⟩) (by omega)
  have H0 : Hid (ASt w d (.slice A d.args.length c) (((w.alloc (.cells (rowD d (.slice A d.args.length c)) 50)).alloc (.cells zr5 50)).drew)) :=
    ⟨(((Below.refl _ _).alloc (Nat.le_refl _) _).alloc (by simp) _).drew, Blk.drew ((Blk.new _ _ _).alloc _), Blk.drew (Blk.new' (by simp))⟩
  have HLn := Lib.hid (And.intro hc1 hc2)
  clear hL hc1 hc2 hA hs1 hs2 hsa hnd hge hsm hN ih
  unfold rowD zr5 at H0
  unfold rowD
  go_enter Tryz.func86, Tryz.ntmps86
  go_upto_region 1 with fail
  rename_i K hK
  refine wp_region_S (fun _ wx => ASt w d (.slice A d.args.length c) wx) (by kernel_rfl) H0.out (fun hS => ?_)
  clear H0
  refine wpAnyS_take (i := 0) (fun _ => True) (v := .pointer (some ⟨w.heap.size, 1, none⟩)) rfl (by kernel_rfl) (by kernel_rfl) (by kernel_rfl) (fun _ _ _ h => h) (fun _ _ _ _ => trivial) (fun _ _ => Iff.rfl) (by kernel_rfl) hS (fun w' hSw => ?_) (by rfl) (fun hS => ?_)
  · go_simp
  try simp only [Act.put, List.setIfInBounds_toArray, List.set_cons_zero, List.set_cons_succ]
  refine wpAnyS_take (i := 1) (fun w' => w'.cell? ⟨w.heap.size, 1, none⟩ = some (.string d.name)) (v := .string d.name) rfl (by kernel_rfl) (by kernel_rfl) (by kernel_rfl) (fun _ _ _ h => h) (fun l w hw hS => hS.box.cell 1) (fun _ _ => Iff.rfl) (by kernel_rfl) hS (fun w' hSw => ?_) (by rfl) (fun hS => ?_)
  · go_simp
  try simp only [Act.put, List.setIfInBounds_toArray, List.set_cons_zero, List.set_cons_succ]
  refine wpAnyS_take (i := 3) (fun _ => True) (v := .pointer (some ⟨w.heap.size, 3, none⟩)) rfl (by kernel_rfl) (by kernel_rfl) (by kernel_rfl) (fun _ _ _ h => h) (fun _ _ _ _ => trivial) (fun _ _ => Iff.rfl) (by kernel_rfl) hS (fun w' hSw => ?_) (by rfl) (fun hS => ?_)
  · go_simp
  try simp only [Act.put, List.setIfInBounds_toArray, List.set_cons_zero, List.set_cons_succ]
  refine wpAnyS_take (i := 4) (fun w' => w'.cell? ⟨w.heap.size, 3, none⟩ = some (.string d.evr)) (v := .string d.evr) rfl (by kernel_rfl) (by kernel_rfl) (by kernel_rfl) (fun _ _ _ h => h) (fun l w hw hS => hS.box.cell 3) (fun _ _ => Iff.rfl) (by kernel_rfl) hS (fun w' hSw => ?_) (by rfl) (fun hS => ?_)
  · go_simp
  try simp only [Act.put, List.setIfInBounds_toArray, List.set_cons_zero, List.set_cons_succ]
  generalize ((w.alloc _).alloc _).drew = w1 at hS ⊢
  refine wpAnyS_one (i := 2) (by kernel_rfl) rfl (fun K2 hK2 => ?_)
  go_simp
  refine (CN.out _).mono ?_
  rintro e w2 ⟨rfl, hb2⟩
  have hS2 := hS.below_ hb2
  clear hb2 hS
  refine hK2.out _ _ hS2 (fun hS => ?_)
  clear hK2 K2 hS2
  try simp only [Act.put, List.setIfInBounds_toArray, List.set_cons_zero, List.set_cons_succ]
  refine wpAnyS_take (i := 6) (fun _ => True) (v := .pointer (some ⟨w.heap.size, 1, none⟩)) rfl (by kernel_rfl) (by kernel_rfl) (by kernel_rfl) (fun _ _ _ h => h) (fun _ _ _ _ => trivial) (fun _ _ => Iff.rfl) (by kernel_rfl) hS (fun w' hSw => ?_) (by rfl) (fun hS => ?_)
  · go_simp
  try simp only [Act.put, List.setIfInBounds_toArray, List.set_cons_zero, List.set_cons_succ]
  refine wpAnyS_one (i := 5) (by kernel_rfl) rfl (fun K5 hK5 => ?_)
  go_simp
  refine (CV.out _).mono ?_
  rintro e w3 ⟨rfl, hb3⟩
  have hS3 := hS.below_ hb3
  clear hb3 hS
  refine hK5.out _ _ hS3 (fun hS => ?_)
  clear hK5 K5 hS3
  try simp only [Act.put, List.setIfInBounds_toArray, List.set_cons_zero, List.set_cons_succ]
  have x7 := hS.box.cell 1
  have y7 := hS.box.free 1
  unfold rowD at x7
  simp at x7
  have hS7 := hS.set_ (i := 1) (u := .string d.name) rfl
  clear hS
  refine wpAnyS_one (i := 7) (by kernel_rfl) rfl (fun K7 hK7 => ?_)
  go_simp
  refine hK7.out _ _ hS7 (fun hS => ?_)
  clear hK7 K7 hS7 x7 y7
  try simp only [Act.put, List.setIfInBounds_toArray, List.set_cons_zero, List.set_cons_succ]
  refine wpAnyS_take (i := 8) (fun _ => True) (v := .pointer (some ⟨w.heap.size, 3, none⟩)) rfl (by kernel_rfl) (by kernel_rfl) (by kernel_rfl) (fun _ _ _ h => h) (fun _ _ _ _ => trivial) (fun _ _ => Iff.rfl) (by kernel_rfl) hS (fun w' hSw => ?_) (by rfl) (fun hS => ?_)
  · go_simp
  try simp only [Act.put, List.setIfInBounds_toArray, List.set_cons_zero, List.set_cons_succ]
  have x9 := hS.box.cell 3
  have y9 := hS.box.free 3
  unfold rowD at x9
  simp at x9
  have hS9 := hS.set_ (i := 3) (u := .string d.evr) rfl
  clear hS
  refine wpAnyS_one (i := 9) (by kernel_rfl) rfl (fun K9 hK9 => ?_)
  go_simp
  refine hK9.out _ _ hS9 (fun hS => ?_)
  clear hK9 K9 hS9 x9 y9
  try simp only [Act.put, List.setIfInBounds_toArray, List.set_cons_zero, List.set_cons_succ]
  refine wpAnyS_done (by kernel_rfl) ?_ _
  generalize hwz : World.setCell _ _ _ = wz at hS ⊢
  clear hwz
  refine hK _ _ ?_
  clear hK K
  have C := Lib.hid (HLA.out wz hS.below)
  have HS := Lib.hid hS
  have q4 := hS.box.cell 4
  unfold rowD at q4
  simp at q4
  clear hS HLA
  go_wp2_with fail
  refine C.out.mono ?_
  rintro e w4 ⟨hb4, A', n', S', rfl, hL4, hC4, hS4⟩
  obtain ⟨A2, c2, hx, hl1, hl2, hl3, hA2⟩ := hL4
  injection hx with e1 _ e3
  subst e1; subst e3
  have hS := HS.out.below_ hb4
  have hzr := hS.room.lt
  have hzz := HS.out.room.lt
  have ht5 : Turned [w.heap.size, w.heap.size + 1] w4 ((((((w4.setCell ⟨w.heap.size, 4, none⟩ (.slice A' d.args.length n')).setCell ⟨w.heap.size + 1, 0, none⟩ (.int .i64 d.kind)).setCell ⟨w.heap.size + 1, 1, none⟩ (.string d.name)).setCell ⟨w.heap.size + 1, 2, none⟩ (.int .i64 d.op)).setCell ⟨w.heap.size + 1, 3, none⟩ (.string d.evr)).setCell ⟨w.heap.size + 1, 4, none⟩ (.slice A' d.args.length n')) :=
    ((((((Turned.refl _ _).setCell (.inl (by simp)) _).setCell (.inl (by simp)) _).setCell (.inl (by simp)) _).setCell (.inl (by simp)) _).setCell (.inl (by simp)) _).setCell (.inl (by simp)) _
  have hst : StayS S' w4 ((((((w4.setCell ⟨w.heap.size, 4, none⟩ (.slice A' d.args.length n')).setCell ⟨w.heap.size + 1, 0, none⟩ (.int .i64 d.kind)).setCell ⟨w.heap.size + 1, 1, none⟩ (.string d.name)).setCell ⟨w.heap.size + 1, 2, none⟩ (.int .i64 d.op)).setCell ⟨w.heap.size + 1, 3, none⟩ (.string d.evr)).setCell ⟨w.heap.size + 1, 4, none⟩ (.slice A' d.args.length n')) :=
    StayS.turned ht5 fun b hb hm => by have := hS4 b hb; simp at hm; omega
  have HL : Hid _ := load5d (five_blk' (hS.room.far (p := ⟨w.heap.size, 4, none⟩) (by simp) (.slice A' d.args.length n')) d (.slice A' d.args.length n'))
  have HP : Hid (Below w.heap.size w _ ∧ ∃ A c S', Ending.returned (.agg (rowD d (.slice A' d.args.length n'))) = .returned (.agg (rowD d (.slice A d.args.length c))) ∧ Lay _ S' d (.slice A d.args.length c) ∧ CleanS _ S' ∧ ∀ b, S' b → w.heap.size ≤ b) :=
    ⟨hS.below.trans (ht5.below (fun k hk => by simp at hk; omega) hS.below.size), A', n', S', rfl, (lay_iff.2 ⟨A', n', rfl, hl1, ⟨hl2, hl3⟩, hA2⟩).stay (fun _ h => h) hst, hC4.stay hst, fun b hb => by have := hS4 b hb; omega⟩
  have KB := hS.box
  have KR := hS.room
  unfold rowD at KB HP HL
  unfold zr5 at KR
  have q0 := KB.cell 0
  have q1 := KB.cell 1
  have q2 := KB.cell 2
  have q3 := KB.cell 3
  have q4 := KB.cell 4
  have g4 := KB.free 4
  have z0 := KR.cell 0
  have z1 := KR.cell 1
  have z2 := KR.cell 2
  have z3 := KR.cell 3
  have z4 := KR.cell 4
  have f0 := KR.free 0
  have f1 := KR.free 1
  have f2 := KR.free 2
  have f3 := KR.free 3
  have f4 := KR.free 4
  simp at q0 q1 q2 q3 q4 z0 z1 z2 z3 z4
  clear hS hzr hzz ht5 hst KB KR hb4 hl1 hl2 hl3 hA2 hC4 hS4 C HS CN CV
  go_wp2_with fail
  refine bodyPost_ret (v := .agg #[.int .i64 d.kind, .string d.name, .int .i64 d.op, .string d.evr, .slice A' d.args.length n']) ?_ rfl HP.out
  refine (results_cell rfl _ (ad := ⟨w.heap.size + 1, 0, none⟩) rfl).trans ?_
  exact HL.out
theorem apart_any (d : Dep) : ApartOk d := by
  induction d using Dep.ind with
  | h k n o e xs ih => exact apart_node _ ih
/-- A list of dependencies in memory of its own. -/
theorem listApart_any (ds : List Dep) (s : Value) (S : Nat → Prop) (w0 : World) (hL : ListAt w0 S ds s) (hsm : ∀ d ∈ ds, small d ∧ nodes d ≤ 4194304) (hn : ds.length ≤ 4194304) :
    Calls Tryz.prog 85 #[s, .func (.func 86) #[] #[]] w0 (ListNew w0 ds) := listApart_of ds (fun d _ => apart_any d) s S w0 hL hsm hn
end Go.Proofs.YtpmfmkpfjomgnaaGreatDoor
