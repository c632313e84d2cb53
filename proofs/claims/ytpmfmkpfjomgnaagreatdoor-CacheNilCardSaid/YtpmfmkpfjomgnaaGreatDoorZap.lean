/- Both pools of repositories: the walk. Named, Package, Text. What the rows list of the two tables, as blocks. -/
import Derived.Test.YtpmfmkpfjomgnaaGreatDoorZao
import Derived.Test.YtpmfmkpfjomgnaaGreatDoorZaf
import Derived.Test.YtpmfmkpfjomgnaaGreatDoorRows
import Derived.Stop.LaidErr
import Derived.MakeChecks
import Derived.OpenShut
/- Both pools of repositories: the walk. -/
namespace Go.Proofs.YtpmfmkpfjomgnaaGreatDoor
set_option linter.unusedSimpArgs false
set_option linter.unusedVariables false
open Go.RowKit

set_option maxHeartbeats 8000000 in
set_option maxRecDepth 100000 in
theorem pools_any (kind : Int) (hk : kind = 1 ∨ kind = 2) (l : List RepE) (hg : GoodRepos l) (A : Option Addr) (c : Nat) (V S0 T0 U0 : Nat → Prop) (w : World) (hA : ReposAt w V S0 T0 U0 l A) (hc : l.length ≤ c ∧ c ≤ maxLen) (hCl : CleanS w S0)
    (hlt : ∀ b, S0 b ∨ T0 b ∨ U0 b → b < w.heap.size) (hT : Tabs w) :
    Calls Tryz.prog 32 #[.int .i64 kind, .slice A l.length c] w (PoolsPost w kind l) := by
  obtain ⟨hc1, hc2⟩ := hc
  unfold maxLen at hc2
  have CN := Lib.hid (new_any kind hk w)
  have CM := Lib.hid (fun w => refNew_any kind hk w)
  have HK := Lib.hid hk
  have HG := Lib.hid hg
  have HA := Lib.hid (And.intro hA (And.intro hCl (And.intro hlt hT)))
  clear hg hA hCl hlt hT
  rcases hk with rfl | rfl
  · go_enter Tryz.func32, Tryz.ntmps32
    go_wp2_with fail
    refine CN.out.mono ?_
    rintro e w1 ⟨hb1, g, O, rfl, hP1⟩
    have HP1 := Lib.hid (And.intro hb1 hP1)
    clear hb1 hP1 CN
    go_wp2_with fail
    refine (CM.out _).mono ?_
    rintro e w2 ⟨hb2, m, RO, rfl, hR2⟩
    have H0 : Hid (BothAt w w2 g m 1 l 0) := by
      have hb01 := HP1.out.1
      have hb02 := hb01.trans (hb2.mono hb01.size)
      refine ⟨O, fun _ => False, fun _ => False, RO, [], [], [], HP1.out.2.below hb2, rfl, hR2.base hb01.size, rfl, rfl, fun j hj => ⟨fun h => ?_, fun h => h, fun h => h⟩, hb02⟩
      have h1 := (hR2.lt hj).1
      have h2 := HP1.out.2.lt (.inl h)
      omega
    clear hb2 hR2 CM HP1
    go_wp2_with fail
    go_loopw [10] (fun v wx => ∃ k : Nat, k ≤ l.length ∧ v = .int .i64 (k : Int) ∧ Hid (BothAt w wx g m 1 l k)) (fun v _ => l.length - (intOf v).toNat)
    case atStart => exact ⟨0, Nat.zero_le _, rfl, H0⟩
    case round =>
      clear H0
      obtain ⟨k, hk, rfl, HB⟩ := hrel
      by_cases hlt : k < l.length
      · obtain ⟨e, he⟩ : ∃ e, l[k]? = some e := ⟨_, List.getElem?_eq_getElem hlt⟩
        obtain ⟨O1, S1, T1, RO1, ks, rs, na, hBo⟩ := HB.out
        have HS := Lib.hid (hBo.later ((Below.refl wr.heap.size wr).drew))
        have HE := Lib.hid he
        obtain ⟨hA0, hCl, hlt0, hT⟩ := HA.out
        obtain ⟨b, o, Ap, cp, rfl, hV, z0, z1, z2, z3, hp1, hp2, hPk⟩ := hA0 k e he
        have hall : ∀ wx, Below w.heap.size w wx → wx.cell? ⟨b, o + k * 4, none⟩ = some (.string e.rep.name) ∧ wx.cell? ⟨b, o + k * 4 + 1, none⟩ = some (.int .i64 e.rep.prio) ∧ wx.cell? ⟨b, o + k * 4 + 2, none⟩ = some (.bool e.rep.inst) ∧ wx.cell? ⟨b, o + k * 4 + 3, none⟩ = some (.slice Ap e.ps.length cp) ∧ PacksAt wx S0 T0 U0 e.ps Ap := fun wx hbx => by
          have hbl := hbx.block b (cell_lt z0)
          exact ⟨(World.cell?_of_block hbl).trans z0, (World.cell?_of_block hbl).trans z1, (World.cell?_of_block hbl).trans z2, (World.cell?_of_block hbl).trans z3, hPk.below hbx⟩
        have hhd := HG.out.head k e he
        have hmm := List.mem_of_getElem? he
        obtain ⟨hh1, hh2⟩ := addHead_ok hhd
        have hks : ks.length = (pksOf (l.take k)).length := by rw [← hBo.pkgs]; simp
        have CP : Hid (Calls Tryz.prog 17 #[.pointer (some ⟨g, 0, none⟩), .agg #[.string e.rep.name, .int .i64 e.rep.prio, .bool e.rep.inst, .slice Ap e.ps.length cp]] wr.drew (Added QC wr.drew w.heap.size g O1 S1 T1 1 ((l.take k).map RepE.rep) ks e.rep.name e.rep.prio e.rep.inst (e.ps.map PkE.p))) := by
          obtain ⟨vr, vp, bm, f, hS⟩ := HS.out.pool
          have hbd := HS.out.below
          exact add_any QC hS e.rep.name e.rep.prio e.rep.inst Ap e.ps cp S0 T0 U0 (hall _ hbd).2.2.2.2 ⟨hp1, hp2⟩ (by omega) (by omega) (by omega) (fun x hx => checks_of (hCl.stay (StayS.below' hbd)) (hT.below hbd hT.two) (HG.out.small e hmm x hx)) (hT.below hbd hT.two) (HG.out.name e hmm) (fun x hx => HG.out.small e hmm x hx) (fun j hj ho => by have := HS.out.pool.ge ho; have := hlt0 j hj; omega) hT.two
        have CR : Hid (∀ w2, Below w.heap.size w w2 → RPoolAt w2 w.heap.size m RO1 1 rs na → Calls Tryz.prog 18 #[.pointer (some ⟨m, 0, none⟩), .agg #[.string e.rep.name, .int .i64 e.rep.prio, .bool e.rep.inst, .slice Ap e.ps.length cp]] w2 (RAdded w2 w.heap.size m RO1 1 rs na e.rep.name e.rep.prio e.rep.inst (.slice Ap e.ps.length cp) (e.ps.map PkE.p))) := fun w2 hbx hR => by
          obtain ⟨vr, va, hR⟩ := hR
          have hrl : rs.length = ((l.take k).map RepE.rep).length := by rw [← HS.out.reps]; simp
          have hnl := HS.out.nums
          exact refAdd_any hR e.rep.name e.rep.prio e.rep.inst Ap e.ps cp S0 T0 U0 (hall _ hbx).2.2.2.2 ⟨hp1, hp2⟩ (by omega) (by omega) (by omega) (by have := HG.out.name e hmm; unfold maxLen; omega) (fun x hx => refSmall_of (HG.out.small e hmm x hx))
        have HQ : Hid (∀ wx, Below w.heap.size w wx → SP b (o + k * 4) (.string e.rep.name) (.int .i64 e.rep.prio) (.bool e.rep.inst) (.slice Ap e.ps.length cp) #[] wx) := fun wx hbx => by
          obtain ⟨c0, c1, c2, c3, _⟩ := hall wx hbx
          exact ⟨c0, c1, c2, c3⟩
        obtain ⟨q0, q1, q2, q3, -⟩ := hall wr hBo.below
        clear hall z0 z1 z2 z3 hhd hmm hh1 hh2 hks hp1 hp2 hPk hA0 hCl hlt0 hT hV hBo he HB
        go_upto_region 10 with fail
        rename_i K hK
        refine wp_region_S (SP b (o + k * 4) (.string e.rep.name) (.int .i64 e.rep.prio) (.bool e.rep.inst) (.slice Ap e.ps.length cp)) (by kernel_rfl) ⟨q0, q1, q2, q3⟩ (fun hS => ?_)
        refine wpAnyS_take (i := 0) (fun w' => True) (v := .pointer (some ⟨g, 0, none⟩)) rfl (by kernel_rfl) (by kernel_rfl) (by kernel_rfl) (fun _ _ _ h => h) (fun _ _ _ _ => trivial) (SP.io (by decide)) (by kernel_rfl) hS (fun w' hSw => ?_) (by rfl) (fun hS => ?_)
        · go_simp
        try simp only [List.getElem_toArray, List.getElem_cons_zero, List.getElem_cons_succ, Act.put, List.setIfInBounds_toArray, List.set_cons_zero, List.set_cons_succ]
        refine wpAnyS_take (i := 1) (fun w' => True) (v := .slice (some ⟨b, o, none⟩) l.length c) rfl (by kernel_rfl) (by kernel_rfl) (by kernel_rfl) (fun _ _ _ h => h) (fun _ _ _ _ => trivial) (SP.io (by decide)) (by kernel_rfl) hS (fun w' hSw => ?_) (by rfl) (fun hS => ?_)
        · go_simp
        try simp only [List.getElem_toArray, List.getElem_cons_zero, List.getElem_cons_succ, Act.put, List.setIfInBounds_toArray, List.set_cons_zero, List.set_cons_succ]
        refine wpAnyS_take (i := 2) (fun w' => True) (v := .int .i64 (k : Int)) rfl (by kernel_rfl) (by kernel_rfl) (by kernel_rfl) (fun _ _ _ h => h) (fun _ _ _ _ => trivial) (SP.io (by decide)) (by kernel_rfl) hS (fun w' hSw => ?_) (by rfl) (fun hS => ?_)
        · go_simp
        try simp only [List.getElem_toArray, List.getElem_cons_zero, List.getElem_cons_succ, Act.put, List.setIfInBounds_toArray, List.set_cons_zero, List.set_cons_succ]
        refine wpAnyS_take (i := 3) (fun w' => True) (v := .pointer (some ⟨b, o + k * 4, none⟩)) rfl (by kernel_rfl) (by kernel_rfl) (by kernel_rfl) (fun _ _ _ h => h) (fun _ _ _ _ => trivial) (SP.io (by decide)) (by kernel_rfl) hS (fun w' hSw => ?_) (by rfl) (fun hS => ?_)
        · go_simp
        try simp only [List.getElem_toArray, List.getElem_cons_zero, List.getElem_cons_succ, Act.put, List.setIfInBounds_toArray, List.set_cons_zero, List.set_cons_succ]
        refine wpAnyS_take (i := 4) (fun w' => w'.cell? ⟨b, o + k * 4, none⟩ = some (.string e.rep.name) ∧ w'.cell? ⟨b, o + k * 4 + 1, none⟩ = some (.int .i64 e.rep.prio) ∧ w'.cell? ⟨b, o + k * 4 + 2, none⟩ = some (.bool e.rep.inst) ∧ w'.cell? ⟨b, o + k * 4 + 3, none⟩ = some (.slice Ap e.ps.length cp)) (v := .agg #[.string e.rep.name, .int .i64 e.rep.prio, .bool e.rep.inst, .slice Ap e.ps.length cp]) rfl (by kernel_rfl) (by kernel_rfl) (by kernel_rfl) (fun _ _ _ h => h) (fun l w hw hS => hS) (SP.io (by decide)) (by kernel_rfl) hS (fun w' hSw => ?_) (by rfl) (fun hS => ?_)
        · obtain ⟨y0, y1, y2, y3⟩ := hSw
          go_simp
        try simp only [List.getElem_toArray, List.getElem_cons_zero, List.getElem_cons_succ, Act.put, List.setIfInBounds_toArray, List.set_cons_zero, List.set_cons_succ]
        refine wpAnyS_take (i := 6) (fun w' => True) (v := .pointer (some ⟨m, 0, none⟩)) rfl (by kernel_rfl) (by kernel_rfl) (by kernel_rfl) (fun _ _ _ h => h) (fun _ _ _ _ => trivial) (SP.io (by decide)) (by kernel_rfl) hS (fun w' hSw => ?_) (by rfl) (fun hS => ?_)
        · go_simp
        try simp only [List.getElem_toArray, List.getElem_cons_zero, List.getElem_cons_succ, Act.put, List.setIfInBounds_toArray, List.set_cons_zero, List.set_cons_succ]
        refine wpAnyS_take (i := 7) (fun w' => True) (v := .slice (some ⟨b, o, none⟩) l.length c) rfl (by kernel_rfl) (by kernel_rfl) (by kernel_rfl) (fun _ _ _ h => h) (fun _ _ _ _ => trivial) (SP.io (by decide)) (by kernel_rfl) hS (fun w' hSw => ?_) (by rfl) (fun hS => ?_)
        · go_simp
        try simp only [List.getElem_toArray, List.getElem_cons_zero, List.getElem_cons_succ, Act.put, List.setIfInBounds_toArray, List.set_cons_zero, List.set_cons_succ]
        refine wpAnyS_take (i := 8) (fun w' => True) (v := .int .i64 (k : Int)) rfl (by kernel_rfl) (by kernel_rfl) (by kernel_rfl) (fun _ _ _ h => h) (fun _ _ _ _ => trivial) (SP.io (by decide)) (by kernel_rfl) hS (fun w' hSw => ?_) (by rfl) (fun hS => ?_)
        · go_simp
        try simp only [List.getElem_toArray, List.getElem_cons_zero, List.getElem_cons_succ, Act.put, List.setIfInBounds_toArray, List.set_cons_zero, List.set_cons_succ]
        refine wpAnyS_take (i := 9) (fun w' => True) (v := .pointer (some ⟨b, o + k * 4, none⟩)) rfl (by kernel_rfl) (by kernel_rfl) (by kernel_rfl) (fun _ _ _ h => h) (fun _ _ _ _ => trivial) (SP.io (by decide)) (by kernel_rfl) hS (fun w' hSw => ?_) (by rfl) (fun hS => ?_)
        · go_simp
        try simp only [List.getElem_toArray, List.getElem_cons_zero, List.getElem_cons_succ, Act.put, List.setIfInBounds_toArray, List.set_cons_zero, List.set_cons_succ]
        refine wpAnyS_take (i := 10) (fun w' => w'.cell? ⟨b, o + k * 4, none⟩ = some (.string e.rep.name) ∧ w'.cell? ⟨b, o + k * 4 + 1, none⟩ = some (.int .i64 e.rep.prio) ∧ w'.cell? ⟨b, o + k * 4 + 2, none⟩ = some (.bool e.rep.inst) ∧ w'.cell? ⟨b, o + k * 4 + 3, none⟩ = some (.slice Ap e.ps.length cp)) (v := .agg #[.string e.rep.name, .int .i64 e.rep.prio, .bool e.rep.inst, .slice Ap e.ps.length cp]) rfl (by kernel_rfl) (by kernel_rfl) (by kernel_rfl) (fun _ _ _ h => h) (fun l w hw hS => hS) (SP.io (by decide)) (by kernel_rfl) hS (fun w' hSw => ?_) (by rfl) (fun hS => ?_)
        · obtain ⟨y0, y1, y2, y3⟩ := hSw
          go_simp
        try simp only [List.getElem_toArray, List.getElem_cons_zero, List.getElem_cons_succ, Act.put, List.setIfInBounds_toArray, List.set_cons_zero, List.set_cons_succ]
        refine wpAnyS_one (i := 5) (by kernel_rfl) rfl (fun K7 hK7 => ?_)
        go_simp
        refine CP.out.mono ?_
        rintro e1 w2 hadd
        obtain ⟨rfl, hb2, hR2⟩ := Both2.first HS.out HE.out HG.out hadd
        have HAdd := Lib.hid hadd
        have CM := Lib.hid (CR.out w2 hb2 hR2)
        refine hK7.out _ _ (HQ.out w2 hb2) (fun hS => ?_)
        clear hK7 K7 hb2 hR2 hadd CP CR
        try simp only [List.getElem_toArray, List.getElem_cons_zero, List.getElem_cons_succ, Act.put, List.setIfInBounds_toArray, List.set_cons_zero, List.set_cons_succ]
        refine wpAnyS_one (i := 11) (by kernel_rfl) rfl (fun K7 hK7 => ?_)
        go_simp
        refine CM.out.mono ?_
        rintro e2 w3 hadd2
        obtain ⟨-, rfl, -, hb3, hnext⟩ := Both2.next HS.out HE.out HG.out HAdd.out hadd2
        have HN := Lib.hid hnext
        refine hK7.out _ _ (HQ.out w3 hb3) (fun hS => ?_)
        clear hK7 K7 hadd2 hb3 hnext CM HAdd
        try simp only [List.getElem_toArray, List.getElem_cons_zero, List.getElem_cons_succ, Act.put, List.setIfInBounds_toArray, List.set_cons_zero, List.set_cons_succ]
        refine wpAnyS_one (i := 12) (by kernel_rfl) rfl (fun K7 hK7 => ?_)
        go_simp
        refine hK7.out _ _ hS (fun hS => ?_)
        clear hK7 K7
        try simp only [List.getElem_toArray, List.getElem_cons_zero, List.getElem_cons_succ, Act.put, List.setIfInBounds_toArray, List.set_cons_zero, List.set_cons_succ]
        refine wpAnyS_done (by kernel_rfl) ?_ _
        clear hS
        refine hK _ _ ?_
        clear hK K
        go_wp2_with fail
        go_roundw
        case rel => exact ⟨k + 1, by omega, by go_num, HN⟩
        case measure => simp [intOf]; omega
      · obtain rfl : k = l.length := by omega
        have HV : Hid (PoolsPost w 1 l (.returned (.tuple #[.pointer (some ⟨g, 0, none⟩), .pointer (some ⟨m, 0, none⟩)])) wr) := ⟨g, m, rfl, HB.out⟩
        clear hlt HB
        go_wp2_with fail
        go_ret2
        exact HV.out
  · go_enter Tryz.func32, Tryz.ntmps32
    go_wp2_with fail
    refine CN.out.mono ?_
    rintro e w1 ⟨hb1, g, O, rfl, hP1⟩
    have HP1 := Lib.hid (And.intro hb1 hP1)
    clear hb1 hP1 CN
    go_wp2_with fail
    refine (CM.out _).mono ?_
    rintro e w2 ⟨hb2, m, RO, rfl, hR2⟩
    have H0 : Hid (BothAt w w2 g m 2 l 0) := by
      have hb01 := HP1.out.1
      have hb02 := hb01.trans (hb2.mono hb01.size)
      refine ⟨O, fun _ => False, fun _ => False, RO, [], [], [], HP1.out.2.below hb2, rfl, hR2.base hb01.size, rfl, rfl, fun j hj => ⟨fun h => ?_, fun h => h, fun h => h⟩, hb02⟩
      have h1 := (hR2.lt hj).1
      have h2 := HP1.out.2.lt (.inl h)
      omega
    clear hb2 hR2 CM HP1
    go_wp2_with fail
    go_loopw [10] (fun v wx => ∃ k : Nat, k ≤ l.length ∧ v = .int .i64 (k : Int) ∧ Hid (BothAt w wx g m 2 l k)) (fun v _ => l.length - (intOf v).toNat)
    case atStart => exact ⟨0, Nat.zero_le _, rfl, H0⟩
    case round =>
      clear H0
      obtain ⟨k, hk, rfl, HB⟩ := hrel
      by_cases hlt : k < l.length
      · obtain ⟨e, he⟩ : ∃ e, l[k]? = some e := ⟨_, List.getElem?_eq_getElem hlt⟩
        obtain ⟨O1, S1, T1, RO1, ks, rs, na, hBo⟩ := HB.out
        have HS := Lib.hid (hBo.later ((Below.refl wr.heap.size wr).drew))
        have HE := Lib.hid he
        obtain ⟨hA0, hCl, hlt0, hT⟩ := HA.out
        obtain ⟨b, o, Ap, cp, rfl, hV, z0, z1, z2, z3, hp1, hp2, hPk⟩ := hA0 k e he
        have hall : ∀ wx, Below w.heap.size w wx → wx.cell? ⟨b, o + k * 4, none⟩ = some (.string e.rep.name) ∧ wx.cell? ⟨b, o + k * 4 + 1, none⟩ = some (.int .i64 e.rep.prio) ∧ wx.cell? ⟨b, o + k * 4 + 2, none⟩ = some (.bool e.rep.inst) ∧ wx.cell? ⟨b, o + k * 4 + 3, none⟩ = some (.slice Ap e.ps.length cp) ∧ PacksAt wx S0 T0 U0 e.ps Ap := fun wx hbx => by
          have hbl := hbx.block b (cell_lt z0)
          exact ⟨(World.cell?_of_block hbl).trans z0, (World.cell?_of_block hbl).trans z1, (World.cell?_of_block hbl).trans z2, (World.cell?_of_block hbl).trans z3, hPk.below hbx⟩
        have hhd := HG.out.head k e he
        have hmm := List.mem_of_getElem? he
        obtain ⟨hh1, hh2⟩ := addHead_ok hhd
        have hks : ks.length = (pksOf (l.take k)).length := by rw [← hBo.pkgs]; simp
        have CP : Hid (Calls Tryz.prog 17 #[.pointer (some ⟨g, 0, none⟩), .agg #[.string e.rep.name, .int .i64 e.rep.prio, .bool e.rep.inst, .slice Ap e.ps.length cp]] wr.drew (Added QC wr.drew w.heap.size g O1 S1 T1 2 ((l.take k).map RepE.rep) ks e.rep.name e.rep.prio e.rep.inst (e.ps.map PkE.p))) := by
          obtain ⟨vr, vp, bm, f, hS⟩ := HS.out.pool
          have hbd := HS.out.below
          exact add_any QC hS e.rep.name e.rep.prio e.rep.inst Ap e.ps cp S0 T0 U0 (hall _ hbd).2.2.2.2 ⟨hp1, hp2⟩ (by omega) (by omega) (by omega) (fun x hx => checks_of (hCl.stay (StayS.below' hbd)) (hT.below hbd hT.two) (HG.out.small e hmm x hx)) (hT.below hbd hT.two) (HG.out.name e hmm) (fun x hx => HG.out.small e hmm x hx) (fun j hj ho => by have := HS.out.pool.ge ho; have := hlt0 j hj; omega) hT.two
        have CR : Hid (∀ w2, Below w.heap.size w w2 → RPoolAt w2 w.heap.size m RO1 2 rs na → Calls Tryz.prog 18 #[.pointer (some ⟨m, 0, none⟩), .agg #[.string e.rep.name, .int .i64 e.rep.prio, .bool e.rep.inst, .slice Ap e.ps.length cp]] w2 (RAdded w2 w.heap.size m RO1 2 rs na e.rep.name e.rep.prio e.rep.inst (.slice Ap e.ps.length cp) (e.ps.map PkE.p))) := fun w2 hbx hR => by
          obtain ⟨vr, va, hR⟩ := hR
          have hrl : rs.length = ((l.take k).map RepE.rep).length := by rw [← HS.out.reps]; simp
          have hnl := HS.out.nums
          exact refAdd_any hR e.rep.name e.rep.prio e.rep.inst Ap e.ps cp S0 T0 U0 (hall _ hbx).2.2.2.2 ⟨hp1, hp2⟩ (by omega) (by omega) (by omega) (by have := HG.out.name e hmm; unfold maxLen; omega) (fun x hx => refSmall_of (HG.out.small e hmm x hx))
        have HQ : Hid (∀ wx, Below w.heap.size w wx → SP b (o + k * 4) (.string e.rep.name) (.int .i64 e.rep.prio) (.bool e.rep.inst) (.slice Ap e.ps.length cp) #[] wx) := fun wx hbx => by
          obtain ⟨c0, c1, c2, c3, _⟩ := hall wx hbx
          exact ⟨c0, c1, c2, c3⟩
        obtain ⟨q0, q1, q2, q3, -⟩ := hall wr hBo.below
        clear hall z0 z1 z2 z3 hhd hmm hh1 hh2 hks hp1 hp2 hPk hA0 hCl hlt0 hT hV hBo he HB
        go_upto_region 10 with fail
        rename_i K hK
        refine wp_region_S (SP b (o + k * 4) (.string e.rep.name) (.int .i64 e.rep.prio) (.bool e.rep.inst) (.slice Ap e.ps.length cp)) (by kernel_rfl) ⟨q0, q1, q2, q3⟩ (fun hS => ?_)
        refine wpAnyS_take (i := 0) (fun w' => True) (v := .pointer (some ⟨g, 0, none⟩)) rfl (by kernel_rfl) (by kernel_rfl) (by kernel_rfl) (fun _ _ _ h => h) (fun _ _ _ _ => trivial) (SP.io (by decide)) (by kernel_rfl) hS (fun w' hSw => ?_) (by rfl) (fun hS => ?_)
        · go_simp
        try simp only [List.getElem_toArray, List.getElem_cons_zero, List.getElem_cons_succ, Act.put, List.setIfInBounds_toArray, List.set_cons_zero, List.set_cons_succ]
        refine wpAnyS_take (i := 1) (fun w' => True) (v := .slice (some ⟨b, o, none⟩) l.length c) rfl (by kernel_rfl) (by kernel_rfl) (by kernel_rfl) (fun _ _ _ h => h) (fun _ _ _ _ => trivial) (SP.io (by decide)) (by kernel_rfl) hS (fun w' hSw => ?_) (by rfl) (fun hS => ?_)
        · go_simp
        try simp only [List.getElem_toArray, List.getElem_cons_zero, List.getElem_cons_succ, Act.put, List.setIfInBounds_toArray, List.set_cons_zero, List.set_cons_succ]
        refine wpAnyS_take (i := 2) (fun w' => True) (v := .int .i64 (k : Int)) rfl (by kernel_rfl) (by kernel_rfl) (by kernel_rfl) (fun _ _ _ h => h) (fun _ _ _ _ => trivial) (SP.io (by decide)) (by kernel_rfl) hS (fun w' hSw => ?_) (by rfl) (fun hS => ?_)
        · go_simp
        try simp only [List.getElem_toArray, List.getElem_cons_zero, List.getElem_cons_succ, Act.put, List.setIfInBounds_toArray, List.set_cons_zero, List.set_cons_succ]
        refine wpAnyS_take (i := 3) (fun w' => True) (v := .pointer (some ⟨b, o + k * 4, none⟩)) rfl (by kernel_rfl) (by kernel_rfl) (by kernel_rfl) (fun _ _ _ h => h) (fun _ _ _ _ => trivial) (SP.io (by decide)) (by kernel_rfl) hS (fun w' hSw => ?_) (by rfl) (fun hS => ?_)
        · go_simp
        try simp only [List.getElem_toArray, List.getElem_cons_zero, List.getElem_cons_succ, Act.put, List.setIfInBounds_toArray, List.set_cons_zero, List.set_cons_succ]
        refine wpAnyS_take (i := 4) (fun w' => w'.cell? ⟨b, o + k * 4, none⟩ = some (.string e.rep.name) ∧ w'.cell? ⟨b, o + k * 4 + 1, none⟩ = some (.int .i64 e.rep.prio) ∧ w'.cell? ⟨b, o + k * 4 + 2, none⟩ = some (.bool e.rep.inst) ∧ w'.cell? ⟨b, o + k * 4 + 3, none⟩ = some (.slice Ap e.ps.length cp)) (v := .agg #[.string e.rep.name, .int .i64 e.rep.prio, .bool e.rep.inst, .slice Ap e.ps.length cp]) rfl (by kernel_rfl) (by kernel_rfl) (by kernel_rfl) (fun _ _ _ h => h) (fun l w hw hS => hS) (SP.io (by decide)) (by kernel_rfl) hS (fun w' hSw => ?_) (by rfl) (fun hS => ?_)
        · obtain ⟨y0, y1, y2, y3⟩ := hSw
          go_simp
        try simp only [List.getElem_toArray, List.getElem_cons_zero, List.getElem_cons_succ, Act.put, List.setIfInBounds_toArray, List.set_cons_zero, List.set_cons_succ]
        refine wpAnyS_take (i := 6) (fun w' => True) (v := .pointer (some ⟨m, 0, none⟩)) rfl (by kernel_rfl) (by kernel_rfl) (by kernel_rfl) (fun _ _ _ h => h) (fun _ _ _ _ => trivial) (SP.io (by decide)) (by kernel_rfl) hS (fun w' hSw => ?_) (by rfl) (fun hS => ?_)
        · go_simp
        try simp only [List.getElem_toArray, List.getElem_cons_zero, List.getElem_cons_succ, Act.put, List.setIfInBounds_toArray, List.set_cons_zero, List.set_cons_succ]
        refine wpAnyS_take (i := 7) (fun w' => True) (v := .slice (some ⟨b, o, none⟩) l.length c) rfl (by kernel_rfl) (by kernel_rfl) (by kernel_rfl) (fun _ _ _ h => h) (fun _ _ _ _ => trivial) (SP.io (by decide)) (by kernel_rfl) hS (fun w' hSw => ?_) (by rfl) (fun hS => ?_)
        · go_simp
        try simp only [List.getElem_toArray, List.getElem_cons_zero, List.getElem_cons_succ, Act.put, List.setIfInBounds_toArray, List.set_cons_zero, List.set_cons_succ]
        refine wpAnyS_take (i := 8) (fun w' => True) (v := .int .i64 (k : Int)) rfl (by kernel_rfl) (by kernel_rfl) (by kernel_rfl) (fun _ _ _ h => h) (fun _ _ _ _ => trivial) (SP.io (by decide)) (by kernel_rfl) hS (fun w' hSw => ?_) (by rfl) (fun hS => ?_)
        · go_simp
        try simp only [List.getElem_toArray, List.getElem_cons_zero, List.getElem_cons_succ, Act.put, List.setIfInBounds_toArray, List.set_cons_zero, List.set_cons_succ]
        refine wpAnyS_take (i := 9) (fun w' => True) (v := .pointer (some ⟨b, o + k * 4, none⟩)) rfl (by kernel_rfl) (by kernel_rfl) (by kernel_rfl) (fun _ _ _ h => h) (fun _ _ _ _ => trivial) (SP.io (by decide)) (by kernel_rfl) hS (fun w' hSw => ?_) (by rfl) (fun hS => ?_)
        · go_simp
        try simp only [List.getElem_toArray, List.getElem_cons_zero, List.getElem_cons_succ, Act.put, List.setIfInBounds_toArray, List.set_cons_zero, List.set_cons_succ]
        refine wpAnyS_take (i := 10) (fun w' => w'.cell? ⟨b, o + k * 4, none⟩ = some (.string e.rep.name) ∧ w'.cell? ⟨b, o + k * 4 + 1, none⟩ = some (.int .i64 e.rep.prio) ∧ w'.cell? ⟨b, o + k * 4 + 2, none⟩ = some (.bool e.rep.inst) ∧ w'.cell? ⟨b, o + k * 4 + 3, none⟩ = some (.slice Ap e.ps.length cp)) (v := .agg #[.string e.rep.name, .int .i64 e.rep.prio, .bool e.rep.inst, .slice Ap e.ps.length cp]) rfl (by kernel_rfl) (by kernel_rfl) (by kernel_rfl) (fun _ _ _ h => h) (fun l w hw hS => hS) (SP.io (by decide)) (by kernel_rfl) hS (fun w' hSw => ?_) (by rfl) (fun hS => ?_)
        · obtain ⟨y0, y1, y2, y3⟩ := hSw
          go_simp
        try simp only [List.getElem_toArray, List.getElem_cons_zero, List.getElem_cons_succ, Act.put, List.setIfInBounds_toArray, List.set_cons_zero, List.set_cons_succ]
        refine wpAnyS_one (i := 5) (by kernel_rfl) rfl (fun K7 hK7 => ?_)
        go_simp
        refine CP.out.mono ?_
        rintro e1 w2 hadd
        obtain ⟨rfl, hb2, hR2⟩ := Both2.first HS.out HE.out HG.out hadd
        have HAdd := Lib.hid hadd
        have CM := Lib.hid (CR.out w2 hb2 hR2)
        refine hK7.out _ _ (HQ.out w2 hb2) (fun hS => ?_)
        clear hK7 K7 hb2 hR2 hadd CP CR
        try simp only [List.getElem_toArray, List.getElem_cons_zero, List.getElem_cons_succ, Act.put, List.setIfInBounds_toArray, List.set_cons_zero, List.set_cons_succ]
        refine wpAnyS_one (i := 11) (by kernel_rfl) rfl (fun K7 hK7 => ?_)
        go_simp
        refine CM.out.mono ?_
        rintro e2 w3 hadd2
        obtain ⟨-, rfl, -, hb3, hnext⟩ := Both2.next HS.out HE.out HG.out HAdd.out hadd2
        have HN := Lib.hid hnext
        refine hK7.out _ _ (HQ.out w3 hb3) (fun hS => ?_)
        clear hK7 K7 hadd2 hb3 hnext CM HAdd
        try simp only [List.getElem_toArray, List.getElem_cons_zero, List.getElem_cons_succ, Act.put, List.setIfInBounds_toArray, List.set_cons_zero, List.set_cons_succ]
        refine wpAnyS_one (i := 12) (by kernel_rfl) rfl (fun K7 hK7 => ?_)
        go_simp
        refine hK7.out _ _ hS (fun hS => ?_)
        clear hK7 K7
        try simp only [List.getElem_toArray, List.getElem_cons_zero, List.getElem_cons_succ, Act.put, List.setIfInBounds_toArray, List.set_cons_zero, List.set_cons_succ]
        refine wpAnyS_done (by kernel_rfl) ?_ _
        clear hS
        refine hK _ _ ?_
        clear hK K
        go_wp2_with fail
        go_roundw
        case rel => exact ⟨k + 1, by omega, by go_num, HN⟩
        case measure => simp [intOf]; omega
      · obtain rfl : k = l.length := by omega
        have HV : Hid (PoolsPost w 2 l (.returned (.tuple #[.pointer (some ⟨g, 0, none⟩), .pointer (some ⟨m, 0, none⟩)])) wr) := ⟨g, m, rfl, HB.out⟩
        clear hlt HB
        go_wp2_with fail
        go_ret2
        exact HV.out
end Go.Proofs.YtpmfmkpfjomgnaaGreatDoor

/- Named, Package, Text. -/
namespace Go.Proofs.YtpmfmkpfjomgnaaGreatDoor
set_option linter.unusedSimpArgs false
set_option linter.unusedVariables false
open Go.RowKit

section
variable {w : World} {base g : Nat} {O S T : Nat → Prop} {kind : Int} {reps : List Rep} {ks : List Kep}
set_option maxHeartbeats 1000000 in
set_option maxRecDepth 100000 in
theorem named_any (h : PoolAt w base g O S T kind reps ks) (name : ByteArray) (hs : name.size ≤ maxLen) (hn : ks.length ≤ 1000000) :
    Calls Tryz.prog 22 #[.pointer (some ⟨g, 0, none⟩), .string name] w (NumsNew w (idxF name 0 ks)) := by
  obtain ⟨vr, vp, bm, f, h⟩ := h
  have k3 := h.blk.cell 3
  simp at k3
  have hlk := h.map.look Tryz.underlying80 (zero_ints w) hs
  have C := Lib.hid (cloneInts_any (h.map.rows name) (Nat.le_trans (idxF_len _ _ _) hn))
  obtain ⟨A, c, hf, _, _⟩ := own_form' (h.map.rows name)
  rw [hf] at hlk C
  clear h hs hn hf
  go_enter Tryz.func22, Tryz.ntmps22
  go_wp2_with fail
  refine C.out.mono ?_
  rintro e w1 ⟨hb, v', rfl, hN⟩
  have HP : Hid (NumsNew w (idxF name 0 ks) (.returned v') w1) := ⟨hb, v', rfl, hN⟩
  clear hb hN C
  go_wp2_with fail
  go_ret
  exact HP.out
end
theorem results_c2 {fn : Func} {t u v : Tmp} {e : TypeId} (h : fn.results = #[.cell t e, .tmp u, .tmp v]) (tmps : Array Value) {P : Program} {w : World} {ad : Addr} {x : Value} (hp : tmps[t]?.getD undef = .pointer (some ad)) (hl : (loadVar e ad).run P w = .ok x w) :
    (results fn tmps).run P w = .ok (.tuple #[x, tmps.getD u undef, tmps.getD v undef]) w := by
  simp [results, h, hp, asAddr, hl]
set_option maxRecDepth 100000 in
theorem load12 {w : World} {g : Nat} {x0 x1 x2 x3 x4 x5 x6 x7 x8 x9 x10 x11 : Value} (h : Blk w g 44 #[x0, x1, x2, x3, x4, x5, x6, x7, x8, x9, x10, x11]) : (loadVar 44 ⟨g, 0, none⟩).run Tryz.prog w = .ok (.agg #[x0, x1, x2, x3, x4, x5, x6, x7, x8, x9, x10, x11]) w := by
  have b0 := h.cell 0
  have b1 := h.cell 1
  have b2 := h.cell 2
  have b3 := h.cell 3
  have b4 := h.cell 4
  have b5 := h.cell 5
  have b6 := h.cell 6
  have b7 := h.cell 7
  have b8 := h.cell 8
  have b9 := h.cell 9
  have b10 := h.cell 10
  have b11 := h.cell 11
  simp at b0 b1 b2 b3 b4 b5 b6 b7 b8 b9 b10 b11
  clear h
  go_simp
/-- The twelve stores of a whole package. -/
def put12 (w : World) (g : Nat) (x0 x1 x2 x3 x4 x5 x6 x7 x8 x9 x10 x11 : Value) : World := ((((((((((((w.setCell ⟨g, 0, none⟩ x0).setCell ⟨g, 1, none⟩ x1).setCell ⟨g, 2, none⟩ x2).setCell ⟨g, 3, none⟩ x3).setCell ⟨g, 4, none⟩ x4).setCell ⟨g, 5, none⟩ x5).setCell ⟨g, 6, none⟩ x6).setCell ⟨g, 7, none⟩ x7).setCell ⟨g, 8, none⟩ x8).setCell ⟨g, 9, none⟩ x9).setCell ⟨g, 10, none⟩ x10).setCell ⟨g, 11, none⟩ x11)
theorem put12_turned (w : World) (g : Nat) (x0 x1 x2 x3 x4 x5 x6 x7 x8 x9 x10 x11 : Value) : Turned [g] w (put12 w g x0 x1 x2 x3 x4 x5 x6 x7 x8 x9 x10 x11) := (((((((((((((Turned.refl _ _).setCell (.inl (by simp)) _).setCell (.inl (by simp)) _).setCell (.inl (by simp)) _).setCell (.inl (by simp)) _).setCell (.inl (by simp)) _).setCell (.inl (by simp)) _).setCell (.inl (by simp)) _).setCell (.inl (by simp)) _).setCell (.inl (by simp)) _).setCell (.inl (by simp)) _).setCell (.inl (by simp)) _).setCell (.inl (by simp)) _)
set_option maxRecDepth 100000 in
theorem put12_blk {w : World} {g : Nat} {t : TypeId} {y0 y1 y2 y3 y4 y5 y6 y7 y8 y9 y10 y11 : Value} (h : Blk w g t #[y0, y1, y2, y3, y4, y5, y6, y7, y8, y9, y10, y11]) (x0 x1 x2 x3 x4 x5 x6 x7 x8 x9 x10 x11 : Value) : Blk (put12 w g x0 x1 x2 x3 x4 x5 x6 x7 x8 x9 x10 x11) g t #[x0, x1, x2, x3, x4, x5, x6, x7, x8, x9, x10, x11] := by
  have h' := ((((((((((((h.set_ 0 x0).set_ 1 x1).set_ 2 x2).set_ 3 x3).set_ 4 x4).set_ 5 x5).set_ 6 x6).set_ 7 x7).set_ 8 x8).set_ 9 x9).set_ 10 x10).set_ 11 x11)
  simp only [List.setIfInBounds_toArray, List.set_cons_zero, List.set_cons_succ] at h'
  exact h'
def zrP : Array Value := #[.string ⟨#[]⟩, .string ⟨#[]⟩, .string ⟨#[]⟩, .string ⟨#[]⟩, .slice none 0 0, .slice none 0 0, .slice none 0 0, .slice none 0 0, .slice none 0 0, .slice none 0 0, .slice none 0 0, .slice none 0 0]
/-- What Package answers of a package that there is. -/
def PkgTold (w : World) (p : Pkg) (rep : Nat) (e : Ending) (w' : World) : Prop :=
  Below w.heap.size w w' ∧ ∃ ss fs S T, e = .returned (.tuple #[.agg (rowP p ss fs), .int .i64 (rep : Int), .int .i64 0]) ∧ PkgAt w' S T p ss fs ∧ CleanS w' S ∧ CleanT w' T ∧ (∀ b, S b → w.heap.size ≤ b) ∧ ∀ b, T b → w.heap.size ≤ b
/-- .. and where there is none. -/
def PkgNone (w : World) (n : Int) (e : Ending) (w' : World) : Prop := Below w.heap.size w w' ∧ e = .returned (.tuple #[.agg zrP, .int .i64 0, .int .i64 n])
set_option maxHeartbeats 1000000 in
set_option maxRecDepth 100000 in
theorem package_nil (id : Int) (w : World) : Calls Tryz.prog 24 #[.pointer none, .int .i64 id] w (PkgNone w 1) := by
  have HL : Hid _ := load12 (Blk.new w 44 zrP)
  have HP : Hid (PkgNone w 1 (.returned (.tuple #[.agg zrP, .int .i64 0, .int .i64 1])) (w.alloc (.cells zrP 44))) := ⟨(Below.refl _ _).alloc (Nat.le_refl _) _, rfl⟩
  unfold zrP at HL HP
  go_enter Tryz.func24, Tryz.ntmps24
  go_wp2_with fail
  refine bodyPost_ret (v := .tuple #[.agg #[.string ⟨#[]⟩, .string ⟨#[]⟩, .string ⟨#[]⟩, .string ⟨#[]⟩, .slice none 0 0, .slice none 0 0, .slice none 0 0, .slice none 0 0, .slice none 0 0, .slice none 0 0, .slice none 0 0, .slice none 0 0], .int .i64 0, .int .i64 1]) ?_ rfl HP.out
  refine (results_c2 (t := 4) (u := 5) (v := 6) (e := 44) rfl _ (ad := ⟨w.heap.size, 0, none⟩) rfl HL.out).trans ?_
  rfl
section
variable {w : World} {base g : Nat} {O S T : Nat → Prop} {kind : Int} {reps : List Rep} {ks : List Kep}
set_option maxHeartbeats 4000000 in
set_option maxRecDepth 100000 in
theorem package_any (h : PoolAt w base g O S T kind reps ks) (id : Nat) (k : Kep) (hk : ks[id]? = some k) (hsm : PkgSmall k.p) :
    Calls Tryz.prog 24 #[.pointer (some ⟨g, 0, none⟩), .int .i64 (id : Int)] w (PkgTold w k.p k.rep) := by
  obtain ⟨vr, vp, bm, f, h⟩ := h
  obtain ⟨w1, hw1⟩ : ∃ w1, w1 = w.alloc (.cells zrP 44) := ⟨_, rfl⟩
  have hb0 : Below w.heap.size w w1 := by rw [hw1]; exact (Below.refl _ _).alloc (Nat.le_refl _) _
  have h1 := h.below hb0
  have KZ : Blk w1 w.heap.size 44 zrP := by rw [hw1]; exact Blk.new _ _ _
  have hlt : id < ks.length := (List.getElem?_eq_some_iff.1 hk).1
  have hP := h1.lays k (List.mem_of_getElem? hk)
  have CK := Lib.hid (kept_any k.p k.ss k.fs (k.rep : Int) S T w1 hP hsm)
  have k2 := h1.blk.cell 2
  obtain ⟨A, c, rfl, hc1, hc2⟩ := own_form' h1.pack
  simp at k2
  have hcell : ∀ j, j < 13 → ∃ b, A = some ⟨b, 0, none⟩ ∧ ∀ u, (rowK k.p k.ss k.fs (k.rep : Int))[j]? = some u → w1.cell? ⟨b, id * 13 + j, none⟩ = some u := fun j hj => by
    have hx := cells13_at hk hj
    obtain ⟨u, hu⟩ : ∃ u, (rowK k.p k.ss k.fs (k.rep : Int))[j]? = some u := ⟨_, Array.getElem?_eq_getElem (by simpa [rowK] using hj)⟩
    obtain ⟨b, e, hc⟩ := own_ats h1.pack (hx.trans hu)
    exact ⟨b, e, fun v hv => by rw [hu] at hv; injection hv with hv; subst hv; exact hc⟩
  obtain ⟨b, rfl, _⟩ := hcell 0 (by omega)
  have hq : ∀ j u, j < 13 → (rowK k.p k.ss k.fs (k.rep : Int))[j]? = some u → w1.cell? ⟨b, id * 13 + j, none⟩ = some u := fun j u hj hu => by
    obtain ⟨b', e, hc⟩ := hcell j hj
    injection e with e
    injection e with e
    subst e
    exact hc u hu
  obtain ⟨B0, m0, s0, -⟩ := hP.lists 0 (by omega)
  obtain ⟨B1, m1, s1, -⟩ := hP.lists 1 (by omega)
  obtain ⟨B2, m2, s2, -⟩ := hP.lists 2 (by omega)
  obtain ⟨B3, m3, s3, -⟩ := hP.lists 3 (by omega)
  obtain ⟨B4, m4, s4, -⟩ := hP.lists 4 (by omega)
  obtain ⟨B5, m5, s5, -⟩ := hP.lists 5 (by omega)
  obtain ⟨B6, m6, s6, -⟩ := hP.lists 6 (by omega)
  obtain ⟨B7, m7, s7, -⟩ := hP.files
  have q0 : w1.cell? ⟨b, id * 13, none⟩ = some (.string k.p.name) := hq 0 _ (by omega) rfl
  have q1 : w1.cell? ⟨b, id * 13 + 1, none⟩ = some (.string k.p.evr) := hq 1 _ (by omega) rfl
  have q2 : w1.cell? ⟨b, id * 13 + 2, none⟩ = some (.string k.p.arch) := hq 2 _ (by omega) rfl
  have q3 : w1.cell? ⟨b, id * 13 + 3, none⟩ = some (.string k.p.vendor) := hq 3 _ (by omega) rfl
  have q4 : w1.cell? ⟨b, id * 13 + 4, none⟩ = some (k.ss 0) := hq 4 _ (by omega) rfl
  have q5 : w1.cell? ⟨b, id * 13 + 5, none⟩ = some (k.ss 1) := hq 5 _ (by omega) rfl
  have q6 : w1.cell? ⟨b, id * 13 + 6, none⟩ = some (k.ss 2) := hq 6 _ (by omega) rfl
  have q7 : w1.cell? ⟨b, id * 13 + 7, none⟩ = some (k.ss 3) := hq 7 _ (by omega) rfl
  have q8 : w1.cell? ⟨b, id * 13 + 8, none⟩ = some (k.ss 4) := hq 8 _ (by omega) rfl
  have q9 : w1.cell? ⟨b, id * 13 + 9, none⟩ = some (k.ss 5) := hq 9 _ (by omega) rfl
  have q10 : w1.cell? ⟨b, id * 13 + 10, none⟩ = some (k.ss 6) := hq 10 _ (by omega) rfl
  have q11 : w1.cell? ⟨b, id * 13 + 11, none⟩ = some k.fs := hq 11 _ (by omega) rfl
  have q12 : w1.cell? ⟨b, id * 13 + 12, none⟩ = some (.int .i64 (k.rep : Int)) := hq 12 _ (by omega) rfl
  unfold rowK at CK
  rw [s0, s1, s2, s3, s4, s5, s6, s7] at CK
  rw [s0] at q4
  rw [s1] at q5
  rw [s2] at q6
  rw [s3] at q7
  rw [s4] at q8
  rw [s5] at q9
  rw [s6] at q10
  rw [s7] at q11
  have HKZ := Lib.hid KZ
  have HB0 := Lib.hid hb0
  have t1 : ¬ (id : Int) < 0 := by omega
  have t2 : ¬ (ks.length : Int) ≤ (id : Int) := by omega
  unfold maxLen at hc2
  rw [hw1] at CK k2 q0 q1 q2 q3 q4 q5 q6 q7 q8 q9 q10 q11 q12
  unfold zrP at CK k2 q0 q1 q2 q3 q4 q5 q6 q7 q8 q9 q10 q11 q12
  have HW := Lib.hid hw1
  clear hk hsm h h1 hb0 KZ hP hcell hq s0 s1 s2 s3 s4 s5 s6 s7 hw1
  go_enter Tryz.func24, Tryz.ntmps24
  go_wp2_with fail
  refine CK.out.mono ?_
  rintro e w2 ⟨hb2, ss', fs', S3, T3, rfl, hP3, hC3, hT3, hS3, hF3⟩
  obtain ⟨C0, n0, t0', -⟩ := hP3.lists 0 (by omega)
  obtain ⟨C1, n1, t1', -⟩ := hP3.lists 1 (by omega)
  obtain ⟨C2, n2, t2', -⟩ := hP3.lists 2 (by omega)
  obtain ⟨C3, n3, t3', -⟩ := hP3.lists 3 (by omega)
  obtain ⟨C4, n4, t4', -⟩ := hP3.lists 4 (by omega)
  obtain ⟨C5, n5, t5', -⟩ := hP3.lists 5 (by omega)
  obtain ⟨C6, n6, t6', -⟩ := hP3.lists 6 (by omega)
  obtain ⟨C7, n7, t7', -⟩ := hP3.files
  have HR3 : Hid (rowK k.p ss' fs' (k.rep : Int) = #[.string k.p.name, .string k.p.evr, .string k.p.arch, .string k.p.vendor, .slice C0 (k.p.ls 0).length n0, .slice C1 (k.p.ls 1).length n1, .slice C2 (k.p.ls 2).length n2, .slice C3 (k.p.ls 3).length n3, .slice C4 (k.p.ls 4).length n4, .slice C5 (k.p.ls 5).length n5, .slice C6 (k.p.ls 6).length n6, .slice C7 k.p.files.length n7, .int .i64 (k.rep : Int)]) := by
    show rowK _ _ _ _ = _
    unfold rowK
    rw [t0', t1', t2', t3', t4', t5', t6', t7']
  have HQ12 : Hid (rowP k.p ss' fs' = #[.string k.p.name, .string k.p.evr, .string k.p.arch, .string k.p.vendor, .slice C0 (k.p.ls 0).length n0, .slice C1 (k.p.ls 1).length n1, .slice C2 (k.p.ls 2).length n2, .slice C3 (k.p.ls 3).length n3, .slice C4 (k.p.ls 4).length n4, .slice C5 (k.p.ls 5).length n5, .slice C6 (k.p.ls 6).length n6, .slice C7 k.p.files.length n7]) := by
    show rowP _ _ _ = _
    unfold rowP
    rw [t0', t1', t2', t3', t4', t5', t6', t7']
  rw [HR3.out]
  clear t0' t1' t2' t3' t4' t5' t6' t7'
  have hb2' : Below w1.heap.size w1 w2 := by rw [HW.out]; exact hb2
  obtain ⟨wx, hwx⟩ : ∃ wx, wx = ((w2.alloc (.cells #[.string k.p.name, .string k.p.evr, .string k.p.arch, .string k.p.vendor, .slice C0 (k.p.ls 0).length n0, .slice C1 (k.p.ls 1).length n1, .slice C2 (k.p.ls 2).length n2, .slice C3 (k.p.ls 3).length n3, .slice C4 (k.p.ls 4).length n4, .slice C5 (k.p.ls 5).length n5, .slice C6 (k.p.ls 6).length n6, .slice C7 k.p.files.length n7, .int .i64 (k.rep : Int)] 86)).drew) := ⟨_, rfl⟩
  have hba : Below w2.heap.size w2 wx := by rw [hwx]; exact ((Below.refl _ _).alloc (Nat.le_refl _) _).drew
  have hzx : wx.heap.size = w2.heap.size + 1 := by rw [hwx]; simp
  have HWX := Lib.hid hwx
  have KZ3 := (HKZ.out.below hb2' HKZ.out.lt).below hba (HKZ.out.below hb2' HKZ.out.lt).lt
  have K7 : Blk wx w2.heap.size 86 #[.string k.p.name, .string k.p.evr, .string k.p.arch, .string k.p.vendor, .slice C0 (k.p.ls 0).length n0, .slice C1 (k.p.ls 1).length n1, .slice C2 (k.p.ls 2).length n2, .slice C3 (k.p.ls 3).length n3, .slice C4 (k.p.ls 4).length n4, .slice C5 (k.p.ls 5).length n5, .slice C6 (k.p.ls 6).length n6, .slice C7 k.p.files.length n7, .int .i64 (k.rep : Int)] := by rw [hwx]; exact Blk.drew (Blk.new _ _ _)
  have ht := put12_turned wx w.heap.size (.string k.p.name) (.string k.p.evr) (.string k.p.arch) (.string k.p.vendor) (.slice C0 (k.p.ls 0).length n0) (.slice C1 (k.p.ls 1).length n1) (.slice C2 (k.p.ls 2).length n2) (.slice C3 (k.p.ls 3).length n3) (.slice C4 (k.p.ls 4).length n4) (.slice C5 (k.p.ls 5).length n5) (.slice C6 (k.p.ls 6).length n6) (.slice C7 k.p.files.length n7)
  have hz1 : w1.heap.size = w.heap.size + 1 := by rw [HW.out]; simp
  have hz2 : w1.heap.size ≤ w2.heap.size := hb2'.size
  have hst : ∀ (U : Nat → Prop), (∀ b, U b → w.heap.size < b) → StayS U wx (put12 wx w.heap.size (.string k.p.name) (.string k.p.evr) (.string k.p.arch) (.string k.p.vendor) (.slice C0 (k.p.ls 0).length n0) (.slice C1 (k.p.ls 1).length n1) (.slice C2 (k.p.ls 2).length n2) (.slice C3 (k.p.ls 3).length n3) (.slice C4 (k.p.ls 4).length n4) (.slice C5 (k.p.ls 5).length n5) (.slice C6 (k.p.ls 6).length n6) (.slice C7 k.p.files.length n7)) := fun U hU => StayS.turned ht fun b hb hm => by have := hU b hb; simp at hm; omega
  have hS4 : ∀ b, S3 b → w.heap.size < b := fun b hb => by have h := hS3 b hb; rw [HW.out] at hz1; simp at h hz1; omega
  have hF4 : ∀ b, T3 b → w.heap.size < b := fun b hb => by have h := hF3 b hb; rw [HW.out] at hz1; simp at h hz1; omega
  have HKF : Hid (Blk (put12 wx w.heap.size (.string k.p.name) (.string k.p.evr) (.string k.p.arch) (.string k.p.vendor) (.slice C0 (k.p.ls 0).length n0) (.slice C1 (k.p.ls 1).length n1) (.slice C2 (k.p.ls 2).length n2) (.slice C3 (k.p.ls 3).length n3) (.slice C4 (k.p.ls 4).length n4) (.slice C5 (k.p.ls 5).length n5) (.slice C6 (k.p.ls 6).length n6) (.slice C7 k.p.files.length n7)) w2.heap.size 86 #[.string k.p.name, .string k.p.evr, .string k.p.arch, .string k.p.vendor, .slice C0 (k.p.ls 0).length n0, .slice C1 (k.p.ls 1).length n1, .slice C2 (k.p.ls 2).length n2, .slice C3 (k.p.ls 3).length n3, .slice C4 (k.p.ls 4).length n4, .slice C5 (k.p.ls 5).length n5, .slice C6 (k.p.ls 6).length n6, .slice C7 k.p.files.length n7, .int .i64 (k.rep : Int)]) := K7.turned ht (by simp; omega)
  have HL : Hid _ := load12 (put12_blk KZ3 (.string k.p.name) (.string k.p.evr) (.string k.p.arch) (.string k.p.vendor) (.slice C0 (k.p.ls 0).length n0) (.slice C1 (k.p.ls 1).length n1) (.slice C2 (k.p.ls 2).length n2) (.slice C3 (k.p.ls 3).length n3) (.slice C4 (k.p.ls 4).length n4) (.slice C5 (k.p.ls 5).length n5) (.slice C6 (k.p.ls 6).length n6) (.slice C7 k.p.files.length n7))
  have HP : Hid (PkgTold w k.p k.rep (.returned (.tuple #[.agg (rowP k.p ss' fs'), .int .i64 (k.rep : Int), .int .i64 0])) (put12 wx w.heap.size (.string k.p.name) (.string k.p.evr) (.string k.p.arch) (.string k.p.vendor) (.slice C0 (k.p.ls 0).length n0) (.slice C1 (k.p.ls 1).length n1) (.slice C2 (k.p.ls 2).length n2) (.slice C3 (k.p.ls 3).length n3) (.slice C4 (k.p.ls 4).length n4) (.slice C5 (k.p.ls 5).length n5) (.slice C6 (k.p.ls 6).length n6) (.slice C7 k.p.files.length n7))) :=
    ⟨((HB0.out.trans (hb2'.mono HB0.out.size)).trans (hba.mono (by omega))).trans (ht.below (fun q hq => by simp at hq; omega) (by omega)), ss', fs', S3, T3, rfl, ((hP3.below hba).stay (fun _ h => h) (fun _ h => h) (hst S3 hS4) (hst T3 hF4)), ((hC3.stay (StayS.below' hba)).stay (hst S3 hS4)), ((hT3.stay (StayS.below' hba)).stay (hst T3 hF4)), fun b hb => by have := hS4 b hb; omega, fun b hb => by have := hF4 b hb; omega⟩
  rw [HQ12.out] at HP
  unfold zrP at KZ3
  have z0 := KZ3.cell 0
  have f0 := KZ3.free 0
  have z1 := KZ3.cell 1
  have f1 := KZ3.free 1
  have z2 := KZ3.cell 2
  have f2 := KZ3.free 2
  have z3 := KZ3.cell 3
  have f3 := KZ3.free 3
  have z4 := KZ3.cell 4
  have f4 := KZ3.free 4
  have z5 := KZ3.cell 5
  have f5 := KZ3.free 5
  have z6 := KZ3.cell 6
  have f6 := KZ3.free 6
  have z7 := KZ3.cell 7
  have f7 := KZ3.free 7
  have z8 := KZ3.cell 8
  have f8 := KZ3.free 8
  have z9 := KZ3.cell 9
  have f9 := KZ3.free 9
  have z10 := KZ3.cell 10
  have f10 := KZ3.free 10
  have z11 := KZ3.cell 11
  have f11 := KZ3.free 11
  simp at z0 z1 z2 z3 z4 z5 z6 z7 z8 z9 z10 z11
  clear hwx hzx hP3 hC3 hT3 hS3 hF3 hb2 hb2' hba KZ3 ht hz1 hz2 hst hS4 hF4 CK HKZ HB0 HW HR3 HQ12
  unfold put12 at HP HL HKF
  go_upto_region 6 with fail
  rename_i K hK
  refine wp_region_S (fun _ w' => Blk w' w2.heap.size 86 #[.string k.p.name, .string k.p.evr, .string k.p.arch, .string k.p.vendor, .slice C0 (k.p.ls 0).length n0, .slice C1 (k.p.ls 1).length n1, .slice C2 (k.p.ls 2).length n2, .slice C3 (k.p.ls 3).length n3, .slice C4 (k.p.ls 4).length n4, .slice C5 (k.p.ls 5).length n5, .slice C6 (k.p.ls 6).length n6, .slice C7 k.p.files.length n7, .int .i64 (k.rep : Int)]) (by kernel_rfl) (by rw [← HWX.out]; exact K7) (fun hS => ?_)
  rw [← HWX.out] at hS ⊢
  refine wpAnyS_take (i := 0) (fun w' => True) (v := .pointer (some ⟨w2.heap.size, 0, none⟩)) rfl (by kernel_rfl) (by kernel_rfl) (by kernel_rfl) (fun _ _ _ h => h) (fun _ _ _ _ => trivial) (fun _ _ => Iff.rfl) (by kernel_rfl) hS (fun w' hSw => ?_) (by rfl) (fun hS => ?_)
  · go_simp
  try simp only [List.getElem_toArray, List.getElem_cons_zero, List.getElem_cons_succ, Act.put, List.setIfInBounds_toArray, List.set_cons_zero, List.set_cons_succ]
  refine wpAnyS_take (i := 1) (fun w' => Blk w' w2.heap.size 86 #[.string k.p.name, .string k.p.evr, .string k.p.arch, .string k.p.vendor, .slice C0 (k.p.ls 0).length n0, .slice C1 (k.p.ls 1).length n1, .slice C2 (k.p.ls 2).length n2, .slice C3 (k.p.ls 3).length n3, .slice C4 (k.p.ls 4).length n4, .slice C5 (k.p.ls 5).length n5, .slice C6 (k.p.ls 6).length n6, .slice C7 k.p.files.length n7, .int .i64 (k.rep : Int)]) (v := .agg #[.string k.p.name, .string k.p.evr, .string k.p.arch, .string k.p.vendor, .slice C0 (k.p.ls 0).length n0, .slice C1 (k.p.ls 1).length n1, .slice C2 (k.p.ls 2).length n2, .slice C3 (k.p.ls 3).length n3, .slice C4 (k.p.ls 4).length n4, .slice C5 (k.p.ls 5).length n5, .slice C6 (k.p.ls 6).length n6, .slice C7 k.p.files.length n7]) rfl (by kernel_rfl) (by kernel_rfl) (by kernel_rfl) (fun _ _ _ h => h) (fun l w hw hS => hS) (fun _ _ => Iff.rfl) (by kernel_rfl) hS (fun w' hSw => ?_) (by rfl) (fun hS => ?_)
  · have q0 := hSw.cell 0
    have q1 := hSw.cell 1
    have q2 := hSw.cell 2
    have q3 := hSw.cell 3
    have q4 := hSw.cell 4
    have q5 := hSw.cell 5
    have q6 := hSw.cell 6
    have q7 := hSw.cell 7
    have q8 := hSw.cell 8
    have q9 := hSw.cell 9
    have q10 := hSw.cell 10
    have q11 := hSw.cell 11
    have q12 := hSw.cell 12
    simp at q0 q1 q2 q3 q4 q5 q6 q7 q8 q9 q10 q11 q12
    clear hSw
    go_simp
  try simp only [List.getElem_toArray, List.getElem_cons_zero, List.getElem_cons_succ, Act.put, List.setIfInBounds_toArray, List.set_cons_zero, List.set_cons_succ]
  refine wpAnyS_take (i := 2) (fun w' => True) (v := .pointer (some ⟨w2.heap.size, 12, none⟩)) rfl (by kernel_rfl) (by kernel_rfl) (by kernel_rfl) (fun _ _ _ h => h) (fun _ _ _ _ => trivial) (fun _ _ => Iff.rfl) (by kernel_rfl) hS (fun w' hSw => ?_) (by rfl) (fun hS => ?_)
  · go_simp
  try simp only [List.getElem_toArray, List.getElem_cons_zero, List.getElem_cons_succ, Act.put, List.setIfInBounds_toArray, List.set_cons_zero, List.set_cons_succ]
  refine wpAnyS_take (i := 3) (fun w' => w'.cell? ⟨w2.heap.size, 12, none⟩ = some (.int .i64 (k.rep : Int))) (v := .int .i64 (k.rep : Int)) rfl (by kernel_rfl) (by kernel_rfl) (by kernel_rfl) (fun _ _ _ h => h) (fun l w hw hS => hS.cell 12) (fun _ _ => Iff.rfl) (by kernel_rfl) hS (fun w' hSw => ?_) (by rfl) (fun hS => ?_)
  · go_simp
  try simp only [List.getElem_toArray, List.getElem_cons_zero, List.getElem_cons_succ, Act.put, List.setIfInBounds_toArray, List.set_cons_zero, List.set_cons_succ]
  refine wpAnyS_one (i := 4) (by kernel_rfl) rfl (fun K4 hK4 => ?_)
  go_simp
  refine hK4.out _ _ (HKF.out) (fun hS => ?_)
  clear hK4 K4 z0 z1 z2 z3 z4 z5 z6 z7 z8 z9 z10 z11 f0 f1 f2 f3 f4 f5 f6 f7 f8 f9 f10 f11
  try simp only [List.getElem_toArray, List.getElem_cons_zero, List.getElem_cons_succ, Act.put, List.setIfInBounds_toArray, List.set_cons_zero, List.set_cons_succ]
  refine wpAnyS_one (i := 5) (by kernel_rfl) rfl (fun K4 hK4 => ?_)
  go_simp
  refine hK4.out _ _ hS (fun hS => ?_)
  clear hK4 K4
  try simp only [List.getElem_toArray, List.getElem_cons_zero, List.getElem_cons_succ, Act.put, List.setIfInBounds_toArray, List.set_cons_zero, List.set_cons_succ]
  refine wpAnyS_one (i := 6) (by kernel_rfl) rfl (fun K4 hK4 => ?_)
  go_simp
  refine hK4.out _ _ hS (fun hS => ?_)
  clear hK4 K4
  try simp only [List.getElem_toArray, List.getElem_cons_zero, List.getElem_cons_succ, Act.put, List.setIfInBounds_toArray, List.set_cons_zero, List.set_cons_succ]
  refine wpAnyS_done (by kernel_rfl) ?_ _
  clear hS
  refine hK _ _ ?_
  clear hK K
  go_wp2_with fail
  refine bodyPost_ret (v := .tuple #[.agg #[.string k.p.name, .string k.p.evr, .string k.p.arch, .string k.p.vendor, .slice C0 (k.p.ls 0).length n0, .slice C1 (k.p.ls 1).length n1, .slice C2 (k.p.ls 2).length n2, .slice C3 (k.p.ls 3).length n3, .slice C4 (k.p.ls 4).length n4, .slice C5 (k.p.ls 5).length n5, .slice C6 (k.p.ls 6).length n6, .slice C7 k.p.files.length n7], .int .i64 (k.rep : Int), .int .i64 0]) ?_ rfl HP.out
  refine (results_c2 (t := 4) (u := 5) (v := 6) (e := 44) rfl _ (ad := ⟨w.heap.size, 0, none⟩) rfl HL.out).trans ?_
  rfl
end
set_option maxHeartbeats 1000000 in
set_option maxRecDepth 100000 in
theorem text_any (p : Pkg) (ss : Nat → Value) (fs : Value) (w : World) (hsm : p.name.size ≤ 281474976710656 ∧ p.evr.size ≤ 281474976710656 ∧ p.arch.size ≤ 281474976710656) :
    Calls Tryz.prog 43 #[.agg (rowP p ss fs)] w fun e w' => e = .returned (.string ((((p.name ++ ⟨#[45]⟩) ++ p.evr) ++ ⟨#[46]⟩) ++ p.arch)) ∧ Below w.heap.size w w' := by
  have HB : Hid (Below w.heap.size w (w.alloc (.cells (rowP p ss fs) 44))) := (Below.refl _ _).alloc (Nat.le_refl _) _
  obtain ⟨h1, h2, h3⟩ := hsm
  have z1 : ¬ 9223372036854775807 < p.name.size + 1 := by omega
  have z2 : ¬ 9223372036854775807 < p.name.size + 1 + p.evr.size := by omega
  have z3 : ¬ 9223372036854775807 < p.name.size + 1 + p.evr.size + 1 := by omega
  have z4 : ¬ 9223372036854775807 < p.name.size + 1 + p.evr.size + 1 + p.arch.size := by omega
  unfold rowP at HB ⊢
  go_enter Tryz.func43, Tryz.ntmps43
  go_wp2_with fail
  go_ret
  exact ⟨rfl, HB.out⟩
end Go.Proofs.YtpmfmkpfjomgnaaGreatDoor

/- What the rows list of the two tables, as blocks. -/
namespace Go.Proofs.YtpmfmkpfjomgnaaGreatDoor
set_option linter.unusedSimpArgs false
set_option linter.unusedVariables false
open Go.RowKit

def strData {H : Type} (l : List (List UInt8)) : DataW H := .agg (l.map fun s => .lit (.string s))
/-- An array of texts that reads as these holds these. -/
theorem cells_of_strs {H : Type} {enc : TypeId × Value → H} {P : Program} {w : World} {base : Nat} {sp : Nat → Bool} {held : Bool} {fuel : Nat} {t e : TypeId} {n : Nat} {cs : List Value} {l : List (List UInt8)} {p : List MemPlace}
    (ht : P.underlying t = some (.array n e)) (he : P.underlying e = some .string) (hce : P.cellsOf e = 1) (hct : P.cellsOf t = n)
    (h : DataW.trod enc P w base sp held fuel t cs = some (strData l, p)) : cs = l.map fun s => Value.string (mkS s) := by
  obtain ⟨xs, m, _, hx, hl, hxl, hi⟩ := DataW.trod_array ht h
  have hxs : (l.map fun s => (DataW.lit (.string s) : DataW H)) = xs.map (·.1) := by
    have := congrArg Prod.fst hx
    simpa [strData] using this
  have hll : l.length = n := by
    have := congrArg List.length hxs
    simp at this
    omega
  rw [hct] at hl
  apply List.ext_getElem?
  intro i
  by_cases hlt : i < n
  · have hxi : xs[i]? = some (xs[i]'(by omega)) := List.getElem?_eq_getElem (by omega)
    have h1 := hi i hlt
    rw [hce, Nat.mul_one, hxi] at h1
    obtain ⟨s, hc, hxe, _⟩ := DataW.trod_string he h1
    have h2 : cs[i]? = some (.string s) := by
      have := congrArg (·[0]?) hc
      simpa [List.getElem?_take, List.getElem?_drop] using this
    have h3 : (xs.map (·.1))[i]? = some (DataW.lit (.string s.data.toList) : DataW H) := by rw [List.getElem?_map, hxi, hxe]; rfl
    rw [← hxs, List.getElem?_map, List.getElem?_eq_getElem (by omega)] at h3
    simp only [Option.map_some, Option.some.injEq, DataW.lit.injEq, Lit.string.injEq] at h3
    rw [h2, List.getElem?_map, List.getElem?_eq_getElem (by omega)]
    simp only [Option.map_some, Option.some.injEq, Value.string.injEq]
    rw [h3]
    rfl
  · rw [List.getElem?_eq_none (by omega), List.getElem?_eq_none (by simp; omega)]
theorem laidVars_mem {P : Program} {w : World} : ∀ (laid : List (String × DataW Unit)) (ps : List MemPlace), DataW.LaidVars P w laid ps → ∀ n d, (n, d) ∈ laid →
    ∃ g t cs fuel p, P.globalNamed n = some g ∧ (P.globals[g]?).map (·.type) = some t ∧ w.var? P n = some cs ∧ DataW.trod (fun _ => ()) P w 0 (fun _ => true) false fuel t cs.toList = some (d, p) ∧ ∀ x ∈ MemPlace.row ⟨g, 0, none⟩ cs.size, x ∈ ps
  | [], ps, h, n, d, hm => by cases hm
  | (n0, d0) :: r, ps, h, n, d, hm => by
    obtain ⟨g, t, cs, fuel, p, q, h1, h2, h3, h4, h5, rfl⟩ := h
    rcases List.mem_cons.1 hm with he | hm
    · injection he with e1 e2
      subst e1
      subst e2
      exact ⟨g, t, cs, fuel, p, h1, h2, h3, h4, fun x hx => by simp [hx]⟩
    · obtain ⟨g', t', cs', fuel', p', k1, k2, k3, k4, k5⟩ := laidVars_mem r q h5 n d hm
      exact ⟨g', t', cs', fuel', p', k1, k2, k3, k4, fun x hx => by simp [k5 x hx]⟩
theorem tab_blk {P : Program} {w : World} {laid : List (String × DataW Unit)} (h : laidMet P laid w) {name : String} {l : List (List UInt8)} (hm : (name, strData l) ∈ laid) {g : Nat} {t e : TypeId} {n : Nat}
    (hg : P.globalNamed name = some g) (hty : (P.globals[g]?).map (·.type) = some t) (ht : P.underlying t = some (.array n e)) (he : P.underlying e = some .string) (hce : P.cellsOf e = 1) (hct : P.cellsOf t = n) (hn : 0 < l.length) :
    ∃ t', Blk w g t' (l.map fun s => Value.string (mkS s)).toArray := by
  obtain ⟨ps, hv, _, hfz⟩ := h
  obtain ⟨g', t', cs, fuel, p, hg', hty', hvar, hd, hps⟩ := laidVars_mem laid ps hv name _ hm
  obtain rfl := Option.some.inj (hg.symm.trans hg')
  obtain rfl := Option.some.inj (hty.symm.trans hty')
  have hcs := cells_of_strs ht he hce hct hd
  have hsz : cs.size = l.length := by rw [← Array.length_toList, hcs, List.length_map]
  obtain ⟨⟨c, tc, hb⟩, _⟩ := hfz g 0 (hps _ (by unfold MemPlace.row; simp; omega))
  have hc : c = cs := by
    unfold World.var? at hvar
    rw [hg] at hvar
    simp [hb] at hvar
    exact hvar
  have he2 : cs = (l.map fun s => Value.string (mkS s)).toArray := by rw [← hcs]
  exact ⟨tc, by rw [← he2, ← hc]; exact hb⟩
def signL : List Wd := [[], [60], [61], [60, 61], [62], [60, 62], [62, 61], [60, 61, 62]]
def wordL : List Wd := [[], [], wAnd, wOr, wIf, wWith, wWithout, []]
theorem tabs_of {W : World} {laid : List (String × DataW Unit)} (h : laidMet Tryz.prog laid W) (h1 : ("chandler/dep.signs", Rows.laid_chandler_dep_signs) ∈ laid) (h2 : ("chandler/dep.words", Rows.laid_chandler_dep_words) ∈ laid) : Tabs W := by
  have e1 : (Rows.laid_chandler_dep_signs : DataW Unit) = strData signL := by kernel_rfl
  have e2 : (Rows.laid_chandler_dep_words : DataW Unit) = strData wordL := by kernel_rfl
  rw [e1] at h1
  rw [e2] at h2
  obtain ⟨t1, b1⟩ := tab_blk (g := 1) (t := 172) (e := 9) (n := 8) h h1 (by kernel_rfl) (by kernel_rfl) Tryz.underlying172 Tryz.underlying9 (by kernel_rfl) (by kernel_rfl) (by decide)
  obtain ⟨t2, b2⟩ := tab_blk (g := 0) (t := 172) (e := 9) (n := 8) h h2 (by kernel_rfl) (by kernel_rfl) Tryz.underlying172 Tryz.underlying9 (by kernel_rfl) (by kernel_rfl) (by decide)
  exact ⟨⟨t2, b2⟩, t1, b1⟩
end Go.Proofs.YtpmfmkpfjomgnaaGreatDoor
