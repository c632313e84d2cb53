/- Both pools of a list of repositories, with each package's repository. awake of the layer pool answers true. The pool of awake, as bytes. awake of the layer cache answers true. CacheNames and CacheNil: the walks of the laws. A world in which Go's own table unicode/utf8.first lies, beside the tables that the program's text lays: the witness of these rows. -/
import Derived.Test.YtpmfmkpfjomgnaaGreatDoorZcf
import Derived.Test.YtpmfmkpfjomgnaaGreatDoorZap
import Derived.Test.YtpmfmkpfjomgnaaGreatDoorRows
import Derived.LaidMore
/- Both pools of a list of repositories, with each package's repository. -/
namespace Go.Proofs.YtpmfmkpfjomgnaaGreatDoor
set_option linter.unusedSimpArgs false
set_option linter.unusedVariables false
open Go.RowKit

/-- The packages of the first k repositories, and where they are from. -/
def pairsN (l : List RepE) : Nat → List (Pkg × Nat)
  | 0 => []
  | k + 1 => pairsN l k ++ ((l[k]?.map fun e => e.ps.map PkE.p).getD []).map fun p => (p, k)
def BothAt3 (w wx : World) (g m : Nat) (kind : Int) (l : List RepE) (k : Nat) : Prop := ∃ O S T RO ks rs na, Both2 w wx g m kind l k O S T RO ks rs na ∧ ks.map kp = pairsN l k
def PoolsPost3 (w : World) (kind : Int) (l : List RepE) (e : Ending) (w' : World) : Prop :=
  ∃ g m, e = .returned (.tuple #[.pointer (some ⟨g, 0, none⟩), .pointer (some ⟨m, 0, none⟩)]) ∧ BothAt3 w w' g m kind l l.length
/-- One repository more is in both. -/
theorem Both2.next3 {w wx w2 w3 : World} {g m k : Nat} {kind : Int} {l : List RepE} {e : RepE} {O S T RO : Nat → Prop} {ks : List Kep} {rs : List RRow} {na : List (Nat × Nat)} {pk : Value} {ea eb : Ending}
    (h : Both2 w wx g m kind l k O S T RO ks rs na) (hpr : ks.map kp = pairsN l k) (he : l[k]? = some e) (hg : GoodRepos l)
    (h2 : Added QC wx w.heap.size g O S T kind ((l.take k).map RepE.rep) ks e.rep.name e.rep.prio e.rep.inst (e.ps.map PkE.p) ea w2)
    (h3 : RAdded w2 w.heap.size m RO kind rs na e.rep.name e.rep.prio e.rep.inst pk (e.ps.map PkE.p) eb w3) :
    ea = .returned (.int .i64 0) ∧ eb = .returned (.int .i64 0) ∧ Below w.heap.size w w2 ∧ Below w.heap.size w w3 ∧ BothAt3 w w3 g m kind l (k + 1) := by
  obtain ⟨n, hn, rfl, ht, -, hok⟩ := h2
  obtain ⟨rfl, ht3, -, hok3⟩ := h3
  have hm := List.mem_of_getElem? he
  have hnk : ks.length = (pksOf (l.take k)).length := by rw [← h.pkgs]; simp
  have hh := hg.head k e he
  obtain rfl : n = 0 := by
    rcases hn with ⟨h0, _⟩ | ⟨_, ⟨h0, _⟩ | ⟨h0, i, p, hp, hc, _⟩⟩
    · rw [hnk, List.length_map] at h0; exact absurd hh h0
    · exact h0
    · have := List.mem_of_getElem? hp
      obtain ⟨x, hx, rfl⟩ := List.mem_map.1 this
      exact (hg.chk e hm x hx).2 n hc
  have hz : refAddN rs na.length e.rep.name e.rep.inst (e.ps.map PkE.p) = 0 := by
    rw [refAdd_rest (by rw [h.reps, h.nums, hnk, List.length_map]; exact hh)]
    exact badN_ok _ fun q hq => by
      obtain ⟨x, hx, rfl⟩ := List.mem_map.1 hq
      exact (hg.chk e hm x hx).1
  rw [hz] at hok3 ⊢
  obtain ⟨O', S', T', new, hP, hnew, hrep, hO', hS', hT'⟩ := hok rfl
  obtain ⟨RO', hR, hRO'⟩ := hok3 rfl
  have hlt : ∀ j, RO j → j < wx.heap.size := fun j hj => (h.ref.lt hj).2
  have hs2 : wx.heap.size ≤ w2.heap.size := ht.size
  have hap : ∀ j, RO j → ¬ O' j ∧ ¬ S' j ∧ ¬ T' j := fun j hj => by
    obtain ⟨a1, a2, a3⟩ := h.apart j hj
    have := hlt j hj
    refine ⟨fun h => ?_, fun h => ?_, fun h => ?_⟩
    · rcases hO' j h with h | h
      · exact a1 h
      · omega
    · rcases hS' j h with h | h
      · exact a2 h
      · omega
    · rcases hT' j h with h | h
      · exact a3 h
      · omega
  have hb2 : Below w.heap.size w w2 := h.below.trans (ht.below (fun j _ hj => h.pool.ge hj) h.below.size)
  have hR2 : ∀ j, RO j → w.heap.size ≤ j := fun j hj => (h.ref.lt hj).1
  have hb3 : Below w.heap.size w w3 := hb2.trans (ht3.below (fun j _ hj => hR2 j hj) hb2.size)
  refine ⟨rfl, rfl, hb2, hb3, O', S', T', RO', ks ++ new, _, _, ⟨?_, ?_, hR, ?_, ?_, fun j hj => ?_, hb3⟩, ?_⟩
  · rw [List.take_add_one, he, List.map_append]
    exact hP.turned ht3 hap
  · rw [pksOf_take he, List.map_append, h.pkgs, hnew]
  · rw [List.take_add_one, he, List.map_append, List.map_append, h.reps]; rfl
  · have : new.length = e.ps.length := by have := congrArg List.length hnew; simpa using this
    simp [h.nums, this]
  · rcases hRO' j hj with h1 | h1
    · exact hap j h1
    · have hl := fun (x : O' j ∨ S' j ∨ T' j) => hP.lt x
      exact ⟨fun h => by have := hl (.inl h); omega, fun h => by have := hl (.inr (.inl h)); omega, fun h => by have := hl (.inr (.inr h)); omega⟩
  · have hkl : k < l.length := (List.getElem?_eq_some_iff.1 he).1
    have hlen : ((l.take k).map RepE.rep).length = k := by rw [List.length_map, List.length_take]; omega
    show (ks ++ new).map kp = pairsN l k ++ ((l[k]?.map fun e => e.ps.map PkE.p).getD []).map fun p => (p, k)
    rw [List.map_append, hpr, he]
    congr 1
    show new.map kp = (e.ps.map PkE.p).map fun p => (p, k)
    rw [← hnew, List.map_map]
    refine List.map_congr_left fun x hx => ?_
    show (x.p, x.rep) = (x.p, k)
    rw [hrep x hx, hlen]
set_option maxHeartbeats 8000000 in
set_option maxRecDepth 100000 in
theorem pools3_any (l : List RepE) (hg : GoodRepos l) (A : Option Addr) (c : Nat) (V S0 T0 U0 : Nat → Prop) (w : World) (hA : ReposAt w V S0 T0 U0 l A) (hc : l.length ≤ c ∧ c ≤ maxLen) (hCl : CleanS w S0)
    (hlt : ∀ b, S0 b ∨ T0 b ∨ U0 b → b < w.heap.size) (hT : Tabs w) :
    Calls Tryz.prog 32 #[.int .i64 1, .slice A l.length c] w (PoolsPost3 w 1 l) := by
  obtain ⟨hc1, hc2⟩ := hc
  unfold maxLen at hc2
  have CN := Lib.hid (new_any 1 (.inl rfl) w)
  have CM := Lib.hid (fun w => refNew_any 1 (.inl rfl) w)
  have HG := Lib.hid hg
  have HA := Lib.hid (And.intro hA (And.intro hCl (And.intro hlt hT)))
  clear hg hA hCl hlt hT
  go_enter Tryz.func32, Tryz.ntmps32
  go_wp2_with fail
  refine CN.out.mono ?_
  rintro e w1 ⟨hb1, g, O, rfl, hP1⟩
  have HP1 := Lib.hid (And.intro hb1 hP1)
  clear hb1 hP1 CN
  go_wp2_with fail
  refine (CM.out _).mono ?_
  rintro e w2 ⟨hb2, m, RO, rfl, hR2⟩
  have H0 : Hid (BothAt3 w w2 g m 1 l 0) := by
    have hb01 := HP1.out.1
    have hb02 := hb01.trans (hb2.mono hb01.size)
    refine ⟨O, fun _ => False, fun _ => False, RO, [], [], [], ⟨HP1.out.2.below hb2, rfl, hR2.base hb01.size, rfl, rfl, fun j hj => ⟨fun h => ?_, fun h => h, fun h => h⟩, hb02⟩, rfl⟩
    have h1 := (hR2.lt hj).1
    have h2 := HP1.out.2.lt (.inl h)
    omega
  clear hb2 hR2 CM HP1
  go_wp2_with fail
  go_loopw [10] (fun v wx => ∃ k : Nat, k ≤ l.length ∧ v = .int .i64 (k : Int) ∧ Hid (BothAt3 w wx g m 1 l k)) (fun v _ => l.length - (intOf v).toNat)
  case atStart => exact ⟨0, Nat.zero_le _, rfl, H0⟩
  case round =>
    clear H0
    obtain ⟨k, hk, rfl, HB⟩ := hrel
    by_cases hlt : k < l.length
    · obtain ⟨e, he⟩ : ∃ e, l[k]? = some e := ⟨_, List.getElem?_eq_getElem hlt⟩
      obtain ⟨O1, S1, T1, RO1, ks, rs, na, hBo, hpr⟩ := HB.out
      have HPr := Lib.hid hpr
      clear hpr
      have HS := Lib.hid (hBo.later ((Below.refl wr.heap.size wr).drew))
      have HE := Lib.hid he
      obtain ⟨hA0, hCl, hlt0, hT⟩ := HA.out
      obtain ⟨b, o, Ap, cp, rfl, hV, z0, z1, z2, z3, hp1, hp2, hPk⟩ := hA0 k e he
      have hall : ∀ wx, Below w.heap.size w wx → wx.cell? ⟨b, o + k * 4, none⟩ = some (.string e.rep.name) ∧ wx.cell? ⟨b, o + k * 4 + 1, none⟩ = some (.int .i64 e.rep.prio) ∧ wx.cell? ⟨b, o + k * 4 + 2, none⟩ = some (.bool e.rep.inst) ∧ wx.cell? ⟨b, o + k * 4 + 3, none⟩ = some (.slice Ap e.ps.length cp) ∧ PacksAt wx S0 T0 U0 e.ps Ap := fun wx hbx => by
        have hbl := hbx.block b (cell_lt z0)
        exact ⟨(World.cell?_of_block hbl).trans z0, (World.cell?_of_block hbl).trans z1, (World.cell?_of_block hbl).trans z2, (World.cell?_of_block hbl).trans z3, hPk.below hbx⟩
      have hhd := HG.out.head k e he
      have hmm := List.mem_of_getElem? he
      obtain ⟨hh1, hh2⟩ := addHead_ok hhd
      have hks : ks.length = (pksOf (l.take k)).length := by rw [← hBo.pkgs]; simp
      have CP : Hid (Calls Tryz.prog 17 #[.pointer (some ⟨g, 0, none⟩), .agg #[.string e.rep.name, .int .i64 e.rep.prio, .bool e.rep.inst, .slice Ap e.ps.length cp]] wr.drew (Added QC wr.drew w.heap.size g O1 S1 T1 1 ((l.take k).map RepE.rep) ks e.rep.name e.rep.prio e.rep.inst (e.ps.map PkE.p))) := by
        obtain ⟨vr, vp, bm, f, hS⟩ := HS.out.pool
        have hbd := HS.out.below
        exact add_any QC hS e.rep.name e.rep.prio e.rep.inst Ap e.ps cp S0 T0 U0 (hall _ hbd).2.2.2.2 ⟨hp1, hp2⟩ (by omega) (by omega) (by omega) (fun x hx => checks_of (hCl.stay (StayS.below' hbd)) (hT.below hbd hT.two) (HG.out.small e hmm x hx)) (hT.below hbd hT.two) (HG.out.name e hmm) (fun x hx => HG.out.small e hmm x hx) (fun j hj ho => by have := HS.out.pool.ge ho; have := hlt0 j hj; omega) hT.two
      have CR : Hid (∀ w2, Below w.heap.size w w2 → RPoolAt w2 w.heap.size m RO1 1 rs na → Calls Tryz.prog 18 #[.pointer (some ⟨m, 0, none⟩), .agg #[.string e.rep.name, .int .i64 e.rep.prio, .bool e.rep.inst, .slice Ap e.ps.length cp]] w2 (RAdded w2 w.heap.size m RO1 1 rs na e.rep.name e.rep.prio e.rep.inst (.slice Ap e.ps.length cp) (e.ps.map PkE.p))) := fun w2 hbx hR => by
        obtain ⟨vr, va, hR⟩ := hR
        have hrl : rs.length = ((l.take k).map RepE.rep).length := by rw [← HS.out.reps]; simp
        have hnl := HS.out.nums
        exact refAdd_any hR e.rep.name e.rep.prio e.rep.inst Ap e.ps cp S0 T0 U0 (hall _ hbx).2.2.2.2 ⟨hp1, hp2⟩ (by omega) (by omega) (by omega) (by have := HG.out.name e hmm; unfold maxLen; omega) (fun x hx => refSmall_of (HG.out.small e hmm x hx))
      have HQ : Hid (∀ wx, Below w.heap.size w wx → SP b (o + k * 4) (.string e.rep.name) (.int .i64 e.rep.prio) (.bool e.rep.inst) (.slice Ap e.ps.length cp) #[] wx) := fun wx hbx => by
        obtain ⟨c0, c1, c2, c3, _⟩ := hall wx hbx
        exact ⟨c0, c1, c2, c3⟩
      obtain ⟨q0, q1, q2, q3, -⟩ := hall wr hBo.below
      clear hall z0 z1 z2 z3 hhd hmm hh1 hh2 hks hp1 hp2 hPk hA0 hCl hlt0 hT hV hBo he HB
      go_upto_region 10 with fail
      rename_i K hK
      refine wp_region_S (SP b (o + k * 4) (.string e.rep.name) (.int .i64 e.rep.prio) (.bool e.rep.inst) (.slice Ap e.ps.length cp)) (by kernel_rfl) ⟨q0, q1, q2, q3⟩ (fun hS => ?_)
      refine wpAnyS_take (i := 0) (fun w' => True) (v := .pointer (some ⟨g, 0, none⟩)) rfl (by kernel_rfl) (by kernel_rfl) (by kernel_rfl) (fun _ _ _ h => h) (fun _ _ _ _ => trivial) (SP.io (by decide)) (by kernel_rfl) hS (fun w' hSw => ?_) (by rfl) (fun hS => ?_)
      · go_simp
      try simp only [List.getElem_toArray, List.getElem_cons_zero, List.getElem_cons_succ, Act.put, List.setIfInBounds_toArray, List.set_cons_zero, List.set_cons_succ]
      refine wpAnyS_take (i := 1) (fun w' => True) (v := .slice (some ⟨b, o, none⟩) l.length c) rfl (by kernel_rfl) (by kernel_rfl) (by kernel_rfl) (fun _ _ _ h => h) (fun _ _ _ _ => trivial) (SP.io (by decide)) (by kernel_rfl) hS (fun w' hSw => ?_) (by rfl) (fun hS => ?_)
      · go_simp
      try simp only [List.getElem_toArray, List.getElem_cons_zero, List.getElem_cons_succ, Act.put, List.setIfInBounds_toArray, List.set_cons_zero, List.set_cons_succ]
      refine wpAnyS_take (i := 2) (fun w' => True) (v := .int .i64 (k : Int)) rfl (by kernel_rfl) (by kernel_rfl) (by kernel_rfl) (fun _ _ _ h => h) (fun _ _ _ _ => trivial) (SP.io (by decide)) (by kernel_rfl) hS (fun w' hSw => ?_) (by rfl) (fun hS => ?_)
      · go_simp
      try simp only [List.getElem_toArray, List.getElem_cons_zero, List.getElem_cons_succ, Act.put, List.setIfInBounds_toArray, List.set_cons_zero, List.set_cons_succ]
      refine wpAnyS_take (i := 3) (fun w' => True) (v := .pointer (some ⟨b, o + k * 4, none⟩)) rfl (by kernel_rfl) (by kernel_rfl) (by kernel_rfl) (fun _ _ _ h => h) (fun _ _ _ _ => trivial) (SP.io (by decide)) (by kernel_rfl) hS (fun w' hSw => ?_) (by rfl) (fun hS => ?_)
      · go_simp
      try simp only [List.getElem_toArray, List.getElem_cons_zero, List.getElem_cons_succ, Act.put, List.setIfInBounds_toArray, List.set_cons_zero, List.set_cons_succ]
      refine wpAnyS_take (i := 4) (fun w' => w'.cell? ⟨b, o + k * 4, none⟩ = some (.string e.rep.name) ∧ w'.cell? ⟨b, o + k * 4 + 1, none⟩ = some (.int .i64 e.rep.prio) ∧ w'.cell? ⟨b, o + k * 4 + 2, none⟩ = some (.bool e.rep.inst) ∧ w'.cell? ⟨b, o + k * 4 + 3, none⟩ = some (.slice Ap e.ps.length cp)) (v := .agg #[.string e.rep.name, .int .i64 e.rep.prio, .bool e.rep.inst, .slice Ap e.ps.length cp]) rfl (by kernel_rfl) (by kernel_rfl) (by kernel_rfl) (fun _ _ _ h => h) (fun l w hw hS => hS) (SP.io (by decide)) (by kernel_rfl) hS (fun w' hSw => ?_) (by rfl) (fun hS => ?_)
      · obtain ⟨y0, y1, y2, y3⟩ := hSw
        go_simp
      try simp only [List.getElem_toArray, List.getElem_cons_zero, List.getElem_cons_succ, Act.put, List.setIfInBounds_toArray, List.set_cons_zero, List.set_cons_succ]
      refine wpAnyS_take (i := 6) (fun w' => True) (v := .pointer (some ⟨m, 0, none⟩)) rfl (by kernel_rfl) (by kernel_rfl) (by kernel_rfl) (fun _ _ _ h => h) (fun _ _ _ _ => trivial) (SP.io (by decide)) (by kernel_rfl) hS (fun w' hSw => ?_) (by rfl) (fun hS => ?_)
      · go_simp
      try simp only [List.getElem_toArray, List.getElem_cons_zero, List.getElem_cons_succ, Act.put, List.setIfInBounds_toArray, List.set_cons_zero, List.set_cons_succ]
      refine wpAnyS_take (i := 7) (fun w' => True) (v := .slice (some ⟨b, o, none⟩) l.length c) rfl (by kernel_rfl) (by kernel_rfl) (by kernel_rfl) (fun _ _ _ h => h) (fun _ _ _ _ => trivial) (SP.io (by decide)) (by kernel_rfl) hS (fun w' hSw => ?_) (by rfl) (fun hS => ?_)
      · go_simp
      try simp only [List.getElem_toArray, List.getElem_cons_zero, List.getElem_cons_succ, Act.put, List.setIfInBounds_toArray, List.set_cons_zero, List.set_cons_succ]
      refine wpAnyS_take (i := 8) (fun w' => True) (v := .int .i64 (k : Int)) rfl (by kernel_rfl) (by kernel_rfl) (by kernel_rfl) (fun _ _ _ h => h) (fun _ _ _ _ => trivial) (SP.io (by decide)) (by kernel_rfl) hS (fun w' hSw => ?_) (by rfl) (fun hS => ?_)
      · go_simp
      try simp only [List.getElem_toArray, List.getElem_cons_zero, List.getElem_cons_succ, Act.put, List.setIfInBounds_toArray, List.set_cons_zero, List.set_cons_succ]
      refine wpAnyS_take (i := 9) (fun w' => True) (v := .pointer (some ⟨b, o + k * 4, none⟩)) rfl (by kernel_rfl) (by kernel_rfl) (by kernel_rfl) (fun _ _ _ h => h) (fun _ _ _ _ => trivial) (SP.io (by decide)) (by kernel_rfl) hS (fun w' hSw => ?_) (by rfl) (fun hS => ?_)
      · go_simp
      try simp only [List.getElem_toArray, List.getElem_cons_zero, List.getElem_cons_succ, Act.put, List.setIfInBounds_toArray, List.set_cons_zero, List.set_cons_succ]
      refine wpAnyS_take (i := 10) (fun w' => w'.cell? ⟨b, o + k * 4, none⟩ = some (.string e.rep.name) ∧ w'.cell? ⟨b, o + k * 4 + 1, none⟩ = some (.int .i64 e.rep.prio) ∧ w'.cell? ⟨b, o + k * 4 + 2, none⟩ = some (.bool e.rep.inst) ∧ w'.cell? ⟨b, o + k * 4 + 3, none⟩ = some (.slice Ap e.ps.length cp)) (v := .agg #[.string e.rep.name, .int .i64 e.rep.prio, .bool e.rep.inst, .slice Ap e.ps.length cp]) rfl (by kernel_rfl) (by kernel_rfl) (by kernel_rfl) (fun _ _ _ h => h) (fun l w hw hS => hS) (SP.io (by decide)) (by kernel_rfl) hS (fun w' hSw => ?_) (by rfl) (fun hS => ?_)
      · obtain ⟨y0, y1, y2, y3⟩ := hSw
        go_simp
      try simp only [List.getElem_toArray, List.getElem_cons_zero, List.getElem_cons_succ, Act.put, List.setIfInBounds_toArray, List.set_cons_zero, List.set_cons_succ]
      refine wpAnyS_one (i := 5) (by kernel_rfl) rfl (fun K7 hK7 => ?_)
      go_simp
      refine CP.out.mono ?_
      rintro e1 w2 hadd
      obtain ⟨rfl, hb2, hR2⟩ := Both2.first HS.out HE.out HG.out hadd
      have HAdd := Lib.hid hadd
      have CM := Lib.hid (CR.out w2 hb2 hR2)
      refine hK7.out _ _ (HQ.out w2 hb2) (fun hS => ?_)
      clear hK7 K7 hb2 hR2 hadd CP CR
      try simp only [List.getElem_toArray, List.getElem_cons_zero, List.getElem_cons_succ, Act.put, List.setIfInBounds_toArray, List.set_cons_zero, List.set_cons_succ]
      refine wpAnyS_one (i := 11) (by kernel_rfl) rfl (fun K7 hK7 => ?_)
      go_simp
      refine CM.out.mono ?_
      rintro e2 w3 hadd2
      obtain ⟨-, rfl, -, hb3, hnext⟩ := Both2.next3 HS.out HPr.out HE.out HG.out HAdd.out hadd2
      have HN := Lib.hid hnext
      refine hK7.out _ _ (HQ.out w3 hb3) (fun hS => ?_)
      clear hK7 K7 hadd2 hb3 hnext CM HAdd
      try simp only [List.getElem_toArray, List.getElem_cons_zero, List.getElem_cons_succ, Act.put, List.setIfInBounds_toArray, List.set_cons_zero, List.set_cons_succ]
      refine wpAnyS_one (i := 12) (by kernel_rfl) rfl (fun K7 hK7 => ?_)
      go_simp
      refine hK7.out _ _ hS (fun hS => ?_)
      clear hK7 K7
      try simp only [List.getElem_toArray, List.getElem_cons_zero, List.getElem_cons_succ, Act.put, List.setIfInBounds_toArray, List.set_cons_zero, List.set_cons_succ]
      refine wpAnyS_done (by kernel_rfl) ?_ _
      clear hS
      refine hK _ _ ?_
      clear hK K
      go_wp2_with fail
      go_roundw
      case rel => exact ⟨k + 1, by omega, by go_num, HN⟩
      case measure => simp [intOf]; omega
    · obtain rfl : k = l.length := by omega
      have HV : Hid (PoolsPost3 w 1 l (.returned (.tuple #[.pointer (some ⟨g, 0, none⟩), .pointer (some ⟨m, 0, none⟩)])) wr) := ⟨g, m, rfl, HB.out⟩
      clear hlt HB
      go_wp2_with fail
      go_ret2
      exact HV.out
end Go.Proofs.YtpmfmkpfjomgnaaGreatDoor

/- awake of the layer pool answers true. -/
namespace Go.Proofs.YtpmfmkpfjomgnaaGreatDoor
set_option linter.unusedSimpArgs false
set_option linter.unusedVariables false
open Go.RowKit

def nmMain : ByteArray := ⟨#[109, 97, 105, 110]⟩
def nmA : ByteArray := ⟨#[97]⟩
def nmB : ByteArray := ⟨#[98]⟩
def pkA : Pkg := ⟨nmA, ⟨#[49, 45, 49]⟩, ⟨#[110, 111, 97, 114, 99, 104]⟩, ⟨#[]⟩, fun _ => [], []⟩
def pkB : Pkg := ⟨nmB, ⟨#[50, 45, 49]⟩, ⟨#[110, 111, 97, 114, 99, 104]⟩, ⟨#[]⟩, fun _ => [], []⟩
def nilS : Nat → Value := fun _ => .slice none 0 0
theorem headA : headN pkA = 0 := by decide +kernel
theorem headB : headN pkB = 0 := by decide +kernel
theorem textA : ((((nmA ++ ⟨#[45]⟩) ++ ⟨#[49, 45, 49]⟩) ++ ⟨#[46]⟩) ++ ⟨#[110, 111, 97, 114, 99, 104]⟩ : ByteArray) = ⟨#[97, 45, 49, 45, 49, 46, 110, 111, 97, 114, 99, 104]⟩ := by decide +kernel
theorem chk_plain {Q : Dep → Int → Prop} {p : Pkg} {n : Int} (hh : headN p = 0) (hl : ∀ i, i < 7 → p.ls i = []) (hf : p.files = []) (h : ChkR Q p n) : n = 0 := by
  obtain ⟨b, hd, rfl⟩ := h
  have hb : b = true := by
    rcases hd hh with ⟨_, i, hi, hb⟩ | ⟨_, hb⟩
    · rw [hl i hi] at hb
      rcases hb with hb | ⟨d, hd, _⟩
      · simp at hb
      · cases hd
    · rw [hb]
      unfold offersOk
      rw [hl 0 (by omega), hl 4 (by omega)]
      rfl
  subst hb
  unfold chkN
  rw [if_neg (by simp [hh]), if_neg (by simp), if_neg (by unfold filesBad; rw [hf]; simp)]
theorem mainOk : nameB nmMain.data.toList = true := by decide +kernel
theorem add1 {Q : Dep → Int → Prop} {n : Int} (h : AddR Q [] 0 nmMain false [pkA, pkB] n) : n = 0 := by
  have h0 : addHead [] 0 nmMain false 2 = 0 := by unfold addHead; rw [mainOk]; simp
  rcases h with ⟨h1, _⟩ | ⟨_, ⟨h1, _⟩ | ⟨h1, i, p, hp, hc, _⟩⟩
  · exact absurd h0 h1
  · exact h1
  · have : p = pkA ∨ p = pkB := by
      have := List.mem_of_getElem? hp
      simpa using this
    rcases this with rfl | rfl
    · exact chk_plain headA (fun _ _ => rfl) rfl hc
    · exact chk_plain headB (fun _ _ => rfl) rfl hc
theorem add2 {Q : Dep → Int → Prop} {n : Int} {k : Nat} (h : AddR Q [⟨nmMain, 0, false⟩] k nmMain false [] n) : n = 66 := by
  have h0 : addHead [⟨nmMain, 0, false⟩] k nmMain false 0 = 66 := by unfold addHead; rw [if_pos (.inr (by simp))]
  rcases h with ⟨_, h1⟩ | ⟨h1, _⟩
  · exact h1.trans h0
  · rw [show ([] : List Pkg).length = 0 from rfl, h0] at h1
    cases h1
theorem small_plain (p : Pkg) (h0 : p.name.size ≤ 281474976710656) (h1 : p.evr.size ≤ 281474976710656) (h2 : p.arch.size ≤ 281474976710656) (h3 : p.vendor.size ≤ 281474976710656) (hl : ∀ i, p.ls i = []) (hf : p.files = []) : PkgSmall p := by
  refine ⟨fun k => ?_, fun i _ => ?_, ?_⟩
  · match k with
    | 0 => exact h0
    | 1 => exact h1
    | 2 => exact h2
    | k + 3 => exact h3
  · rw [hl i]
    exact ⟨by simp, fun d hd => by cases hd⟩
  · rw [hf]
    exact ⟨(fun s hs => by cases hs), by simp⟩
theorem smallA : PkgSmall pkA := small_plain _ (by decide) (by decide) (by decide) (by decide) (fun _ => rfl) rfl
theorem smallB : PkgSmall pkB := small_plain _ (by decide) (by decide) (by decide) (by decide) (fun _ => rfl) rfl
theorem at_nil (w : World) (p : Pkg) (hl : ∀ i, i < 7 → p.ls i = []) (hf : p.files = []) : PkgAt w (fun _ => False) (fun _ => False) p nilS (.slice none 0 0) :=
  ⟨fun i hi => by rw [hl i hi]; exact ⟨none, 0, rfl, Nat.le_refl _, by simp [maxLen], fun _ => rfl, fun j a hj => by simp at hj⟩, by rw [hf]; exact ⟨none, 0, rfl, Nat.le_refl _, by simp [maxLen], fun _ => rfl, fun j a hj => by simp at hj⟩⟩

def rowA : Array Value := #[.string ⟨#[97]⟩, .string ⟨#[49, 45, 49]⟩, .string ⟨#[110, 111, 97, 114, 99, 104]⟩, .string ⟨#[]⟩, .slice none 0 0, .slice none 0 0, .slice none 0 0, .slice none 0 0, .slice none 0 0, .slice none 0 0, .slice none 0 0, .slice none 0 0]
def rowAB : Array Value := #[.string ⟨#[97]⟩, .string ⟨#[49, 45, 49]⟩, .string ⟨#[110, 111, 97, 114, 99, 104]⟩, .string ⟨#[]⟩, .slice none 0 0, .slice none 0 0, .slice none 0 0, .slice none 0 0, .slice none 0 0, .slice none 0 0, .slice none 0 0, .slice none 0 0,
  .string ⟨#[98]⟩, .string ⟨#[50, 45, 49]⟩, .string ⟨#[110, 111, 97, 114, 99, 104]⟩, .string ⟨#[]⟩, .slice none 0 0, .slice none 0 0, .slice none 0 0, .slice none 0 0, .slice none 0 0, .slice none 0 0, .slice none 0 0, .slice none 0 0]
/-- The two packages as they are handed in. -/
theorem packs2 {w : World} {b : Nat} (h : Blk w b 44 rowAB) : PacksAt w (fun _ => False) (fun _ => False) (fun k => k = b) [⟨pkA, nilS, .slice none 0 0⟩, ⟨pkB, nilS, .slice none 0 0⟩] (some ⟨b, 0, none⟩) := fun i e hi => by
  match i with
  | 0 =>
    simp at hi; subst hi
    refine ⟨b, 0, rfl, rfl, fun j hj => ?_, at_nil w pkA (fun _ _ => rfl) rfl⟩
    rw [h.cell]
    have : j = 0 ∨ j = 1 ∨ j = 2 ∨ j = 3 ∨ j = 4 ∨ j = 5 ∨ j = 6 ∨ j = 7 ∨ j = 8 ∨ j = 9 ∨ j = 10 ∨ j = 11 := by omega
    rcases this with rfl | rfl | rfl | rfl | rfl | rfl | rfl | rfl | rfl | rfl | rfl | rfl <;> rfl
  | 1 =>
    simp at hi; subst hi
    refine ⟨b, 0, rfl, rfl, fun j hj => ?_, at_nil w pkB (fun _ _ => rfl) rfl⟩
    rw [h.cell]
    have : j = 0 ∨ j = 1 ∨ j = 2 ∨ j = 3 ∨ j = 4 ∨ j = 5 ∨ j = 6 ∨ j = 7 ∨ j = 8 ∨ j = 9 ∨ j = 10 ∨ j = 11 := by omega
    rcases this with rfl | rfl | rfl | rfl | rfl | rfl | rfl | rfl | rfl | rfl | rfl | rfl <;> rfl
  | k + 2 => simp at hi
theorem two_of {l : List Kep} {a b : Pkg} (h : l.map Kep.p = [a, b]) : ∃ x y, l = [x, y] ∧ x.p = a ∧ y.p = b := by
  match l, h with
  | [x, y], h =>
    simp at h
    exact ⟨x, y, rfl, h.1, h.2⟩
theorem packs0 {w : World} : PacksAt w (fun _ => False) (fun _ => False) (fun _ => False) [] none := fun i e hi => by simp at hi
set_option maxHeartbeats 4000000 in
set_option maxRecDepth 100000 in
theorem poolAwake_any (w : World) (hT : Tabs w) : Calls Tryz.prog 13 #[] w (TrueBelow w) := by
  have CN := Lib.hid (new_any 1 (.inl rfl) w)
  have HT := Lib.hid hT
  clear hT
  go_enter Tryz.func13, Tryz.ntmps13
  go_wp2_with fail
  refine CN.out.mono ?_
  rintro e w1 ⟨hb1, g, O, rfl, hP1⟩
  -- the pool with both packages ahead
  obtain ⟨w3, hw3⟩ : ∃ w3, w3 = (w1.alloc (.cells rowA 44)).alloc (.cells rowAB 44) := ⟨_, rfl⟩
  have hb13 : Below w1.heap.size w1 w3 := by rw [hw3]; exact ((Below.refl _ _).alloc (Nat.le_refl _) _).alloc (by simp) _
  have hz3 : w3.heap.size = w1.heap.size + 2 := by rw [hw3]; simp
  have KA3 : Blk w3 w1.heap.size 44 rowA := by rw [hw3]; exact (Blk.new _ _ _).alloc _
  have KB3 : Blk w3 (w1.heap.size + 1) 44 rowAB := by rw [hw3]; exact Blk.new' (by simp)
  obtain ⟨vr, vp, bm, f, hS1⟩ := hP1
  have hO1 : ∀ k, O k → w.heap.size ≤ k ∧ k < w1.heap.size := fun k hk => hS1.O_lt hk
  have hb03 := hb1.trans (hb13.mono hb1.size)
  have hT3 : Tabs w3 := HT.out.below hb03 HT.out.two
  have CA := add_any (fun _ _ => True) (hS1.below hb13) nmMain 0 false (some ⟨w1.heap.size + 1, 0, none⟩) [⟨pkA, nilS, .slice none 0 0⟩, ⟨pkB, nilS, .slice none 0 0⟩] 2 (fun _ => False) (fun _ => False) (fun k => k = w1.heap.size + 1) (packs2 KB3) ⟨by simp, by simp [maxLen]⟩ (by simp) (by simp) (by simp)
    (fun e he i hi d hd => by simp at he; rcases he with rfl | rfl <;> cases hd) hT3 (by decide) (fun e he => by simp at he; rcases he with rfl | rfl; exact smallA; exact smallB) (fun b hb => by
      rcases hb with hb | hb | hb
      · exact hb.elim
      · exact hb.elim
      · subst hb; intro ho; have := (hO1 _ ho).2; omega) HT.out.two
  have HCA := Lib.hid CA
  have H3 := Lib.hid (And.intro hb03 (And.intro KA3 (And.intro hz3 hO1)))
  have HW3 := Lib.hid hw3
  rw [hw3] at HCA
  unfold nmMain rowA rowAB at HCA
  unfold rowA rowAB at HW3
  clear CA hb13 hz3 KA3 KB3 hS1 hO1 hb03 hT3 hw3 CN hb1
  go_wp2_with fail
  refine HCA.out.mono ?_
  rintro e w4 ⟨n, hn, rfl, ht4, _, hyes⟩
  obtain rfl := add1 hn
  obtain ⟨O', S', T', new, hP4, hnm, hrp, hO', _, _⟩ := hyes rfl
  obtain ⟨ka, kb, rfl, hka, hkb⟩ := two_of hnm
  have hra : ka.rep = 0 := hrp ka (by simp)
  rw [← HW3.out] at ht4 hO'
  have hbT : Below w.heap.size w3 w4 := ht4.below (fun k _ hk => (H3.out.2.2.2 k hk).1) H3.out.1.size
  have hb04 : Below w.heap.size w w4 := H3.out.1.trans hbT
  have hT4 : Tabs w4 := HT.out.below hb04 HT.out.two
  have KA4 : Blk w4 w1.heap.size 44 rowA := H3.out.2.1.turnedP ht4 (fun ho => by have := (H3.out.2.2.2 _ ho).2; omega)
  obtain ⟨vr4, vp4, bm4, f4, hS4⟩ := hP4
  have hOl : ∀ k, O' k → w.heap.size ≤ k ∧ k ≠ w1.heap.size := fun k hk => by
    refine ⟨(hS4.O_lt hk).1, ?_⟩
    rcases hO' k hk with h | h
    · have := (H3.out.2.2.2 k h).2; omega
    · have := H3.out.2.2.1; omega
  have CA2 := Lib.hid (add_any (fun _ _ => True) hS4 nmMain 0 false none [] 0 (fun _ => False) (fun _ => False) (fun _ => False) packs0 ⟨by simp, by simp [maxLen]⟩ (by simp) (by simp) (by simp) (fun e he => by cases he) hT4 (by decide) (fun e he => by cases he) (fun b hb => by simp at hb) HT.out.two)
  have H4 := Lib.hid (And.intro hb04 (And.intro KA4 (And.intro hOl (And.intro hka (And.intro hkb hra)))))
  unfold nmMain at CA2
  clear hn hyes hnm hrp hO' ht4 hbT hb04 hT4 KA4 hS4 hOl hka hkb hra HCA HW3 H3
  go_wp2_with fail
  refine CA2.out.mono ?_
  rintro e w5 ⟨n2, hn2, rfl, ht5, hno, _⟩
  obtain rfl := add2 hn2
  have hP5 := hno (by decide)
  have hbT : Below w.heap.size w4 w5 := ht5.below (fun k _ hk => (H4.out.2.2.1 k hk).1) H4.out.1.size
  have hb05 : Below w.heap.size w w5 := H4.out.1.trans hbT
  have KA5 : Blk w5 w1.heap.size 44 rowA := H4.out.2.1.turnedP ht5 (fun ho => (H4.out.2.2.1 _ ho).2 rfl)
  have hidx : idxF nmB 0 [ka, kb] = [1] := by
    unfold idxF idxF idxF
    rw [H4.out.2.2.2.1, H4.out.2.2.2.2.1, if_neg (by decide), if_pos (by rfl)]
  have CNm := Lib.hid (named_any hP5 nmB (by decide) (by simp))
  have hx2 : ([] ++ [ka, kb] : List Kep) = [ka, kb] := rfl
  rw [hx2, hidx] at CNm
  have H5 := Lib.hid (And.intro hb05 (And.intro KA5 hP5))
  unfold nmB at CNm
  clear hn2 hno hP5 hbT hb05 KA5 hidx hx2 CA2 ht5
  go_wp2_with fail
  refine CNm.out.mono ?_
  rintro e w6 ⟨hb6, v', rfl, hN⟩
  obtain ⟨An, cn, rfl, hcn1, hcn2⟩ := own_form' hN
  obtain ⟨bn, rfl, hcell⟩ := own_at_ (k := 0) (u := .int .i64 1) hN rfl
  have hb06 : Below w.heap.size w w6 := H5.out.1.trans (hb6.mono H5.out.1.size)
  have KA6 : Blk w6 w1.heap.size 44 rowA := H5.out.2.1.below hb6 H5.out.2.1.lt
  have hP6 := H5.out.2.2.below hb6
  have CP : Calls Tryz.prog 24 #[.pointer (some ⟨g, 0, none⟩), .int .i64 0] w6 (PkgTold w6 ka.p ka.rep) := package_any hP6 0 ka rfl (by rw [H4.out.2.2.2.1]; exact smallA)
  rw [H4.out.2.2.2.1, H4.out.2.2.2.2.2] at CP
  have HCP := Lib.hid CP
  have hlc : bn < w6.heap.size := cell_lt hcell
  have H6 := Lib.hid (And.intro hb06 (And.intro KA6 (And.intro hP6 (And.intro hcell hlc))))
  clear hb6 hN hb06 KA6 hP6 CP hcell hlc CNm hcn1 H5
  go_wp2_with fail
  refine HCP.out.mono ?_
  rintro e w7 ⟨hb7, ss', fs', S7, T7, rfl, hP7, _, _, _, _⟩
  obtain ⟨B0, m0, s0, -⟩ := hP7.lists 0 (by omega)
  obtain ⟨B1, m1, s1, -⟩ := hP7.lists 1 (by omega)
  obtain ⟨B2, m2, s2, -⟩ := hP7.lists 2 (by omega)
  obtain ⟨B3, m3, s3, -⟩ := hP7.lists 3 (by omega)
  obtain ⟨B4, m4, s4, -⟩ := hP7.lists 4 (by omega)
  obtain ⟨B5, m5, s5, -⟩ := hP7.lists 5 (by omega)
  obtain ⟨B6, m6, s6, -⟩ := hP7.lists 6 (by omega)
  obtain ⟨B7, m7, s7, -⟩ := hP7.files
  have HRw : Hid (rowP pkA ss' fs' = #[.string ⟨#[97]⟩, .string ⟨#[49, 45, 49]⟩, .string ⟨#[110, 111, 97, 114, 99, 104]⟩, .string ⟨#[]⟩, .slice B0 0 m0, .slice B1 0 m1, .slice B2 0 m2, .slice B3 0 m3, .slice B4 0 m4, .slice B5 0 m5, .slice B6 0 m6, .slice B7 0 m7]) := by
    show rowP _ _ _ = _
    unfold rowP
    rw [s0, s1, s2, s3, s4, s5, s6, s7]
    rfl
  rw [HRw.out]
  have hb07 : Below w.heap.size w w7 := H6.out.1.trans (hb7.mono H6.out.1.size)
  obtain ⟨w8, hw8⟩ : ∃ w8, w8 = w7.alloc (.cells #[.string ⟨#[97]⟩, .string ⟨#[49, 45, 49]⟩, .string ⟨#[110, 111, 97, 114, 99, 104]⟩, .string ⟨#[]⟩, .slice B0 0 m0, .slice B1 0 m1, .slice B2 0 m2, .slice B3 0 m3, .slice B4 0 m4, .slice B5 0 m5, .slice B6 0 m6, .slice B7 0 m7] 44) := ⟨_, rfl⟩
  have hb78 : Below w7.heap.size w7 w8 := by rw [hw8]; exact (Below.refl _ _).alloc (Nat.le_refl _) _
  have hb68 : Below w6.heap.size w6 w8 := hb7.trans (hb78.mono hb7.size)
  have hb08 : Below w.heap.size w w8 := hb07.trans (hb78.mono hb07.size)
  have KA8 : Blk w8 w1.heap.size 44 rowA := H6.out.2.1.below hb68 H6.out.2.1.lt
  have hP8 := H6.out.2.2.1.below hb68
  have hcn : w8.cell? ⟨bn, 0, none⟩ = some (.int .i64 1) := (World.cell?_of_block (hb68.block bn H6.out.2.2.2.2)).trans H6.out.2.2.2.1
  have hx0 : w8.cell? ⟨w7.heap.size, 0, none⟩ = some (.string ⟨#[97]⟩) := by rw [hw8]; exact (Blk.new w7 _ _).cell 0
  have CL := Lib.hid (len_any hP8)
  have CT := Lib.hid (text_any pkA nilS (.slice none 0 0) w8 ⟨by decide, by decide, by decide⟩)
  have hnA : pkA.name = nmA := rfl
  have heA : pkA.evr = ⟨#[49, 45, 49]⟩ := rfl
  have haA : pkA.arch = ⟨#[110, 111, 97, 114, 99, 104]⟩ := rfl
  rw [hnA, heA, haA, textA] at CT
  have a0 := KA8.cell 0
  have a1 := KA8.cell 1
  have a2 := KA8.cell 2
  have a3 := KA8.cell 3
  have a4 := KA8.cell 4
  have a5 := KA8.cell 5
  have a6 := KA8.cell 6
  have a7 := KA8.cell 7
  have a8 := KA8.cell 8
  have a9 := KA8.cell 9
  have a10 := KA8.cell 10
  have a11 := KA8.cell 11
  unfold rowA at a0 a1 a2 a3 a4 a5 a6 a7 a8 a9 a10 a11
  simp at a0 a1 a2 a3 a4 a5 a6 a7 a8 a9 a10 a11
  have HB8 := Lib.hid hb08
  have HW8 := Lib.hid hw8
  unfold rowP pkA nmA nilS at CT
  clear s0 s1 s2 s3 s4 s5 s6 s7 hP7 HRw hb7 hb07 hb78 hb68 hb08 KA8 hP8 H6 HCP hw8 hnA heA haA
  go_upto_region 9 with fail
  rw [← HW8.out]
  go_wp2_with fail
  refine CL.out.mono ?_
  rintro e w9 ⟨rfl, rfl⟩
  go_wp2_with fail
  refine CT.out.mono ?_
  rintro e w10 ⟨rfl, hb10⟩
  have HB10 : Hid (Below w.heap.size w w10) := HB8.out.trans (hb10.mono HB8.out.size)
  clear hb10 CT a0 a1 a2 a3 a4 a5 a6 a7 a8 a9 a10 a11 hx0 hcn
  go_wp2_with fail
  go_ret
  exact ⟨rfl, HB10.out⟩
end Go.Proofs.YtpmfmkpfjomgnaaGreatDoor

/- The pool of awake, as bytes. -/
namespace Go.Proofs.YtpmfmkpfjomgnaaGreatDoor
set_option linter.unusedSimpArgs false
set_option linter.unusedVariables false
open Go.RowKit

def encQ (kind : Int) (reps : List Rep) (pp : List (Pkg × Nat)) : List Nat := (WS.list stA (w0S.num kind) (reps.mapIdx fun i r => (r, (pp.filter fun x => x.2 == i).map Prod.fst))).out
theorem enc_is (kind : Int) (reps : List Rep) (ks : List Kep) : encP kind reps ks = encQ kind reps (ks.map kp) := by
  have h : ∀ i, ofRep ks i = ((ks.map kp).filter fun x => x.2 == i).map Prod.fst := fun i => by
    unfold ofRep
    rw [List.filter_map, List.map_map]
    rfl
  unfold encP encQ wholeL
  simp only [h]
def awL : List Nat := [1, 1, 1, 4, 109, 97, 105, 110, 0, 0, 1, 2, 1, 97, 3, 3, 49, 45, 49, 4, 6, 110, 111, 97, 114, 99, 104, 0, 0, 0, 0, 0, 0, 0, 0, 0]
def awB : ByteArray := ⟨(awL.map UInt8.ofNat).toArray⟩
theorem aw_enc : encQ 1 [⟨nmMain, 0, false⟩] [(pkA, 0)] = awL := by decide +kernel
theorem aw_bytes : bytesN awB = awL := by decide +kernel
theorem aw_size : awB.size = awL.length := by decide +kernel
def awS1 : RS := ⟨1, [⟨#[]⟩], 0⟩
def awS2 : RS := ⟨2, [⟨#[]⟩], 0⟩
theorem aw_num : decNum awB r0S = some (1, awS1) := by kernel_rfl
theorem aw_count : decCount awB 8 awS1 = some (1, awS2) := by kernel_rfl
theorem aw_repo : (decRepo awB awS2).map (fun x => (x.1.1.name, x.1.1.inst, x.1.2.map fun p => (p.name, headN p, (List.range 7).map fun i => (p.ls i).length, p.files.length))) = some (nmMain, false, [(nmA, 0, [0, 0, 0, 0, 0, 0, 0], 0)]) := by kernel_rfl
theorem aw_again : (decRepo awB awS2).map (fun x => encQ 1 [x.1.1] (x.1.2.map fun p => (p, 0))) = some awL := by decide +kernel
/-- What is read of these bytes. -/
theorem aw_read : ∃ r s3, decRepo awB awS2 = some (r, s3) ∧ (∃ p, r.2 = [p] ∧ p.name = nmA) ∧ (∀ n, AddR QC [] 0 r.1.name r.1.inst r.2 n → n = 0) ∧ encQ 1 [r.1] (r.2.map fun p => (p, 0)) = awL := by
  have h1 := aw_repo
  have h2 := aw_again
  cases hd : decRepo awB awS2 with
  | none => rw [hd] at h1; cases h1
  | some x =>
    obtain ⟨r, s3⟩ := x
    rw [hd] at h1 h2
    simp only [Option.map_some, Option.some.injEq, Prod.mk.injEq] at h1 h2
    obtain ⟨hn, hi, hp⟩ := h1
    obtain ⟨p, hr⟩ : ∃ p, r.2 = [p] := by
      have hl := congrArg List.length hp
      simp at hl
      match hq : r.2, hl with
      | [p], _ => exact ⟨p, rfl⟩
    rw [hr] at hp
    simp only [List.map_cons, List.map_nil, List.cons.injEq, and_true, Prod.mk.injEq] at hp
    obtain ⟨hpn, hph, hpl, hpf⟩ := hp
    refine ⟨r, s3, rfl, ⟨p, hr, hpn⟩, fun n ha => ?_, h2⟩
    have hls : ∀ i, i < 7 → p.ls i = [] := fun i hi7 => by
      have h7 : ((List.range 7).map fun i => (p.ls i).length)[i]? = some (p.ls i).length := by
        rw [List.getElem?_map, List.getElem?_range hi7]; rfl
      rw [hpl] at h7
      have : (p.ls i).length = 0 := by
        match i, hi7, h7 with
        | 0, _, h => simpa using h.symm
        | 1, _, h => simpa using h.symm
        | 2, _, h => simpa using h.symm
        | 3, _, h => simpa using h.symm
        | 4, _, h => simpa using h.symm
        | 5, _, h => simpa using h.symm
        | 6, _, h => simpa using h.symm
      exact List.eq_nil_of_length_eq_zero this
    rw [hn, hi, hr] at ha
    have h0 : addHead [] 0 nmMain false 1 = 0 := by unfold addHead; rw [mainOk]; simp
    rcases ha with ⟨h1, _⟩ | ⟨_, ⟨h1, _⟩ | ⟨h1, i, q, hq, hc, _⟩⟩
    · exact absurd h0 h1
    · exact h1
    · have : q = p := by
        have := List.mem_of_getElem? hq
        simpa using this
      subst this
      exact chk_plain hph hls (List.eq_nil_of_length_eq_zero hpf) hc
theorem aw_got {kind : Int} {reps : List Rep} {pp : List (Pkg × Nat)} {s' : RS} (h : GotP awB r0S kind reps pp s') : (∃ p, pp = [(p, 0)] ∧ p.name = nmA) ∧ encQ kind reps pp = awL := by
  obtain ⟨r, s3, hd, ⟨p, hr, hpn⟩, hA, he⟩ := aw_read
  obtain ⟨s1, n, s2, h1, -, h2, h3⟩ := h
  rw [aw_num] at h1
  injection h1 with h1
  injection h1 with hk hs
  subst hk hs
  rw [aw_count] at h2
  injection h2 with h2
  injection h2 with hn hs
  subst hn hs
  obtain ⟨r', s4, h4, -, h5, h6, -⟩ := h3
  rw [hd] at h4
  injection h4 with h4
  injection h4 with h4 _
  subst h4
  subst h5 h6
  refine ⟨⟨p, by rw [hr]; rfl, hpn⟩, ?_⟩
  rw [hr] at he ⊢
  exact he
theorem aw_kept : ¬ PoolLost awB := by
  obtain ⟨r, s3, hd, -, hA, -⟩ := aw_read
  rintro (h | ⟨kind, reps, ks, s', hg, hs⟩)
  · rcases h with h | ⟨kind, s1, h1, h⟩
    · rw [aw_num] at h; cases h
    · rw [aw_num] at h1
      injection h1 with h1
      injection h1 with hk hs
      subst hk hs
      rcases h with h | ⟨-, h | ⟨n, s2, h2, h⟩⟩
      · exact h (.inl rfl)
      · rw [aw_count] at h; cases h
      · rw [aw_count] at h2
        injection h2 with h2
        injection h2 with hn hs
        subst hn hs
        rcases h with h | ⟨r', s4, h4, h | ⟨-, h⟩⟩
        · rw [hd] at h; cases h
        · rw [hd] at h4
          injection h4 with h4
          injection h4 with h4 _
          subst h4
          obtain ⟨m, hm0, hm⟩ := h
          exact hm0 (hA m hm)
        · exact h
  · rw [enc_is, (aw_got hg).2] at hs
    unfold sameB at hs
    rw [aw_bytes] at hs
    simp at hs
end Go.Proofs.YtpmfmkpfjomgnaaGreatDoor

/- awake of the layer cache answers true. -/
namespace Go.Proofs.YtpmfmkpfjomgnaaGreatDoor
set_option linter.unusedSimpArgs false
set_option linter.unusedVariables false
open Go.RowKit

theorem one_of {l : List Kep} {x : Pkg × Nat} (h : l.map kp = [x]) : ∃ k, l = [k] ∧ kp k = x := by
  cases l with
  | nil => cases h
  | cons a r =>
    rw [List.map_cons] at h
    injection h with h1 h2
    exact ⟨a, by rw [List.map_eq_nil_iff.1 h2], h1⟩
def eA : RepE := ⟨⟨nmMain, 0, false⟩, [⟨pkA, nilS, .slice none 0 0⟩]⟩
theorem refA : chkR pkA = 0 := by decide +kernel
theorem aw_good : GoodRepos [eA] := by
  refine ⟨fun k e he => ?_, fun e he x hx => ?_, fun e he => ?_, fun e he x hx => ?_⟩
  · match k, he with
    | 0, he =>
      simp at he
      subst he
      show addHead [] 0 nmMain false 1 = 0
      unfold addHead; rw [mainOk]; simp
    | k + 1, he => simp at he
  · simp at he; subst he
    have hx := List.mem_singleton.1 hx
    subst hx
    exact ⟨refA, fun n hn => chk_plain headA (fun _ _ => rfl) rfl hn⟩
  · simp at he; subst he; exact (by decide : nmMain.size ≤ 281474976710656)
  · simp at he; subst he
    have hx := List.mem_singleton.1 hx
    subst hx
    exact smallA
def rowM (b : Nat) : Array Value := #[.string ⟨#[109, 97, 105, 110]⟩, .int .i64 0, .bool false, .slice (some ⟨b, 0, none⟩) 1 1]
theorem packs1 {w : World} {b : Nat} (h : Blk w b 44 rowA) : PacksAt w (fun _ => False) (fun _ => False) (fun k => k = b) [⟨pkA, nilS, .slice none 0 0⟩] (some ⟨b, 0, none⟩) := fun i e hi => by
  match i with
  | 0 =>
    simp at hi; subst hi
    refine ⟨b, 0, rfl, rfl, fun j hj => ?_, at_nil w pkA (fun _ _ => rfl) rfl⟩
    rw [h.cell]
    have : j = 0 ∨ j = 1 ∨ j = 2 ∨ j = 3 ∨ j = 4 ∨ j = 5 ∨ j = 6 ∨ j = 7 ∨ j = 8 ∨ j = 9 ∨ j = 10 ∨ j = 11 := by omega
    rcases this with rfl | rfl | rfl | rfl | rfl | rfl | rfl | rfl | rfl | rfl | rfl | rfl <;> rfl
  | k + 1 => simp at hi
theorem repos1 {w : World} {b r : Nat} (h : Blk w b 44 rowA) (hr : Blk w r 33 (rowM b)) : ReposAt w (fun _ => True) (fun _ => False) (fun _ => False) (fun k => k = b) [eA] (some ⟨r, 0, none⟩) := fun i e hi => by
  match i, hi with
  | 0, hi =>
    simp at hi
    subst hi
    exact ⟨_, 0, _, 1, rfl, trivial, hr.cell 0, hr.cell 1, hr.cell 2, hr.cell 3, Nat.le_refl _, by simp [maxLen], packs1 h⟩
  | i + 1, hi => simp at hi
set_option maxHeartbeats 400000 in
set_option maxRecDepth 100000 in
theorem cacheAwake_any (w : World) (hT : Tabs w) : Calls Tryz.prog 31 #[] w (TrueBelow w) := by
  obtain ⟨w4, hw4⟩ : ∃ w4, w4 = ((w.alloc (.cells rowA 44)).alloc (.cells rowA 44)).alloc (.cells (rowM (w.heap.size + 1)) 33) := ⟨_, rfl⟩
  have hb4 : Below w.heap.size w w4 := by rw [hw4]; exact (((Below.refl _ _).alloc (Nat.le_refl _) _).alloc (by simp) _).alloc (by simp; omega) _
  have hz4 : w4.heap.size = w.heap.size + 3 := by rw [hw4]; simp
  have K1 : Blk w4 (w.heap.size + 1) 44 rowA := by rw [hw4]; exact (Blk.new' (by simp)).alloc _
  have K2 : Blk w4 (w.heap.size + 2) 33 (rowM (w.heap.size + 1)) := by rw [hw4]; exact Blk.new' (by simp)
  have CP : Calls Tryz.prog 32 #[.int .i64 1, .slice (some ⟨w.heap.size + 1 + 1, 0, none⟩) 1 1] w4 (PoolsPost3 w4 1 [eA]) := pools3_any [eA] aw_good (some ⟨w.heap.size + 2, 0, none⟩) 1 (fun _ => True) (fun _ => False) (fun _ => False) (fun k => k = w.heap.size + 1) w4 (repos1 K1 K2) ⟨Nat.le_refl _, by simp [maxLen]⟩ (fun b hb => hb.elim) (fun b hb => by
    rcases hb with hb | hb | hb
    · exact hb.elim
    · exact hb.elim
    · rw [hb, hz4]; omega) (hT.below hb4 hT.two)
  have HCP := Lib.hid CP
  have HT := Lib.hid hT
  have HB4 := Lib.hid hb4
  have HW4 := Lib.hid hw4
  unfold rowM rowA at HW4
  clear hT hb4 hz4 K1 K2 CP hw4
  go_enter Tryz.func31, Tryz.ntmps31
  go_wp2_with fail
  rw [← HW4.out]
  refine HCP.out.mono ?_
  rintro e w5 ⟨g, m, rfl, O, S, T, RO, ks, rs, na, hBo, hkp⟩
  have hkp1 : ks.map kp = [(pkA, 0)] := hkp
  have hb5 : Below w.heap.size w w5 := HB4.out.trans (hBo.below.mono HB4.out.size)
  obtain ⟨kk, rfl, hkk⟩ : ∃ kk, ks = [kk] ∧ kp kk = (pkA, 0) := one_of hkp1
  have hkp0 : kk.p = pkA := congrArg Prod.fst hkk
  have hkr : kk.rep = 0 := congrArg Prod.snd hkk
  have hP5 : PoolAt w5 w4.heap.size g O S T 1 [⟨nmMain, 0, false⟩] [kk] := hBo.pool
  have henc : encP 1 [⟨nmMain, 0, false⟩] [kk] = awL := by rw [enc_is, hkp1]; exact aw_enc
  have CW := write_any hP5 (fun k hk => by rw [List.mem_singleton.1 hk, hkp0, hkr]; exact ⟨by simp, smallA⟩) (by simp) (by simp) (fun r hr => by rw [List.mem_singleton.1 hr]; decide) (by rw [henc]; decide)
  rw [henc] at CW
  have HCW := Lib.hid CW
  have HB5 := Lib.hid hb5
  clear CW hBo hkp hkp1 hkk hkp0 hkr hP5 henc hb5 HCP
  go_wp2_with fail
  refine HCW.out.mono ?_
  rintro e w6 ⟨hb6, v, rfl, hown⟩
  have hb06 : Below w.heap.size w w6 := HB5.out.trans (hb6.mono HB5.out.size)
  obtain ⟨A0, c, hv, hc1, hc2⟩ := own_form' hown
  rcases own_handle hown with ⟨hv0, h0⟩ | ⟨b, c', hv0⟩
  · exact absurd h0 (by decide)
  subst hv0
  injection hv with e1 e2 e3
  subst e3
  subst e1
  have hlb : b < w6.heap.size := (hown.lt b rfl).2
  have hRest : RestAt w6 w6.heap.size awB b 0 0 (some ⟨b, 0, none⟩) c' := by
    refine ⟨fun _ => rfl, by rw [aw_size]; exact hc1, hc2, fun i hi => ?_, fun _ => hlb⟩
    rw [aw_size] at hi
    obtain ⟨x, hx⟩ : ∃ x, awL[i]? = some x := ⟨_, List.getElem?_eq_getElem hi⟩
    have hu : (Ids.u8s awL)[i]? = some (.int .u8 (x : Int)) := by unfold Ids.u8s; rw [List.getElem?_map, hx]; rfl
    obtain ⟨b', e, hc⟩ := own_ats hown hu
    injection e with e
    injection e with e
    subst e
    rw [Nat.zero_add, hc]
    have hy : (bytesN awB)[i]? = some x := by rw [aw_bytes]; exact hx
    unfold bytesN at hy
    rw [List.getElem?_map, Option.map_eq_some_iff] at hy
    obtain ⟨y, hy, hyx⟩ := hy
    obtain ⟨hlt, hy2⟩ := List.getElem?_eq_some_iff.1 hy
    subst hyx
    subst hy2
    rfl
  have CR := read_any hRest (by rw [aw_size]; decide) (HT.out.below hb06 HT.out.two)
  rw [aw_size] at CR
  have HCR := Lib.hid CR
  have HB6 := Lib.hid hb06
  clear CR hRest hlb hc1 hc2 hown hb6 hb06 HCW
  have hl36 : awL.length = 36 := rfl
  rw [hl36] at HCR ⊢
  clear hl36
  go_wp2_with fail
  refine HCR.out.mono ?_
  rintro e w7 ⟨hb7, ⟨-, hl⟩ | ⟨n0, pg, OP, S9, T9, kind, reps, ks, rfl, hPR⟩⟩
  · exact absurd hl aw_kept
  obtain ⟨s', hgot⟩ := hPR.got
  obtain ⟨⟨p, hpp, hpn⟩, -⟩ := aw_got hgot
  obtain ⟨k9, rfl, hk9⟩ : ∃ k9, ks = [k9] ∧ kp k9 = (p, 0) := one_of hpp
  have hk9p : k9.p = p := congrArg Prod.fst hk9
  have hb07 : Below w.heap.size w w7 := HB6.out.trans (hb7.mono HB6.out.size)
  have CPk : Calls Tryz.prog 24 #[.pointer (some ⟨pg, 0, none⟩), .int .i64 0] w7 (PkgTold w7 k9.p k9.rep) := package_any hPR.pool 0 k9 rfl (hPR.tiny k9 (by simp)).1.small
  have HCPk := Lib.hid CPk
  have HP7 := Lib.hid hPR.pool
  have HN : Hid (k9.p.name = nmA) := by show k9.p.name = nmA; rw [hk9p]; exact hpn
  have HB7 := Lib.hid hb07
  clear CPk hPR hgot hpp hpn hk9 hk9p hb7 hb07 HCR
  go_wp2_with fail
  refine HCPk.out.mono ?_
  rintro e w8 ⟨hb8, ss', fs', S7, T7, rfl, hP7, _, _, _, _⟩
  obtain ⟨B0, m0, s0, -⟩ := hP7.lists 0 (by omega)
  obtain ⟨B1, m1, s1, -⟩ := hP7.lists 1 (by omega)
  obtain ⟨B2, m2, s2, -⟩ := hP7.lists 2 (by omega)
  obtain ⟨B3, m3, s3, -⟩ := hP7.lists 3 (by omega)
  obtain ⟨B4, m4, s4, -⟩ := hP7.lists 4 (by omega)
  obtain ⟨B5, m5, s5, -⟩ := hP7.lists 5 (by omega)
  obtain ⟨B6, m6, s6, -⟩ := hP7.lists 6 (by omega)
  obtain ⟨B7, m7, s7, -⟩ := hP7.files
  have HRw : Hid (rowP k9.p ss' fs' = #[.string ⟨#[97]⟩, .string k9.p.evr, .string k9.p.arch, .string k9.p.vendor, .slice B0 (k9.p.ls 0).length m0, .slice B1 (k9.p.ls 1).length m1, .slice B2 (k9.p.ls 2).length m2, .slice B3 (k9.p.ls 3).length m3, .slice B4 (k9.p.ls 4).length m4, .slice B5 (k9.p.ls 5).length m5, .slice B6 (k9.p.ls 6).length m6, .slice B7 k9.p.files.length m7]) := by
    show rowP _ _ _ = _
    unfold rowP
    rw [s0, s1, s2, s3, s4, s5, s6, s7, HN.out]
    rfl
  rw [HRw.out]
  have hb08 : Below w.heap.size w w8 := HB7.out.trans (hb8.mono HB7.out.size)
  obtain ⟨w9, hw9⟩ : ∃ w9, w9 = w8.alloc (.cells #[.string ⟨#[97]⟩, .string k9.p.evr, .string k9.p.arch, .string k9.p.vendor, .slice B0 (k9.p.ls 0).length m0, .slice B1 (k9.p.ls 1).length m1, .slice B2 (k9.p.ls 2).length m2, .slice B3 (k9.p.ls 3).length m3, .slice B4 (k9.p.ls 4).length m4, .slice B5 (k9.p.ls 5).length m5, .slice B6 (k9.p.ls 6).length m6, .slice B7 k9.p.files.length m7] 44) := ⟨_, rfl⟩
  have hb89 : Below w8.heap.size w8 w9 := by rw [hw9]; exact (Below.refl _ _).alloc (Nat.le_refl _) _
  have hb09 : Below w.heap.size w w9 := hb08.trans (hb89.mono hb08.size)
  have hP9 := HP7.out.below (hb8.trans (hb89.mono hb8.size))
  have hx0 : w9.cell? ⟨w8.heap.size, 0, none⟩ = some (.string ⟨#[97]⟩) := by rw [hw9]; exact (Blk.new w8 _ _).cell 0
  have CL := Lib.hid (len_any hP9)
  have HB9 := Lib.hid hb09
  have HW9 := Lib.hid hw9
  clear s0 s1 s2 s3 s4 s5 s6 s7 hP7 HRw hb8 hb08 hb89 hP9 hw9 hb09 HCPk
  go_upto_region 10 with fail
  rw [← HW9.out]
  go_wp2_with fail
  refine CL.out.mono ?_
  rintro e w10 ⟨rfl, rfl⟩
  clear hx0
  go_wp2_with fail
  go_ret
  exact ⟨rfl, HB9.out⟩
end Go.Proofs.YtpmfmkpfjomgnaaGreatDoor

/- CacheNames and CacheNil: the walks of the laws. -/
namespace Go.Proofs.YtpmfmkpfjomgnaaGreatDoor
set_option linter.unusedSimpArgs false
set_option linter.unusedVariables false
open Go.RowKit Go.WideShapes

set_option maxHeartbeats 2000000 in
set_option maxRecDepth 100000 in
theorem cacheNames_any (W : World) (hT : Tabs W) : Calls Tryz.prog 6 #[] W (TrueBelow W) := by
  have C := Lib.hid (cacheAwake_any W hT)
  clear hT
  go_enter Tryz.func6, Tryz.ntmps6
  go_wp2_with fail
  refine C.out.mono ?_
  rintro e w1 ⟨rfl, hb1⟩
  go_wp2_with fail
  go_ret
  exact ⟨rfl, hb1⟩
theorem cacheNames_walk (W : World) (hL : laidMetH Tryz.prog Rows.cacheNamesRow.laid W) : Calls Tryz.prog 6 #[] W (TrueBelow W) := by
  rw [MakeChecks.laidMetH_plain _ _ _ (by kernel_rfl)] at hL
  exact cacheNames_any W (tabs_of hL (by simp [Rows.cacheNamesRow]) (by simp [Rows.cacheNamesRow]))
set_option maxHeartbeats 2000000 in
set_option maxRecDepth 100000 in
theorem cacheNil_any (W : World) (hT : Tabs W) : Calls Tryz.prog 11 #[] W (TrueBelow W) := by
  have C := Lib.hid (cacheAwake_any W hT)
  have CW := Lib.hid write_nil
  have HT := Lib.hid hT
  clear hT
  go_enter Tryz.func11, Tryz.ntmps11
  go_wp2_with fail
  refine C.out.mono ?_
  rintro e w1 ⟨rfl, hb1⟩
  have HB1 := Lib.hid hb1
  clear hb1 C
  go_wp2_with fail
  refine (CW.out _).mono ?_
  rintro e w2 ⟨rfl, rfl⟩
  have CR := Lib.hid (read_nil (HT.out.below HB1.out HT.out.two))
  go_wp2_with fail
  refine CR.out.mono ?_
  rintro e w3 ⟨rfl, hb3⟩
  have HB3 : Hid (Below W.heap.size W w3) := HB1.out.trans (hb3.mono HB1.out.size)
  clear hb3 CR
  go_wp2_with fail
  go_ret
  exact ⟨rfl, HB3.out⟩
theorem cacheNil_walk (W : World) (hL : laidMetH Tryz.prog Rows.cacheNilRow.laid W) : Calls Tryz.prog 11 #[] W (TrueBelow W) := by
  rw [MakeChecks.laidMetH_plain _ _ _ (by kernel_rfl)] at hL
  exact cacheNil_any W (tabs_of hL (by simp [Rows.cacheNilRow]) (by simp [Rows.cacheNilRow]))
end Go.Proofs.YtpmfmkpfjomgnaaGreatDoor

/- A world in which Go's own table unicode/utf8.first lies, beside the tables that the program's text lays: the witness of these rows. -/
namespace Go.Proofs.YtpmfmkpfjomgnaaGreatDoor
set_option linter.unusedSimpArgs false
set_option linter.unusedVariables false
noncomputable def witW (os : Os) : World :=
  { World.doorLaid Tryz.prog 29 os with heap := (World.doorLaid Tryz.prog 29 os).heap.setIfInBounds 3 (.cells (Go.Pinned.utf8FirstZ.map fun n : Nat => Value.int .u8 (n : Int)).toArray 244 (0, 0)) }
end Go.Proofs.YtpmfmkpfjomgnaaGreatDoor
