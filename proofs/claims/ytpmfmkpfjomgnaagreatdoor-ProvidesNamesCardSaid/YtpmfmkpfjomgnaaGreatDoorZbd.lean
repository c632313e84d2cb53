/- Systems: tests asked of lists of numbers. Whether a system meets what has no arguments; whether a dependency may be asked. The tests of a list of dependencies. A choice of tests. Whether a system meets a choice. Whether a system meets a choice of names. Whether a system meets a dependency: Met, of known systems. Who meets a dependency: those, Who. Who meets a dependency: Who. The chapter's packages, as data: both pools take them. The chapter's packages in memory. The chapter's packages as they are handed in, and that both pools take them. -/
import Derived.Test.YtpmfmkpfjomgnaaGreatDoorZbc
import Derived.Test.YtpmfmkpfjomgnaaGreatDoorZap
/- Systems: tests asked of lists of numbers. -/
namespace Go.Proofs.YtpmfmkpfjomgnaaGreatDoor
set_option linter.unusedSimpArgs false
set_option linter.unusedVariables false
open Go.RowKit

/-- A slice of numbers. -/
def IntsAt (w : World) (zs : List Int) (A : Option Addr) : Prop := ∀ k z, zs[k]? = some z → ∃ b o, A = some ⟨b, o, none⟩ ∧ w.cell? ⟨b, o + k, none⟩ = some (.int .i64 z)
theorem IntsAt.below {w w' : World} {zs : List Int} {A : Option Addr} (h : IntsAt w zs A) (hb : Below w.heap.size w w') : IntsAt w' zs A := fun k z hk => by
  obtain ⟨b, o, e, h2⟩ := h k z hk
  exact ⟨b, o, e, (World.cell?_of_block (hb.block b (cell_lt h2))).trans h2⟩
set_option maxHeartbeats 2000000 in
set_option maxRecDepth 100000 in
theorem intIndex_any (f : FuncId) (cap : Array Value) (ef : ∀ args w, (callFunc f args).run Tryz.prog w = .ok (.enter f args) w) (G : Int → Bool → Prop) (ds : List Int) (A : Option Addr) (c : Nat) (w0 : World) (hA : IntsAt w0 ds A) (hl : ds.length ≤ c) (hc : c ≤ maxLen)
    (hp : ∀ d ∈ ds, ∀ (w : World), Below w0.heap.size w0 w → Calls Tryz.prog f (#[.int .i64 d] ++ cap) w fun e w' => BoolPost (G d) e ∧ Below w.heap.size w w') :
    Calls Tryz.prog 109 #[.slice A ds.length c, .func (.func f) #[] cap] w0 fun e w' => IdxPost ds G e ∧ Below w0.heap.size w0 w' := by
  unfold maxLen at hc
  rcases Nat.eq_zero_or_pos ds.length with h0 | h0
  · obtain rfl := List.eq_nil_of_length_eq_zero h0
    clear hA h0 hp
    go_enter Tryz.func109, Tryz.ntmps109
    go_wp2_with fail
    go_loop [8] (fun i => i = .int .i64 0) (fun i => 0)
    case atStart => rfl
    case round =>
      subst hrel
      go_wp2_with fail
      go_ret
      exact ⟨⟨-1, false, by decide, .inr ⟨rfl, by simp⟩, rfl⟩, Below.refl _ _⟩
  obtain ⟨b, o, rfl, -⟩ := hA 0 ds[0] (List.getElem?_eq_getElem h0)
  have HA : Hid (∀ (k : Nat) (hk : k < ds.length), w0.cell? ⟨b, o + k, none⟩ = some (.int .i64 ds[k])) := fun k hk => by
    obtain ⟨b', o', e, h2⟩ := hA k ds[k] (List.getElem?_eq_getElem hk)
    injection e with e
    injection e with e1 e2
    subst e1; subst e2
    exact h2
  have HPr := Lib.hid hp
  clear hA hp
  go_enter Tryz.func109, Tryz.ntmps109
  go_wp2_with fail
  go_loopw [8] (fun i wx => ∃ k : Nat, k ≤ ds.length ∧ i = .int .i64 (k : Int) ∧ Hid (∀ a ∈ ds.take k, G a false) ∧ Hid (Below w0.heap.size w0 wx)) (fun i _ => ds.length - (intOf i).toNat)
  case atStart => exact ⟨0, Nat.zero_le _, rfl, show ∀ a ∈ ds.take 0, G a false from by simp, Below.refl _ _⟩
  case round =>
    obtain ⟨k, hk, rfl, hall, hb⟩ := hrel
    by_cases hlt : k < ds.length
    · have hC := HA.out k hlt
      have c0 := (World.cell?_of_block (hb.out.block b (cell_lt hC))).trans hC
      have C := Lib.hid (HPr.out ds[k] (List.getElem_mem hlt) wr hb.out)
      have hz := hb.out.size
      clear hC
      go_wp2_with fail
      refine C.out.mono ?_
      rintro e w1 ⟨⟨bb, hg, rfl⟩, hb1⟩
      have HB : Hid (Below w0.heap.size w0 w1) := hb.out.trans (hb1.mono hz)
      clear hb1 hb C c0
      have HG := Lib.hid hg
      clear hg
      cases bb with
      | false =>
        have HN : Hid (∀ a ∈ ds.take (k + 1), G a false) := alls_snoc hall.out (List.getElem?_eq_getElem hlt) HG.out
        clear hall HG
        go_wp2_with fail
        go_roundw
        case rel => exact ⟨k + 1, by omega, by go_num, HN, HB⟩
        case measure => simp [intOf]; omega
      | true =>
        have HN : Hid (Anys ds G true) := .inl ⟨rfl, ds[k], List.getElem_mem hlt, HG.out⟩
        clear hall HG
        go_wp2_with fail
        go_ret
        exact ⟨⟨k, true, by simp, HN.out, rfl⟩, HB.out⟩
    · have HN : Hid (Anys ds G false) := .inr ⟨rfl, by
        have := hall.out
        rwa [List.take_of_length_le (by omega)] at this⟩
      clear hall
      go_wp2_with fail
      go_ret
      exact ⟨⟨-1, false, by decide, HN.out, rfl⟩, hb.out⟩
set_option maxHeartbeats 1000000 in
set_option maxRecDepth 100000 in
theorem intContains_any (f : FuncId) (cap : Array Value) (ef : ∀ args w, (callFunc f args).run Tryz.prog w = .ok (.enter f args) w) (G : Int → Bool → Prop) (ds : List Int) (A : Option Addr) (c : Nat) (w0 : World) (hA : IntsAt w0 ds A) (hl : ds.length ≤ c) (hc : c ≤ maxLen)
    (hp : ∀ d ∈ ds, ∀ (w : World), Below w0.heap.size w0 w → Calls Tryz.prog f (#[.int .i64 d] ++ cap) w fun e w' => BoolPost (G d) e ∧ Below w.heap.size w w') :
    Calls Tryz.prog 62 #[.slice A ds.length c, .func (.func f) #[] cap] w0 fun e w' => BoolPost (Anys ds G) e ∧ Below w0.heap.size w0 w' := by
  have C := Lib.hid (intIndex_any f cap ef G ds A c w0 hA hl hc hp)
  clear hA hp
  go_enter Tryz.func62, Tryz.ntmps62
  go_wp2_with fail
  refine C.out.mono ?_
  rintro e w1 ⟨⟨n, b, hn, ha, rfl⟩, hb1⟩
  have HB := Lib.hid hb1
  have HN := Lib.hid hn
  have HA := Lib.hid ha
  clear hb1 hn C ha
  go_wp2_with fail
  go_ret
  exact ⟨⟨b, HA.out, ret_bool HN.out⟩, HB.out⟩

/-- Numbers of packages, as numbers. -/
def zsOf (ids : List Nat) : List Int := ids.map fun i => ((i : Nat) : Int)
/-- fv is a test of systems of packages below N that tells q, as long as the blocks D stay. -/
def TestS (w : World) (D : Nat → Prop) (N : Nat) (fv : Value) (q : List Nat → Bool) : Prop :=
  ∃ f cap, fv = .func (.func f) #[] cap ∧ (∀ args w, (callFunc f args).run Tryz.prog w = .ok (.enter f args) w) ∧ (∀ b, D b → b < w.heap.size) ∧
    ∀ (w' : World) (ids : List Nat) (A : Option Addr) (c : Nat), w.heap.size ≤ w'.heap.size → StayS D w w' → IntsAt w' (zsOf ids) A → ids.length ≤ c → c ≤ maxLen → (∀ i ∈ ids, i < N) → Calls Tryz.prog f (#[.slice A ids.length c] ++ cap) w' fun e w2 => e = .returned (.bool (q ids)) ∧ Below w'.heap.size w' w2
theorem TestS.later {w w' : World} {D : Nat → Prop} {N : Nat} {fv : Value} {q : List Nat → Bool} (h : TestS w D N fv q) (hz : w.heap.size ≤ w'.heap.size) (hb : StayS D w w') : TestS w' D N fv q := by
  obtain ⟨f, cap, h1, h2, h3, h4⟩ := h
  exact ⟨f, cap, h1, h2, fun b hd => Nat.lt_of_lt_of_le (h3 b hd) hz, fun w2 ids A c hz2 hb2 => h4 w2 ids A c (Nat.le_trans hz hz2) (fun b hd hl => (hb2 b hd (Nat.lt_of_lt_of_le hl hz)).trans (hb b hd hl))⟩
def MadeS (w : World) (N : Nat) (q : List Nat → Bool) (e : Ending) (w' : World) : Prop := ∃ fv D, e = .returned fv ∧ Below w.heap.size w w' ∧ TestS w' D N fv q ∧ ∀ b, D b → w.heap.size ≤ b
set_option maxHeartbeats 1000000 in
set_option maxRecDepth 100000 in
/-- A system has one that a test tells. -/
theorem any_test {w : World} {N bt : Nat} {fv : Value} {p : Nat → Bool} {tt : TypeId} {D : Nat → Prop} (ht : TestI w D N fv p) (hK : Blk w bt tt #[fv]) :
    TestS w (fun b => D b ∨ b = bt) N (.func (.func 114) #[] #[.pointer (some ⟨bt, 0, none⟩)]) fun ids => ids.any p := by
  obtain ⟨f, cap, rfl, ef, hD, hT⟩ := ht
  refine ⟨_, _, rfl, enters_of Tryz.func114 (by kernel_rfl) rfl, (fun b hd => hd.elim (hD b) (fun e => e ▸ hK.lt)), fun w' ids A c hzw hb hA hl hc hid => ?_⟩
  have hK' : Blk w' bt tt #[.func (.func f) #[] cap] := (hb bt (.inr rfl) hK.lt).trans hK
  have k0 := hK'.cell 0
  simp at k0
  have hlen : (zsOf ids).length = ids.length := by simp [zsOf]
  have C := intContains_any f cap ef (fun z b => ∃ i : Nat, z = (i : Int) ∧ i ∈ ids ∧ b = p i) (zsOf ids) A c w' hA (by omega) hc (fun z hz w2 hb2 => by
    obtain ⟨i, hi, rfl⟩ := List.mem_map.1 hz
    exact (hT w2 i (Nat.le_trans hzw hb2.size) (fun b hd hlb => (hb2.block b (Nat.lt_of_lt_of_le hlb hzw)).trans (hb b (.inl hd) hlb)) (hid i hi)).mono fun e w3 ⟨h1, h2⟩ => ⟨⟨_, ⟨i, rfl, hi, rfl⟩, h1⟩, h2⟩)
  rw [hlen] at C
  have HC := Lib.hid C
  clear C hT hK hK' hA ef hb hid hD hzw
  show Calls Tryz.prog _ #[.slice A ids.length c, .pointer (some ⟨bt, 0, none⟩)] w' fun e w2 => e = .returned (.bool (ids.any p)) ∧ Below w'.heap.size w' w2
  unfold maxLen at hc
  go_enter Tryz.func114, Tryz.ntmps114
  go_wp2_with fail
  refine HC.out.mono ?_
  rintro e w2 ⟨⟨b, ha, rfl⟩, hb2⟩
  have HV : Hid (b = ids.any p) := by
    show b = _
    rcases ha with ⟨rfl, z, hz, i, rfl, hi, h⟩ | ⟨rfl, h⟩
    · exact (List.any_eq_true.2 ⟨i, hi, h.symm⟩).symm
    · symm
      rw [List.any_eq_false]
      intro i hi
      obtain ⟨i', e, _, h2⟩ := h ((i : Nat) : Int) (List.mem_map.2 ⟨i, hi, rfl⟩)
      have : i' = i := by omega
      subst this
      rw [← h2]; simp
  have HB := Lib.hid hb2
  clear ha hb2 HC k0
  go_wp2_with fail
  go_ret
  exact ⟨ret_bool HV.out, HB.out⟩
end Go.Proofs.YtpmfmkpfjomgnaaGreatDoor

/- Whether a system meets what has no arguments; whether a dependency may be asked. -/
namespace Go.Proofs.YtpmfmkpfjomgnaaGreatDoor
set_option linter.unusedSimpArgs false
set_option linter.unusedVariables false
open Go.RowKit

set_option maxHeartbeats 4000000 in
set_option maxRecDepth 100000 in
theorem together_leaf {w : World} {x N : Nat} {kind : Int} {os : List (ByteArray × Offer)} (h : IdxNow w x kind (N : Int) os) (d : Dep) (h2 : d.kind ≠ 2) (h3 : d.kind ≠ 3) (h4 : d.kind ≠ 4) (h5 : d.kind ≠ 5) (h6 : d.kind ≠ 6) (A : Option Addr) (c : Nat) (hsz : d.name.size ≤ maxLen) (hid : ∀ o ∈ offs d.name os, o.id < N) (hN : N ≤ 1000000) :
    Calls Tryz.prog 64 #[.pointer (some ⟨x, 0, none⟩), .agg (rowD d (.slice A 0 c))] w (MadeS w N fun ids => ids.any (aloneB kind os d)) := by
  have hmf : ∀ (fn : Fn) (first cap : Array Value) (w : World), (Instr.makeFunc fn first cap).run Tryz.prog w = .ok (.func fn first cap) w := fun _ _ _ _ => rfl
  obtain ⟨w1, hw1⟩ : ∃ w1, w1 = w.alloc (.cells (rowD d (.slice A 0 c)) 50) := ⟨_, rfl⟩
  have hb1 : Below w.heap.size w w1 := by rw [hw1]; exact (Below.refl _ _).alloc (Nat.le_refl _) _
  have KD : Blk w1 w.heap.size 50 (rowD d (.slice A 0 c)) := by rw [hw1]; exact Blk.new _ _ _
  have CA := Lib.hid (alone_leaf (h.below hb1) d h5 h6 A c hsz hid hN)
  have HB := Lib.hid hb1
  have d0 := KD.cell 0
  have d1 := KD.cell 1
  have d2 := KD.cell 2
  have d3 := KD.cell 3
  have d4 := KD.cell 4
  unfold rowD at d0 d1 d2 d3 d4 CA
  simp at d0 d1 d2 d3 d4
  have t2 : (d.kind == 2) = false := beq_eq_false_iff_ne.2 h2
  have t3 : (d.kind == 3) = false := beq_eq_false_iff_ne.2 h3
  have t4 : (d.kind == 4) = false := beq_eq_false_iff_ne.2 h4
  clear KD h hb1 hid h2 h3 h4 h5 h6
  unfold rowD at hw1 ⊢
  go_enter Tryz.func64, Tryz.ntmps64
  go_upto_region 1 with fail
  rw [← hw1]
  clear hw1
  go_wp2_with fail
  refine CA.out.mono ?_
  rintro e w3 ⟨fv, D, rfl, hb3, ht, hD⟩
  obtain ⟨w4, hw4⟩ : ∃ w4, w4 = w3.alloc (.cells #[fv] 107) := ⟨_, rfl⟩
  have hb4 : Below w3.heap.size w3 w4 := by rw [hw4]; exact (Below.refl _ _).alloc (Nat.le_refl _) _
  have KF : Blk w4 w3.heap.size 107 #[fv] := by rw [hw4]; exact Blk.new _ _ _
  have hT := any_test (ht.later hb4.size (StayS.below' hb4)) KF
  have HV : Hid (MadeS w N (fun ids => ids.any (aloneB kind os d)) (.returned (.func (.func 114) #[] #[.pointer (some ⟨w3.heap.size, 0, none⟩)])) w4) := by
    have hs1 := HB.out.size
    have hs3 := hb3.size
    refine ⟨_, _, rfl, HB.out.trans ((hb3.trans (hb4.mono hb3.size)).mono HB.out.size), hT, fun b hb => ?_⟩
    rcases hb with hb | rfl
    · exact Nat.le_trans hs1 (hD b hb)
    · omega
  obtain ⟨ff, cf, rfl, -⟩ := ht
  have hst := fun (a : Addr) (m : _) (w : World) => run_store Tryz.prog w a (.func (.func ff) #[] cf) m rfl
  clear hb3 hD hb4 KF hT CA d0 d1 d2 d3 d4
  go_upto_region 9 with fail
  rw [← hw4]
  clear hw4
  go_wp2_with fail
  go_ret
  exact HV.out
/-- Is it a dependency, and is there an index? -/
theorem checkX_any {w : World} {x N : Nat} {kind : Int} {os : List (ByteArray × Offer)} (h : IdxNow w x kind (N : Int) os) (d : Dep) (s : Value) (S : Nat → Prop) (hL : Lay w S d s) (hC : CleanS w S) (hT : Tabs w) (hN : nodes d ≤ 4194304) :
    Calls Tryz.prog 59 #[.pointer (some ⟨x, 0, none⟩), .agg (rowD d s)] w fun e w' => e = .returned (.int .i64 (checkN d)) ∧ Below w.heap.size w w' := by
  obtain ⟨A, c, rfl, _, _⟩ := hL.form_
  obtain ⟨w1, hw1⟩ : ∃ w1, w1 = w.alloc (.cells (rowD d (.slice A d.args.length c)) 50) := ⟨_, rfl⟩
  have hb1 : Below w.heap.size w w1 := by rw [hw1]; exact (Below.refl _ _).alloc (Nat.le_refl _) _
  have KD : Blk w1 w.heap.size 50 (rowD d (.slice A d.args.length c)) := by rw [hw1]; exact Blk.new _ _ _
  have CD := Lib.hid (depCheck_any d _ S w1 (hL.stay (fun _ h => h) (StayS.below' hb1)) (hC.stay (StayS.below' hb1)) (hT.below hb1 hT.two) hN)
  have HB := Lib.hid hb1
  have d0 := KD.cell 0
  have d1 := KD.cell 1
  have d2 := KD.cell 2
  have d3 := KD.cell 3
  have d4 := KD.cell 4
  unfold rowD at d0 d1 d2 d3 d4 CD
  simp at d0 d1 d2 d3 d4
  clear KD h hL hC hT hb1
  unfold rowD at hw1 ⊢
  generalize checkN d = n at *
  go_enter Tryz.func59, Tryz.ntmps59
  go_upto_region 1 with fail
  rw [← hw1]
  clear hw1
  go_wp2_with fail
  refine CD.out.mono ?_
  rintro e w2 ⟨rfl, hb2⟩
  have HB2 : Hid (Below w.heap.size w w2) := HB.out.trans (hb2.mono HB.out.size)
  clear hb2 CD d0 d1 d2 d3 d4
  go_wp2_with fail
  go_ret
  exact ⟨rfl, HB2.out⟩
end Go.Proofs.YtpmfmkpfjomgnaaGreatDoor

/- The tests of a list of dependencies. -/
namespace Go.Proofs.YtpmfmkpfjomgnaaGreatDoor
set_option linter.unusedSimpArgs false
set_option linter.unusedVariables false
open Go.RowKit

/-- A row v of tests, one for each of the first k dependencies. -/
structure EaOk (w0 wx : World) (N : Nat) (qs : Dep → List Nat → Bool) (ds : List Dep) (k : Nat) (v : Value) (fvs : List Value) : Prop where
  below : Below w0.heap.size w0 wx
  own : wx.ownsRow w0.heap.size 111 1 v fvs.length fvs
  len : fvs.length = k
  tests : ∀ (i : Nat) (d : Dep) (fv : Value), ds[i]? = some d → fvs[i]? = some fv → ∃ D, TestS wx D N fv (qs d) ∧ ∀ b, D b → w0.heap.size ≤ b ∧ v.ownBlock ≠ some b
theorem EaOk.next {w0 wr wB w4 : World} {N : Nat} {qs : Dep → List Nat → Bool} {ds : List Dep} {k : Nat} {v v4 fv : Value} {fvs : List Value} {d : Dep} {D : Nat → Prop} (h : EaOk w0 wr N qs ds k v fvs) (hb : Below wr.heap.size wr wB)
    (hf : TestS wB D N fv (qs d)) (hD : ∀ b, D b → wr.heap.size ≤ b) (hd : ds[k]? = some d) (hg : wB.grownBy w4 v.ownBlock) (hown : w4.ownsRow w0.heap.size 111 1 v4 (fvs.length + 1) (fvs ++ [fv])) (hat : v4.ownBlock = v.ownBlock ∨ v4.ownBlock = some wB.heap.size) :
    EaOk w0 w4 N qs ds (k + 1) v4 (fvs ++ [fv]) := by
  have hsz := h.below.size
  have hszb := hb.size
  have key : ∀ (D : Nat → Prop) fv q, TestS wB D N fv q → (∀ b, D b → w0.heap.size ≤ b ∧ v.ownBlock ≠ some b) → TestS w4 D N fv q ∧ ∀ b, D b → w0.heap.size ≤ b ∧ v4.ownBlock ≠ some b := fun D fv q ht hn => by
    refine ⟨ht.later hg.size fun b hd hl => hg.block b hl (fun e => (hn b hd).2 e.symm), fun b hd => ⟨(hn b hd).1, fun e => ?_⟩⟩
    obtain ⟨_, _, _, _, h3, _⟩ := ht
    rcases hat with h1 | h1
    · exact (hn b hd).2 (h1.symm.trans e)
    · rw [e] at h1; injection h1 with h1; have := h3 b hd; omega
  refine ⟨(h.below.trans (hb.mono hsz)).grown hg (by omega) (fun k hk => (h.own.lt k hk).1), by rw [List.length_append]; exact hown, by rw [List.length_append, h.len]; rfl, fun i d' fv' hi hfi => ?_⟩
  by_cases hlt : i < fvs.length
  · rw [List.getElem?_append_left hlt] at hfi
    obtain ⟨D', ht, hn⟩ := h.tests i d' fv' hi hfi
    obtain ⟨t1, t2⟩ := key D' fv' _ (ht.later hszb (StayS.below' hb)) hn
    exact ⟨D', t1, t2⟩
  · have hik : i = k := by
      have := (List.getElem?_eq_some_iff.1 hfi).1
      rw [List.length_append] at this
      have := h.len
      simp at *
      omega
    subst hik
    rw [hd] at hi
    injection hi with hi
    subst hi
    have : fv' = fv := by
      rw [← h.len, List.getElem?_append_right (Nat.le_refl _)] at hfi
      simpa using hfi.symm
    subst this
    obtain ⟨t1, t2⟩ := key D fv' _ hf fun b hb' => ⟨by have := hD b hb'; omega, fun e => by have := (h.own.lt b e).2; have := hD b hb'; omega⟩
    exact ⟨D, t1, t2⟩
def EachS (w0 : World) (N : Nat) (qs : Dep → List Nat → Bool) (ds : List Dep) (e : Ending) (w' : World) : Prop := ∃ v fvs, e = .returned v ∧ EaOk w0 w' N qs ds ds.length v fvs
theorem info_test : ∃ i, Tryz.prog.info? 111 = some i ∧ i.zero = some .nilFunc ∧ i.size = 1 ∧ i.bytes = 8 := by
  have h : (Tryz.prog.info? 111).map (fun i => (i.zero, i.size, i.bytes)) = some (some .nilFunc, 1, 8) := by kernel_rfl
  obtain ⟨i, hi, h2⟩ := Option.map_eq_some_iff.1 h
  simp only [Prod.mk.injEq] at h2
  exact ⟨i, hi, h2.1, h2.2.1, h2.2.2⟩
set_option maxHeartbeats 4000000 in
set_option maxRecDepth 100000 in
theorem eachS_any {x N : Nat} (qs : Dep → List Nat → Bool) (ds : List Dep) (A : Option Addr) (c : Nat) (S : Nat → Prop) (w0 : World) (hA : ArgsAt w0 S ds A) (hl : ds.length ≤ c) (hc : c ≤ maxLen) (hfew : ds.length ≤ 100000)
    (hCall : ∀ d ∈ ds, ∀ (t : Value) (w : World), Below w0.heap.size w0 w → Lay w S d t → Calls Tryz.prog 64 #[.pointer (some ⟨x, 0, none⟩), .agg (rowD d t)] w (MadeS w N (qs d))) :
    Calls Tryz.prog 111 #[.slice A ds.length c, .func (.func 64) #[.pointer (some ⟨x, 0, none⟩)] #[]] w0 (EachS w0 N qs ds) := by
  unfold maxLen at hc
  obtain ⟨i0, hi0, hz0⟩ := info_test
  have hi := Lib.hid hi0
  have hz := Lib.hid hz0
  have HA := Lib.hid hA
  have HC := Lib.hid hCall
  clear hi0 hz0 hA hCall
  have H0 : Hid (EaOk w0 w0 N qs ds 0 (.slice none 0 0) []) := ⟨Below.refl _ _, World.ownsRow_nil _ _ _ _, rfl, fun i d fv _ h => by simp at h⟩
  have ef := enters_of Tryz.func64 (by kernel_rfl) rfl
  go_enter Tryz.func111, Tryz.ntmps111
  go_wp2_with fail
  go_loopw [5, 10] (fun v5 v wx => ∃ (k : Nat) (fvs : List Value), k ≤ ds.length ∧ v = .int .i64 (k : Int) ∧ Hid (EaOk w0 wx N qs ds k v5 fvs)) (fun _ v _ => ds.length - (intOf v).toNat)
  case atStart => exact ⟨0, [], Nat.zero_le _, rfl, H0⟩
  case round =>
    clear H0
    obtain ⟨k, fvs, hk, rfl, HE⟩ := hrel
    obtain ⟨Av, cv, rfl, hv1, hv2⟩ := own_form' HE.out.own
    have hle := HE.out.len
    subst hle
    unfold maxLen at hv2
    by_cases hlt : fvs.length < ds.length
    · obtain ⟨d, hd⟩ : ∃ d, ds[fvs.length]? = some d := ⟨_, List.getElem?_eq_getElem hlt⟩
      obtain ⟨b, o, t, rfl, hSb, hCd, hLa⟩ := (HA.out.stay (fun _ h => h) (StayS.below' HE.out.below)) fvs.length d hd
      obtain ⟨At, ct, rfl, _, _⟩ := hLa.form_
      obtain ⟨e0, e1, e2, e3, e4⟩ := hCd
      obtain ⟨wA, hwA⟩ : ∃ wA, wA = wr.alloc (.cells (rowD d (.slice At d.args.length ct)) 50) := ⟨_, rfl⟩
      have hbA : Below wr.heap.size wr wA := by rw [hwA]; exact (Below.refl _ _).alloc (Nat.le_refl _) _
      have KA : Blk wA wr.heap.size 50 (rowD d (.slice At d.args.length ct)) := by rw [hwA]; exact Blk.new _ _ _
      have CT := Lib.hid (HC.out d (List.mem_of_getElem? hd) _ wA (HE.out.below.trans (hbA.mono HE.out.below.size)) (hLa.stay (fun _ h => h) (StayS.below' hbA)))
      have HBA := Lib.hid hbA
      have HD := Lib.hid hd
      have q0 := KA.cell 0
      have q1 := KA.cell 1
      have q2 := KA.cell 2
      have q3 := KA.cell 3
      have q4 := KA.cell 4
      unfold rowD at q0 q1 q2 q3 q4 hwA CT
      simp at q0 q1 q2 q3 q4
      clear hd hSb hLa hbA KA
      go_upto_region 5 with fail
      rw [← hwA]
      clear hwA e0 e1 e2 e3 e4
      go_wp2_with fail
      refine CT.out.mono ?_
      rintro e w2 ⟨fv, D, rfl, hb2, hT, hD⟩
      have HN : Hid (∀ v4 w4, (w2.alloc (.cells #[fv] 111)).grownBy w4 (Value.slice Av fvs.length cv).ownBlock → w4.ownsRow w0.heap.size 111 1 v4 (fvs.length + 1) (fvs ++ [fv]) → (v4.ownBlock = (Value.slice Av fvs.length cv).ownBlock ∨ v4.ownBlock = some (w2.alloc (.cells #[fv] 111)).heap.size) → EaOk w0 w4 N qs ds (fvs.length + 1) v4 (fvs ++ [fv])) := fun v4 w4 hg hown hat => by
        have hba : Below w2.heap.size w2 (w2.alloc (.cells #[fv] 111)) := (Below.refl _ _).alloc (Nat.le_refl _) _
        have h2a := hb2.trans (hba.mono hb2.size)
        exact HE.out.next (HBA.out.trans (h2a.mono HBA.out.size)) (hT.later hba.size (StayS.below' hba)) (fun b hb => Nat.le_trans HBA.out.size (hD b hb)) HD.out hg hown hat
      have HOwn : Hid ((w2.alloc (.cells #[fv] 111)).ownsRow w0.heap.size 111 1 (.slice Av fvs.length cv) fvs.length fvs) :=
        own_turnedP HE.out.own ((TurnedP.of_below (HBA.out.trans (hb2.mono HBA.out.size)) fun _ => False).alloc _) fun _ _ h => h
      have hge : Hid (w0.heap.size ≤ w2.heap.size) := Nat.le_trans HE.out.below.size (Nat.le_trans HBA.out.size hb2.size)
      obtain ⟨ff, cf, rfl, -⟩ := hT
      clear hb2 hD CT q0 q1 q2 q3 q4
      go_wp2_with (at_builtin; refine wpList_append_own_at _ rfl (.tmp 14) (.tmp 18) 159 rfl w0.heap.size 111 i0 .nilFunc 1 8 Tryz.underlying159 hi.out hz.out.1 hz.out.2.1 hz.out.2.2 rfl (by decide) (.slice Av fvs.length cv) fvs.length fvs rfl HOwn.out ⟨w2.heap.size, 0, none⟩ 1 1 [.func (.func ff) #[] cf] rfl rfl (cell_one_new w2 _ _) (by intro u hu; simp at hu; subst hu; rfl) (by unfold maxLen; omega) (by omega) (by have := hge.out; simp; omega) ?_; intro v4 w4 hown4 hg4 hnil4 hat4; have HX := Lib.hid (HN.out v4 w4 hg4 hown4 hat4); clear hown4 hg4 hnil4 hat4)
      go_roundw
      case rel => exact ⟨fvs.length + 1, _, by omega, by go_num, HX⟩
      case measure => simp [intOf]; omega
    · have hkl : fvs.length = ds.length := by omega
      have HV : Hid (EachS w0 N qs ds (.returned (.slice Av fvs.length cv)) wr) := ⟨_, fvs, rfl, by rw [← hkl]; exact HE.out⟩
      clear hkl
      clear HE
      go_wp2_with fail
      go_ret
      exact HV.out
end Go.Proofs.YtpmfmkpfjomgnaaGreatDoor

/- A choice of tests. -/
namespace Go.Proofs.YtpmfmkpfjomgnaaGreatDoor
set_option linter.unusedSimpArgs false
set_option linter.unusedVariables false
open Go.RowKit

/-- What a choice of two or three tells. -/
def choiceB (n : Nat) (q0 q1 q2 : List Nat → Bool) (ids : List Nat) : Bool := if q1 ids = true then q0 ids else (decide (n = 2) || q2 ids)
/-- A system, asked of a test. -/
def AskS (w : World) (N : Nat) (fv : Value) (q : List Nat → Bool) (ids : List Nat) (A : Option Addr) (c : Nat) : Prop :=
  ∃ f cap, fv = .func (.func f) #[] cap ∧ (∀ args w, (callFunc f args).run Tryz.prog w = .ok (.enter f args) w) ∧ ∀ w', Below w.heap.size w w' → Calls Tryz.prog f (#[.slice A ids.length c] ++ cap) w' fun e w2 => e = .returned (.bool (q ids)) ∧ Below w'.heap.size w' w2
theorem TestS.ask {w w' : World} {D : Nat → Prop} {N : Nat} {fv : Value} {q : List Nat → Bool} (h : TestS w D N fv q) (hz : w.heap.size ≤ w'.heap.size) (hb : StayS D w w') {ids : List Nat} {A : Option Addr} {c : Nat} (hA : IntsAt w' (zsOf ids) A) (hl : ids.length ≤ c) (hc : c ≤ maxLen) (hid : ∀ i ∈ ids, i < N) :
    AskS w' N fv q ids A c := by
  obtain ⟨f, cap, h1, h2, h3, h4⟩ := h
  exact ⟨f, cap, h1, h2, fun w2 hb2 => h4 w2 ids A c (Nat.le_trans hz hb2.size) (fun b hd hl => (hb2.block b (Nat.lt_of_lt_of_le hl hz)).trans (hb b hd hl)) (hA.below hb2) hl hc hid⟩
set_option maxHeartbeats 2000000 in
set_option maxRecDepth 100000 in
theorem choice_run {w : World} {N bx g n c cr : Nat} {tb : TypeId} {fv0 fv1 fv2 : Value} {q0 q1 q2 : List Nat → Bool} {ids : List Nat} {A : Option Addr} (hK : Blk w bx tb #[.slice (some ⟨g, 0, none⟩) n cr]) (hn : n = 2 ∨ n = 3) (hcr : n ≤ cr ∧ cr ≤ maxLen)
    (h0 : w.cell? ⟨g, 0, none⟩ = some fv0) (h1 : w.cell? ⟨g, 1, none⟩ = some fv1) (h2 : n = 3 → w.cell? ⟨g, 2, none⟩ = some fv2) (a0 : AskS w N fv0 q0 ids A c) (a1 : AskS w N fv1 q1 ids A c) (a2 : n = 3 → AskS w N fv2 q2 ids A c) :
    Calls Tryz.prog 158 #[.slice A ids.length c, .pointer (some ⟨bx, 0, none⟩)] w fun e w' => e = .returned (.bool (choiceB n q0 q1 q2 ids)) ∧ Below w.heap.size w w' := by
  obtain ⟨hcr1, hcr2⟩ := hcr
  unfold maxLen at hcr2
  obtain ⟨y, hy⟩ : ∃ y, y = choiceB n q0 q1 q2 ids := ⟨_, rfl⟩
  rw [← hy]
  have HY := Lib.hid hy
  have k0 := hK.cell 0
  simp at k0
  obtain ⟨f0, p0, rfl, e0, C0⟩ := a0
  obtain ⟨f1, p1, rfl, e1, C1⟩ := a1
  have H2 : Hid (∀ wx, Below w.heap.size w wx → wx.cell? ⟨bx, 0, none⟩ = some (.slice (some ⟨g, 0, none⟩) n cr) ∧ wx.cell? ⟨g, 0, none⟩ = some (.func (.func f0) #[] p0) ∧ (n = 3 → wx.cell? ⟨g, 2, none⟩ = some fv2)) := fun wx hb => by
    refine ⟨(hK.below hb hK.lt).cell 0, (World.cell?_of_block (hb.block g (cell_lt h0))).trans h0, fun h => (World.cell?_of_block (hb.block g (cell_lt h0))).trans (h2 h)⟩
  have HC0 := Lib.hid C0
  have HC1 := Lib.hid (C1 w (Below.refl _ _))
  have HA2 := Lib.hid a2
  clear hy hK C0 C1 a2 h2
  have hn1 : (1 : Nat) < n := by omega
  go_enter Tryz.func158, Tryz.ntmps158
  rcases hn with rfl | rfl
  · cases hq : q1 ids with
    | true =>
      have HV : Hid (y = q0 ids) := by show y = _; rw [HY.out]; unfold choiceB; rw [if_pos hq]
      rw [hq] at HC1
      clear hq HY HA2
      go_wp2_with fail
      refine HC1.out.mono ?_
      rintro e w2 ⟨rfl, hb2⟩
      obtain ⟨k0', z0, -⟩ := H2.out w2 hb2
      have HC := Lib.hid (HC0.out w2 hb2)
      have HB := Lib.hid hb2
      clear HC0 HC1 hb2 k0 h0 h1
      go_wp2_with fail
      refine HC.out.mono ?_
      rintro e w3 ⟨rfl, hb3⟩
      have HB3 : Hid (Below w.heap.size w w3) := HB.out.trans (hb3.mono HB.out.size)
      clear hb3 HC
      go_wp2_with fail
      go_ret
      exact ⟨ret_bool HV.out.symm, HB3.out⟩
    | false =>
      have HV : Hid (y = true) := by show y = _; rw [HY.out]; unfold choiceB; rw [if_neg (by simp [hq])]; simp
      rw [hq] at HC1
      clear hq HY HA2 HC0
      go_wp2_with fail
      refine HC1.out.mono ?_
      rintro e w2 ⟨rfl, hb2⟩
      obtain ⟨k0', z0, -⟩ := H2.out w2 hb2
      have HB := Lib.hid hb2
      clear HC1 hb2 k0 h0 h1
      go_wp2_with fail
      go_ret
      exact ⟨ret_bool HV.out.symm, HB.out⟩
  · obtain ⟨f2, p2, rfl, e2, C2⟩ := HA2.out rfl
    have HC2 := Lib.hid C2
    clear C2 HA2
    cases hq : q1 ids with
    | true =>
      have HV : Hid (y = q0 ids) := by show y = _; rw [HY.out]; unfold choiceB; rw [if_pos hq]
      rw [hq] at HC1
      clear hq HY HC2
      go_wp2_with fail
      refine HC1.out.mono ?_
      rintro e w2 ⟨rfl, hb2⟩
      obtain ⟨k0', z0, -⟩ := H2.out w2 hb2
      have HC := Lib.hid (HC0.out w2 hb2)
      have HB := Lib.hid hb2
      clear HC0 HC1 hb2 k0 h0 h1
      go_wp2_with fail
      refine HC.out.mono ?_
      rintro e w3 ⟨rfl, hb3⟩
      have HB3 : Hid (Below w.heap.size w w3) := HB.out.trans (hb3.mono HB.out.size)
      clear hb3 HC
      go_wp2_with fail
      go_ret
      exact ⟨ret_bool HV.out.symm, HB3.out⟩
    | false =>
      have HV : Hid (y = q2 ids) := by show y = _; rw [HY.out]; unfold choiceB; rw [if_neg (by simp [hq])]; simp
      rw [hq] at HC1
      clear hq HY HC0
      go_wp2_with fail
      refine HC1.out.mono ?_
      rintro e w2 ⟨rfl, hb2⟩
      obtain ⟨k0', z0, z2⟩ := H2.out w2 hb2
      have z2 := z2 (by first | trivial | rfl)
      have HC := Lib.hid (HC2.out w2 hb2)
      have HB := Lib.hid hb2
      clear HC2 HC1 hb2 k0 h0 h1
      go_wp2_with fail
      refine HC.out.mono ?_
      rintro e w3 ⟨rfl, hb3⟩
      have HB3 : Hid (Below w.heap.size w w3) := HB.out.trans (hb3.mono HB.out.size)
      clear hb3 HC
      go_wp2_with fail
      go_ret
      exact ⟨ret_bool HV.out.symm, HB3.out⟩
end Go.Proofs.YtpmfmkpfjomgnaaGreatDoor

/- Whether a system meets a choice. -/
namespace Go.Proofs.YtpmfmkpfjomgnaaGreatDoor
set_option linter.unusedSimpArgs false
set_option linter.unusedVariables false
open Go.RowKit

/-- A test of systems whose blocks lie from base on. -/
def MadeFrom (base : Nat) (w : World) (N : Nat) (q : List Nat → Bool) (e : Ending) (w' : World) : Prop := ∃ fv D, e = .returned fv ∧ Below w.heap.size w w' ∧ TestS w' D N fv q ∧ ∀ b, D b → base ≤ b
set_option maxHeartbeats 2000000 in
set_option maxRecDepth 100000 in
theorem choice_test {w0 w : World} {N : Nat} {qs : Dep → List Nat → Bool} {ds : List Dep} {v : Value} {fvs : List Value} (h : EaOk w0 w N qs ds ds.length v fvs) (d0 d1 d2 : Dep) (hds : ds = [d0, d1] ∨ ds = [d0, d1, d2]) :
    Calls Tryz.prog 113 #[v] w (MadeFrom w0.heap.size w N (choiceB ds.length (qs d0) (qs d1) (qs d2))) := by
  obtain ⟨Av, cv, rfl, hv1, hv2⟩ := own_form' h.own
  have hlen := h.len
  have hn : ds.length = 2 ∨ ds.length = 3 := by rcases hds with rfl | rfl <;> simp
  have g0 : ds[0]? = some d0 := by rcases hds with rfl | rfl <;> rfl
  have g1 : ds[1]? = some d1 := by rcases hds with rfl | rfl <;> rfl
  have g2 : ds.length = 3 → ds[2]? = some d2 := by rcases hds with rfl | rfl <;> simp
  obtain ⟨fv0, f0⟩ : ∃ x, fvs[0]? = some x := ⟨_, List.getElem?_eq_getElem (by omega)⟩
  obtain ⟨fv1, f1⟩ : ∃ x, fvs[1]? = some x := ⟨_, List.getElem?_eq_getElem (by omega)⟩
  obtain ⟨D0, t0, n0⟩ := h.tests 0 d0 fv0 g0 f0
  obtain ⟨D1, t1, n1⟩ := h.tests 1 d1 fv1 g1 f1
  have hx2 : ∃ fv2 D2, (ds.length = 3 → fvs[2]? = some fv2 ∧ TestS w D2 N fv2 (qs d2)) ∧ ∀ b, D2 b → b < w.heap.size ∧ w0.heap.size ≤ b := by
    rcases hn with hn | hn
    · exact ⟨.nilFunc, fun _ => False, fun h => by omega, fun _ h => h.elim⟩
    · obtain ⟨fv2, f2⟩ : ∃ x, fvs[2]? = some x := ⟨_, List.getElem?_eq_getElem (by omega)⟩
      obtain ⟨D2, t2, n2⟩ := h.tests 2 d2 fv2 (g2 hn) f2
      have hlt : ∀ b, D2 b → b < w.heap.size := by obtain ⟨_, _, _, _, h3, _⟩ := t2; exact h3
      exact ⟨fv2, D2, fun _ => ⟨f2, t2⟩, fun b hb => ⟨hlt b hb, (n2 b hb).1⟩⟩
  obtain ⟨fv2, D2, t2, n2⟩ := hx2
  obtain ⟨g, rfl, c0⟩ := own_ats h.own (k := 0) (u := fv0) (by simpa using f0)
  obtain ⟨_, e1, c1⟩ := own_ats h.own (k := 1) (u := fv1) (by simpa using f1)
  injection e1 with e1; injection e1 with e1; subst e1
  have c2 : ds.length = 3 → w.cell? ⟨g, 2, none⟩ = some fv2 := fun hn => by
    obtain ⟨_, e2, c2⟩ := own_ats h.own (k := 2) (u := fv2) (by simpa using (t2 hn).1)
    injection e2 with e2; injection e2 with e2; subst e2
    exact c2
  have hgb : w0.heap.size ≤ g := (h.own.lt g (by simp [Value.ownBlock])).1
  obtain ⟨w1, hw1⟩ : ∃ w1, w1 = w.alloc (.cells #[.slice (some ⟨g, 0, none⟩) fvs.length cv] 159) := ⟨_, rfl⟩
  have hb1 : Below w.heap.size w w1 := by rw [hw1]; exact (Below.refl _ _).alloc (Nat.le_refl _) _
  have KB : Blk w1 w.heap.size 159 #[.slice (some ⟨g, 0, none⟩) fvs.length cv] := by rw [hw1]; exact Blk.new _ _ _
  have l0 : ∀ b, D0 b → b < w.heap.size := by obtain ⟨_, _, _, _, h3, _⟩ := t0; exact h3
  have l1 : ∀ b, D1 b → b < w.heap.size := by obtain ⟨_, _, _, _, h3, _⟩ := t1; exact h3
  have hgl : g < w.heap.size := cell_lt c0
  have HV : Hid (MadeFrom w0.heap.size w N (choiceB ds.length (qs d0) (qs d1) (qs d2)) (.returned (.func (.func 158) #[] #[.pointer (some ⟨w.heap.size, 0, none⟩)])) w1) := by
    refine ⟨_, (fun b => b = w.heap.size ∨ b = g ∨ D0 b ∨ D1 b ∨ D2 b), rfl, hb1, ⟨_, _, rfl, enters_of Tryz.func158 (by kernel_rfl) rfl, fun b hb => ?_, fun w' ids A c hz hst hA hl hc hid => ?_⟩, fun b hb => ?_⟩
    · have := hb1.size
      have hk := KB.lt
      rcases hb with rfl | rfl | hb | hb | hb
      · exact hk
      · omega
      · have := l0 b hb; omega
      · have := l1 b hb; omega
      · have := (n2 b hb).1; omega
    · have hz1 := hb1.size
      have hst' : ∀ b, (b = g ∨ D0 b ∨ D1 b ∨ D2 b) → b < w.heap.size → w'.heap[b]? = w.heap[b]? := fun b hb hl => (hst b (.inr hb) (by omega)).trans (hb1.block b hl)
      have K' : Blk w' w.heap.size 159 #[.slice (some ⟨g, 0, none⟩) fvs.length cv] := (hst w.heap.size (.inl rfl) KB.lt).trans KB
      have tr : ∀ o u, w.cell? ⟨g, o, none⟩ = some u → w'.cell? ⟨g, o, none⟩ = some u := fun o u hc => (World.cell?_of_block (hst' g (.inl rfl) hgl)).trans hc
      rw [hlen] at K'
      exact choice_run K' hn ⟨by omega, hv2⟩ (tr 0 _ c0) (tr 1 _ c1) (fun hn => tr 2 _ (c2 hn))
        (t0.ask (by omega) (fun b hb hl => hst' b (.inr (.inl hb)) hl) hA hl hc hid)
        (t1.ask (by omega) (fun b hb hl => hst' b (.inr (.inr (.inl hb))) hl) hA hl hc hid)
        (fun hn => (t2 hn).2.ask (by omega) (fun b hb hl => hst' b (.inr (.inr (.inr hb))) hl) hA hl hc hid)
    · have := h.below.size
      rcases hb with rfl | rfl | hb | hb | hb
      · omega
      · omega
      · exact (n0 b hb).1
      · exact (n1 b hb).1
      · exact (n2 b hb).2
  have hmf : ∀ (fn : Fn) (first cap : Array Value) (w : World), (Instr.makeFunc fn first cap).run Tryz.prog w = .ok (.func fn first cap) w := fun _ _ _ _ => rfl
  generalize choiceB ds.length (qs d0) (qs d1) (qs d2) = q at *
  clear h t0 t1 t2 n0 n1 n2 c0 c1 c2 KB hb1 l0 l1 g0 g1 g2 f0 f1 hn hds
  rw [hlen] at hw1 ⊢
  clear hlen
  go_enter Tryz.func113, Tryz.ntmps113
  go_upto_region 1 with fail
  rw [← hw1]
  clear hw1
  go_wp2_with fail
  go_ret
  exact HV.out
end Go.Proofs.YtpmfmkpfjomgnaaGreatDoor

/- Whether a system meets a choice of names. -/
namespace Go.Proofs.YtpmfmkpfjomgnaaGreatDoor
set_option linter.unusedSimpArgs false
set_option linter.unusedVariables false
open Go.RowKit

/-- A name that the index can be asked of. -/
structure LeafOk (N : Nat) (os : List (ByteArray × Offer)) (d : Dep) : Prop where
  kind : d.kind = 1
  none : d.args = []
  name : d.name.size ≤ maxLen
  ids : ∀ o ∈ offs d.name os, o.id < N
def leafQ (kind : Int) (os : List (ByteArray × Offer)) (d : Dep) (ids : List Nat) : Bool := ids.any (aloneB kind os d)
set_option maxHeartbeats 2000000 in
set_option maxRecDepth 100000 in
theorem together_if {w : World} {x N : Nat} {kind : Int} {os : List (ByteArray × Offer)} (h : IdxNow w x kind (N : Int) os) (d : Dep) (s : Value) (S : Nat → Prop) (hL : Lay w S d s) (hk : d.kind = 4) (d0 d1 d2 : Dep) (hds : d.args = [d0, d1] ∨ d.args = [d0, d1, d2]) (hN : N ≤ 1000000)
    (hl : ∀ a ∈ d.args, LeafOk N os a) :
    Calls Tryz.prog 64 #[.pointer (some ⟨x, 0, none⟩), .agg (rowD d s)] w (MadeS w N (choiceB d.args.length (leafQ kind os d0) (leafQ kind os d1) (leafQ kind os d2))) := by
  have hmf : ∀ (fn : Fn) (first cap : Array Value) (w : World), (Instr.makeFunc fn first cap).run Tryz.prog w = .ok (.func fn first cap) w := fun _ _ _ _ => rfl
  obtain ⟨A, c, rfl, hc1, hc2, hA⟩ := hL.args_
  obtain ⟨w1, hw1⟩ : ∃ w1, w1 = w.alloc (.cells (rowD d (.slice A d.args.length c)) 50) := ⟨_, rfl⟩
  have hb1 : Below w.heap.size w w1 := by rw [hw1]; exact (Below.refl _ _).alloc (Nat.le_refl _) _
  have KD : Blk w1 w.heap.size 50 (rowD d (.slice A d.args.length c)) := by rw [hw1]; exact Blk.new _ _ _
  have hfew : d.args.length ≤ 3 := by rcases hds with h | h <;> simp [h]
  have CE := Lib.hid (eachS_any (x := x) (N := N) (leafQ kind os) d.args A c S w1 (hA.stay (fun _ h => h) (StayS.below' hb1)) hc1 hc2 (by omega) (fun a ha t w2 hb2 hLa => by
    have hok := hl a ha
    obtain ⟨At, ct, rfl, _, _⟩ := hLa.form_
    rw [hok.none]
    exact together_leaf (h.below (hb1.trans (hb2.mono hb1.size))) a (by rw [hok.kind]; decide) (by rw [hok.kind]; decide) (by rw [hok.kind]; decide) (by rw [hok.kind]; decide) (by rw [hok.kind]; decide) At ct hok.name hok.ids hN))
  have HCh : Hid (∀ w2 v fvs, EaOk w1 w2 N (leafQ kind os) d.args d.args.length v fvs → Calls Tryz.prog 113 #[v] w2 (MadeFrom w1.heap.size w2 N (choiceB d.args.length (leafQ kind os d0) (leafQ kind os d1) (leafQ kind os d2)))) := fun w2 v fvs he => choice_test he d0 d1 d2 hds
  have HB := Lib.hid hb1
  have k0 := KD.cell 0
  have k4 := KD.cell 4
  unfold rowD at k0 k4
  simp at k0 k4
  have t2 : (d.kind == 2) = false := by rw [hk]; rfl
  have t3 : (d.kind == 3) = false := by rw [hk]; rfl
  have t4 : (d.kind == 4) = true := by rw [hk]; rfl
  generalize choiceB d.args.length (leafQ kind os d0) (leafQ kind os d1) (leafQ kind os d2) = q at *
  clear KD h hL hA hb1 hl hk hds
  unfold maxLen at hc2
  unfold rowD at hw1 ⊢
  go_enter Tryz.func64, Tryz.ntmps64
  go_upto_region 1 with fail
  rw [← hw1]
  clear hw1
  go_wp2_with fail
  refine CE.out.mono ?_
  rintro e w2 ⟨v, fvs, rfl, he⟩
  have CC := Lib.hid (HCh.out w2 v fvs he)
  have HB2 : Hid (Below w.heap.size w w2) := HB.out.trans (he.below.mono HB.out.size)
  have HS1 : Hid (w.heap.size ≤ w1.heap.size) := HB.out.size
  obtain ⟨Av, cv, rfl, -, -⟩ := own_form' he.own
  clear he HCh CE k0 k4
  go_wp2_with fail
  refine CC.out.mono ?_
  rintro e w3 ⟨fv, D, rfl, hb3, ht, hD⟩
  have HV : Hid (MadeS w N q (.returned fv) w3) := ⟨fv, D, rfl, HB2.out.trans (hb3.mono HB2.out.size), ht, fun b hb => Nat.le_trans HS1.out (hD b hb)⟩
  clear hb3 ht hD CC
  go_wp2_with fail
  go_ret
  exact HV.out
end Go.Proofs.YtpmfmkpfjomgnaaGreatDoor

/- Whether a system meets a dependency: Met, of known systems. -/
namespace Go.Proofs.YtpmfmkpfjomgnaaGreatDoor
set_option linter.unusedSimpArgs false
set_option linter.unusedVariables false
open Go.RowKit

set_option maxRecDepth 100000 in
theorem met1_any {w : World} {x N bx i : Nat} {kind : Int} {os : List (ByteArray × Offer)} {tx : TypeId} (h : IdxNow w x kind (N : Int) os) (hK : Blk w bx tx #[.pointer (some ⟨x, 0, none⟩)]) (hi : i < N) (hN : N ≤ 1000000) :
    Calls Tryz.prog 63 (#[.int .i64 ((i : Nat) : Int)] ++ #[.pointer (some ⟨bx, 0, none⟩)]) w fun e w' => e = .returned (.bool false) ∧ Below w.heap.size w w' := by
  obtain ⟨base, O, bm, f, hI⟩ := h
  have k0 := hK.cell 0
  have c1 := hI.blk.cell 1
  simp at k0 c1
  have t1 : ¬ ((i : Nat) : Int) < 0 := by omega
  have t2 : ¬ ((N : Nat) : Int) ≤ ((i : Nat) : Int) := by omega
  clear hI hK
  show Calls Tryz.prog _ #[.int .i64 ((i : Nat) : Int), .pointer (some ⟨bx, 0, none⟩)] w _
  go_enter Tryz.func63, Tryz.ntmps63
  go_wp2_with fail
  go_ret
  exact ⟨rfl, Below.refl _ _⟩
set_option maxHeartbeats 2000000 in
set_option maxRecDepth 100000 in
theorem met_any {w : World} {x N : Nat} {kind : Int} {os : List (ByteArray × Offer)} (h : IdxNow w x kind (N : Int) os) (hN : N ≤ 1000000) (d : Dep) (s : Value) (S : Nat → Prop) (hL : Lay w S d s) (hC : CleanS w S) (hT : Tabs w) (hn : nodes d ≤ 4194304) (h0 : checkN d = 0) (q : List Nat → Bool)
    (hTog : ∀ w', Below w.heap.size w w' → Calls Tryz.prog 64 #[.pointer (some ⟨x, 0, none⟩), .agg (rowD d s)] w' (MadeS w' N q)) (ids : List Nat) (A : Option Addr) (c : Nat) (hA : IntsAt w (zsOf ids) A) (hl : ids.length ≤ c) (hc : c ≤ maxLen) (hid : ∀ i ∈ ids, i < N) :
    Calls Tryz.prog 29 #[.pointer (some ⟨x, 0, none⟩), .agg (rowD d s), .slice A ids.length c] w fun e w' => e = .returned (.tuple #[.bool (q ids), .int .i64 0]) ∧ Below w.heap.size w w' := by
  have hmf : ∀ (fn : Fn) (first cap : Array Value) (w : World), (Instr.makeFunc fn first cap).run Tryz.prog w = .ok (.func fn first cap) w := fun _ _ _ _ => rfl
  obtain ⟨y, hy⟩ : ∃ y, y = q ids := ⟨_, rfl⟩
  rw [← hy]
  have HY := Lib.hid hy
  clear hy
  obtain ⟨Ad, cd, rfl, _, _⟩ := hL.form_
  obtain ⟨w1, hw1⟩ : ∃ w1, w1 = (w.alloc (.cells #[.pointer (some ⟨x, 0, none⟩)] 51)).alloc (.cells (rowD d (.slice Ad d.args.length cd)) 50) := ⟨_, rfl⟩
  have hb1 : Below w.heap.size w w1 := by rw [hw1]; exact ((Below.refl _ _).alloc (Nat.le_refl _) _).alloc (by simp) _
  have KX : Blk w1 w.heap.size 51 #[.pointer (some ⟨x, 0, none⟩)] := by rw [hw1]; exact (Blk.new _ _ _).alloc _
  have KD : Blk w1 (w.heap.size + 1) 50 (rowD d (.slice Ad d.args.length cd)) := by rw [hw1]; exact Blk.new' (by simp)
  have CC := Lib.hid (checkX_any (h.below hb1) d _ S (hL.stay (fun _ h => h) (StayS.below' hb1)) (hC.stay (StayS.below' hb1)) (hT.below hb1 hT.two) hn)
  rw [h0] at CC
  have HF : Hid (∀ wx, Below w1.heap.size w1 wx → Blk wx w.heap.size 51 #[.pointer (some ⟨x, 0, none⟩)] ∧ Blk wx (w.heap.size + 1) 50 (rowD d (.slice Ad d.args.length cd)) ∧ Below w.heap.size w wx) := fun wx hb => ⟨KX.below hb KX.lt, KD.below hb KD.lt, hb1.trans (hb.mono hb1.size)⟩
  have hlen : (zsOf ids).length = ids.length := by simp [zsOf]
  have HCo : Hid (∀ wx, Below w1.heap.size w1 wx → Calls Tryz.prog 62 #[.slice A ids.length c, .func (.func 63) #[] #[.pointer (some ⟨w.heap.size, 0, none⟩)]] wx fun e w' => e = .returned (.bool false) ∧ Below wx.heap.size wx w') := fun wx hb => by
    have hwx := hb1.trans (hb.mono hb1.size)
    have C := intContains_any 63 #[.pointer (some ⟨w.heap.size, 0, none⟩)] (enters_of Tryz.func63 (by kernel_rfl) rfl) (fun _ b => b = false) (zsOf ids) A c wx (hA.below hwx) (by omega) hc (fun z hz w2 hb2 => by
      obtain ⟨i, hi, rfl⟩ := List.mem_map.1 hz
      exact (met1_any (h.below (hwx.trans (hb2.mono hwx.size))) (KX.below (hb.trans (hb2.mono hb.size)) KX.lt) (hid i hi) hN).mono fun e w3 ⟨h1, h2⟩ => ⟨⟨false, rfl, h1⟩, h2⟩)
    rw [hlen] at C
    refine C.mono fun e w' ⟨⟨b, ha, he⟩, hb'⟩ => ⟨?_, hb'⟩
    rcases ha with ⟨rfl, z, hz, hx⟩ | ⟨rfl, _⟩
    · cases hx
    · exact he
  have HTo := Lib.hid hTog
  have HA := Lib.hid (fun wx (hb : Below w.heap.size w wx) => hA.below hb)
  have HId := Lib.hid hid
  have x0 := KX.cell 0
  have d0 := KD.cell 0
  have d1 := KD.cell 1
  have d2 := KD.cell 2
  have d3 := KD.cell 3
  have d4 := KD.cell 4
  unfold rowD at d0 d1 d2 d3 d4 CC
  simp at x0 d0 d1 d2 d3 d4
  clear KX KD h hL hC hT hTog hA hid hb1 h0
  unfold rowD at hw1 HTo HF ⊢
  go_enter Tryz.func29, Tryz.ntmps29
  go_upto_region 1 with fail
  rw [← hw1]
  clear hw1
  go_wp2_with fail
  refine CC.out.mono ?_
  rintro e w2 ⟨rfl, hb2⟩
  have HB2 := Lib.hid hb2
  have CO := Lib.hid (HCo.out w2 hb2)
  clear hb2 CC x0 d0 d1 d2 d3 d4 HCo
  go_wp2_with fail
  refine CO.out.mono ?_
  rintro e w3 ⟨rfl, hb3⟩
  have hb13 := HB2.out.trans (hb3.mono HB2.out.size)
  obtain ⟨KX, KD, hB3⟩ := HF.out w3 hb13
  have CT := Lib.hid (HTo.out w3 hB3)
  have HB3 := Lib.hid hB3
  have x0 := KX.cell 0
  have d0 := KD.cell 0
  have d1 := KD.cell 1
  have d2 := KD.cell 2
  have d3 := KD.cell 3
  have d4 := KD.cell 4
  simp at x0 d0 d1 d2 d3 d4
  clear hb3 CO hb13 KX KD hB3 HTo HF HB2
  go_wp2_with fail
  refine CT.out.mono ?_
  rintro e w4 ⟨fv, D, rfl, hb4, ht, hD⟩
  have hB4 := HB3.out.trans (hb4.mono HB3.out.size)
  obtain ⟨f, cap, rfl, ef, CQ⟩ := ht.ask (Nat.le_refl _) (fun _ _ _ => rfl) (HA.out w4 hB4) hl hc HId.out
  have CQ2 := Lib.hid (CQ w4 (Below.refl _ _))
  have HB4 := Lib.hid hB4
  clear hb4 ht hD CQ CT x0 d0 d1 d2 d3 d4 hB4
  rw [← HY.out] at CQ2
  go_wp2_with fail
  refine CQ2.out.mono ?_
  rintro e w5 ⟨rfl, hb5⟩
  have HB5 : Hid (Below w.heap.size w w5) := HB4.out.trans (hb5.mono HB4.out.size)
  clear hb5 CQ2
  go_wp2_with fail
  go_ret2
  exact ⟨rfl, HB5.out⟩
end Go.Proofs.YtpmfmkpfjomgnaaGreatDoor

/- Who meets a dependency: those, Who. -/
namespace Go.Proofs.YtpmfmkpfjomgnaaGreatDoor
set_option linter.unusedSimpArgs false
set_option linter.unusedVariables false
open Go.RowKit

def thoseN (N : Nat) (p : Nat → Bool) : List Nat := (List.range N).filter p
theorem thoseN_succ (k : Nat) (p : Nat → Bool) : thoseN (k + 1) p = thoseN k p ++ if p k = true then [k] else [] := by
  unfold thoseN
  rw [List.range_succ, List.filter_append]
  by_cases h : p k = true <;> simp [h]
theorem thoseN_len (k : Nat) (p : Nat → Bool) : (thoseN k p).length ≤ k := by
  unfold thoseN
  have := List.length_filter_le p (List.range k)
  simpa using this
/-- New numbers. -/
structure Tn (w0 wx : World) (D : Nat → Prop) (N : Nat) (fv v : Value) (p : Nat → Bool) (ns : List Nat) : Prop where
  below : Below w0.heap.size w0 wx
  own : wx.ownsRow w0.heap.size 3 1 v ns.length (numV ns)
set_option maxHeartbeats 4000000 in
set_option maxRecDepth 100000 in
theorem those_any {w : World} {x N : Nat} {kind : Int} {os : List (ByteArray × Offer)} {D : Nat → Prop} {fv : Value} {p : Nat → Bool} (h : IdxNow w x kind (N : Int) os) (ht : TestI w D N fv p) (hN : N ≤ 1000000) :
    Calls Tryz.prog 60 #[.pointer (some ⟨x, 0, none⟩), fv] w (NumsNew w (thoseN N p)) := by
  obtain ⟨base, O, bm, fm, hI⟩ := h
  have c1 := hI.blk.cell 1
  simp at c1
  obtain ⟨f, cap, rfl, ef, hD, hT⟩ := ht
  have HT : Hid (∀ (w' : World) (id : Nat), Below w.heap.size w w' → id < N → Calls Tryz.prog f (#[.int .i64 ((id : Nat) : Int)] ++ cap) w' fun e w2 => e = .returned (.bool (p id)) ∧ Below w'.heap.size w' w2) := fun w' id hb hid => hT w' id hb.size (StayS.below' hb) hid
  have HI5 := Lib.hid info_int5
  have H0 : Hid (Below w.heap.size w w ∧ w.ownsRow w.heap.size 3 1 (.slice none 0 0) (thoseN 0 p).length (numV (thoseN 0 p))) := ⟨Below.refl _ _, World.ownsRow_nil _ _ _ _⟩
  clear hI hD hT
  go_enter Tryz.func60, Tryz.ntmps60
  go_wp2_with fail
  clear c1
  go_loopw [5, 11] (fun v5 v wx => ∃ (k : Nat), k ≤ N ∧ v = .int .i64 (k : Int) ∧ Hid (Below w.heap.size w wx ∧ wx.ownsRow w.heap.size 3 1 v5 (thoseN k p).length (numV (thoseN k p)))) (fun _ v _ => N - (intOf v).toNat)
  case atStart => exact ⟨0, Nat.zero_le _, rfl, H0⟩
  case round =>
    clear H0
    obtain ⟨k, hk, rfl, HE⟩ := hrel
    obtain ⟨Av, cv, rfl, hv1, hv2⟩ := own_form' HE.out.2
    unfold maxLen at hv2
    by_cases hlt : k < N
    · have C := Lib.hid (HT.out wr k HE.out.1 hlt)
      have hle := thoseN_len k p
      have HSc := Lib.hid (thoseN_succ k p)
      obtain ⟨ns, hns⟩ : ∃ ns, ns = thoseN k p := ⟨_, rfl⟩
      rw [← hns] at HE HSc hle hv1 ⊢
      clear hns
      cases hp : p k with
      | false =>
        rw [hp] at C HSc
        go_wp2_with fail
        refine C.out.mono ?_
        rintro e w2 ⟨rfl, hb2⟩
        have HX : Hid (Below w.heap.size w w2 ∧ w2.ownsRow w.heap.size 3 1 (.slice Av ns.length cv) (thoseN (k + 1) p).length (numV (thoseN (k + 1) p))) := by
          have e : thoseN (k + 1) p = ns := by rw [HSc.out]; simp
          rw [e]
          exact ⟨HE.out.1.trans (hb2.mono HE.out.1.size), own_turnedP HE.out.2 (TurnedP.of_below hb2 fun _ => False) fun _ _ h => h⟩
        clear hb2 C HE HSc
        go_wp2_with fail
        go_roundw
        case rel => exact ⟨k + 1, by omega, by go_num, HX⟩
        case measure => simp [intOf]; omega
      | true =>
        rw [hp] at C HSc
        go_wp2_with fail
        refine C.out.mono ?_
        rintro e w2 ⟨rfl, hb2⟩
        obtain ⟨i0, z0, hi0, hz0, hz1, hz2, hz3⟩ := HI5.out
        have HOwn : Hid ((w2.alloc (.cells #[.int .i64 ((k : Nat) : Int)] 3)).ownsRow w.heap.size 3 1 (.slice Av ns.length cv) ns.length (numV ns)) :=
          own_turnedP HE.out.2 ((TurnedP.of_below hb2 fun _ => False).alloc _) fun _ _ h => h
        have hge : Hid (w.heap.size ≤ w2.heap.size) := Nat.le_trans HE.out.1.size hb2.size
        have HN : Hid (∀ v4 w4, (w2.alloc (.cells #[.int .i64 ((k : Nat) : Int)] 3)).grownBy w4 (Value.slice Av ns.length cv).ownBlock → w4.ownsRow w.heap.size 3 1 v4 (ns.length + 1) (numV ns ++ [.int .i64 ((k : Nat) : Int)]) → Below w.heap.size w w4 ∧ w4.ownsRow w.heap.size 3 1 v4 (thoseN (k + 1) p).length (numV (thoseN (k + 1) p))) := fun v4 w4 hg hown => by
          have e : thoseN (k + 1) p = ns ++ [k] := by rw [HSc.out]; simp
          rw [e, List.length_append]
          refine ⟨((HE.out.1.trans (hb2.mono HE.out.1.size)).alloc hge.out _).grown hg (by have := hge.out; simp; omega) (fun j hj => (HE.out.2.lt j hj).1), ?_⟩
          have : numV (ns ++ [k]) = numV ns ++ [.int .i64 ((k : Nat) : Int)] := by simp [numV]
          rw [this]
          exact hown
        clear hb2 C
        go_wp2_with (at_builtin; refine wpList_append_own_at _ rfl (.tmp 17) (.tmp 19) 39 rfl w.heap.size 3 i0 z0 1 8 Tryz.underlying39 hi0 hz0 hz2 hz3 hz1 (by decide) (.slice Av ns.length cv) ns.length (numV ns) rfl HOwn.out ⟨w2.heap.size, 0, none⟩ 1 1 [.int .i64 ((k : Nat) : Int)] rfl rfl (cell_one_new w2 _ _) (by intro u hu; simp at hu; subst hu; rfl) (by unfold maxLen; omega) (by omega) (by have := hge.out; simp; omega) ?_; intro v4 w4 hown4 hg4 hnil4 hat4; have HX := Lib.hid (HN.out v4 w4 hg4 hown4); clear hown4 hg4 hnil4 hat4)
        go_roundw
        case rel => exact ⟨k + 1, by omega, by go_num, HX⟩
        case measure => simp [intOf]; omega
    · have hkN : k = N := by omega
      have HV : Hid (NumsNew w (thoseN N p) (.returned (.slice Av (thoseN k p).length cv)) wr) := by
        rw [← hkN]
        exact ⟨HE.out.1, _, rfl, HE.out.2⟩
      clear HE hkN
      generalize (thoseN k p).length = m at *
      go_wp2_with fail
      go_ret
      exact HV.out
end Go.Proofs.YtpmfmkpfjomgnaaGreatDoor

/- Who meets a dependency: Who. -/
namespace Go.Proofs.YtpmfmkpfjomgnaaGreatDoor
set_option linter.unusedSimpArgs false
set_option linter.unusedVariables false
open Go.RowKit

def WhoTold (w : World) (ns : List Nat) (e : Ending) (w' : World) : Prop := Below w.heap.size w w' ∧ ∃ v, e = .returned (.tuple #[v, .int .i64 0]) ∧ w'.ownsRow w.heap.size 3 1 v ns.length (numV ns)
set_option maxHeartbeats 2000000 in
set_option maxRecDepth 100000 in
theorem who_any {w : World} {x N : Nat} {kind : Int} {os : List (ByteArray × Offer)} (h : IdxNow w x kind (N : Int) os) (hN : N ≤ 1000000) (d : Dep) (s : Value) (S : Nat → Prop) (hL : Lay w S d s) (hC : CleanS w S) (hT : Tabs w) (hn : nodes d ≤ 4194304) (h0 : checkN d = 0) (h2 : d.kind ≠ 2) (h3 : d.kind ≠ 3) (h4 : d.kind ≠ 4) (p : Nat → Bool)
    (hAl : ∀ w', Below w.heap.size w w' → Calls Tryz.prog 61 #[.pointer (some ⟨x, 0, none⟩), .agg (rowD d s)] w' (MadeI w' N p)) :
    Calls Tryz.prog 28 #[.pointer (some ⟨x, 0, none⟩), .agg (rowD d s)] w (WhoTold w (thoseN N p)) := by
  obtain ⟨Ad, cd, rfl, _, _⟩ := hL.form_
  obtain ⟨w1, hw1⟩ : ∃ w1, w1 = w.alloc (.cells (rowD d (.slice Ad d.args.length cd)) 50) := ⟨_, rfl⟩
  have hb1 : Below w.heap.size w w1 := by rw [hw1]; exact (Below.refl _ _).alloc (Nat.le_refl _) _
  have KD : Blk w1 w.heap.size 50 (rowD d (.slice Ad d.args.length cd)) := by rw [hw1]; exact Blk.new _ _ _
  have CC := Lib.hid (checkX_any (h.below hb1) d _ S (hL.stay (fun _ h => h) (StayS.below' hb1)) (hC.stay (StayS.below' hb1)) (hT.below hb1 hT.two) hn)
  rw [h0] at CC
  have HF : Hid (∀ wx, Below w1.heap.size w1 wx → Blk wx w.heap.size 50 (rowD d (.slice Ad d.args.length cd)) ∧ Below w.heap.size w wx) := fun wx hb => ⟨KD.below hb KD.lt, hb1.trans (hb.mono hb1.size)⟩
  have HAl := Lib.hid hAl
  have HTh : Hid (∀ wx D fv, Below w.heap.size w wx → TestI wx D N fv p → Calls Tryz.prog 60 #[.pointer (some ⟨x, 0, none⟩), fv] wx (NumsNew wx (thoseN N p))) := fun wx D fv hb ht => those_any (h.below hb) ht hN
  have d0 := KD.cell 0
  have d1 := KD.cell 1
  have d2 := KD.cell 2
  have d3 := KD.cell 3
  have d4 := KD.cell 4
  unfold rowD at d0 d1 d2 d3 d4 CC
  simp at d0 d1 d2 d3 d4
  have t2 : (d.kind == 2) = false := beq_eq_false_iff_ne.2 h2
  have t3 : (d.kind == 3) = false := beq_eq_false_iff_ne.2 h3
  have t4 : (d.kind == 4) = false := beq_eq_false_iff_ne.2 h4
  clear KD h hL hC hT hAl hb1 h0 h2 h3 h4
  unfold rowD at hw1 HAl HF ⊢
  generalize thoseN N p = ns at *
  go_enter Tryz.func28, Tryz.ntmps28
  go_upto_region 1 with fail
  rw [← hw1]
  clear hw1
  go_wp2_with fail
  refine CC.out.mono ?_
  rintro e w2 ⟨rfl, hb2⟩
  obtain ⟨KD, hB2⟩ := HF.out w2 hb2
  have CA := Lib.hid (HAl.out w2 hB2)
  have HB2 := Lib.hid hB2
  clear d0 d1 d2 d3 d4
  have d0 := KD.cell 0
  have d1 := KD.cell 1
  have d2 := KD.cell 2
  have d3 := KD.cell 3
  have d4 := KD.cell 4
  simp at d0 d1 d2 d3 d4
  clear hb2 CC KD hB2 HF HAl
  go_wp2_with fail
  refine CA.out.mono ?_
  rintro e w3 ⟨fv, D, rfl, hb3, ht, hD⟩
  have HB3 : Hid (Below w.heap.size w w3) := HB2.out.trans (hb3.mono HB2.out.size)
  have CT := Lib.hid (HTh.out w3 D fv HB3.out ht)
  obtain ⟨f, cap, rfl, -⟩ := ht
  clear hb3 hD CA HTh d0 d1 d2 d3 d4
  go_wp2_with fail
  refine CT.out.mono ?_
  rintro e w4 ⟨hb4, v, rfl, hv⟩
  have HV : Hid (WhoTold w ns (.returned (.tuple #[v, .int .i64 0])) w4) := ⟨HB3.out.trans (hb4.mono HB3.out.size), v, rfl, own_base' hv HB3.out.size⟩
  obtain ⟨Av, cv, rfl, -, -⟩ := own_form' hv
  clear hb4 hv CT
  go_wp2_with fail
  go_ret2
  exact HV.out
end Go.Proofs.YtpmfmkpfjomgnaaGreatDoor

/- The chapter's packages, as data: both pools take them. -/
namespace Go.Proofs.YtpmfmkpfjomgnaaGreatDoor
set_option linter.unusedSimpArgs false
set_option linter.unusedVariables false
open Go.RowKit

def depLib : Dep := .mk 1 ⟨#[108, 105, 98]⟩ 0 ⟨#[]⟩ []
def depTwo : Dep := .mk 1 ⟨#[108, 105, 98]⟩ 2 ⟨#[50]⟩ []
def noarch : ByteArray := ⟨#[110, 111, 97, 114, 99, 104]⟩
def exA : Pkg := ⟨⟨#[97]⟩, ⟨#[49, 45, 49]⟩, noarch, ⟨#[]⟩, fun i => if i = 0 then [depTwo] else [], []⟩
def exB : Pkg := ⟨⟨#[98]⟩, ⟨#[49, 45, 49]⟩, noarch, ⟨#[]⟩, fun i => if i = 0 then [depLib] else [], [⟨#[47, 98, 105, 110, 47, 98]⟩]⟩
def exC : Pkg := ⟨⟨#[97]⟩, ⟨#[50, 45, 49]⟩, noarch, ⟨#[]⟩, fun _ => [], []⟩
theorem chk_good {p : Pkg} (hh : headN p = 0) (hl : ∀ i, i < 7 → (p.ls i).length ≤ 16 ∧ ∀ d ∈ p.ls i, checkN d = 0) (ho : offersOk p = true) (hf : filesBad p.files = false) {n : Int} (h : ChkR QC p n) : n = 0 := by
  obtain ⟨b, hd, rfl⟩ := h
  have hb : b = true := by
    rcases hd hh with ⟨_, i, hi, hb⟩ | ⟨_, hb⟩
    · rcases hb with hb | ⟨d, hd, m, hm, hx⟩
      · have := (hl i hi).1; omega
      · have h0 := (hl i hi).2 d hd
        unfold QC at hm
        rw [hm, h0] at hx
        cases hx
    · rw [hb, ho]
  subst hb
  unfold chkN
  rw [if_neg (by simp [hh]), if_neg (by simp), if_neg (by simp [hf])]
set_option maxRecDepth 100000 in
theorem exA_ok : chkR exA = 0 ∧ headN exA = 0 := by decide +kernel
set_option maxRecDepth 100000 in
theorem exB_ok : chkR exB = 0 ∧ headN exB = 0 := by decide +kernel
set_option maxRecDepth 100000 in
theorem exC_ok : chkR exC = 0 ∧ headN exC = 0 := by decide +kernel
theorem lib_ok : checkN depLib = 0 ∧ checkN depTwo = 0 := by decide +kernel
theorem exA_chk {n : Int} (h : ChkR QC exA n) : n = 0 := chk_good exA_ok.2 (fun i hi => by
  show (if i = 0 then [depTwo] else []).length ≤ 16 ∧ _
  by_cases h0 : i = 0
  · subst h0
    exact ⟨by decide, fun d hd => by
      have : d = depTwo := by simpa [exA] using hd
      rw [this]; exact lib_ok.2⟩
  · rw [if_neg h0]
    exact ⟨by simp, fun d hd => by simp [exA, h0] at hd⟩) (by decide +kernel) (by decide +kernel) h
theorem exB_chk {n : Int} (h : ChkR QC exB n) : n = 0 := chk_good exB_ok.2 (fun i hi => by
  show (if i = 0 then [depLib] else []).length ≤ 16 ∧ _
  by_cases h0 : i = 0
  · subst h0
    exact ⟨by decide, fun d hd => by
      have : d = depLib := by simpa [exB] using hd
      rw [this]; exact lib_ok.1⟩
  · rw [if_neg h0]
    exact ⟨by simp, fun d hd => by simp [exB, h0] at hd⟩) (by decide +kernel) (by decide +kernel) h
theorem exC_chk {n : Int} (h : ChkR QC exC n) : n = 0 := chk_good exC_ok.2 (fun i hi => ⟨by simp [exC], fun d hd => by simp [exC] at hd⟩) (by decide +kernel) (by decide +kernel) h
/-- What is asked. -/

def askText : ByteArray := ⟨#[40, 98, 32, 105, 102, 32, 108, 105, 98, 32, 62, 32, 49, 32, 101, 108, 115, 101, 32, 97, 41]⟩
set_option maxRecDepth 100000 in
theorem ask_len : askText.size = 21 := by decide +kernel
def leafB : Dep := .mk 1 ⟨#[98]⟩ 0 ⟨#[]⟩ []
def leafL : Dep := .mk 1 ⟨#[108, 105, 98]⟩ 4 ⟨#[49]⟩ []
def leafA : Dep := .mk 1 ⟨#[97]⟩ 0 ⟨#[]⟩ []
def askD : Dep := .mk 4 ⟨#[]⟩ 0 ⟨#[]⟩ [leafB, leafL, leafA]
def askL : Dep := .mk 1 ⟨#[108, 105, 98]⟩ 6 ⟨#[49]⟩ []
def exOs : List (ByteArray × Offer) := offersN 0 [exA, exB, exC]
set_option maxRecDepth 100000 in
theorem ask_parse : parseD askText.data.toList = (some askD, 0) := by kernel_rfl
set_option maxRecDepth 100000 in
theorem ask_check : checkN askD = 0 ∧ checkN askL = 0 := by decide +kernel
set_option maxRecDepth 100000 in
theorem ask_two : choiceB 3 (leafQ 1 exOs leafB) (leafQ 1 exOs leafL) (leafQ 1 exOs leafA) [2] = true := by decide +kernel
set_option maxRecDepth 100000 in
theorem ask_none : choiceB 3 (leafQ 1 exOs leafB) (leafQ 1 exOs leafL) (leafQ 1 exOs leafA) [0] = false := by decide +kernel
set_option maxRecDepth 100000 in
theorem ask_who : thoseN 3 (aloneB 1 exOs askL) = [0] := by decide +kernel
end Go.Proofs.YtpmfmkpfjomgnaaGreatDoor

/- The chapter's packages in memory. -/
namespace Go.Proofs.YtpmfmkpfjomgnaaGreatDoor
set_option linter.unusedSimpArgs false
set_option linter.unusedVariables false
open Go.RowKit

def rowTwo : Array Value := #[.int .i64 1, .string ⟨#[108, 105, 98]⟩, .int .i64 2, .string ⟨#[50]⟩, .slice none 0 0]
def rowLib : Array Value := #[.int .i64 1, .string ⟨#[108, 105, 98]⟩, .int .i64 0, .string ⟨#[]⟩, .slice none 0 0]
def rowsEx (n : Nat) : Array Value := #[.string ⟨#[97]⟩, .string ⟨#[49, 45, 49]⟩, .string ⟨#[110, 111, 97, 114, 99, 104]⟩, .string ⟨#[]⟩, .slice (some ⟨n + 1 + 1 + 1, 0, none⟩) 1 1, .slice none 0 0, .slice none 0 0, .slice none 0 0, .slice none 0 0, .slice none 0 0, .slice none 0 0, .slice none 0 0,
  .string ⟨#[98]⟩, .string ⟨#[49, 45, 49]⟩, .string ⟨#[110, 111, 97, 114, 99, 104]⟩, .string ⟨#[]⟩, .slice (some ⟨n + 1 + 1 + 1 + 1 + 1, 0, none⟩) 1 1, .slice none 0 0, .slice none 0 0, .slice none 0 0, .slice none 0 0, .slice none 0 0, .slice none 0 0, .slice (some ⟨n + 1 + 1 + 1 + 1 + 1 + 1, 0, none⟩) 1 1,
  .string ⟨#[97]⟩, .string ⟨#[50, 45, 49]⟩, .string ⟨#[110, 111, 97, 114, 99, 104]⟩, .string ⟨#[]⟩, .slice none 0 0, .slice none 0 0, .slice none 0 0, .slice none 0 0, .slice none 0 0, .slice none 0 0, .slice none 0 0, .slice none 0 0]
def rowMain (n : Nat) : Array Value := #[.string ⟨#[109, 97, 105, 110]⟩, .int .i64 0, .bool false, .slice (some ⟨n + 1 + 1 + 1 + 1 + 1 + 1 + 1 + 1, 0, none⟩) 3 3]
def ExPost (w : World) (e : Ending) (w' : World) : Prop :=
  Below w.heap.size w w' ∧ e = .returned (.agg (rowMain w.heap.size)) ∧ Blk w' (w.heap.size + 1 + 1 + 1) 50 rowTwo ∧ Blk w' (w.heap.size + 1 + 1 + 1 + 1 + 1) 50 rowLib ∧
    Blk w' (w.heap.size + 1 + 1 + 1 + 1 + 1 + 1) 9 #[.string ⟨#[47, 98, 105, 110, 47, 98]⟩] ∧ Blk w' (w.heap.size + 1 + 1 + 1 + 1 + 1 + 1 + 1 + 1) 44 (rowsEx w.heap.size)
set_option maxRecDepth 100000 in
theorem load_main {w : World} {g : Nat} {t : TypeId} {x0 x1 x2 x3 : Value} (h : Blk w g t #[x0, x1, x2, x3]) : (loadVar 33 ⟨g, 0, none⟩).run Tryz.prog w = .ok (.agg #[x0, x1, x2, x3]) w := by
  have b0 := h.cell 0
  have b1 := h.cell 1
  have b2 := h.cell 2
  have b3 := h.cell 3
  simp at b0 b1 b2 b3
  clear h
  go_simp
set_option maxHeartbeats 4000000 in
set_option maxRecDepth 100000 in
theorem example_any (w : World) : Calls Tryz.prog 56 #[] w (ExPost w) := by
  go_enter Tryz.func56, Tryz.ntmps56
  go_wp2_with fail
  refine bodyPost_ret (v := .agg (rowMain w.heap.size)) ?_ rfl ⟨?_, rfl, ?_, ?_, ?_, ?_⟩
  · refine (results_cell rfl _ (ad := ⟨w.heap.size, 0, none⟩) rfl).trans ?_
    refine load_main (t := 33) ?_
    repeat' first | exact Blk.new _ _ _ | refine Blk.alloc ?_ _
  · exact (((((((((Below.refl _ _).alloc (Nat.le_refl _) _).alloc (by simp) _).alloc (by simp; omega) _).alloc (by simp; omega) _).alloc (by simp; omega) _).alloc (by simp; omega) _).alloc (by simp; omega) _).alloc (by simp; omega) _).alloc (by simp; omega) _
  all_goals
    repeat' first | exact Blk.new' (by simp) | refine Blk.alloc ?_ _
end Go.Proofs.YtpmfmkpfjomgnaaGreatDoor

/- The chapter's packages as they are handed in, and that both pools take them. -/
namespace Go.Proofs.YtpmfmkpfjomgnaaGreatDoor
set_option linter.unusedSimpArgs false
set_option linter.unusedVariables false
open Go.RowKit

def ssAt (b : Nat) : Nat → Value := fun i => if i = 0 then .slice (some ⟨b, 0, none⟩) 1 1 else .slice none 0 0
def exPs (n : Nat) : List PkE := [⟨exA, ssAt (n + 1 + 1 + 1), .slice none 0 0⟩, ⟨exB, ssAt (n + 1 + 1 + 1 + 1 + 1), .slice (some ⟨n + 1 + 1 + 1 + 1 + 1 + 1, 0, none⟩) 1 1⟩, ⟨exC, (fun _ => .slice none 0 0), .slice none 0 0⟩]
def exL (n : Nat) : List RepE := [⟨⟨⟨#[109, 97, 105, 110]⟩, 0, false⟩, exPs n⟩]
theorem list_none (w : World) (S : Nat → Prop) : ListAt w S [] (.slice none 0 0) := ⟨none, 0, rfl, Nat.le_refl _, by simp [maxLen], fun _ => rfl, fun j a hj => by simp at hj⟩
theorem files_none (w : World) (T : Nat → Prop) : FilesAt w T [] (.slice none 0 0) := ⟨none, 0, rfl, Nat.le_refl _, by simp [maxLen], fun _ => rfl, fun j a hj => by simp at hj⟩
theorem list_one {w : World} {S : Nat → Prop} {b : Nat} {d : Dep} (h : Blk w b 50 (rowD d (.slice none 0 0))) (hd : d.args = []) (hS : S b) : ListAt w S [d] (.slice (some ⟨b, 0, none⟩) 1 1) := by
  refine ⟨some ⟨b, 0, none⟩, 1, rfl, Nat.le_refl _, by simp [maxLen], (fun h => by cases h), fun j a hj => ?_⟩
  match j, hj with
  | 0, hj =>
    simp at hj
    subst hj
    refine ⟨b, 0, .slice none 0 0, rfl, hS, ⟨h.cell 0, h.cell 1, h.cell 2, h.cell 3, h.cell 4⟩, ?_⟩
    exact lay_iff.2 ⟨none, 0, by rw [hd]; rfl, by rw [hd]; exact Nat.le_refl _, ⟨by simp [maxLen], fun _ => rfl⟩, by rw [hd]; exact fun j a hj => by simp at hj⟩
  | j + 1, hj => simp at hj
theorem files_one {w : World} {T : Nat → Prop} {b : Nat} {s : ByteArray} (h : Blk w b 9 #[.string s]) (hT : T b) : FilesAt w T [s] (.slice (some ⟨b, 0, none⟩) 1 1) := by
  refine ⟨some ⟨b, 0, none⟩, 1, rfl, Nat.le_refl _, by simp [maxLen], (fun h => by cases h), fun j a hj => ?_⟩
  match j, hj with
  | 0, hj =>
    simp at hj
    subst hj
    exact ⟨b, 0, rfl, hT, h.cell 0⟩
  | j + 1, hj => simp at hj
def exS (n b : Nat) : Prop := b = n + 1 + 1 + 1 ∨ b = n + 1 + 1 + 1 + 1 + 1
def exT (n b : Nat) : Prop := b = n + 1 + 1 + 1 + 1 + 1 + 1
def exU (n b : Nat) : Prop := b = n + 1 + 1 + 1 + 1 + 1 + 1 + 1 + 1
theorem ex_packs {w0 w : World} {e : Ending} (h : ExPost w0 e w) : PacksAt w (exS w0.heap.size) (exT w0.heap.size) (exU w0.heap.size) (exPs w0.heap.size) (some ⟨w0.heap.size + 1 + 1 + 1 + 1 + 1 + 1 + 1 + 1, 0, none⟩) := by
  obtain ⟨_, _, h1, h2, h3, h4⟩ := h
  have hj12 : ∀ j, j < 12 → j = 0 ∨ j = 1 ∨ j = 2 ∨ j = 3 ∨ j = 4 ∨ j = 5 ∨ j = 6 ∨ j = 7 ∨ j = 8 ∨ j = 9 ∨ j = 10 ∨ j = 11 := fun j hj => by omega
  intro i e hi
  match i, hi with
  | 0, hi =>
    simp [exPs] at hi; subst hi
    refine ⟨_, 0, rfl, rfl, fun j hj => ?_, ⟨fun k hk => ?_, files_none _ _⟩⟩
    · rw [h4.cell]
      rcases hj12 j hj with rfl | rfl | rfl | rfl | rfl | rfl | rfl | rfl | rfl | rfl | rfl | rfl <;> rfl
    · by_cases h0 : k = 0
      · subst h0; exact list_one (d := depTwo) h1 rfl (.inl rfl)
      · simp only [exA, ssAt, if_neg h0]; exact list_none _ _
  | 1, hi =>
    simp [exPs] at hi; subst hi
    refine ⟨_, 0, rfl, rfl, fun j hj => ?_, ⟨fun k hk => ?_, files_one h3 rfl⟩⟩
    · rw [h4.cell]
      rcases hj12 j hj with rfl | rfl | rfl | rfl | rfl | rfl | rfl | rfl | rfl | rfl | rfl | rfl <;> rfl
    · by_cases h0 : k = 0
      · subst h0; exact list_one (d := depLib) h2 rfl (.inr rfl)
      · simp only [exB, ssAt, if_neg h0]; exact list_none _ _
  | 2, hi =>
    simp [exPs] at hi; subst hi
    refine ⟨_, 0, rfl, rfl, fun j hj => ?_, ⟨fun k hk => list_none _ _, files_none _ _⟩⟩
    rw [h4.cell]
    rcases hj12 j hj with rfl | rfl | rfl | rfl | rfl | rfl | rfl | rfl | rfl | rfl | rfl | rfl <;> rfl
  | k + 3, hi => simp [exPs] at hi
theorem ex_clean {w0 w : World} {e : Ending} (h : ExPost w0 e w) : CleanS w (exS w0.heap.size) := fun b hb => by
  obtain ⟨_, _, h1, h2, h3, h4⟩ := h
  rcases hb with rfl | rfl
  · exact ⟨_, h1⟩
  · exact ⟨_, h2⟩
theorem ex_lt {w0 w : World} {e : Ending} (h : ExPost w0 e w) : ∀ b, exS w0.heap.size b ∨ exT w0.heap.size b ∨ exU w0.heap.size b → b < w.heap.size := fun b hb => by
  obtain ⟨_, _, h1, h2, h3, h4⟩ := h
  rcases hb with (rfl | rfl) | rfl | rfl
  · exact h1.lt
  · exact h2.lt
  · exact h3.lt
  · exact h4.lt
theorem small_few (p : Pkg) (h0 : p.name.size ≤ 281474976710656) (h1 : p.evr.size ≤ 281474976710656) (h2 : p.arch.size ≤ 281474976710656) (h3 : p.vendor.size ≤ 281474976710656)
    (hl : ∀ i, (p.ls i).length ≤ 1 ∧ ∀ d ∈ p.ls i, small d ∧ nodes d ≤ 4194304) (hf : p.files.length ≤ 1 ∧ ∀ s ∈ p.files, s.size ≤ 281474976710656) : PkgSmall p := by
  refine ⟨fun k => ?_, fun i _ => ⟨by have := (hl i).1; omega, (hl i).2⟩, hf.2, by have := hf.1; omega⟩
  match k with
  | 0 => exact h0
  | 1 => exact h1
  | 2 => exact h2
  | k + 3 => exact h3
theorem small_two : small depTwo ∧ nodes depTwo ≤ 4194304 := ⟨⟨by decide, by decide, trivial⟩, by decide⟩
theorem small_lib : small depLib ∧ nodes depLib ≤ 4194304 := ⟨⟨by decide, by decide, trivial⟩, by decide⟩
theorem one_if (d : Dep) (hd : small d ∧ nodes d ≤ 4194304) (i : Nat) : (if i = 0 then [d] else []).length ≤ 1 ∧ ∀ x ∈ (if i = 0 then [d] else []), small x ∧ nodes x ≤ 4194304 := by
  by_cases h : i = 0
  · rw [if_pos h]
    exact ⟨Nat.le_refl _, fun x hx => by rw [List.mem_singleton.1 hx]; exact hd⟩
  · rw [if_neg h]
    exact ⟨by simp, fun x hx => by cases hx⟩
theorem small_exA : PkgSmall exA := small_few exA (by decide) (by decide) (by decide) (by decide) (one_if depTwo small_two) ⟨by simp [exA], fun s hs => by simp [exA] at hs⟩
theorem small_exB : PkgSmall exB := small_few exB (by decide) (by decide) (by decide) (by decide) (one_if depLib small_lib) ⟨by simp [exB], fun s hs => by
  simp [exB] at hs; subst hs; decide⟩
theorem small_exC : PkgSmall exC := small_few exC (by decide) (by decide) (by decide) (by decide) (fun i => ⟨by simp [exC], fun d hd => by simp [exC] at hd⟩) ⟨by simp [exC], fun s hs => by simp [exC] at hs⟩
theorem main_name : nameB (⟨#[109, 97, 105, 110]⟩ : ByteArray).data.toList = true := by decide +kernel
theorem ex_mem {n : Nat} {x : PkE} (h : x ∈ exPs n) : x.p = exA ∨ x.p = exB ∨ x.p = exC := by
  simp [exPs] at h
  rcases h with rfl | rfl | rfl
  · exact .inl rfl
  · exact .inr (.inl rfl)
  · exact .inr (.inr rfl)
theorem ex_good (n : Nat) : GoodRepos (exL n) := by
  refine ⟨fun k e he => ?_, fun e he x hx => ?_, fun e he => ?_, fun e he x hx => ?_⟩
  · match k, he with
    | 0, he =>
      simp [exL] at he
      subst he
      show addHead [] 0 _ false 3 = 0
      unfold addHead; rw [main_name]; simp
    | k + 1, he => simp [exL] at he
  · simp [exL] at he; subst he
    rcases ex_mem hx with h | h | h <;> rw [h]
    · exact ⟨exA_ok.1, fun n hn => exA_chk hn⟩
    · exact ⟨exB_ok.1, fun n hn => exB_chk hn⟩
    · exact ⟨exC_ok.1, fun n hn => exC_chk hn⟩
  · simp [exL] at he; subst he; exact (by decide : (⟨#[109, 97, 105, 110]⟩ : ByteArray).size ≤ 281474976710656)
  · simp [exL] at he; subst he
    rcases ex_mem hx with h | h | h <;> rw [h]
    · exact small_exA
    · exact small_exB
    · exact small_exC
theorem ex_held {ks : List Kep} {n : Nat} (h : ks.map Kep.p = pksOf ((exL n).take (exL n).length)) : Held ks := by
  have hks : ks.map Kep.p = [exA, exB, exC] := h
  have hm : ∀ k ∈ ks, k.p = exA ∨ k.p = exB ∨ k.p = exC := fun k hk => by
    have : k.p ∈ ks.map Kep.p := List.mem_map_of_mem hk
    rw [hks] at this
    simpa using this
  have hlen : ks.length = 3 := by have := congrArg List.length hks; simpa using this
  refine ⟨by omega, fun k hk => ?_, fun k hk => ?_⟩
  · rcases hm k hk with h | h | h <;> rw [h]
    · exact ⟨by decide, by decide⟩
    · exact ⟨by decide, by decide⟩
    · exact ⟨by decide, by decide⟩
  · rcases hm k hk with h | h | h <;> rw [h]
    · exact small_exA
    · exact small_exB
    · exact small_exC
end Go.Proofs.YtpmfmkpfjomgnaaGreatDoor
