/- A repository is added: Add. -/
import Derived.Test.YtpmfmkpfjomgnaaGreatDoorZam
import Derived.Deep.Cut
import Derived.Deep.CutRange
/- A repository is added: Add. -/
namespace Go.Proofs.YtpmfmkpfjomgnaaGreatDoor
set_option linter.unusedSimpArgs false
set_option linter.unusedVariables false
open Go.RowKit

/-- While a repository is added, of whose packages k are in. -/
structure AddSt (w1 wx : World) (base g : Nat) (O S T : Nat → Prop) (kind : Int) (reps : List Rep) (ks : List Kep) (vr : Value) (ps : List Pkg) (O' S' T' : Nat → Prop) (vp : Value) (bm : Nat) (f : ByteArray → Value) (new : List Kep) : Prop where
  turned : TurnedP O w1 wx
  pool : PSt wx base g O' S' T' kind reps (ks ++ new) vr vp bm f
  own : ∀ j, O' j → O j ∨ w1.heap.size ≤ j
  deps : ∀ j, S' j → S j ∨ w1.heap.size ≤ j
  texts : ∀ j, T' j → T j ∨ w1.heap.size ≤ j
  names : new.map Kep.p = ps.take new.length
  reps : ∀ x ∈ new, x.rep = reps.length
/-- What Add leaves. -/
def Added (Q : Dep → Int → Prop) (w : World) (base g : Nat) (O S T : Nat → Prop) (kind : Int) (reps : List Rep) (ks : List Kep) (nm : ByteArray) (prio : Int) (inst : Bool) (ps : List Pkg) (e : Ending) (w' : World) : Prop :=
  ∃ n, AddR Q reps ks.length nm inst ps n ∧ e = .returned (.int .i64 n) ∧ TurnedP O w w' ∧
    (n ≠ 0 → PoolAt w' base g O S T kind reps ks) ∧
    (n = 0 → ∃ O' S' T' new, PoolAt w' base g O' S' T' kind (reps ++ [⟨nm, prio, inst⟩]) (ks ++ new) ∧ new.map Kep.p = ps ∧ (∀ x ∈ new, x.rep = reps.length) ∧ (∀ j, O' j → O j ∨ w.heap.size ≤ j) ∧ (∀ j, S' j → S j ∨ w.heap.size ≤ j) ∧ ∀ j, T' j → T j ∨ w.heap.size ≤ j)
/-- A copied package stands in block bk. -/
structure Laid9 (wa w5 : World) (bk : Nat) (p : Pkg) (n : Int) (ss : Nat → Value) (fs : Value) (S3 T3 : Nat → Prop) : Prop where
  blk : Blk w5 bk 86 (rowK p ss fs n)
  below : Below wa.heap.size wa w5
  pkg : PkgAt w5 S3 T3 p ss fs
  clean : CleanS w5 S3
  cleanT : CleanT w5 T3
  deps : ∀ b, S3 b → wa.heap.size ≤ b
  texts : ∀ b, T3 b → wa.heap.size ≤ b
  far : wa.heap.size ≤ bk
theorem AddR.sum {Q : Dep → Int → Prop} {reps : List Rep} {nks : Nat} {nm : ByteArray} {inst : Bool} {ps : List Pkg} (h : AddR Q reps nks nm inst ps 0) : nks + ps.length ≤ 200 ∧ reps.length < 8 := by
  rcases h with ⟨h1, h2⟩ | ⟨h1, _⟩
  · exact absurd h2.symm h1
  · unfold addHead at h1
    split at h1
    · cases h1
    · split at h1
      · cases h1
      · split at h1
        · cases h1
        · omega
theorem idxF_len (s : ByteArray) : ∀ (l : List Kep) (n : Nat), (idxF s n l).length ≤ l.length
  | [], n => Nat.le_refl _
  | k :: l, n => by
    have := idxF_len s l (n + 1)
    unfold idxF
    split <;> simp <;> omega
theorem info_int5 : ∃ i z, Tryz.prog.info? 3 = some i ∧ i.zero = some z ∧ z.cells.size = 1 ∧ i.size = 1 ∧ i.bytes = 8 := by
  have h : (Tryz.prog.info? 3).map (fun i => (i.zero.map fun z => z.cells.size, i.size, i.bytes)) = some (some 1, 1, 8) := by kernel_rfl
  obtain ⟨i, hi, h2⟩ := Option.map_eq_some_iff.1 h
  simp only [Prod.mk.injEq] at h2
  obtain ⟨z, hz, h3⟩ := Option.map_eq_some_iff.1 h2.1
  exact ⟨i, z, hi, hz, h3, h2.2.1, h2.2.2⟩
theorem zero_ints (w : World) : (zeroValue 39).run Tryz.prog w = .ok (.slice none 0 0) w := by kernel_rfl
/-- While a package is numbered: the pool's own cells, the copy's; till the numbers grow, nothing else has turned. -/
def S10 (w5 : World) (g bk : Nat) (rg rk : Array Value) (l : Array Bool) (w' : World) : Prop := Blk w' g 83 rg ∧ Blk w' bk 86 rk ∧ (l.getD 21 true = false → Below w5.heap.size w5 w')
theorem S10.io {w5 : World} {g bk i : Nat} {rg rk : Array Value} (h : i ≠ 21) (l : Array Bool) (w : World) : S10 w5 g bk rg rk (l.setIfInBounds i true) w ↔ S10 w5 g bk rg rk l w := by
  unfold S10
  rw [getD_set_ne true h]
/-- What stands behind the numbering. -/
structure Laid10 (w5 wx : World) (base g : Nat) (O S T : Nat → Prop) (kind : Int) (reps : List Rep) (ks : List Kep) (kk : Kep) (vr vp : Value) (bm : Nat) (f2 : ByteArray → Value) (bk : Nat) (S3 T3 : Nat → Prop) : Prop where
  pool : PStG wx base g (PoolO g vr vp bm f2) S T kind reps ks (ks ++ [kk]) vr vp bm f2
  turned : TurnedP O w5 wx
  own : ∀ k, PoolO g vr vp bm f2 k → O k ∨ w5.heap.size ≤ k
  blk : Blk wx bk 86 (rowK kk.p kk.ss kk.fs (kk.rep : Int))
  pkg : PkgAt wx S3 T3 kk.p kk.ss kk.fs
  clean : CleanS wx S3
  cleanT : CleanT wx T3
theorem info_kept : ∃ i z, Tryz.prog.info? 86 = some i ∧ i.zero = some z ∧ z.cells.size = 13 ∧ i.size = 13 ∧ i.bytes = 264 := by
  have h : (Tryz.prog.info? 86).map (fun i => (i.zero.map fun z => z.cells.size, i.size, i.bytes)) = some (some 13, 13, 264) := by kernel_rfl
  obtain ⟨i, hi, h2⟩ := Option.map_eq_some_iff.1 h
  simp only [Prod.mk.injEq] at h2
  obtain ⟨z, hz, h3⟩ := Option.map_eq_some_iff.1 h2.1
  exact ⟨i, z, hi, hz, h3, h2.2.1, h2.2.2⟩
theorem info_repo : ∃ i z, Tryz.prog.info? 33 = some i ∧ i.zero = some z ∧ z.cells.size = 4 ∧ i.size = 4 ∧ i.bytes = 56 := by
  have h : (Tryz.prog.info? 33).map (fun i => (i.zero.map fun z => z.cells.size, i.size, i.bytes)) = some (some 4, 4, 56) := by kernel_rfl
  obtain ⟨i, hi, h2⟩ := Option.map_eq_some_iff.1 h
  simp only [Prod.mk.injEq] at h2
  obtain ⟨z, hz, h3⟩ := Option.map_eq_some_iff.1 h2.1
  exact ⟨i, z, hi, hz, h3, h2.2.1, h2.2.2⟩
/-- While something is put behind others (number m), and its row is stored (number n): the pool's own cells, block bk's; till then nothing else has turned. -/
def S11 (m n : Nat) (w5 : World) (g bk : Nat) (tk : TypeId) (rg rk : Array Value) (l : Array Bool) (w' : World) : Prop := (l.getD n true = false → Blk w' g 83 rg) ∧ Blk w' bk tk rk ∧ (l.getD m true = false → Below w5.heap.size w5 w')
theorem S11.io {m n : Nat} {w5 : World} {g bk i : Nat} {tk : TypeId} {rg rk : Array Value} (h : i ≠ m ∧ i ≠ n) (l : Array Bool) (w : World) : S11 m n w5 g bk tk rg rk (l.setIfInBounds i true) w ↔ S11 m n w5 g bk tk rg rk l w := by
  unfold S11
  rw [getD_set_ne true h.1, getD_set_ne true h.2]
set_option maxHeartbeats 8000000 in
set_option maxRecDepth 100000 in
theorem add_any (Q : Dep → Int → Prop) {w : World} {base g bm : Nat} {O S T : Nat → Prop} {kind : Int} {reps : List Rep} {ks : List Kep} {vr vp : Value} {f : ByteArray → Value} (h : PSt w base g O S T kind reps ks vr vp bm f)
    (nm : ByteArray) (prio : Int) (inst : Bool) (A : Option Addr) (l : List PkE) (c : Nat) (S0 T0 U0 : Nat → Prop) (hA : PacksAt w S0 T0 U0 l A) (hc : l.length ≤ c ∧ c ≤ maxLen) (hlen : l.length ≤ 140737488355328) (hks : ks.length ≤ 200) (hrs : reps.length ≤ 8)
    (hC : ∀ e ∈ l, ChecksAt Q S0 e.p w) (hT : Tabs w) (hnm : nm.size ≤ 281474976710656) (hsm : ∀ e ∈ l, PkgSmall e.p) (hfar : ∀ b, S0 b ∨ T0 b ∨ U0 b → ¬ O b) (hb2 : 2 ≤ base) :
    Calls Tryz.prog 17 #[.pointer (some ⟨g, 0, none⟩), .agg #[.string nm, .int .i64 prio, .bool inst, .slice A l.length c]] w (Added Q w base g O S T kind reps ks nm prio inst (l.map PkE.p)) := by
  obtain ⟨w1, hw1⟩ : ∃ w1, w1 = w.alloc (.cells #[.string nm, .int .i64 prio, .bool inst, .slice A l.length c] 33) := ⟨_, rfl⟩
  have hb0 : Below w.heap.size w w1 := by rw [hw1]; exact (Below.refl _ _).alloc (Nat.le_refl _) _
  have hz1 : w1.heap.size = w.heap.size + 1 := by rw [hw1]; simp
  have K0 : Blk w1 w.heap.size 33 #[.string nm, .int .i64 prio, .bool inst, .slice A l.length c] := by rw [hw1]; exact Blk.new _ _ _
  have CM := Lib.hid (mayAdd_any Q (h.below hb0) nm prio inst A l c S0 T0 U0 (hA.below hb0) hc hlen hks (fun e he => (hC e he).later hb0) (hT.below hb0 hT.two))
  have H1 := Lib.hid (h.below hb0)
  have HA1 := Lib.hid (hA.below hb0)
  have HK0 := Lib.hid K0
  have HW := Lib.hid hw1
  have HZ1 := Lib.hid hz1
  have HB0 := Lib.hid hb0
  have HOl := Lib.hid (fun k (hk : O k) => (h.O_lt hk))
  have HSM := Lib.hid (And.intro hnm (And.intro hsm (And.intro hfar hb2)))
  obtain ⟨Ar, cr, rfl, hr1, hr2⟩ := own_form' h.repo
  obtain ⟨Ap, cp, rfl, hp1, hp2⟩ := own_form' h.pack
  obtain ⟨hc1, hc2⟩ := hc
  unfold maxLen at hc2 hr2 hp2
  clear hb0 hz1 K0 h hA hC hT hnm hsm hfar hb2 hw1
  rw [HW.out] at CM
  go_enter Tryz.func17, Tryz.ntmps17
  go_wp2_with fail
  refine CM.out.mono ?_
  rintro e w2 ⟨⟨n, hn, rfl⟩, hb2⟩
  have HB2 : Hid (Below w1.heap.size w1 w2) := by rw [HW.out]; exact hb2
  have HN := Lib.hid hn
  clear hb2 hn CM HW
  by_cases hz : n = 0
  rotate_left
  · have HV : Hid (Added Q w base g O S T kind reps ks nm prio inst (l.map PkE.p) (.returned (.int .i64 n)) w2) :=
      ⟨n, HN.out, rfl, TurnedP.of_below (HB0.out.trans (HB2.out.mono HB0.out.size)) _, fun _ => ⟨_, _, _, _, H1.out.below HB2.out⟩, fun e => absurd e hz⟩
    have z1 : (n == 0) = false := by simp [hz]
    have z2 : (n != 0) = true := by simp [hz]
    clear hz
    go_wp2_with fail
    go_ret
    exact HV.out
  have k3 := (HK0.out.below HB2.out HK0.out.lt).cell 3
  simp at k3
  have HS0 : Hid (AddSt w1 w2 base g O S T kind reps ks (.slice Ar reps.length cr) (l.map PkE.p) O S T (.slice Ap ks.length cp) bm f []) :=
    ⟨TurnedP.of_below HB2.out _, by rw [List.append_nil]; exact H1.out.below HB2.out, fun j hj => .inl hj, fun j hj => .inl hj, fun j hj => .inl hj, rfl, fun x hx => by cases hx⟩
  rw [hz] at HN ⊢
  have HSum : Hid (ks.length + l.length ≤ 200 ∧ reps.length < 8) := by
    have h := AddR.sum HN.out
    rwa [List.length_map] at h
  clear hz H1 HB2
  go_wp2_with fail
  clear k3
  go_loopw [20] (fun v wx => ∃ (new : List Kep) (O' S' T' : Nat → Prop) (vp : Value) (bm : Nat) (f : ByteArray → Value), new.length ≤ l.length ∧ v = .int .i64 (new.length : Int) ∧ Hid (AddSt w1 wx base g O S T kind reps ks (.slice Ar reps.length cr) (l.map PkE.p) O' S' T' vp bm f new)) (fun v _ => l.length - (intOf v).toNat)
  case atStart => exact ⟨[], _, _, _, _, _, _, Nat.zero_le _, rfl, HS0⟩
  case round =>
    clear HS0
    obtain ⟨new, O', S', T', vp, bm', f', hk, rfl, HS⟩ := hrel
    have hAx := HA1.out.stay (fun b hb hl => HS.out.turned.block b hl (HSM.out.2.2.1 b (.inl hb))) (fun b hb hl => HS.out.turned.block b hl (HSM.out.2.2.1 b (.inr (.inl hb)))) (fun b hb hl => HS.out.turned.block b hl (HSM.out.2.2.1 b (.inr (.inr hb))))
    have Kx := HK0.out.turnedP HS.out.turned (fun ho => by have := (HOl.out _ ho).2; omega)
    by_cases hlt : new.length < l.length
    · obtain ⟨e, he⟩ : ∃ e, l[new.length]? = some e := ⟨_, List.getElem?_eq_getElem hlt⟩
      obtain ⟨b, o, rfl, hU, hcs, hP⟩ := hAx new.length e he
      obtain ⟨wa, hwa⟩ : ∃ wa, wa = ((wr.alloc (.cells (rowP e.p e.ss e.fs) 44)).drew) := ⟨_, rfl⟩
      have hba : Below wr.heap.size wr wa := by rw [hwa]; exact ((Below.refl _ _).alloc (Nat.le_refl _) _).drew
      have Ka : Blk wa wr.heap.size 44 (rowP e.p e.ss e.fs) := by rw [hwa]; exact Blk.drew (Blk.new _ _ _)
      have hza : wa.heap.size = wr.heap.size + 1 := by rw [hwa]; simp
      have CK : Hid (∀ wx, Below wa.heap.size wa wx → Calls Tryz.prog 46 #[.agg (rowK e.p e.ss e.fs (reps.length : Int))] wx (PkgNew wx e.p (reps.length : Int))) := fun wx hb =>
        kept_any e.p e.ss e.fs (reps.length : Int) S0 T0 wx ((hP.below hba).below hb) (HSM.out.2.1 e (List.mem_of_getElem? he))
      have HRow : Hid (∀ w', Below wa.heap.size wa w' → Blk w' wr.heap.size 44 (rowP e.p e.ss e.fs) ∧ w'.cell? ⟨g, 1, none⟩ = some (.slice Ar reps.length cr)) := fun w' hb => by
        refine ⟨Ka.below hb Ka.lt, ?_⟩
        have := ((HS.out.pool.below hba).below hb).blk.cell 1
        simpa using this
      have HWa := Lib.hid hwa
      have HZa := Lib.hid hza
      obtain ⟨N, hN⟩ : ∃ N, N = (ks ++ new).length := ⟨_, rfl⟩
      obtain ⟨Aq, cq, hvp, hq1, hq2⟩ := own_form' HS.out.pool.pack
      rw [← hN] at hvp hq1
      subst hvp
      have HNn := Lib.hid hN
      have HEm := Lib.hid (List.mem_of_getElem? he)
      clear hN
      have HE2 : Hid ((l.map PkE.p)[new.length]? = some e.p) := by show _ = _; rw [List.getElem?_map, he]; rfl
      obtain ⟨B0, m0, s0, -⟩ := hP.lists 0 (by omega)
      obtain ⟨B1, m1, s1, -⟩ := hP.lists 1 (by omega)
      obtain ⟨B2, m2, s2, -⟩ := hP.lists 2 (by omega)
      obtain ⟨B3, m3, s3, -⟩ := hP.lists 3 (by omega)
      obtain ⟨B4, m4, s4, -⟩ := hP.lists 4 (by omega)
      obtain ⟨B5, m5, s5, -⟩ := hP.lists 5 (by omega)
      obtain ⟨B6, m6, s6, -⟩ := hP.lists 6 (by omega)
      obtain ⟨B7, m7, s7, -⟩ := hP.files
      have q0 : wr.cell? ⟨b, o + new.length * 12, none⟩ = some (.string e.p.name) := hcs 0 (by omega)
      have q1 : wr.cell? ⟨b, o + new.length * 12 + 1, none⟩ = some (.string e.p.evr) := hcs 1 (by omega)
      have q2 : wr.cell? ⟨b, o + new.length * 12 + 2, none⟩ = some (.string e.p.arch) := hcs 2 (by omega)
      have q3 : wr.cell? ⟨b, o + new.length * 12 + 3, none⟩ = some (.string e.p.vendor) := hcs 3 (by omega)
      have q4 : wr.cell? ⟨b, o + new.length * 12 + 4, none⟩ = some (e.ss 0) := hcs 4 (by omega)
      have q5 : wr.cell? ⟨b, o + new.length * 12 + 5, none⟩ = some (e.ss 1) := hcs 5 (by omega)
      have q6 : wr.cell? ⟨b, o + new.length * 12 + 6, none⟩ = some (e.ss 2) := hcs 6 (by omega)
      have q7 : wr.cell? ⟨b, o + new.length * 12 + 7, none⟩ = some (e.ss 3) := hcs 7 (by omega)
      have q8 : wr.cell? ⟨b, o + new.length * 12 + 8, none⟩ = some (e.ss 4) := hcs 8 (by omega)
      have q9 : wr.cell? ⟨b, o + new.length * 12 + 9, none⟩ = some (e.ss 5) := hcs 9 (by omega)
      have q10 : wr.cell? ⟨b, o + new.length * 12 + 10, none⟩ = some (e.ss 6) := hcs 10 (by omega)
      have q11 : wr.cell? ⟨b, o + new.length * 12 + 11, none⟩ = some (e.fs) := hcs 11 (by omega)
      have HBA := Lib.hid hba
      unfold rowK at CK
      unfold rowP at HRow HWa
      rw [s0, s1, s2, s3, s4, s5, s6, s7] at CK HRow HWa
      rw [s0] at q4
      rw [s1] at q5
      rw [s2] at q6
      rw [s3] at q7
      rw [s4] at q8
      rw [s5] at q9
      rw [s6] at q10
      rw [s7] at q11
      clear s0 s1 s2 s3 s4 s5 s6 s7 hcs hP hba hU Kx hAx he Ka hza hwa
      go_upto_region 9 with fail
      clear q0 q1 q2 q3 q4 q5 q6 q7 q8 q9 q10 q11
      go_cut [8] from 24 to 31 (fun v8 wx => ∃ (bk : Nat) (ss' : Nat → Value) (fs' : Value) (S3 T3 : Nat → Prop), v8 = .pointer (some ⟨bk, 0, none⟩) ∧ Hid (Laid9 wa wx bk e.p (reps.length : Int) ss' fs' S3 T3))
      case rest =>
        clear CK HRow HWa
        obtain ⟨bk, ss', fs', S3, T3, rfl, H9⟩ := hcut
        obtain ⟨w5, hw5⟩ : ∃ x, x = wc := ⟨_, rfl⟩
        subst hw5
        have HPc := Lib.hid ((HS.out.pool.below HBA.out).below H9.out.below)
        have HNL : Hid (N ≤ 200) := by
          have h1 := HNn.out
          have h2 := HSum.out.1
          rw [List.length_append] at h1
          show N ≤ 200
          omega
        obtain ⟨C0, n0, t0, -⟩ := H9.out.pkg.lists 0 (by omega)
        obtain ⟨C1, n1, t1, -⟩ := H9.out.pkg.lists 1 (by omega)
        obtain ⟨C2, n2, t2, -⟩ := H9.out.pkg.lists 2 (by omega)
        obtain ⟨C3, n3, t3, -⟩ := H9.out.pkg.lists 3 (by omega)
        obtain ⟨C4, n4, t4, -⟩ := H9.out.pkg.lists 4 (by omega)
        obtain ⟨C5, n5, t5, -⟩ := H9.out.pkg.lists 5 (by omega)
        obtain ⟨C6, n6, t6, -⟩ := H9.out.pkg.lists 6 (by omega)
        obtain ⟨C7, n7, t7, -⟩ := H9.out.pkg.files
        have HR9 : Hid (rowK e.p ss' fs' (reps.length : Int) = #[.string e.p.name, .string e.p.evr, .string e.p.arch, .string e.p.vendor, .slice C0 (e.p.ls 0).length n0, .slice C1 (e.p.ls 1).length n1, .slice C2 (e.p.ls 2).length n2, .slice C3 (e.p.ls 3).length n3, .slice C4 (e.p.ls 4).length n4, .slice C5 (e.p.ls 5).length n5, .slice C6 (e.p.ls 6).length n6, .slice C7 e.p.files.length n7, .int .i64 (reps.length : Int)]) := by
          show rowK _ _ _ _ = _
          unfold rowK
          rw [t0, t1, t2, t3, t4, t5, t6, t7]
        clear t0 t1 t2 t3 t4 t5 t6 t7
        obtain ⟨M, hM⟩ : ∃ M, M = (idxF e.p.name 0 (ks ++ new)).length := ⟨_, rfl⟩
        have hML : M ≤ 200 := by have h1 := idxF_len e.p.name (ks ++ new) 0; have h2 := HNL.out; have h3 := HNn.out; omega
        obtain ⟨Am, cm, hfm, hm1, hm2⟩ := own_form' (HPc.out.map.rows e.p.name)
        rw [← hM] at hfm hm1
        unfold maxLen at hm2
        have HMM := Lib.hid (And.intro hM (And.intro hfm (And.intro hm1 hm2)))
        have hsz : e.p.name.size ≤ maxLen := by have h := (HSM.out.2.1 e HEm.out).txt 0; unfold maxLen; show e.p.name.size ≤ _; have h' : e.p.name.size ≤ 281474976710656 := h; omega
        have HSZ := Lib.hid hsz
        have HLk : Hid (∀ w', Below w5.heap.size w5 w' → (Instr.lookup 80 (.map (some bm')) (.string e.p.name) false).run Tryz.prog w' = .ok (.slice Am M cm) w') := fun w' hb => by
          have h := (HPc.out.below hb).map.look Tryz.underlying80 (zero_ints w') hsz
          rwa [hfm] at h
        have HI5 := Lib.hid info_int5
        clear hM hfm hm1 hm2 hsz
        go_upto_region 10 with fail
        go_cut [] from 32 to 53 (fun wx => ∃ f2, Hid (Laid10 w5 wx base g O' S' T' kind reps (ks ++ new) ⟨e.p, ss', fs', reps.length⟩ (.slice Ar reps.length cr) (.slice Aq N cq) bm' f2 bk S3 T3))
        case rest =>
          clear HLk HMM
          obtain ⟨f2, H10⟩ := hcut
          obtain ⟨w7, hw7⟩ : ∃ x, x = wc := ⟨_, rfl⟩
          subst hw7
          have HIK := Lib.hid info_kept
          go_upto_region 11 with fail
          rename_i K hK
          refine wp_region_S (S11 7 10 w7 g bk 86 #[.int .i64 kind, .slice Ar reps.length cr, .slice Aq N cq, .map (some bm')] #[.string e.p.name, .string e.p.evr, .string e.p.arch, .string e.p.vendor, .slice C0 (e.p.ls 0).length n0, .slice C1 (e.p.ls 1).length n1, .slice C2 (e.p.ls 2).length n2, .slice C3 (e.p.ls 3).length n3, .slice C4 (e.p.ls 4).length n4, .slice C5 (e.p.ls 5).length n5, .slice C6 (e.p.ls 6).length n6, .slice C7 e.p.files.length n7, .int .i64 (reps.length : Int)]) (by kernel_rfl) ⟨fun _ => H10.out.pool.blk, by rw [← HR9.out]; exact H10.out.blk, fun _ => (Below.refl _ _).drew⟩ (fun hS => ?_)
          refine wpAnyS_take (i := 0) (fun w' => True) (v := .pointer (some ⟨g, 0, none⟩)) rfl (by kernel_rfl) (by kernel_rfl) (by kernel_rfl) (fun _ _ _ h => h) (fun _ _ _ _ => trivial) (S11.io (by decide)) (by kernel_rfl) hS (fun w' hSw => ?_) (by rfl) (fun hS => ?_)
          · go_simp
          try simp only [List.getElem_toArray, List.getElem_cons_zero, List.getElem_cons_succ, Act.put, List.setIfInBounds_toArray, List.set_cons_zero, List.set_cons_succ]
          refine wpAnyS_take (i := 1) (fun w' => True) (v := .pointer (some ⟨g, 0, none⟩)) rfl (by kernel_rfl) (by kernel_rfl) (by kernel_rfl) (fun _ _ _ h => h) (fun _ _ _ _ => trivial) (S11.io (by decide)) (by kernel_rfl) hS (fun w' hSw => ?_) (by rfl) (fun hS => ?_)
          · go_simp
          try simp only [List.getElem_toArray, List.getElem_cons_zero, List.getElem_cons_succ, Act.put, List.setIfInBounds_toArray, List.set_cons_zero, List.set_cons_succ]
          refine wpAnyS_take (i := 2) (fun w' => True) (v := .pointer (some ⟨g, 0, none⟩)) rfl (by kernel_rfl) (by kernel_rfl) (by kernel_rfl) (fun _ _ _ h => h) (fun _ _ _ _ => trivial) (S11.io (by decide)) (by kernel_rfl) hS (fun w' hSw => ?_) (by rfl) (fun hS => ?_)
          · go_simp
          try simp only [List.getElem_toArray, List.getElem_cons_zero, List.getElem_cons_succ, Act.put, List.setIfInBounds_toArray, List.set_cons_zero, List.set_cons_succ]
          refine wpAnyS_take (i := 3) (fun w' => True) (v := .pointer (some ⟨g, 2, none⟩)) rfl (by kernel_rfl) (by kernel_rfl) (by kernel_rfl) (fun _ _ _ h => h) (fun _ _ _ _ => trivial) (S11.io (by decide)) (by kernel_rfl) hS (fun w' hSw => ?_) (by rfl) (fun hS => ?_)
          · go_simp
          try simp only [List.getElem_toArray, List.getElem_cons_zero, List.getElem_cons_succ, Act.put, List.setIfInBounds_toArray, List.set_cons_zero, List.set_cons_succ]
          refine wpAnyS_take (i := 4) (fun w' => w'.cell? ⟨g, 2, none⟩ = some (.slice Aq N cq)) (v := .slice Aq N cq) rfl (by kernel_rfl) (by kernel_rfl) (by kernel_rfl) (fun _ _ _ h => h) (fun l w hw hS => (hS.1 (hw 10 (by kernel_rfl))).cell 2) (S11.io (by decide)) (by kernel_rfl) hS (fun w' hSw => ?_) (by rfl) (fun hS => ?_)
          · go_simp
          try simp only [List.getElem_toArray, List.getElem_cons_zero, List.getElem_cons_succ, Act.put, List.setIfInBounds_toArray, List.set_cons_zero, List.set_cons_succ]
          refine wpAnyS_take (i := 5) (fun w' => Blk w' bk 86 #[.string e.p.name, .string e.p.evr, .string e.p.arch, .string e.p.vendor, .slice C0 (e.p.ls 0).length n0, .slice C1 (e.p.ls 1).length n1, .slice C2 (e.p.ls 2).length n2, .slice C3 (e.p.ls 3).length n3, .slice C4 (e.p.ls 4).length n4, .slice C5 (e.p.ls 5).length n5, .slice C6 (e.p.ls 6).length n6, .slice C7 e.p.files.length n7, .int .i64 (reps.length : Int)]) (v := .agg #[.string e.p.name, .string e.p.evr, .string e.p.arch, .string e.p.vendor, .slice C0 (e.p.ls 0).length n0, .slice C1 (e.p.ls 1).length n1, .slice C2 (e.p.ls 2).length n2, .slice C3 (e.p.ls 3).length n3, .slice C4 (e.p.ls 4).length n4, .slice C5 (e.p.ls 5).length n5, .slice C6 (e.p.ls 6).length n6, .slice C7 e.p.files.length n7, .int .i64 (reps.length : Int)]) rfl (by kernel_rfl) (by kernel_rfl) (by kernel_rfl) (fun _ _ _ h => h) (fun l w hw hS => hS.2.1) (S11.io (by decide)) (by kernel_rfl) hS (fun w' hSw => ?_) (by rfl) (fun hS => ?_)
          · have q0 := hSw.cell 0
            have q1 := hSw.cell 1
            have q2 := hSw.cell 2
            have q3 := hSw.cell 3
            have q4 := hSw.cell 4
            have q5 := hSw.cell 5
            have q6 := hSw.cell 6
            have q7 := hSw.cell 7
            have q8 := hSw.cell 8
            have q9 := hSw.cell 9
            have q10 := hSw.cell 10
            have q11 := hSw.cell 11
            have q12 := hSw.cell 12
            simp at q0 q1 q2 q3 q4 q5 q6 q7 q8 q9 q10 q11 q12
            clear hSw
            go_simp
          try simp only [List.getElem_toArray, List.getElem_cons_zero, List.getElem_cons_succ, Act.put, List.setIfInBounds_toArray, List.set_cons_zero, List.set_cons_succ]
          have hBA2 : Below w7.heap.size w7 (w7.drew.alloc (.cells #[.string e.p.name, .string e.p.evr, .string e.p.arch, .string e.p.vendor, .slice C0 (e.p.ls 0).length n0, .slice C1 (e.p.ls 1).length n1, .slice C2 (e.p.ls 2).length n2, .slice C3 (e.p.ls 3).length n3, .slice C4 (e.p.ls 4).length n4, .slice C5 (e.p.ls 5).length n5, .slice C6 (e.p.ls 6).length n6, .slice C7 e.p.files.length n7, .int .i64 (reps.length : Int)] 86)) := (Below.refl _ _).drew.alloc (Nat.le_refl _) _
          have HBA2 := Lib.hid hBA2
          have hP6 := H10.out.pool.below hBA2
          have hK6 : Blk (w7.drew.alloc (.cells #[.string e.p.name, .string e.p.evr, .string e.p.arch, .string e.p.vendor, .slice C0 (e.p.ls 0).length n0, .slice C1 (e.p.ls 1).length n1, .slice C2 (e.p.ls 2).length n2, .slice C3 (e.p.ls 3).length n3, .slice C4 (e.p.ls 4).length n4, .slice C5 (e.p.ls 5).length n5, .slice C6 (e.p.ls 6).length n6, .slice C7 e.p.files.length n7, .int .i64 (reps.length : Int)] 86)) bk 86 #[.string e.p.name, .string e.p.evr, .string e.p.arch, .string e.p.vendor, .slice C0 (e.p.ls 0).length n0, .slice C1 (e.p.ls 1).length n1, .slice C2 (e.p.ls 2).length n2, .slice C3 (e.p.ls 3).length n3, .slice C4 (e.p.ls 4).length n4, .slice C5 (e.p.ls 5).length n5, .slice C6 (e.p.ls 6).length n6, .slice C7 e.p.files.length n7, .int .i64 (reps.length : Int)] := by
            have h1 := H10.out.blk
            change Blk _ _ _ (rowK e.p ss' fs' (reps.length : Int)) at h1
            rw [HR9.out] at h1
            exact h1.below hBA2 h1.lt
          have HK6 := Lib.hid hK6
          have HP6 := Lib.hid hP6
          have HRow : Hid ((w7.drew.alloc (.cells #[.string e.p.name, .string e.p.evr, .string e.p.arch, .string e.p.vendor, .slice C0 (e.p.ls 0).length n0, .slice C1 (e.p.ls 1).length n1, .slice C2 (e.p.ls 2).length n2, .slice C3 (e.p.ls 3).length n3, .slice C4 (e.p.ls 4).length n4, .slice C5 (e.p.ls 5).length n5, .slice C6 (e.p.ls 6).length n6, .slice C7 e.p.files.length n7, .int .i64 (reps.length : Int)] 86)).ownsRow base 86 13 (.slice Aq N cq) N (cells13 (ks ++ new))) := by
            have h := hP6.pack
            rw [← HNn.out] at h
            exact h
          refine wpAnyS_one (i := 6) (by kernel_rfl) rfl (fun K6 hK6' => ?_)
          go_simp
          refine hK6'.out _ _ ⟨fun _ => hP6.blk, hK6, fun _ => hBA2⟩ (fun hS => ?_)
          clear hK6' K6 hP6 hK6 hBA2
          try simp only [List.getElem_toArray, List.getElem_cons_zero, List.getElem_cons_succ, Act.put, List.setIfInBounds_toArray, List.set_cons_zero, List.set_cons_succ]
          refine wpAnyS_one (i := 7) (by kernel_rfl) rfl (fun K7 hK7 => ?_)
          obtain ⟨i0, z0, hi0, hz0, hz1, hz2, hz3⟩ := HIK.out
          refine step_append_at rfl (.tmp 58) (.tmp 60) 81 rfl base 86 i0 z0 13 264 Tryz.underlying81 hi0 hz0 hz2 hz3 hz1 (by decide) (.slice Aq N cq) N (cells13 (ks ++ new)) rfl HRow.out ⟨w7.heap.size, 0, none⟩ 1 1 [.string e.p.name, .string e.p.evr, .string e.p.arch, .string e.p.vendor, .slice C0 (e.p.ls 0).length n0, .slice C1 (e.p.ls 1).length n1, .slice C2 (e.p.ls 2).length n2, .slice C3 (e.p.ls 3).length n3, .slice C4 (e.p.ls 4).length n4, .slice C5 (e.p.ls 5).length n5, .slice C6 (e.p.ls 6).length n6, .slice C7 e.p.files.length n7, .int .i64 (reps.length : Int)] rfl rfl (cells_new w7.drew #[.string e.p.name, .string e.p.evr, .string e.p.arch, .string e.p.vendor, .slice C0 (e.p.ls 0).length n0, .slice C1 (e.p.ls 1).length n1, .slice C2 (e.p.ls 2).length n2, .slice C3 (e.p.ls 3).length n3, .slice C4 (e.p.ls 4).length n4, .slice C5 (e.p.ls 5).length n5, .slice C6 (e.p.ls 6).length n6, .slice C7 e.p.files.length n7, .int .i64 (reps.length : Int)] _) (by intro u hu; simp at hu; rcases hu with rfl | rfl | rfl | rfl | rfl | rfl | rfl | rfl | rfl | rfl | rfl | rfl | rfl <;> rfl) (by have h2 := HNL.out; unfold maxLen; omega) (by have h2 := HNL.out; omega) (by have h1 := H10.out.pool.gfar; have h2 := H10.out.pool.blk.lt; show base ≤ _; simp; omega) ?_
          intro v4 w4 hown4 hg4 hat4
          obtain ⟨A4, c4, rfl, _, _⟩ := own_form' hown4
          have hb4 : w4.heap.size ≥ (w7.drew.alloc (.cells #[.string e.p.name, .string e.p.evr, .string e.p.arch, .string e.p.vendor, .slice C0 (e.p.ls 0).length n0, .slice C1 (e.p.ls 1).length n1, .slice C2 (e.p.ls 2).length n2, .slice C3 (e.p.ls 3).length n3, .slice C4 (e.p.ls 4).length n4, .slice C5 (e.p.ls 5).length n5, .slice C6 (e.p.ls 6).length n6, .slice C7 e.p.files.length n7, .int .i64 (reps.length : Int)] 86)).heap.size := hg4.size
          obtain ⟨hPk, htk, hok⟩ := PStG.keep (kk := ⟨e.p, ss', fs', reps.length⟩) HP6.out (H10.out.pkg.below HBA2.out) (H10.out.clean.stay (StayS.below' HBA2.out)) (H10.out.cleanT.stay (StayS.below' HBA2.out)) hg4 (by rw [← HNn.out]; show w4.ownsRow _ _ _ _ _ (_ ++ (rowK e.p ss' fs' (reps.length : Int)).toList); rw [HR9.out]; exact hown4) hat4
          have htM1 : TurnedP (fun k => (Value.slice Aq N cq).ownBlock = some k) (w7.drew.alloc (.cells #[.string e.p.name, .string e.p.evr, .string e.p.arch, .string e.p.vendor, .slice C0 (e.p.ls 0).length n0, .slice C1 (e.p.ls 1).length n1, .slice C2 (e.p.ls 2).length n2, .slice C3 (e.p.ls 3).length n3, .slice C4 (e.p.ls 4).length n4, .slice C5 (e.p.ls 5).length n5, .slice C6 (e.p.ls 6).length n6, .slice C7 e.p.files.length n7, .int .i64 (reps.length : Int)] 86)) w4 := (TurnedP.refl _ _).grown hg4 fun k _ hk => hk
          have hg4' := HP6.out.blk.turnedP htM1 (own_kind HP6.out.pack HP6.out.blk (by decide))
          have hOb : ∀ j, PoolO g (.slice Ar reps.length cr) (.slice Aq N cq) bm' f2 j → O' j ∨ w5.heap.size ≤ j := H10.out.own
          have hbO : ¬ (Value.slice Aq N cq).ownBlock = some bk := fun h => by
            have h0 := (HS.out.pool.mine bk).2 (.inr (.inr (.inl h)))
            have h1 := (HS.out.pool.O_lt h0).2
            have h2 := H9.out.far
            have h3 := HZa.out
            omega
          have hk4' := HK6.out.turnedP htM1 hbO
          have hsz1 : w1.heap.size ≤ wr.heap.size := HS.out.turned.size
          have hszr : wr.heap.size ≤ wa.heap.size := HBA.out.size
          have hsza : wa.heap.size ≤ w5.heap.size := H9.out.below.size
          have hsz5 : w5.heap.size ≤ w7.heap.size := H10.out.turned.size
          have hN : AddSt w1 (w4.setCell ⟨g, 2, none⟩ (.slice A4 (N + 1) c4)) base g O S T kind reps ks (.slice Ar reps.length cr) (l.map PkE.p) (PoolO g (.slice Ar reps.length cr) (.slice A4 (N + 1) c4) bm' f2) (fun b => S' b ∨ S3 b) (fun b => T' b ∨ T3 b) (.slice A4 (N + 1) c4) bm' f2 (new ++ [⟨e.p, ss', fs', reps.length⟩]) := by
            have hOO : ∀ j, PoolO g (.slice Ar reps.length cr) (.slice Aq N cq) bm' f2 j → O j ∨ w1.heap.size ≤ j := fun j hj => by
              rcases hOb j hj with h | h
              · exact HS.out.own j h
              · exact .inr (by omega)
            have hlow : ∀ (q : Nat), q < w1.heap.size → PoolO g (.slice Ar reps.length cr) (.slice Aq N cq) bm' f2 q → O q := fun q hq h => (hOO q h).resolve_right (by omega)
            have hlow' : ∀ (q : Nat), q < w1.heap.size → O' q → O q := fun q hq h => (HS.out.own q h).resolve_right (by omega)
            refine ⟨((((HS.out.turned.below_ HBA.out).below_ H9.out.below).trans H10.out.turned hlow').below_ HBA2.out).trans htk hlow, by rw [← List.append_assoc]; exact hPk, fun j hj => ?_, fun j hj => ?_, fun j hj => ?_, ?_, fun x hx => ?_⟩
            · rcases hok j hj with h | h
              · exact hOO j h
              · exact .inr (by simp at h; omega)
            · rcases hj with h | h
              · exact HS.out.deps j h
              · have := H9.out.deps j h; exact .inr (by omega)
            · rcases hj with h | h
              · exact HS.out.texts j h
              · have := H9.out.texts j h; exact .inr (by omega)
            · rw [List.map_append, HS.out.names, List.length_append]
              show _ = (l.map PkE.p).take (new.length + 1)
              rw [List.take_add_one, HE2.out]; rfl
            · rcases List.mem_append.1 hx with hx | hx
              · exact HS.out.reps x hx
              · simp at hx; subst hx; rfl
          have HN2 := Lib.hid hN
          clear htM1 hPk htk hok hown4 hg4 hat4 hbO hOb hsz1 hszr hsza hsz5 hN hb4
          refine hK7.out _ _ ⟨fun _ => hg4', hk4', fun h => by cases h⟩ (fun hS => ?_)
          clear hK7 K7 hk4'
          try simp only [List.getElem_toArray, List.getElem_cons_zero, List.getElem_cons_succ, Act.put, List.setIfInBounds_toArray, List.set_cons_zero, List.set_cons_succ]
          refine wpAnyS_one (i := 8) (by kernel_rfl) rfl (fun K8 hK8 => ?_)
          go_simp
          refine hK8.out _ _ ⟨hS.1, hS.2.1, fun h => by cases h⟩ (fun hS => ?_)
          clear hK8 K8
          try simp only [List.getElem_toArray, List.getElem_cons_zero, List.getElem_cons_succ, Act.put, List.setIfInBounds_toArray, List.set_cons_zero, List.set_cons_succ]
          refine wpAnyS_one (i := 9) (by kernel_rfl) rfl (fun K8 hK8 => ?_)
          go_simp
          refine hK8.out _ _ ⟨hS.1, hS.2.1, fun h => by cases h⟩ (fun hS => ?_)
          clear hK8 K8
          try simp only [List.getElem_toArray, List.getElem_cons_zero, List.getElem_cons_succ, Act.put, List.setIfInBounds_toArray, List.set_cons_zero, List.set_cons_succ]
          have x2 := hg4'.cell 2
          have y2 := hg4'.free 2
          simp at x2
          clear hg4'
          refine wpAnyS_one (i := 10) (by kernel_rfl) rfl (fun K8 hK8 => ?_)
          go_simp
          refine hK8.out _ _ ⟨(fun h => by cases h), hS.2.1.far (p := ⟨g, 2, none⟩) (by have h1 := H9.out.far; have h2 := HS.out.pool.blk.lt; have h3 := HZa.out; simp; omega) _, fun h => by cases h⟩ (fun hS => ?_)
          clear hK8 K8 x2 y2
          try simp only [List.getElem_toArray, List.getElem_cons_zero, List.getElem_cons_succ, Act.put, List.setIfInBounds_toArray, List.set_cons_zero, List.set_cons_succ]
          refine wpAnyS_done (by kernel_rfl) ?_ _
          clear hS
          refine hK _ _ ?_
          clear hK K
          generalize w4.setCell ⟨g, 2, none⟩ (.slice A4 (N + 1) c4) = w9 at HN2 ⊢
          go_wp2_with fail
          go_roundw
          case rel => exact ⟨new ++ [⟨e.p, ss', fs', reps.length⟩], _, _, _, _, _, _, by simp; omega, by simp, HN2⟩
          case measure => simp [intOf]; omega
        case first =>
          rename_i J K hJ hK
          refine wp_region_S (S10 w5 g bk #[.int .i64 kind, .slice Ar reps.length cr, .slice Aq N cq, .map (some bm')] #[.string e.p.name, .string e.p.evr, .string e.p.arch, .string e.p.vendor, .slice C0 (e.p.ls 0).length n0, .slice C1 (e.p.ls 1).length n1, .slice C2 (e.p.ls 2).length n2, .slice C3 (e.p.ls 3).length n3, .slice C4 (e.p.ls 4).length n4, .slice C5 (e.p.ls 5).length n5, .slice C6 (e.p.ls 6).length n6, .slice C7 e.p.files.length n7, .int .i64 (reps.length : Int)]) (by kernel_rfl) ⟨HPc.out.blk, by rw [← HR9.out]; exact H9.out.blk, fun _ => (Below.refl _ _).drew⟩ (fun hS => ?_)
          refine wpAnyS_take (i := 0) (fun w' => True) (v := .pointer (some ⟨g, 0, none⟩)) rfl (by kernel_rfl) (by kernel_rfl) (by kernel_rfl) (fun _ _ _ h => h) (fun _ _ _ _ => trivial) (S10.io (by decide)) (by kernel_rfl) hS (fun w' hSw => ?_) (by rfl) (fun hS => ?_)
          · go_simp
          try simp only [List.getElem_toArray, List.getElem_cons_zero, List.getElem_cons_succ, Act.put, List.setIfInBounds_toArray, List.set_cons_zero, List.set_cons_succ]
          refine wpAnyS_take (i := 1) (fun w' => True) (v := .pointer (some ⟨g, 0, none⟩)) rfl (by kernel_rfl) (by kernel_rfl) (by kernel_rfl) (fun _ _ _ h => h) (fun _ _ _ _ => trivial) (S10.io (by decide)) (by kernel_rfl) hS (fun w' hSw => ?_) (by rfl) (fun hS => ?_)
          · go_simp
          try simp only [List.getElem_toArray, List.getElem_cons_zero, List.getElem_cons_succ, Act.put, List.setIfInBounds_toArray, List.set_cons_zero, List.set_cons_succ]
          refine wpAnyS_take (i := 2) (fun w' => True) (v := .pointer (some ⟨g, 3, none⟩)) rfl (by kernel_rfl) (by kernel_rfl) (by kernel_rfl) (fun _ _ _ h => h) (fun _ _ _ _ => trivial) (S10.io (by decide)) (by kernel_rfl) hS (fun w' hSw => ?_) (by rfl) (fun hS => ?_)
          · go_simp
          try simp only [List.getElem_toArray, List.getElem_cons_zero, List.getElem_cons_succ, Act.put, List.setIfInBounds_toArray, List.set_cons_zero, List.set_cons_succ]
          refine wpAnyS_take (i := 3) (fun w' => w'.cell? ⟨g, 3, none⟩ = some (.map (some bm'))) (v := .map (some bm')) rfl (by kernel_rfl) (by kernel_rfl) (by kernel_rfl) (fun _ _ _ h => h) (fun l w hw hS => hS.1.cell 3) (S10.io (by decide)) (by kernel_rfl) hS (fun w' hSw => ?_) (by rfl) (fun hS => ?_)
          · go_simp
          try simp only [List.getElem_toArray, List.getElem_cons_zero, List.getElem_cons_succ, Act.put, List.setIfInBounds_toArray, List.set_cons_zero, List.set_cons_succ]
          refine wpAnyS_take (i := 4) (fun w' => True) (v := .pointer (some ⟨bk, 0, none⟩)) rfl (by kernel_rfl) (by kernel_rfl) (by kernel_rfl) (fun _ _ _ h => h) (fun _ _ _ _ => trivial) (S10.io (by decide)) (by kernel_rfl) hS (fun w' hSw => ?_) (by rfl) (fun hS => ?_)
          · go_simp
          try simp only [List.getElem_toArray, List.getElem_cons_zero, List.getElem_cons_succ, Act.put, List.setIfInBounds_toArray, List.set_cons_zero, List.set_cons_succ]
          refine wpAnyS_take (i := 5) (fun w' => True) (v := .pointer (some ⟨bk, 0, none⟩)) rfl (by kernel_rfl) (by kernel_rfl) (by kernel_rfl) (fun _ _ _ h => h) (fun _ _ _ _ => trivial) (S10.io (by decide)) (by kernel_rfl) hS (fun w' hSw => ?_) (by rfl) (fun hS => ?_)
          · go_simp
          try simp only [List.getElem_toArray, List.getElem_cons_zero, List.getElem_cons_succ, Act.put, List.setIfInBounds_toArray, List.set_cons_zero, List.set_cons_succ]
          refine wpAnyS_take (i := 6) (fun w' => w'.cell? ⟨bk, 0, none⟩ = some (.string e.p.name)) (v := .string e.p.name) rfl (by kernel_rfl) (by kernel_rfl) (by kernel_rfl) (fun _ _ _ h => h) (fun l w hw hS => hS.2.1.cell 0) (S10.io (by decide)) (by kernel_rfl) hS (fun w' hSw => ?_) (by rfl) (fun hS => ?_)
          · go_simp
          try simp only [List.getElem_toArray, List.getElem_cons_zero, List.getElem_cons_succ, Act.put, List.setIfInBounds_toArray, List.set_cons_zero, List.set_cons_succ]
          refine wpAnyS_take (i := 7) (fun w' => True) (v := .pointer (some ⟨g, 0, none⟩)) rfl (by kernel_rfl) (by kernel_rfl) (by kernel_rfl) (fun _ _ _ h => h) (fun _ _ _ _ => trivial) (S10.io (by decide)) (by kernel_rfl) hS (fun w' hSw => ?_) (by rfl) (fun hS => ?_)
          · go_simp
          try simp only [List.getElem_toArray, List.getElem_cons_zero, List.getElem_cons_succ, Act.put, List.setIfInBounds_toArray, List.set_cons_zero, List.set_cons_succ]
          refine wpAnyS_take (i := 8) (fun w' => True) (v := .pointer (some ⟨g, 0, none⟩)) rfl (by kernel_rfl) (by kernel_rfl) (by kernel_rfl) (fun _ _ _ h => h) (fun _ _ _ _ => trivial) (S10.io (by decide)) (by kernel_rfl) hS (fun w' hSw => ?_) (by rfl) (fun hS => ?_)
          · go_simp
          try simp only [List.getElem_toArray, List.getElem_cons_zero, List.getElem_cons_succ, Act.put, List.setIfInBounds_toArray, List.set_cons_zero, List.set_cons_succ]
          refine wpAnyS_take (i := 9) (fun w' => True) (v := .pointer (some ⟨g, 3, none⟩)) rfl (by kernel_rfl) (by kernel_rfl) (by kernel_rfl) (fun _ _ _ h => h) (fun _ _ _ _ => trivial) (S10.io (by decide)) (by kernel_rfl) hS (fun w' hSw => ?_) (by rfl) (fun hS => ?_)
          · go_simp
          try simp only [List.getElem_toArray, List.getElem_cons_zero, List.getElem_cons_succ, Act.put, List.setIfInBounds_toArray, List.set_cons_zero, List.set_cons_succ]
          refine wpAnyS_take (i := 10) (fun w' => w'.cell? ⟨g, 3, none⟩ = some (.map (some bm'))) (v := .map (some bm')) rfl (by kernel_rfl) (by kernel_rfl) (by kernel_rfl) (fun _ _ _ h => h) (fun l w hw hS => hS.1.cell 3) (S10.io (by decide)) (by kernel_rfl) hS (fun w' hSw => ?_) (by rfl) (fun hS => ?_)
          · go_simp
          try simp only [List.getElem_toArray, List.getElem_cons_zero, List.getElem_cons_succ, Act.put, List.setIfInBounds_toArray, List.set_cons_zero, List.set_cons_succ]
          refine wpAnyS_take (i := 11) (fun w' => True) (v := .pointer (some ⟨bk, 0, none⟩)) rfl (by kernel_rfl) (by kernel_rfl) (by kernel_rfl) (fun _ _ _ h => h) (fun _ _ _ _ => trivial) (S10.io (by decide)) (by kernel_rfl) hS (fun w' hSw => ?_) (by rfl) (fun hS => ?_)
          · go_simp
          try simp only [List.getElem_toArray, List.getElem_cons_zero, List.getElem_cons_succ, Act.put, List.setIfInBounds_toArray, List.set_cons_zero, List.set_cons_succ]
          refine wpAnyS_take (i := 12) (fun w' => True) (v := .pointer (some ⟨bk, 0, none⟩)) rfl (by kernel_rfl) (by kernel_rfl) (by kernel_rfl) (fun _ _ _ h => h) (fun _ _ _ _ => trivial) (S10.io (by decide)) (by kernel_rfl) hS (fun w' hSw => ?_) (by rfl) (fun hS => ?_)
          · go_simp
          try simp only [List.getElem_toArray, List.getElem_cons_zero, List.getElem_cons_succ, Act.put, List.setIfInBounds_toArray, List.set_cons_zero, List.set_cons_succ]
          refine wpAnyS_take (i := 13) (fun w' => w'.cell? ⟨bk, 0, none⟩ = some (.string e.p.name)) (v := .string e.p.name) rfl (by kernel_rfl) (by kernel_rfl) (by kernel_rfl) (fun _ _ _ h => h) (fun l w hw hS => hS.2.1.cell 0) (S10.io (by decide)) (by kernel_rfl) hS (fun w' hSw => ?_) (by rfl) (fun hS => ?_)
          · go_simp
          try simp only [List.getElem_toArray, List.getElem_cons_zero, List.getElem_cons_succ, Act.put, List.setIfInBounds_toArray, List.set_cons_zero, List.set_cons_succ]
          refine wpAnyS_take (i := 14) (fun w' => Below w5.heap.size w5 w') (v := .slice Am M cm) rfl (by kernel_rfl) (by kernel_rfl) (by kernel_rfl) (fun _ _ _ h => h) (fun l w hw hS => hS.2.2 (hw 21 (by kernel_rfl))) (S10.io (by decide)) (by kernel_rfl) hS (fun w' hSw => ?_) (by rfl) (fun hS => ?_)
          · have hlk := HLk.out w' hSw
            clear hSw
            go_simp
          try simp only [List.getElem_toArray, List.getElem_cons_zero, List.getElem_cons_succ, Act.put, List.setIfInBounds_toArray, List.set_cons_zero, List.set_cons_succ]
          refine wpAnyS_take (i := 15) (fun w' => True) (v := .pointer (some ⟨g, 0, none⟩)) rfl (by kernel_rfl) (by kernel_rfl) (by kernel_rfl) (fun _ _ _ h => h) (fun _ _ _ _ => trivial) (S10.io (by decide)) (by kernel_rfl) hS (fun w' hSw => ?_) (by rfl) (fun hS => ?_)
          · go_simp
          try simp only [List.getElem_toArray, List.getElem_cons_zero, List.getElem_cons_succ, Act.put, List.setIfInBounds_toArray, List.set_cons_zero, List.set_cons_succ]
          refine wpAnyS_take (i := 16) (fun w' => True) (v := .pointer (some ⟨g, 0, none⟩)) rfl (by kernel_rfl) (by kernel_rfl) (by kernel_rfl) (fun _ _ _ h => h) (fun _ _ _ _ => trivial) (S10.io (by decide)) (by kernel_rfl) hS (fun w' hSw => ?_) (by rfl) (fun hS => ?_)
          · go_simp
          try simp only [List.getElem_toArray, List.getElem_cons_zero, List.getElem_cons_succ, Act.put, List.setIfInBounds_toArray, List.set_cons_zero, List.set_cons_succ]
          refine wpAnyS_take (i := 17) (fun w' => True) (v := .pointer (some ⟨g, 2, none⟩)) rfl (by kernel_rfl) (by kernel_rfl) (by kernel_rfl) (fun _ _ _ h => h) (fun _ _ _ _ => trivial) (S10.io (by decide)) (by kernel_rfl) hS (fun w' hSw => ?_) (by rfl) (fun hS => ?_)
          · go_simp
          try simp only [List.getElem_toArray, List.getElem_cons_zero, List.getElem_cons_succ, Act.put, List.setIfInBounds_toArray, List.set_cons_zero, List.set_cons_succ]
          refine wpAnyS_take (i := 18) (fun w' => w'.cell? ⟨g, 2, none⟩ = some (.slice Aq N cq)) (v := .slice Aq N cq) rfl (by kernel_rfl) (by kernel_rfl) (by kernel_rfl) (fun _ _ _ h => h) (fun l w hw hS => hS.1.cell 2) (S10.io (by decide)) (by kernel_rfl) hS (fun w' hSw => ?_) (by rfl) (fun hS => ?_)
          · go_simp
          try simp only [List.getElem_toArray, List.getElem_cons_zero, List.getElem_cons_succ, Act.put, List.setIfInBounds_toArray, List.set_cons_zero, List.set_cons_succ]
          refine wpAnyS_take (i := 19) (fun w' => True) (v := .int .i64 (N : Int)) rfl (by kernel_rfl) (by kernel_rfl) (by kernel_rfl) (fun _ _ _ h => h) (fun _ _ _ _ => trivial) (S10.io (by decide)) (by kernel_rfl) hS (fun w' hSw => ?_) (by rfl) (fun hS => ?_)
          · go_simp
          try simp only [List.getElem_toArray, List.getElem_cons_zero, List.getElem_cons_succ, Act.put, List.setIfInBounds_toArray, List.set_cons_zero, List.set_cons_succ]
          have hBA2 : Below w5.heap.size w5 (w5.drew.alloc (.cells #[.int .i64 (N : Int)] 3)) := (Below.refl _ _).drew.alloc (Nat.le_refl _) _
          have HBA2 := Lib.hid hBA2
          have hP6 := HPc.out.below hBA2
          have hK6 : Blk (w5.drew.alloc (.cells #[.int .i64 (N : Int)] 3)) bk 86 #[.string e.p.name, .string e.p.evr, .string e.p.arch, .string e.p.vendor, .slice C0 (e.p.ls 0).length n0, .slice C1 (e.p.ls 1).length n1, .slice C2 (e.p.ls 2).length n2, .slice C3 (e.p.ls 3).length n3, .slice C4 (e.p.ls 4).length n4, .slice C5 (e.p.ls 5).length n5, .slice C6 (e.p.ls 6).length n6, .slice C7 e.p.files.length n7, .int .i64 (reps.length : Int)] := by
            have h1 := H9.out.blk
            rw [HR9.out] at h1
            exact h1.below hBA2 h1.lt
          have HK6 := Lib.hid hK6
          have HP6 := Lib.hid hP6
          have hrow := hP6.map.rows e.p.name
          rw [← HMM.out.1, HMM.out.2.1] at hrow
          have HRow := Lib.hid hrow
          refine wpAnyS_one (i := 20) (by kernel_rfl) rfl (fun K20 hK20 => ?_)
          go_simp
          refine hK20.out _ _ ⟨hP6.blk, hK6, fun _ => hBA2⟩ (fun hS => ?_)
          clear hK20 K20 hP6 hK6 hBA2 hrow
          try simp only [List.getElem_toArray, List.getElem_cons_zero, List.getElem_cons_succ, Act.put, List.setIfInBounds_toArray, List.set_cons_zero, List.set_cons_succ]
          refine wpAnyS_one (i := 21) (by kernel_rfl) rfl (fun K21 hK21 => ?_)
          obtain ⟨i0, z0, hi0, hz0, hz1, hz2, hz3⟩ := HI5.out
          refine step_append_at rfl (.tmp 46) (.tmp 52) 39 rfl base 3 i0 z0 1 8 Tryz.underlying39 hi0 hz0 hz2 hz3 hz1 (by decide) (.slice Am M cm) M (numV (idxF e.p.name 0 (ks ++ new))) rfl HRow.out ⟨w5.heap.size, 0, none⟩ 1 1 [.int .i64 (N : Int)] rfl rfl (cells_new w5.drew #[.int .i64 (N : Int)] _) (by intro u hu; simp at hu; subst hu; rfl) (by unfold maxLen; omega) (by omega) (by have h1 := HPc.out.gfar; have h2 := HPc.out.blk.lt; show base ≤ _; simp; omega) ?_
          intro v4 w4 hown4 hg4 hat4
          obtain ⟨w6, f2, hrun, hPG, htG, hoG⟩ := PStG.number HP6.out ⟨e.p, ss', fs', reps.length⟩ HSZ.out (by have h1 := HNn.out; have h2 := HNL.out; unfold maxLen; omega) (v' := v4) (by rw [HMM.out.2.1]; exact hg4) (by rw [← HMM.out.1, ← HNn.out]; exact hown4) (by rw [HMM.out.2.1]; exact hat4)
          have htM : TurnedP O' (w5.drew.alloc (.cells #[.int .i64 (N : Int)] 3)) w4 := (TurnedP.refl _ _).grown hg4 fun k _ hk => (HP6.out.mine k).2 (.inr (.inr (.inr (.inr ⟨e.p.name, by rw [HMM.out.2.1]; exact hk⟩))))
          have htM1 : TurnedP (fun k => (Value.slice Am M cm).ownBlock = some k) (w5.drew.alloc (.cells #[.int .i64 (N : Int)] 3)) w4 := (TurnedP.refl _ _).grown hg4 fun k _ hk => hk
          have hg4' := HP6.out.blk.turnedP htM1 (by rw [← HMM.out.2.1]; exact own_kind (HP6.out.map.rows e.p.name) HP6.out.blk (by decide))
          have hbO : ¬ O' bk := fun ho => by have h1 := (HS.out.pool.O_lt ho).2; have h2 := H9.out.far; have h3 := HZa.out; omega
          have hk4' := HK6.out.turnedP htM hbO
          have hk6' := HK6.out.turnedP htG hbO
          have hL10 : Laid10 w5 w6 base g O' S' T' kind reps (ks ++ new) ⟨e.p, ss', fs', reps.length⟩ (.slice Ar reps.length cr) (.slice Aq N cq) bm' f2 bk S3 T3 := by
            have h1 : TurnedP O' w5 w6 := (TurnedP.of_below HBA2.out O').trans htG (fun _ _ h => h)
            have h2 : StayS S3 w5 w6 := fun b hb hl => h1.block b hl fun ho => by
              obtain ⟨cs, hc⟩ := H9.out.clean b hb
              exact HPc.out.not_O hc (by decide) (by decide) (by decide) (by decide) ho
            have h3 : StayS T3 w5 w6 := fun b hb hl => h1.block b hl fun ho => by
              obtain ⟨cs, hc⟩ := H9.out.cleanT b hb
              exact HPc.out.not_O hc (by decide) (by decide) (by decide) (by decide) ho
            exact ⟨hPG, h1, fun k hk => (hoG k hk).imp id fun h => by simp at h; omega, by show Blk _ _ _ (rowK e.p ss' fs' (reps.length : Int)); rw [HR9.out]; exact hk6', H9.out.pkg.stay (fun _ h => h) (fun _ h => h) h2 h3, H9.out.clean.stay h2, H9.out.cleanT.stay h3⟩
          have HL10 := Lib.hid hL10
          clear htM htM1 htG hoG hPG hbO hown4 hg4 hat4 hL10
          refine hK21.out _ _ ⟨hg4', hk4', fun h => by cases h⟩ (fun hS => ?_)
          clear hK21 K21 hg4' hk4'
          try simp only [List.getElem_toArray, List.getElem_cons_zero, List.getElem_cons_succ, Act.put, List.setIfInBounds_toArray, List.set_cons_zero, List.set_cons_succ]
          refine wpAnyS_one (i := 22) (by kernel_rfl) rfl (fun K22 hK22 => ?_)
          refine step_mapUpdate_run rfl (.tmp 35) (.tmp 38) (.tmp 53) 80 rfl rfl rfl rfl hrun ?_
          refine hK22.out _ _ ⟨HL10.out.pool.blk, hk6', fun h => by cases h⟩ (fun hS => ?_)
          clear hK22 K22 hk6' hrun
          try simp only [List.getElem_toArray, List.getElem_cons_zero, List.getElem_cons_succ, Act.put, List.setIfInBounds_toArray, List.set_cons_zero, List.set_cons_succ]
          refine wpAnyS_done (by kernel_rfl) ?_ _
          clear hS
          refine hK _ _ ?_
          go_meet
          case rel => exact ⟨f2, HL10⟩
      case first =>
      rename_i J K hJ hK
      refine wp_region_S (fun _ w' => Below wa.heap.size wa w') (by kernel_rfl) (by rw [HWa.out]; exact Below.refl _ _) (fun hS => ?_)
      refine wpAnyS_take (i := 0) (fun w' => Blk w' wr.heap.size 44 #[.string e.p.name, .string e.p.evr, .string e.p.arch, .string e.p.vendor, .slice B0 (e.p.ls 0).length m0, .slice B1 (e.p.ls 1).length m1, .slice B2 (e.p.ls 2).length m2, .slice B3 (e.p.ls 3).length m3, .slice B4 (e.p.ls 4).length m4, .slice B5 (e.p.ls 5).length m5, .slice B6 (e.p.ls 6).length m6, .slice B7 e.p.files.length m7]) (v := .agg #[.string e.p.name, .string e.p.evr, .string e.p.arch, .string e.p.vendor, .slice B0 (e.p.ls 0).length m0, .slice B1 (e.p.ls 1).length m1, .slice B2 (e.p.ls 2).length m2, .slice B3 (e.p.ls 3).length m3, .slice B4 (e.p.ls 4).length m4, .slice B5 (e.p.ls 5).length m5, .slice B6 (e.p.ls 6).length m6, .slice B7 e.p.files.length m7]) rfl (by kernel_rfl) (by kernel_rfl) (by kernel_rfl) (fun _ _ _ h => h) (fun l w hw hS => (HRow.out _ hS).1) (fun _ _ => Iff.rfl) (by kernel_rfl) hS (fun w' hSw => ?_) (by rfl) (fun hS => ?_)
      · have q0 := hSw.cell 0
        have q1 := hSw.cell 1
        have q2 := hSw.cell 2
        have q3 := hSw.cell 3
        have q4 := hSw.cell 4
        have q5 := hSw.cell 5
        have q6 := hSw.cell 6
        have q7 := hSw.cell 7
        have q8 := hSw.cell 8
        have q9 := hSw.cell 9
        have q10 := hSw.cell 10
        have q11 := hSw.cell 11
        simp at q0 q1 q2 q3 q4 q5 q6 q7 q8 q9 q10 q11
        clear hSw
        go_simp
      simp only [List.getElem_toArray, List.getElem_cons_zero, List.getElem_cons_succ, Act.put, List.setIfInBounds_toArray, List.set_cons_zero, List.set_cons_succ]
      refine wpAnyS_take (i := 1) (fun w' => True) (v := .pointer (some ⟨g, 0, none⟩)) rfl (by kernel_rfl) (by kernel_rfl) (by kernel_rfl) (fun _ _ _ h => h) (fun _ _ _ _ => trivial) (fun _ _ => Iff.rfl) (by kernel_rfl) hS (fun w' hSw => ?_) (by rfl) (fun hS => ?_)
      · go_simp
      simp only [List.getElem_toArray, List.getElem_cons_zero, List.getElem_cons_succ, Act.put, List.setIfInBounds_toArray, List.set_cons_zero, List.set_cons_succ]
      refine wpAnyS_take (i := 2) (fun w' => True) (v := .pointer (some ⟨g, 0, none⟩)) rfl (by kernel_rfl) (by kernel_rfl) (by kernel_rfl) (fun _ _ _ h => h) (fun _ _ _ _ => trivial) (fun _ _ => Iff.rfl) (by kernel_rfl) hS (fun w' hSw => ?_) (by rfl) (fun hS => ?_)
      · go_simp
      simp only [List.getElem_toArray, List.getElem_cons_zero, List.getElem_cons_succ, Act.put, List.setIfInBounds_toArray, List.set_cons_zero, List.set_cons_succ]
      refine wpAnyS_take (i := 3) (fun w' => True) (v := .pointer (some ⟨g, 1, none⟩)) rfl (by kernel_rfl) (by kernel_rfl) (by kernel_rfl) (fun _ _ _ h => h) (fun _ _ _ _ => trivial) (fun _ _ => Iff.rfl) (by kernel_rfl) hS (fun w' hSw => ?_) (by rfl) (fun hS => ?_)
      · go_simp
      simp only [List.getElem_toArray, List.getElem_cons_zero, List.getElem_cons_succ, Act.put, List.setIfInBounds_toArray, List.set_cons_zero, List.set_cons_succ]
      refine wpAnyS_take (i := 4) (fun w' => w'.cell? ⟨g, 1, none⟩ = some (.slice Ar reps.length cr)) (v := .slice Ar reps.length cr) rfl (by kernel_rfl) (by kernel_rfl) (by kernel_rfl) (fun _ _ _ h => h) (fun l w hw hS => (HRow.out _ hS).2) (fun _ _ => Iff.rfl) (by kernel_rfl) hS (fun w' hSw => ?_) (by rfl) (fun hS => ?_)
      · go_simp
      simp only [List.getElem_toArray, List.getElem_cons_zero, List.getElem_cons_succ, Act.put, List.setIfInBounds_toArray, List.set_cons_zero, List.set_cons_succ]
      refine wpAnyS_take (i := 5) (fun w' => True) (v := .int .i64 (reps.length : Int)) rfl (by kernel_rfl) (by kernel_rfl) (by kernel_rfl) (fun _ _ _ h => h) (fun _ _ _ _ => trivial) (fun _ _ => Iff.rfl) (by kernel_rfl) hS (fun w' hSw => ?_) (by rfl) (fun hS => ?_)
      · go_simp
      simp only [List.getElem_toArray, List.getElem_cons_zero, List.getElem_cons_succ, Act.put, List.setIfInBounds_toArray, List.set_cons_zero, List.set_cons_succ]
      refine wpAnyS_take (i := 6) (fun w' => True) (v := .agg #[.string e.p.name, .string e.p.evr, .string e.p.arch, .string e.p.vendor, .slice B0 (e.p.ls 0).length m0, .slice B1 (e.p.ls 1).length m1, .slice B2 (e.p.ls 2).length m2, .slice B3 (e.p.ls 3).length m3, .slice B4 (e.p.ls 4).length m4, .slice B5 (e.p.ls 5).length m5, .slice B6 (e.p.ls 6).length m6, .slice B7 e.p.files.length m7, .int .i64 (reps.length : Int)]) rfl (by kernel_rfl) (by kernel_rfl) (by kernel_rfl) (fun _ _ _ h => h) (fun _ _ _ _ => trivial) (fun _ _ => Iff.rfl) (by kernel_rfl) hS (fun w' hSw => ?_) (by rfl) (fun hS => ?_)
      · go_simp
      simp only [List.getElem_toArray, List.getElem_cons_zero, List.getElem_cons_succ, Act.put, List.setIfInBounds_toArray, List.set_cons_zero, List.set_cons_succ]
      refine wpAnyS_pick (i := 7) (j := 8) (by kernel_rfl) rfl rfl (fun K7 hK7 => ?_) (fun K8 hK8 => ?_)
      case refine_1 =>
        go_simp
        refine (CK.out _ hS).mono ?_
        rintro e3 w3 ⟨hb3, ss', fs', S3, T3, rfl, hP3, hC3, hT3, hS3, hF3⟩
        have hS7 := hS.trans (hb3.mono hS.size)
        obtain ⟨C0, n0, t0, -⟩ := hP3.lists 0 (by omega)
        obtain ⟨C1, n1, t1, -⟩ := hP3.lists 1 (by omega)
        obtain ⟨C2, n2, t2, -⟩ := hP3.lists 2 (by omega)
        obtain ⟨C3, n3, t3, -⟩ := hP3.lists 3 (by omega)
        obtain ⟨C4, n4, t4, -⟩ := hP3.lists 4 (by omega)
        obtain ⟨C5, n5, t5, -⟩ := hP3.lists 5 (by omega)
        obtain ⟨C6, n6, t6, -⟩ := hP3.lists 6 (by omega)
        obtain ⟨C7, n7, t7, -⟩ := hP3.files
        have HR3 : Hid (rowK e.p ss' fs' (reps.length : Int) = #[.string e.p.name, .string e.p.evr, .string e.p.arch, .string e.p.vendor, .slice C0 (e.p.ls 0).length n0, .slice C1 (e.p.ls 1).length n1, .slice C2 (e.p.ls 2).length n2, .slice C3 (e.p.ls 3).length n3, .slice C4 (e.p.ls 4).length n4, .slice C5 (e.p.ls 5).length n5, .slice C6 (e.p.ls 6).length n6, .slice C7 e.p.files.length n7, .int .i64 (reps.length : Int)]) := by
          show rowK _ _ _ _ = _
          unfold rowK
          rw [t0, t1, t2, t3, t4, t5, t6, t7]
        have hba3 : Below w3.heap.size w3 (w3.alloc (.cells #[.string e.p.name, .string e.p.evr, .string e.p.arch, .string e.p.vendor, .slice C0 (e.p.ls 0).length n0, .slice C1 (e.p.ls 1).length n1, .slice C2 (e.p.ls 2).length n2, .slice C3 (e.p.ls 3).length n3, .slice C4 (e.p.ls 4).length n4, .slice C5 (e.p.ls 5).length n5, .slice C6 (e.p.ls 6).length n6, .slice C7 e.p.files.length n7, .int .i64 (reps.length : Int)] 86)) := (Below.refl _ _).alloc (Nat.le_refl _) _
        have HX : Hid (Laid9 wa (w3.alloc (.cells #[.string e.p.name, .string e.p.evr, .string e.p.arch, .string e.p.vendor, .slice C0 (e.p.ls 0).length n0, .slice C1 (e.p.ls 1).length n1, .slice C2 (e.p.ls 2).length n2, .slice C3 (e.p.ls 3).length n3, .slice C4 (e.p.ls 4).length n4, .slice C5 (e.p.ls 5).length n5, .slice C6 (e.p.ls 6).length n6, .slice C7 e.p.files.length n7, .int .i64 (reps.length : Int)] 86)) w3.heap.size e.p (reps.length : Int) ss' fs' S3 T3) := ⟨by rw [HR3.out]; exact Blk.new _ _ _, hS7.trans (hba3.mono hS7.size), hP3.below hba3, hC3.stay (StayS.below' hba3), hT3.stay (StayS.below' hba3), fun b hb => by have := hS3 b hb; have := hS.size; omega, fun b hb => by have := hF3 b hb; have := hS.size; omega, hS7.size⟩
        rw [HR3.out]
        clear t0 t1 t2 t3 t4 t5 t6 t7 hP3 hC3 hT3 hS3 hF3 HR3 hba3 hb3
        refine hK7.out _ _ hS7 (fun hS => ?_)
        clear hK7 K7 hS7
        refine wpAnyS_one (i := 8) (by kernel_rfl) rfl (fun K8 hK8 => ?_)
        go_simp
        refine hK8.out _ _ (hS.alloc hS.size _) (fun hS => ?_)
        clear hK8 K8
        try simp only [List.getElem_toArray, List.getElem_cons_zero, List.getElem_cons_succ, Act.put, List.setIfInBounds_toArray, List.set_cons_zero, List.set_cons_succ]
        refine wpAnyS_one (i := 9) (by kernel_rfl) rfl (fun K9 hK9 => ?_)
        go_simp
        refine hK9.out _ _ HX.out.below (fun hS => ?_)
        clear hK9 K9
        try simp only [List.getElem_toArray, List.getElem_cons_zero, List.getElem_cons_succ, Act.put, List.setIfInBounds_toArray, List.set_cons_zero, List.set_cons_succ]
        refine wpAnyS_done (by kernel_rfl) ?_ _
        clear hS
        refine hK _ _ ?_
        go_meet
        case rel => exact ⟨_, _, _, _, _, rfl, HX⟩
      case refine_2 =>
        go_simp
        have hsz := hS.size
        have hSa := hS.alloc hS.size (.cells zrK 86)
        unfold zrK at hSa
        refine hK8.out _ _ hSa (fun hS => ?_)
        clear hK8 K8
        try simp only [List.getElem_toArray, List.getElem_cons_zero, List.getElem_cons_succ, Act.put, List.setIfInBounds_toArray, List.set_cons_zero, List.set_cons_succ]
        refine wpAnyS_one (i := 7) (by kernel_rfl) rfl (fun K7 hK7 => ?_)
        go_simp
        refine (CK.out _ hS).mono ?_
        rintro e3 w3 ⟨hb3, ss', fs', S3, T3, rfl, hP3, hC3, hT3, hS3, hF3⟩
        have hS7 := hS.trans (hb3.mono hS.size)
        obtain ⟨C0, n0, t0, -⟩ := hP3.lists 0 (by omega)
        obtain ⟨C1, n1, t1, -⟩ := hP3.lists 1 (by omega)
        obtain ⟨C2, n2, t2, -⟩ := hP3.lists 2 (by omega)
        obtain ⟨C3, n3, t3, -⟩ := hP3.lists 3 (by omega)
        obtain ⟨C4, n4, t4, -⟩ := hP3.lists 4 (by omega)
        obtain ⟨C5, n5, t5, -⟩ := hP3.lists 5 (by omega)
        obtain ⟨C6, n6, t6, -⟩ := hP3.lists 6 (by omega)
        obtain ⟨C7, n7, t7, -⟩ := hP3.files
        have HR3 : Hid (rowK e.p ss' fs' (reps.length : Int) = #[.string e.p.name, .string e.p.evr, .string e.p.arch, .string e.p.vendor, .slice C0 (e.p.ls 0).length n0, .slice C1 (e.p.ls 1).length n1, .slice C2 (e.p.ls 2).length n2, .slice C3 (e.p.ls 3).length n3, .slice C4 (e.p.ls 4).length n4, .slice C5 (e.p.ls 5).length n5, .slice C6 (e.p.ls 6).length n6, .slice C7 e.p.files.length n7, .int .i64 (reps.length : Int)]) := by
          show rowK _ _ _ _ = _
          unfold rowK
          rw [t0, t1, t2, t3, t4, t5, t6, t7]
        have KZ : Blk w3 (wr.heap.size + 1) 86 zrK := by
          have h1 := (Blk.new' (w := wa) (t := 86) (cs := zrK) (g := wr.heap.size + 1) HZa.out)
          rw [HWa.out] at h1
          exact h1.below hb3 (by simp)
        rw [HR3.out]
        have hlt3 := KZ.lt
        have hSz : ∀ b, S3 b → b ≠ wr.heap.size + 1 := fun b hb => by
          rintro rfl
          obtain ⟨cs, hc⟩ := hC3 _ hb
          exact Blk.kind hc KZ (by decide) rfl
        have hTz : ∀ b, T3 b → b ≠ wr.heap.size + 1 := fun b hb => by
          rintro rfl
          obtain ⟨cs, hc⟩ := hT3 _ hb
          exact Blk.kind hc KZ (by decide) rfl
        have ht13 := put13_turned w3 (wr.heap.size + 1) (.string e.p.name) (.string e.p.evr) (.string e.p.arch) (.string e.p.vendor) (.slice C0 (e.p.ls 0).length n0) (.slice C1 (e.p.ls 1).length n1) (.slice C2 (e.p.ls 2).length n2) (.slice C3 (e.p.ls 3).length n3) (.slice C4 (e.p.ls 4).length n4) (.slice C5 (e.p.ls 5).length n5) (.slice C6 (e.p.ls 6).length n6) (.slice C7 e.p.files.length n7) (.int .i64 (reps.length : Int))
        have hst : ∀ (U : Nat → Prop), (∀ b, U b → b ≠ wr.heap.size + 1) → StayS U w3 (put13 w3 (wr.heap.size + 1) (.string e.p.name) (.string e.p.evr) (.string e.p.arch) (.string e.p.vendor) (.slice C0 (e.p.ls 0).length n0) (.slice C1 (e.p.ls 1).length n1) (.slice C2 (e.p.ls 2).length n2) (.slice C3 (e.p.ls 3).length n3) (.slice C4 (e.p.ls 4).length n4) (.slice C5 (e.p.ls 5).length n5) (.slice C6 (e.p.ls 6).length n6) (.slice C7 e.p.files.length n7) (.int .i64 (reps.length : Int))) := fun U hU => StayS.turned ht13 fun b hb hm => hU b hb (by simpa using hm)
        have HX : Hid (Laid9 wa (put13 w3 (wr.heap.size + 1) (.string e.p.name) (.string e.p.evr) (.string e.p.arch) (.string e.p.vendor) (.slice C0 (e.p.ls 0).length n0) (.slice C1 (e.p.ls 1).length n1) (.slice C2 (e.p.ls 2).length n2) (.slice C3 (e.p.ls 3).length n3) (.slice C4 (e.p.ls 4).length n4) (.slice C5 (e.p.ls 5).length n5) (.slice C6 (e.p.ls 6).length n6) (.slice C7 e.p.files.length n7) (.int .i64 (reps.length : Int))) (wr.heap.size + 1) e.p (reps.length : Int) ss' fs' S3 T3) := ⟨by rw [HR3.out]; exact put13_blk KZ (.string e.p.name) (.string e.p.evr) (.string e.p.arch) (.string e.p.vendor) (.slice C0 (e.p.ls 0).length n0) (.slice C1 (e.p.ls 1).length n1) (.slice C2 (e.p.ls 2).length n2) (.slice C3 (e.p.ls 3).length n3) (.slice C4 (e.p.ls 4).length n4) (.slice C5 (e.p.ls 5).length n5) (.slice C6 (e.p.ls 6).length n6) (.slice C7 e.p.files.length n7) (.int .i64 (reps.length : Int)), hS7.trans (ht13.below (fun k hk => by simp at hk; subst hk; have := HZa.out; omega) hS7.size), hP3.stay (fun _ h => h) (fun _ h => h) (hst S3 hSz) (hst T3 hTz), hC3.stay (hst S3 hSz), hT3.stay (hst T3 hTz), fun b hb => by have h1 := hS3 b hb; have h2 := HZa.out; simp at h1; omega, fun b hb => by have h1 := hF3 b hb; have h2 := HZa.out; simp at h1; omega, by have := HZa.out; omega⟩
        unfold zrK at KZ
        have z0 := KZ.cell 0
        have f0 := KZ.free 0
        have z1 := KZ.cell 1
        have f1 := KZ.free 1
        have z2 := KZ.cell 2
        have f2 := KZ.free 2
        have z3 := KZ.cell 3
        have f3 := KZ.free 3
        have z4 := KZ.cell 4
        have f4 := KZ.free 4
        have z5 := KZ.cell 5
        have f5 := KZ.free 5
        have z6 := KZ.cell 6
        have f6 := KZ.free 6
        have z7 := KZ.cell 7
        have f7 := KZ.free 7
        have z8 := KZ.cell 8
        have f8 := KZ.free 8
        have z9 := KZ.cell 9
        have f9 := KZ.free 9
        have z10 := KZ.cell 10
        have f10 := KZ.free 10
        have z11 := KZ.cell 11
        have f11 := KZ.free 11
        have z12 := KZ.cell 12
        have f12 := KZ.free 12
        simp at z0 z1 z2 z3 z4 z5 z6 z7 z8 z9 z10 z11 z12
        clear t0 t1 t2 t3 t4 t5 t6 t7 hP3 hC3 hT3 hS3 hF3 HR3 hb3 KZ hlt3 hSz hTz ht13 hst hsz hSa
        refine hK7.out _ _ hS7 (fun hS => ?_)
        clear hK7 K7 hS7
        try simp only [List.getElem_toArray, List.getElem_cons_zero, List.getElem_cons_succ, Act.put, List.setIfInBounds_toArray, List.set_cons_zero, List.set_cons_succ]
        refine wpAnyS_one (i := 9) (by kernel_rfl) rfl (fun K9 hK9 => ?_)
        go_simp
        have HXB := HX.out.below
        unfold put13 at HX HXB
        refine hK9.out _ _ HXB (fun hS => ?_)
        clear hK9 K9 z0 z1 z2 z3 z4 z5 z6 z7 z8 z9 z10 z11 z12 f0 f1 f2 f3 f4 f5 f6 f7 f8 f9 f10 f11 f12 HXB
        try simp only [List.getElem_toArray, List.getElem_cons_zero, List.getElem_cons_succ, Act.put, List.setIfInBounds_toArray, List.set_cons_zero, List.set_cons_succ]
        refine wpAnyS_done (by kernel_rfl) ?_ _
        clear hS
        refine hK _ _ ?_
        go_meet
        case rel => exact ⟨_, _, _, _, _, rfl, HX⟩
    · have hnl : new.length = l.length := by omega
      have HIR := Lib.hid info_repo
      have CC := Lib.hid (cloneL_any nm HSM.out.1)
      have HKx := Lib.hid Kx
      clear hAx Kx hlt
      go_upto_region 13 with fail
      rename_i K hK
      refine wp_region_S (S11 14 17 wr g w.heap.size 33 #[.int .i64 kind, .slice Ar reps.length cr, vp, .map (some bm')] #[.string nm, .int .i64 prio, .bool inst, .slice A l.length c]) (by kernel_rfl) ⟨fun _ => HS.out.pool.blk, HKx.out, fun _ => (Below.refl _ _).drew⟩ (fun hS => ?_)
      refine wpAnyS_take (i := 0) (fun w' => True) (v := .pointer (some ⟨g, 0, none⟩)) rfl (by kernel_rfl) (by kernel_rfl) (by kernel_rfl) (fun _ _ _ h => h) (fun _ _ _ _ => trivial) (S11.io (by decide)) (by kernel_rfl) hS (fun w' hSw => ?_) (by rfl) (fun hS => ?_)
      · go_simp
      try simp only [List.getElem_toArray, List.getElem_cons_zero, List.getElem_cons_succ, Act.put, List.setIfInBounds_toArray, List.set_cons_zero, List.set_cons_succ]
      refine wpAnyS_take (i := 1) (fun w' => True) (v := .pointer (some ⟨g, 0, none⟩)) rfl (by kernel_rfl) (by kernel_rfl) (by kernel_rfl) (fun _ _ _ h => h) (fun _ _ _ _ => trivial) (S11.io (by decide)) (by kernel_rfl) hS (fun w' hSw => ?_) (by rfl) (fun hS => ?_)
      · go_simp
      try simp only [List.getElem_toArray, List.getElem_cons_zero, List.getElem_cons_succ, Act.put, List.setIfInBounds_toArray, List.set_cons_zero, List.set_cons_succ]
      refine wpAnyS_take (i := 2) (fun w' => True) (v := .pointer (some ⟨g, 0, none⟩)) rfl (by kernel_rfl) (by kernel_rfl) (by kernel_rfl) (fun _ _ _ h => h) (fun _ _ _ _ => trivial) (S11.io (by decide)) (by kernel_rfl) hS (fun w' hSw => ?_) (by rfl) (fun hS => ?_)
      · go_simp
      try simp only [List.getElem_toArray, List.getElem_cons_zero, List.getElem_cons_succ, Act.put, List.setIfInBounds_toArray, List.set_cons_zero, List.set_cons_succ]
      refine wpAnyS_take (i := 3) (fun w' => True) (v := .pointer (some ⟨g, 1, none⟩)) rfl (by kernel_rfl) (by kernel_rfl) (by kernel_rfl) (fun _ _ _ h => h) (fun _ _ _ _ => trivial) (S11.io (by decide)) (by kernel_rfl) hS (fun w' hSw => ?_) (by rfl) (fun hS => ?_)
      · go_simp
      try simp only [List.getElem_toArray, List.getElem_cons_zero, List.getElem_cons_succ, Act.put, List.setIfInBounds_toArray, List.set_cons_zero, List.set_cons_succ]
      refine wpAnyS_take (i := 4) (fun w' => w'.cell? ⟨g, 1, none⟩ = some (.slice Ar reps.length cr)) (v := .slice Ar reps.length cr) rfl (by kernel_rfl) (by kernel_rfl) (by kernel_rfl) (fun _ _ _ h => h) (fun l w hw hS => (hS.1 (hw 17 (by kernel_rfl))).cell 1) (S11.io (by decide)) (by kernel_rfl) hS (fun w' hSw => ?_) (by rfl) (fun hS => ?_)
      · go_simp
      try simp only [List.getElem_toArray, List.getElem_cons_zero, List.getElem_cons_succ, Act.put, List.setIfInBounds_toArray, List.set_cons_zero, List.set_cons_succ]
      refine wpAnyS_take (i := 5) (fun w' => True) (v := .pointer (some ⟨w.heap.size, 0, none⟩)) rfl (by kernel_rfl) (by kernel_rfl) (by kernel_rfl) (fun _ _ _ h => h) (fun _ _ _ _ => trivial) (S11.io (by decide)) (by kernel_rfl) hS (fun w' hSw => ?_) (by rfl) (fun hS => ?_)
      · go_simp
      try simp only [List.getElem_toArray, List.getElem_cons_zero, List.getElem_cons_succ, Act.put, List.setIfInBounds_toArray, List.set_cons_zero, List.set_cons_succ]
      refine wpAnyS_take (i := 6) (fun w' => w'.cell? ⟨w.heap.size, 0, none⟩ = some (.string nm)) (v := .string nm) rfl (by kernel_rfl) (by kernel_rfl) (by kernel_rfl) (fun _ _ _ h => h) (fun l w hw hS => hS.2.1.cell 0) (S11.io (by decide)) (by kernel_rfl) hS (fun w' hSw => ?_) (by rfl) (fun hS => ?_)
      · go_simp
      try simp only [List.getElem_toArray, List.getElem_cons_zero, List.getElem_cons_succ, Act.put, List.setIfInBounds_toArray, List.set_cons_zero, List.set_cons_succ]
      refine wpAnyS_take (i := 8) (fun w' => True) (v := .pointer (some ⟨w.heap.size, 1, none⟩)) rfl (by kernel_rfl) (by kernel_rfl) (by kernel_rfl) (fun _ _ _ h => h) (fun _ _ _ _ => trivial) (S11.io (by decide)) (by kernel_rfl) hS (fun w' hSw => ?_) (by rfl) (fun hS => ?_)
      · go_simp
      try simp only [List.getElem_toArray, List.getElem_cons_zero, List.getElem_cons_succ, Act.put, List.setIfInBounds_toArray, List.set_cons_zero, List.set_cons_succ]
      refine wpAnyS_take (i := 9) (fun w' => w'.cell? ⟨w.heap.size, 1, none⟩ = some (.int .i64 prio)) (v := .int .i64 prio) rfl (by kernel_rfl) (by kernel_rfl) (by kernel_rfl) (fun _ _ _ h => h) (fun l w hw hS => hS.2.1.cell 1) (S11.io (by decide)) (by kernel_rfl) hS (fun w' hSw => ?_) (by rfl) (fun hS => ?_)
      · go_simp
      try simp only [List.getElem_toArray, List.getElem_cons_zero, List.getElem_cons_succ, Act.put, List.setIfInBounds_toArray, List.set_cons_zero, List.set_cons_succ]
      refine wpAnyS_take (i := 10) (fun w' => True) (v := .pointer (some ⟨w.heap.size, 2, none⟩)) rfl (by kernel_rfl) (by kernel_rfl) (by kernel_rfl) (fun _ _ _ h => h) (fun _ _ _ _ => trivial) (S11.io (by decide)) (by kernel_rfl) hS (fun w' hSw => ?_) (by rfl) (fun hS => ?_)
      · go_simp
      try simp only [List.getElem_toArray, List.getElem_cons_zero, List.getElem_cons_succ, Act.put, List.setIfInBounds_toArray, List.set_cons_zero, List.set_cons_succ]
      refine wpAnyS_take (i := 11) (fun w' => w'.cell? ⟨w.heap.size, 2, none⟩ = some (.bool inst)) (v := .bool inst) rfl (by kernel_rfl) (by kernel_rfl) (by kernel_rfl) (fun _ _ _ h => h) (fun l w hw hS => hS.2.1.cell 2) (S11.io (by decide)) (by kernel_rfl) hS (fun w' hSw => ?_) (by rfl) (fun hS => ?_)
      · go_simp
      try simp only [List.getElem_toArray, List.getElem_cons_zero, List.getElem_cons_succ, Act.put, List.setIfInBounds_toArray, List.set_cons_zero, List.set_cons_succ]
      refine wpAnyS_one (i := 7) (by kernel_rfl) rfl (fun K7 hK7 => ?_)
      go_simp
      refine (CC.out _).mono ?_
      rintro e' w2' ⟨rfl, hb2'⟩
      have hbw : Below wr.heap.size wr w2' := (Below.refl _ _).drew.trans hb2'
      refine hK7.out _ _ ⟨fun _ => HS.out.pool.blk.below hbw HS.out.pool.blk.lt, HKx.out.below hbw HKx.out.lt, fun _ => hbw⟩ (fun hS => ?_)
      clear hK7 K7 hb2' CC
      try simp only [List.getElem_toArray, List.getElem_cons_zero, List.getElem_cons_succ, Act.put, List.setIfInBounds_toArray, List.set_cons_zero, List.set_cons_succ]
      refine wpAnyS_one (i := 12) (by kernel_rfl) rfl (fun K7 hK7 => ?_)
      go_simp
      refine hK7.out _ _ ⟨hS.1, hS.2.1, fun _ => hbw⟩ (fun hS => ?_)
      clear hK7 K7
      try simp only [List.getElem_toArray, List.getElem_cons_zero, List.getElem_cons_succ, Act.put, List.setIfInBounds_toArray, List.set_cons_zero, List.set_cons_succ]
      have hba3 : Below w2'.heap.size w2' (w2'.alloc (.cells #[.string nm, .int .i64 prio, .bool inst, .slice none 0 0] 33)) := (Below.refl _ _).alloc (Nat.le_refl _) _
      have hbb : Below wr.heap.size wr (w2'.alloc (.cells #[.string nm, .int .i64 prio, .bool inst, .slice none 0 0] 33)) := hbw.trans (hba3.mono hbw.size)
      have HP6 := Lib.hid (HS.out.pool.below hbb)
      refine wpAnyS_one (i := 13) (by kernel_rfl) rfl (fun K7 hK7 => ?_)
      go_simp
      refine hK7.out _ _ ⟨fun _ => HP6.out.blk, HKx.out.below hbb HKx.out.lt, fun _ => hbb⟩ (fun hS => ?_)
      clear hK7 K7
      try simp only [List.getElem_toArray, List.getElem_cons_zero, List.getElem_cons_succ, Act.put, List.setIfInBounds_toArray, List.set_cons_zero, List.set_cons_succ]
      refine wpAnyS_one (i := 14) (by kernel_rfl) rfl (fun K7 hK7 => ?_)
      obtain ⟨i0, z0, hi0, hz0, hz1, hz2, hz3⟩ := HIR.out
      refine step_append_at rfl (.tmp 69) (.tmp 78) 22 rfl base 33 i0 z0 4 56 Tryz.underlying22 hi0 hz0 hz2 hz3 hz1 (by decide) (.slice Ar reps.length cr) reps.length (cells4 reps) rfl HP6.out.repo ⟨w2'.heap.size, 0, none⟩ 1 1 [.string nm, .int .i64 prio, .bool inst, .slice none 0 0] rfl rfl (cells_new w2' #[.string nm, .int .i64 prio, .bool inst, .slice none 0 0] _) (by intro u hu; simp at hu; rcases hu with rfl | rfl | rfl | rfl <;> rfl) (by unfold maxLen; omega) (by omega) (by have h1 := HP6.out.gfar; have h2 := HP6.out.blk.lt; omega) ?_
      intro v4 w4 hown4 hg4 hat4
      obtain ⟨A4, c4, rfl, _, _⟩ := own_form' hown4
      obtain ⟨hPk, htk, hok⟩ := PStG.found HP6.out ⟨nm, prio, inst⟩ hg4 hown4 hat4
      have htM1 : TurnedP (fun k => (Value.slice Ar reps.length cr).ownBlock = some k) (w2'.alloc (.cells #[.string nm, .int .i64 prio, .bool inst, .slice none 0 0] 33)) w4 := (TurnedP.refl _ _).grown hg4 fun k _ hk => hk
      have hg4' := HP6.out.blk.turnedP htM1 (own_kind HP6.out.repo HP6.out.blk (by decide))
      have hbO : ¬ (Value.slice Ar reps.length cr).ownBlock = some w.heap.size := fun h => by
        have h0 := (HS.out.pool.mine w.heap.size).2 (.inr (.inl h))
        rcases HS.out.own _ h0 with h1 | h1
        · have := (HOl.out _ h1).2; omega
        · have := HZ1.out; omega
      have hk4' := (HKx.out.below hbb HKx.out.lt).turnedP htM1 hbO
      have hz4 : (w2'.alloc (.cells #[.string nm, .int .i64 prio, .bool inst, .slice none 0 0] 33)).heap.size ≤ w4.heap.size := hg4.size
      have hzr : w1.heap.size ≤ wr.heap.size := HS.out.turned.size
      have hzr2 : wr.heap.size ≤ (w2'.alloc (.cells #[.string nm, .int .i64 prio, .bool inst, .slice none 0 0] 33)).heap.size := hbb.size
      have HV : Hid (Added Q w base g O S T kind reps ks nm prio inst (l.map PkE.p) (.returned (.int .i64 0)) (w4.setCell ⟨g, 1, none⟩ (.slice A4 (reps.length + 1) c4))) := by
        have hlow : ∀ (q : Nat), q < w1.heap.size → O' q → O q := fun q hq h => (HS.out.own q h).resolve_right (by omega)
        refine ⟨0, HN.out, rfl, ((TurnedP.of_below HB0.out O).trans ((HS.out.turned.below_ hbb).trans htk hlow) (fun _ _ h => h)), fun h => absurd rfl h, fun _ => ⟨_, S', T', new, ⟨_, _, _, _, hPk⟩, ?_, HS.out.reps, fun j hj => ?_, fun j hj => ?_, fun j hj => ?_⟩⟩
        · have h := HS.out.names
          rw [List.take_of_length_le (by rw [List.length_map]; omega)] at h
          exact h
        · have h1 := HZ1.out
          rcases hok j hj with h | h
          · rcases HS.out.own j h with h | h
            · exact .inl h
            · exact .inr (by omega)
          · exact .inr (by omega)
        · have h1 := HZ1.out
          rcases HS.out.deps j hj with h | h
          · exact .inl h
          · exact .inr (by omega)
        · have h1 := HZ1.out
          rcases HS.out.texts j hj with h | h
          · exact .inl h
          · exact .inr (by omega)
      clear hPk htk hok hown4 hg4 hat4 htM1 hbO hz4 hzr hzr2
      refine hK7.out _ _ ⟨fun _ => hg4', hk4', fun h => by cases h⟩ (fun hS => ?_)
      clear hK7 K7 hk4'
      try simp only [List.getElem_toArray, List.getElem_cons_zero, List.getElem_cons_succ, Act.put, List.setIfInBounds_toArray, List.set_cons_zero, List.set_cons_succ]
      refine wpAnyS_one (i := 15) (by kernel_rfl) rfl (fun K8 hK8 => ?_)
      go_simp
      refine hK8.out _ _ ⟨hS.1, hS.2.1, fun h => by cases h⟩ (fun hS => ?_)
      clear hK8 K8
      try simp only [List.getElem_toArray, List.getElem_cons_zero, List.getElem_cons_succ, Act.put, List.setIfInBounds_toArray, List.set_cons_zero, List.set_cons_succ]
      refine wpAnyS_one (i := 16) (by kernel_rfl) rfl (fun K8 hK8 => ?_)
      go_simp
      refine hK8.out _ _ ⟨hS.1, hS.2.1, fun h => by cases h⟩ (fun hS => ?_)
      clear hK8 K8
      try simp only [List.getElem_toArray, List.getElem_cons_zero, List.getElem_cons_succ, Act.put, List.setIfInBounds_toArray, List.set_cons_zero, List.set_cons_succ]
      have x2 := hg4'.cell 1
      have y2 := hg4'.free 1
      simp at x2
      clear hg4'
      refine wpAnyS_one (i := 17) (by kernel_rfl) rfl (fun K8 hK8 => ?_)
      go_simp
      refine hK8.out _ _ ⟨(fun h => by cases h), hS.2.1.far (p := ⟨g, 1, none⟩) (by
        intro h
        have h0 := (HS.out.pool.mine g).2 (.inl rfl)
        simp at h
        rw [← h] at h0
        rcases HS.out.own _ h0 with h1 | h1
        · have := (HOl.out _ h1).2; omega
        · have := HZ1.out; omega) _, fun h => by cases h⟩ (fun hS => ?_)
      clear hK8 K8 x2 y2
      try simp only [List.getElem_toArray, List.getElem_cons_zero, List.getElem_cons_succ, Act.put, List.setIfInBounds_toArray, List.set_cons_zero, List.set_cons_succ]
      refine wpAnyS_done (by kernel_rfl) ?_ _
      clear hS
      refine hK _ _ ?_
      clear hK K
      generalize w4.setCell ⟨g, 1, none⟩ (.slice A4 (reps.length + 1) c4) = w9 at HV ⊢
      go_wp2_with fail
      go_ret
      exact HV.out
end Go.Proofs.YtpmfmkpfjomgnaaGreatDoor
