/- A dependency in memory of its own: Own. -/
import Derived.Test.YtghbhajiddnmkaaGreatDoorDPrinted
import Derived.Test.YtghbhajiddnmkaaGreatDoorPhase
namespace Go.Proofs.YtghbhajiddnmkaaGreatDoor
set_option linter.unusedSimpArgs false
set_option linter.unusedVariables false
open Go.RowKit

def wholeR (D : Dep) (r : Rows5) : Dep := .mk D.kind D.name D.op D.evr (r.map Prod.fst)
theorem load5 {w : World} {g : Nat} {x0 x1 x2 x3 x4 : Value} (h : Blk w g 24 #[x0, x1, x2, x3, x4]) : (loadVar 24 ⟨g, 0, none⟩).run Tryz.prog w = .ok (.agg #[x0, x1, x2, x3, x4]) w := by
  have b0 := h.cell 0
  have b1 := h.cell 1
  have b2 := h.cell 2
  have b3 := h.cell 3
  have b4 := h.cell 4
  simp at b0 b1 b2 b3 b4
  clear h
  go_simp
/-- While arguments are read: d's block, its row of arguments. -/
structure OSt (w0 wx : World) (bd : Nat) (D : Dep) (r : Rows5) (v : Value) (S : Nat → Prop) : Prop where
  below : Below w0.heap.size w0 wx
  blk : Blk wx bd 24 (rowD D v)
  far : w0.heap.size ≤ bd
  own : wx.ownsRow w0.heap.size 24 5 v r.length (cells5 r)
  apart : v.ownBlock ≠ some bd
  lays : ∀ x ∈ r, Lay wx S x.1 x.2
  clean : CleanS wx S
  sfar : ∀ b, S b → w0.heap.size ≤ b ∧ b ≠ bd ∧ v.ownBlock ≠ some b
section
variable {w0 wx w' : World} {bd : Nat} {D : Dep} {r : Rows5} {v : Value} {S : Nat → Prop}
theorem OSt.world {G : List Nat} (h : OSt w0 wx bd D r v S) (ht : Turned G wx w') (hG : ∀ g ∈ G, w0.heap.size ≤ g ∧ g ≠ bd ∧ v.ownBlock ≠ some g ∧ ¬ S g) : OSt w0 w' bd D r v S :=
  ⟨h.below.trans (ht.below (fun g hg => (hG g hg).1) h.below.size), h.blk.turned ht (fun hm => (hG _ hm).2.1 rfl), h.far, own_turned h.own ht (fun g hg hm => (hG g hm).2.2.1 hg), h.apart,
    fun x hx => (h.lays x hx).stay (fun _ h => h) (StayS.turned ht fun b hb hm => (hG b hm).2.2.2 hb), h.clean.stay (StayS.turned ht fun b hb hm => (hG b hm).2.2.2 hb), h.sfar⟩
theorem OSt.below_ (h : OSt w0 wx bd D r v S) (hb : Below wx.heap.size wx w') : OSt w0 w' bd D r v S := h.world (Turned.of_below hb []) (fun k hk => by cases hk)
theorem OSt.alloc (h : OSt w0 wx bd D r v S) (o : Obj) : OSt w0 (wx.alloc o) bd D r v S := h.below_ ((Below.refl _ _).alloc (Nat.le_refl _) _)
/-- One argument more is put behind. -/
theorem OSt.put {w4 : World} {v4 : Value} {d : Dep} {t : Value} {S2 : Nat → Prop} (h : OSt w0 wx bd D r v S) (hL : Lay wx S2 d t) (hC : CleanS wx S2) (hS : ∀ b, S2 b → w0.heap.size ≤ b ∧ b ≠ bd ∧ v.ownBlock ≠ some b)
    (hown : w4.ownsRow w0.heap.size 24 5 v4 (r.length + 1) (cells5 r ++ [.int .i64 d.kind, .string d.name, .int .i64 d.op, .string d.evr, t])) (hg : wx.grownBy w4 v.ownBlock) (hat : v4.ownBlock = v.ownBlock ∨ v4.ownBlock = some wx.heap.size) :
    OSt w0 (w4.setCell ⟨bd, 4, none⟩ v4) bd D (r ++ [(d, t)]) v4 (fun b => S b ∨ S2 b) := by
  have hvb : ∀ g, v.ownBlock = some g → w0.heap.size ≤ g ∧ g < wx.heap.size ∧ g ≠ bd := fun g hg => ⟨(h.own.lt g hg).1, (h.own.lt g hg).2, fun e => h.apart (by rw [hg, e])⟩
  have ht4 : Turned v.ownBlock.toList wx w4 := (Turned.refl _ wx).grown hg fun k hk => .inl (by simp [hk])
  have hmem : ∀ g, g ∈ v.ownBlock.toList → v.ownBlock = some g := fun g hg => by simpa using hg
  have hbd4 : Blk w4 bd 24 (rowD D v) := h.blk.turned ht4 (fun hm => h.apart (hmem _ hm))
  have hap4 : v4.ownBlock ≠ some bd := by
    rcases hat with e | e
    · rw [e]; exact h.apart
    · rw [e]; have := h.blk.lt; simp; omega
  have ht5 : Turned [bd] w4 (w4.setCell ⟨bd, 4, none⟩ v4) := (Turned.refl _ _).setCell (.inl (by simp)) _
  have ht : Turned (bd :: v.ownBlock.toList) wx (w4.setCell ⟨bd, 4, none⟩ v4) := (ht4.more (fun k hk => by simp [hk])).trans (ht5.more (F' := bd :: v.ownBlock.toList) (fun k hk => by simp at hk; simp [hk])) (Fresh.refl _ _)
  have hst : ∀ (T : Nat → Prop), (∀ b, T b → b ≠ bd ∧ v.ownBlock ≠ some b) → StayS T wx (w4.setCell ⟨bd, 4, none⟩ v4) := fun T hT => StayS.turned ht fun b hb hm => by
    rcases List.mem_cons.1 hm with e | e
    · exact (hT b hb).1 e
    · exact (hT b hb).2 (hmem _ e)
  have hst1 := hst S fun b hb => ⟨(h.sfar b hb).2.1, (h.sfar b hb).2.2⟩
  have hst2 := hst S2 fun b hb => ⟨(hS b hb).2.1, (hS b hb).2.2⟩
  refine ⟨h.below.trans (ht.below (fun g hg => ?_) h.below.size), hbd4.set_ 4 _, h.far, ?_, hap4, fun x hx => ?_, fun b hb => ?_, fun b hb => ?_⟩
  · rcases List.mem_cons.1 hg with e | e
    · rw [e]; exact h.far
    · exact (hvb g (hmem _ e)).1
  · rw [List.length_append, cells5_append]
    exact own_setCell hown (p := ⟨bd, 4, none⟩) hap4 _
  · rcases List.mem_append.1 hx with hx | hx
    · exact (h.lays x hx).stay (fun _ h => .inl h) hst1
    · simp at hx; subst hx
      exact hL.stay (fun _ h => .inr h) hst2
  · rcases hb with hb | hb
    · exact h.clean.stay hst1 b hb
    · exact hC.stay hst2 b hb
  · have hlt : b < wx.heap.size := by
      rcases hb with hb | hb
      · obtain ⟨cs, hc⟩ := h.clean b hb; exact hc.lt
      · obtain ⟨cs, hc⟩ := hC b hb; exact hc.lt
    have h1 : w0.heap.size ≤ b ∧ b ≠ bd ∧ v.ownBlock ≠ some b := by
      rcases hb with hb | hb
      · exact h.sfar b hb
      · exact hS b hb
    refine ⟨h1.1, h1.2.1, ?_⟩
    rcases hat with e | e
    · rw [e]; exact h1.2.2
    · rw [e]; simp; omega
/-- d is whole. -/
theorem OSt.lay (h : OSt w0 wx bd D r v S) : ∃ A c, v = .slice A (wholeR D r).args.length c ∧ Lay wx (fun b => S b ∨ v.ownBlock = some b) (wholeR D r) (.slice A (wholeR D r).args.length c) ∧ CleanS wx (fun b => S b ∨ v.ownBlock = some b) ∧ ∀ b, S b ∨ v.ownBlock = some b → w0.heap.size ≤ b := by
  have hr : (wholeR D r).args.length = r.length := by simp [wholeR, Dep.args]
  obtain ⟨A, c, hv, h1, h2⟩ := own_form' h.own
  refine ⟨A, c, by rw [hr]; exact hv, ?_, fun b hb => ?_, fun b hb => ?_⟩
  · rw [lay_iff]
    refine ⟨A, c, rfl, by rw [hr]; exact h1, ⟨h2, fun e => ?_⟩, fun j a hj => ?_⟩
    · subst e
      rcases h.own.2 with ⟨h3, _⟩ | ⟨g, cap, cur, h3, _⟩
      · rw [hv] at h3; injection h3
      · rw [hv] at h3; cases h3
    · have hj' : (r.map Prod.fst)[j]? = some a := hj
      rw [List.getElem?_map, Option.map_eq_some_iff] at hj'
      obtain ⟨x, hx, rfl⟩ := hj'
      obtain ⟨q0, q1, q2, q3, q4⟩ := cells5_at hx
      have ho := h.own
      rw [hv] at ho
      obtain ⟨b, rfl, k0⟩ := own_ats ho q0
      obtain ⟨_, e1, k1⟩ := own_ats ho q1
      obtain ⟨_, e2, k2⟩ := own_ats ho q2
      obtain ⟨_, e3, k3⟩ := own_ats ho q3
      obtain ⟨_, e4, k4⟩ := own_ats ho q4
      injection e1 with e1; injection e1 with e1; subst e1
      injection e2 with e2; injection e2 with e2; subst e2
      injection e3 with e3; injection e3 with e3; subst e3
      injection e4 with e4; injection e4 with e4; subst e4
      exact ⟨b, 0, x.2, rfl, .inr (by rw [hv]; rfl), ⟨by simpa using k0, by simpa using k1, by simpa using k2, by simpa using k3, by simpa using k4⟩, (h.lays x (List.mem_of_getElem? hx)).stay (fun _ h => .inl h) (StayS.refl _ _)⟩
  · rcases hb with hb | hb
    · exact h.clean b hb
    · rcases h.own.2 with ⟨h2, _⟩ | ⟨g, cap, cur, h2, _, h3, _⟩
      · rw [h2] at hb; cases hb
      · rw [h2] at hb
        have : g = b := by simpa [Value.ownBlock] using hb
        subst this
        exact ⟨cur, h3⟩
  · rcases hb with hb | hb
    · exact (h.sfar b hb).1
    · exact (h.own.lt b hb).1
end
def OwnOk (d : Dep) : Prop := ∀ (s : Value) (S : Nat → Prop) (w : World), Lay w S d s → nodes d ≤ 4194304 → Calls Tryz.prog 5 #[.agg (rowD d s)] w fun e w' => Below w.heap.size w w' ∧ ∃ A c S', e = .returned (.agg (rowD d (.slice A d.args.length c))) ∧ Lay w' S' d (.slice A d.args.length c) ∧ CleanS w' S' ∧ ∀ b, S' b → w.heap.size ≤ b
/-- While an argument is copied: the cell that is loaded ahead of the append; what stood ahead of the copy. -/
def SO (wb : World) (p : Addr) (v : Value) (l : Array Bool) (w : World) : Prop := Till [(9, p, v)] l w ∧ Below wb.heap.size wb w
theorem SO.io {wb : World} {p : Addr} {v : Value} {i : Nat} (h : ([(9, p, v)].all fun x => x.1 != i) = true) (l : Array Bool) (w : World) : SO wb p v (l.setIfInBounds i true) w ↔ SO wb p v l w := by
  unfold SO
  rw [Till.io h]
theorem SO.over {wb : World} {p : Addr} {v : Value} {l : Array Bool} {w : World} (hl : l.getD 9 true = true) (hb : Below wb.heap.size wb w) : SO wb p v l w := ⟨(fun x hx hk => by
    simp at hx
    subst hx
    rw [hl] at hk
    cases hk), hb⟩
def zr : Array Value := #[.int .i64 0, .string ⟨#[]⟩, .int .i64 0, .string ⟨#[]⟩, .slice none 0 0]
set_option maxHeartbeats 2000000 in
set_option maxRecDepth 100000 in
theorem own_node (d : Dep) (ih : ∀ a ∈ d.args, OwnOk a) : OwnOk d := by
  intro s S w hL hN
  obtain ⟨A, c, rfl, hc1, hc2, hA⟩ := hL.args_
  obtain ⟨wb, hwb⟩ : ∃ wb, wb = (w.alloc (.cells (rowD d (.slice A d.args.length c)) 24)).alloc (.cells zr 24) := ⟨_, rfl⟩
  have hBb : Below w.heap.size w wb := by rw [hwb]; exact ((Below.refl _ _).alloc (Nat.le_refl _) _).alloc (by simp) _
  have hzb : wb.heap.size = w.heap.size + 2 := by rw [hwb]; simp
  have K0 : Blk wb w.heap.size 24 (rowD d (.slice A d.args.length c)) := by rw [hwb]; exact (Blk.new _ _ _).alloc _
  have K1 : Blk wb (w.heap.size + 1) 24 zr := by rw [hwb]; exact Blk.new' (by simp)
  have hAb : ArgsAt wb S d.args A := hA.stay (fun _ h => h) (StayS.below' hBb)
  have HF : Hid (∀ wx, Below wb.heap.size wb wx → Blk wx w.heap.size 24 (rowD d (.slice A d.args.length c)) ∧ Blk wx (w.heap.size + 1) 24 zr ∧ ArgsAt wx S d.args A ∧ Below w.heap.size w wx) := fun wx hb => ⟨K0.below hb (by omega), K1.below hb (by omega), hAb.stay (fun _ h => h) (StayS.below' hb), hBb.trans (hb.mono (by omega))⟩
  have H0 : Hid (OSt wb (wb.alloc (.cells (rowD d (.slice none 0 0)) 24)) (w.heap.size + 1 + 1) d [] (.slice none 0 0) (fun _ => False)) :=
    ⟨(Below.refl _ _).alloc (Nat.le_refl _) _, Blk.new' (by omega), by omega, World.ownsRow_nil _ _ _ _, by simp [Value.ownBlock], (fun x hx => by cases hx), (fun b hb => hb.elim), (fun b hb => hb.elim)⟩
  have HAb := Lib.hid hAb
  have HIH := Lib.hid ih
  have HWz := Lib.hid hzb
  have hnd := nodes_parts d
  have hge := nodesA_ge d.args
  have hln : d.args.length ≤ 4194304 := by omega
  have HNm : Hid (∀ a ∈ d.args, nodes a ≤ 4194304) := fun a ha => by have := nodesA_mem ha; omega
  obtain ⟨R, HR⟩ : ∃ R : World → Rows5 → Value → (Nat → Prop) → Prop, Hid (∀ wx r v Sr, R wx r v Sr ↔ OSt wb wx (w.heap.size + 1 + 1) d r v Sr) := ⟨fun wx r v Sr => OSt wb wx (w.heap.size + 1 + 1) d r v Sr, fun _ _ _ _ => Iff.rfl⟩
  have HR0 : Hid (R (wb.alloc (.cells (rowD d (.slice none 0 0)) 24)) [] (.slice none 0 0) (fun _ => False)) := (HR.out _ _ _ _).2 H0.out
  obtain ⟨i0, z0, hi0, hz0⟩ := info_dep5
  have hi := Lib.hid hi0
  have HZ := Lib.hid hz0
  clear hL hA hBb hzb K0 K1 hAb ih H0 hnd hge hN hi0 hz0
  have HR1 : Hid (R (((w.alloc (.cells #[.int .i64 d.kind, .string d.name, .int .i64 d.op, .string d.evr, .slice A d.args.length c] 24)).alloc (.cells #[.int .i64 0, .string ⟨#[]⟩, .int .i64 0, .string ⟨#[]⟩, .slice none 0 0] 24)).alloc (.cells #[.int .i64 d.kind, .string d.name, .int .i64 d.op, .string d.evr, .slice none 0 0] 24)) [] (.slice none 0 0) (fun _ => False)) := by
    have h := HR0.out
    rw [hwb] at h
    exact h
  clear HR0 hwb
  unfold rowD zr at HF
  unfold rowD
  go_enter Tryz.func5, Tryz.ntmps5
  go_wp2_with fail
  go_loopw [4] (fun v4 wx => ∃ (k : Nat) (r : Rows5) (v : Value) (Sr : Nat → Prop), k ≤ d.args.length ∧ v4 = .int .i64 (k : Int) ∧ r.length = k ∧ Hid (r.map Prod.fst = d.args.take k) ∧ Hid (R wx r v Sr)) (fun v4 _ => d.args.length - (intOf v4).toNat)
  case atStart => exact ⟨0, [], _, _, Nat.zero_le _, rfl, rfl, rfl, HR1⟩
  case round =>
    clear HR1
    obtain ⟨k, r, v, Sr, hkn, rfl, rfl, hrm, HRr⟩ := hrel
    have HO := Lib.hid ((HR.out _ _ _ _).1 HRr.out)
    obtain ⟨Kr, K1r, hAr, hBr⟩ := HF.out wr HO.out.below
    have c4 := Kr.cell 4
    simp at c4
    obtain ⟨Av, cv, rfl, hcv1, hcv2⟩ := own_form' HO.out.own
    unfold maxLen at hcv2
    by_cases hlt : r.length < d.args.length
    · obtain ⟨a, ha⟩ : ∃ a, d.args[r.length]? = some a := ⟨_, List.getElem?_eq_getElem hlt⟩
      obtain ⟨b', o', t, hA', hSb, hC, hLa⟩ := HAb.out r.length a ha
      obtain ⟨At, ct, rfl, _, _⟩ := hLa.form_
      subst hA'
      have o4 := HO.out.blk.cell 4
      unfold rowD at o4
      simp at o4
      have HCl : Hid (∀ w', Below wb.heap.size wb w' → w'.cell? ⟨w.heap.size, 4, none⟩ = some (.slice (some ⟨b', o', none⟩) d.args.length c) ∧ CellsD w' b' (o' + r.length * 5) a (.slice At a.args.length ct) ∧ Lay w' S a (.slice At a.args.length ct)) := fun w' hb => by
        obtain ⟨q0, _⟩ := HF.out w' hb
        have c4 := q0.cell 4
        simp at c4
        exact ⟨c4, hC.stay (hb.block b' hC.lt), hLa.stay (fun _ h => h) (StayS.below' hb)⟩
      have HNa := Lib.hid (HNm.out a (List.mem_of_getElem? ha))
      have HIa := Lib.hid (HIH.out a (List.mem_of_getElem? ha))
      have HBO := Lib.hid HO.out.below
      clear hC hLa Kr K1r hAr hBr
      go_upto_region 6 with fail
      clear c4
      rename_i K hK
      refine wp_region_S (SO wb ⟨w.heap.size + 1 + 1, 4, none⟩ (.slice Av r.length cv)) (by kernel_rfl) ⟨(fun x hx _ => by simp at hx; subst hx; exact o4), HBO.out.drew⟩ (fun hS => ?_)
      refine wpAnyS_take (i := 0) (fun _ => True) (v := .pointer (some ⟨w.heap.size + 1 + 1, 4, none⟩)) rfl (by kernel_rfl) (by kernel_rfl) (by kernel_rfl) (fun _ _ _ h => h) (fun _ _ _ _ => trivial) (SO.io rfl) (by kernel_rfl) hS (fun w' hSw => ?_) (by rfl) (fun hS => ?_)
      · go_simp
      try simp only [Act.put, List.setIfInBounds_toArray, List.set_cons_zero, List.set_cons_succ]
      refine wpAnyS_take (i := 1) (fun w' => w'.cell? ⟨w.heap.size + 1 + 1, 4, none⟩ = some (.slice Av r.length cv)) (v := .slice Av r.length cv) rfl (by kernel_rfl) (by kernel_rfl) (by kernel_rfl) (fun _ _ _ h => h) (fun l w hw hS => hS.1.out (k := 9) (by simp) (hw 9 (by kernel_rfl))) (SO.io rfl) (by kernel_rfl) hS (fun w' hSw => ?_) (by rfl) (fun hS => ?_)
      · go_simp
      try simp only [Act.put, List.setIfInBounds_toArray, List.set_cons_zero, List.set_cons_succ]
      refine wpAnyS_take (i := 2) (fun _ => True) (v := .pointer (some ⟨w.heap.size, 4, none⟩)) rfl (by kernel_rfl) (by kernel_rfl) (by kernel_rfl) (fun _ _ _ h => h) (fun _ _ _ _ => trivial) (SO.io rfl) (by kernel_rfl) hS (fun w' hSw => ?_) (by rfl) (fun hS => ?_)
      · go_simp
      try simp only [Act.put, List.setIfInBounds_toArray, List.set_cons_zero, List.set_cons_succ]
      refine wpAnyS_take (i := 3) (fun w' => w'.cell? ⟨w.heap.size, 4, none⟩ = some (.slice (some ⟨b', o', none⟩) d.args.length c)) (v := .slice (some ⟨b', o', none⟩) d.args.length c) rfl (by kernel_rfl) (by kernel_rfl) (by kernel_rfl) (fun _ _ _ h => h) (fun l w hw hS => (HCl.out _ hS.2).1) (SO.io rfl) (by kernel_rfl) hS (fun w' hSw => ?_) (by rfl) (fun hS => ?_)
      · go_simp
      try simp only [Act.put, List.setIfInBounds_toArray, List.set_cons_zero, List.set_cons_succ]
      refine wpAnyS_take (i := 4) (fun _ => True) (v := .int .i64 (r.length : Int)) rfl (by kernel_rfl) (by kernel_rfl) (by kernel_rfl) (fun _ _ _ h => h) (fun _ _ _ _ => trivial) (SO.io rfl) (by kernel_rfl) hS (fun w' hSw => ?_) (by rfl) (fun hS => ?_)
      · go_simp
      try simp only [Act.put, List.setIfInBounds_toArray, List.set_cons_zero, List.set_cons_succ]
      refine wpAnyS_take (i := 5) (fun _ => True) (v := .pointer (some ⟨b', o' + r.length * 5, none⟩)) rfl (by kernel_rfl) (by kernel_rfl) (by kernel_rfl) (fun _ _ _ h => h) (fun _ _ _ _ => trivial) (SO.io rfl) (by kernel_rfl) hS (fun w' hSw => ?_) (by rfl) (fun hS => ?_)
      · go_simp
      try simp only [Act.put, List.setIfInBounds_toArray, List.set_cons_zero, List.set_cons_succ]
      refine wpAnyS_take (i := 6) (fun w' => CellsD w' b' (o' + r.length * 5) a (.slice At a.args.length ct)) (v := .agg #[.int .i64 a.kind, .string a.name, .int .i64 a.op, .string a.evr, .slice At a.args.length ct]) rfl (by kernel_rfl) (by kernel_rfl) (by kernel_rfl) (fun _ _ _ h => h) (fun l w hw hS => (HCl.out _ hS.2).2.1) (SO.io rfl) (by kernel_rfl) hS (fun w' hSw => ?_) (by rfl) (fun hS => ?_)
      · obtain ⟨e0, e1, e2, e3, e4⟩ := hSw
        go_simp
      try simp only [Act.put, List.setIfInBounds_toArray, List.set_cons_zero, List.set_cons_succ]
      refine wpAnyS_one (i := 7) (by kernel_rfl) rfl (fun K7 hK7 => ?_)
      go_simp
      refine (HIa.out _ S wr.drew (HCl.out _ hS.2).2.2 HNa.out).mono ?_
      rintro e w3 ⟨hb3, Ax, cx, Sx, rfl, hL3, hC3, hS3⟩
      have HO3 := Lib.hid ((HO.out.world (G := []) ((Turned.refl [] wr).drew.trans (Turned.of_below hb3 []) (Fresh.refl _ _)) (fun g hg => by cases hg)))
      have o43 : w3.cell? ⟨w.heap.size + 1 + 1, 4, none⟩ = some (.slice Av r.length cv) := by
        have := HO3.out.blk.cell 4
        unfold rowD at this
        simpa using this
      have S3 : ∀ l, SO wb ⟨w.heap.size + 1 + 1, 4, none⟩ (.slice Av r.length cv) l w3 := fun l => ⟨(fun x hx _ => by simp at hx; subst hx; exact o43), HO3.out.below⟩
      have hfar : ∀ b, Sx b → wb.heap.size ≤ b ∧ b ≠ w.heap.size + 1 + 1 ∧ (Value.slice Av r.length cv).ownBlock ≠ some b := fun b hb => by
        have h1 := hS3 b hb
        have h2 := HO.out.blk.lt
        have h3 := HO.out.below.size
        have h1' : wr.heap.size ≤ b := h1
        refine ⟨by omega, by omega, fun e => ?_⟩
        have h4 := (HO.out.own.lt b e).2
        omega
      have HX3 := Lib.hid (And.intro hL3 (And.intro hC3 hfar))
      clear hb3 hL3 hC3 hS3 hfar
      unfold rowD
      refine hK7.out _ _ (S3 _) (fun hS => ?_)
      clear hK7 K7
      try simp only [Act.put, List.setIfInBounds_toArray, List.set_cons_zero, List.set_cons_succ]
      refine wpAnyS_one (i := 8) (by kernel_rfl) rfl (fun K8 hK8 => ?_)
      go_simp
      have HO4 := Lib.hid (HO3.out.alloc (.cells #[.int .i64 a.kind, .string a.name, .int .i64 a.op, .string a.evr, .slice Ax a.args.length cx] 24))
      have o44 : (w3.alloc (.cells #[.int .i64 a.kind, .string a.name, .int .i64 a.op, .string a.evr, .slice Ax a.args.length cx] 24)).cell? ⟨w.heap.size + 1 + 1, 4, none⟩ = some (.slice Av r.length cv) := by
        have := HO4.out.blk.cell 4
        unfold rowD at this
        simpa using this
      refine hK8.out _ _ ⟨(fun x hx _ => by simp at hx; subst hx; exact o44), HO4.out.below⟩ (fun hS => ?_)
      clear hK8 K8
      try simp only [Act.put, List.setIfInBounds_toArray, List.set_cons_zero, List.set_cons_succ]
      refine wpAnyS_one (i := 9) (by kernel_rfl) rfl (fun K9 hK9 => ?_)
      refine step_append_at rfl (.tmp 15) (.tmp 22) 22 rfl wb.heap.size 24 i0 z0 5 72 Tryz.underlying22 hi.out HZ.out.1 HZ.out.2.2.1 HZ.out.2.2.2 HZ.out.2.1 (by decide) (.slice Av r.length cv) r.length (cells5 r) rfl HO4.out.own ⟨w3.heap.size, 0, none⟩ 1 1 [.int .i64 a.kind, .string a.name, .int .i64 a.op, .string a.evr, .slice Ax a.args.length cx] rfl rfl (cells_new w3 #[.int .i64 a.kind, .string a.name, .int .i64 a.op, .string a.evr, .slice Ax a.args.length cx] _) (by intro u hu; simp at hu; rcases hu with rfl | rfl | rfl | rfl | rfl <;> rfl) (by unfold maxLen; omega) (by omega) HO4.out.below.size ?_
      intro v4 w4 hown4 hg4 hat4
      obtain ⟨A4, c4, rfl, _, _⟩ := own_form' hown4
      have hst4 := StayS.below' (S := Sx) ((Below.refl w3.heap.size w3).alloc (Nat.le_refl _) (.cells #[.int .i64 a.kind, .string a.name, .int .i64 a.op, .string a.evr, .slice Ax a.args.length cx] 24))
      have HN := Lib.hid (HO4.out.put (HX3.out.1.stay (fun _ h => h) hst4) (HX3.out.2.1.stay hst4) HX3.out.2.2 hown4 hg4 hat4)
      have HB4 := Lib.hid (HO4.out.below.grown hg4 HO4.out.below.size (fun k hk => (HO4.out.own.lt k hk).1))
      have hbd4 := HO4.out.blk.turned (F := (Value.slice Av r.length cv).ownBlock.toList) ((Turned.refl _ _).grown hg4 fun k hk => .inl (by simp [hk])) (fun hm => HO4.out.apart (by simpa using hm))
      have w44 := hbd4.cell 4
      have f44 := hbd4.free 4
      unfold rowD at w44
      simp at w44
      clear hown4 hg4 hat4 hst4 hbd4
      refine hK9.out _ _ (SO.over (by rfl) HB4.out) (fun hS => ?_)
      clear hK9 K9
      try simp only [Act.put, List.setIfInBounds_toArray, List.set_cons_zero, List.set_cons_succ]
      refine wpAnyS_take (i := 10) (fun _ => True) (v := .pointer (some ⟨w.heap.size + 1 + 1, 4, none⟩)) rfl (by kernel_rfl) (by kernel_rfl) (by kernel_rfl) (fun _ _ _ h => h) (fun _ _ _ _ => trivial) (SO.io rfl) (by kernel_rfl) hS (fun w' hSw => ?_) (by rfl) (fun hS => ?_)
      · go_simp
      try simp only [Act.put, List.setIfInBounds_toArray, List.set_cons_zero, List.set_cons_succ]
      refine wpAnyS_one (i := 11) (by kernel_rfl) rfl (fun K11 hK11 => ?_)
      go_simp
      refine hK11.out _ _ (SO.over (by rfl) HN.out.below) (fun hS => ?_)
      clear hK11 K11
      try simp only [Act.put, List.setIfInBounds_toArray, List.set_cons_zero, List.set_cons_succ]
      refine wpAnyS_done (by kernel_rfl) ?_ _
      have HM : Hid ((r ++ [(a, Value.slice Ax a.args.length cx)]).map Prod.fst = d.args.take (r.length + 1)) := by
        show _ = _
        rw [List.map_append, hrm.out, List.take_add_one, ha]
        rfl
      have HRn := Lib.hid ((HR.out _ _ _ _).2 HN.out)
      clear HN HB4 HX3 HO4 HO3 hS o43 o44 o4 S3 ha
      refine hK _ _ ?_
      clear hK
      go_wp2_with fail
      go_roundw
      case rel => exact ⟨r.length + 1, _, _, _, by omega, by go_num, by simp, HM, HRn⟩
      case measure => simp [intOf]; omega
    · have hkn2 : r.length = d.args.length := by omega
      have hO := HO.out
      obtain ⟨Ay, cy, hv, hLy, hCy, hSy⟩ := hO.lay
      have hwr : wholeR d r = d := by
        unfold wholeR
        rw [hrm.out, List.take_of_length_le (by omega)]
        cases d; rfl
      rw [hwr] at hv hLy
      have ht5 := five_turned wr (w.heap.size + 1) d (.slice Ay d.args.length cy)
      have hz := hBr.size
      have hst5 : StayS (fun b => Sr b ∨ (Value.slice Av r.length cv).ownBlock = some b) wr (five wr (w.heap.size + 1) d (.slice Ay d.args.length cy)) := StayS.turned ht5 fun b hb hm => by
        have h1 := hSy b hb
        have h2 := HWz.out
        simp at hm; omega
      have HP : Hid (Below w.heap.size w (five wr (w.heap.size + 1) d (.slice Ay d.args.length cy)) ∧ ∃ A c S', Ending.returned (.agg (rowD d (.slice Ay d.args.length cy))) = .returned (.agg (rowD d (.slice A d.args.length c))) ∧ Lay (five wr (w.heap.size + 1) d (.slice Ay d.args.length cy)) S' d (.slice A d.args.length c) ∧ CleanS (five wr (w.heap.size + 1) d (.slice Ay d.args.length cy)) S' ∧ ∀ b, S' b → w.heap.size ≤ b) :=
        ⟨hBr.trans (ht5.below (fun k hk => by simp at hk; omega) hz), Ay, cy, _, rfl, hLy.stay (fun _ h => h) hst5, hCy.stay hst5, fun b hb => by have h1 := hSy b hb; have h2 := HWz.out; omega⟩
      have HL : Hid _ := load5 (five_blk K1r d (.slice Ay d.args.length cy))
      have HBk := Lib.hid hO.blk
      have k0 := HBk.out.cell 0
      have k1 := HBk.out.cell 1
      have k2 := HBk.out.cell 2
      have k3 := HBk.out.cell 3
      have k4 := HBk.out.cell 4
      unfold rowD at k0 k1 k2 k3 k4
      simp at k0 k1 k2 k3 k4
      rw [hv] at k4
      have z0 := K1r.cell 0
      have z1 := K1r.cell 1
      have z2 := K1r.cell 2
      have z3 := K1r.cell 3
      have z4 := K1r.cell 4
      have f0 := K1r.free 0
      have f1 := K1r.free 1
      have f2 := K1r.free 2
      have f3 := K1r.free 3
      have f4 := K1r.free 4
      simp at z0 z1 z2 z3 z4
      clear hO hv hLy hCy hSy hwr ht5 hz hst5 Kr K1r hAr hBr HBk HO HRr hrm
      unfold five at HP HL
      unfold rowD at HP
      go_wp2_with fail
      refine bodyPost_ret (v := .agg #[.int .i64 d.kind, .string d.name, .int .i64 d.op, .string d.evr, .slice Ay d.args.length cy]) ?_ rfl HP.out
      refine (results_one rfl _ (ad := ⟨w.heap.size + 1, 0, none⟩) rfl).trans ?_
      exact HL.out
theorem own_any (d : Dep) : OwnOk d := by
  induction d using Dep.ind with
  | h k n o e xs ih => exact own_node _ ih
end Go.Proofs.YtghbhajiddnmkaaGreatDoor
