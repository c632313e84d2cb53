/- A start. Whether a text is layout alone: strings.Trim. -/
import Derived.Test.YtljldbdjkjllhaaGreatDoorZcf
import Derived.Test.YtljldbdjkjllhaaGreatDoorZcb
import Derived.Test.YtljldbdjkjllhaaGreatDoorZca
/- A start. -/
namespace Go.Proofs.YtljldbdjkjllhaaGreatDoor
set_option linter.unusedSimpArgs false
set_option linter.unusedVariables false
open Go.RowKit

theorem turned_grown {w w' : World} {row : Option Nat} (h : w.grownBy w' row) : Turned row.toList w w' := ⟨h.os, h.tape, h.output, h.size, fun k hk hn => h.block k hk (fun e => hn (by rw [← e]; simp))⟩
section
variable {w w' w0 : World} {base g p : Nat} {vo : Value} {s : XS} {wr : Int}
theorem XRd.set2 (h : XRd w base g vo s wr) : XRd (w.setCell ⟨g, 2, none⟩ (.bool true)) base g vo { s with begun := true } wr :=
  ⟨Blk.set_ h.blk 2 (.bool true), own_setCell (p := ⟨g, 2, none⟩) h.row h.vo_ne _, h.far⟩
theorem XRd.set3 (h : XRd w base g vo s wr) (b : Bool) : XRd (w.setCell ⟨g, 3, none⟩ (.bool b)) base g vo { s with short := b } wr :=
  ⟨Blk.set_ h.blk 3 (.bool b), own_setCell (p := ⟨g, 3, none⟩) h.row h.vo_ne _, h.far⟩
theorem XRd.apart {b' n : Nat} {e : TypeId} {sz : Nat} {v : Value} {xs : List Value} (h : XRd w base g vo s wr) (ho : w.ownsRow b' e sz v n xs) (h1 : e ≠ 98) (h2 : e ≠ 9) : ∀ k ∈ v.ownBlock.toList, k ∉ fOf g vo := fun k hk hm => by
  have hk : v.ownBlock = some k := by simpa using hk
  rcases fOf_mem.1 hm with rfl | hm
  · exact own_kind ho h.blk h1 hk
  · exact own_kinds ho h.row h2 hk hm
/-- While a start is taken. -/
structure StS (w0 : World) (base g p : Nat) (vo : Value) (s : XS) (wr : Int) (al : Al) (v : Value) (w : World) : Prop where
  t : Turned (fOf g vo) w0 w
  rd : XRd w base g vo s wr
  res : Blk w p 68 #[.int .i64 0, .string ⟨#[]⟩, .slice none 0 0, .string ⟨#[]⟩]
  row : w.ownsRow w0.heap.size 172 2 v al.length (alL al)
  new : w0.heap.size ≤ p
theorem StS.ne {al : Al} {v : Value} (h : StS w0 base g p vo s wr al v w) : p ∉ fOf g vo := fun hm => h.rd.not_kind hm (by decide) (by decide) h.res
theorem StS.next {al : Al} {v : Value} (h : StS w0 base g p vo s wr al v w) (ht : Turned [g] w w') {r' : Bs} (hr : RdB w' g r' vo (.bool s.begun) (.bool s.short) (.int .i64 wr)) : StS w0 base g p vo { s with rest := r' } wr al v w' :=
  ⟨h.t.trans (one_of (g_mem _ _) ht) (Fresh.refl _ _), h.rd.ate ht hr, h.res.turned ht (fun hm => h.ne (by simp at hm; subst hm; exact g_mem _ _)), own_turned h.row ht (fun k hk hm => by simp at hm; subst hm; exact own_kind h.row h.rd.blk (by decide) hk), h.new⟩
theorem StS.set3 {al : Al} {v : Value} (h : StS w0 base g p vo s wr al v w) : StS w0 base g p vo { s with short := true } wr al v (w.setCell ⟨g, 3, none⟩ (.bool true)) :=
  ⟨h.t.setCell (p := ⟨g, 3, none⟩) (.inl (g_mem _ _)) _, h.rd.set3 true, h.res.far (p := ⟨g, 3, none⟩) (fun e => h.ne (by rw [show p = g from e]; exact g_mem _ _)) _, own_setCell (p := ⟨g, 3, none⟩) h.row (own_kind h.row h.rd.blk (by decide)) _, h.new⟩
theorem StS.put {al : Al} {v v' : Value} {a : Bs × Bs} {w1 : World} (h : StS w0 base g p vo s wr al v w) (hw1 : w1 = w.alloc (.cells #[.string (mkS a.1), .string (mkS a.2)] 172)) (hg : w1.grownBy w' v.ownBlock)
    (ho : w'.ownsRow w0.heap.size 172 2 v' (al.length + 1) (alL al ++ [.string (mkS a.1), .string (mkS a.2)])) : StS w0 base g p vo s wr (al ++ [a]) v' w' := by
  have h1 : Turned [] w w1 := by rw [hw1]; exact (Turned.refl _ _).alloc _
  have r1 : w1.ownsRow w0.heap.size 172 2 v al.length (alL al) := own_turned h.row h1 (fun k _ hk => by cases hk)
  have x1 := h.rd.turned h1 (fun k hk => by cases hk)
  have b1 := h.res.turned h1 (fun hk => by cases hk)
  refine ⟨?_, x1.turned (turned_grown hg) (x1.apart r1 (by decide) (by decide)), b1.grown hg (fun e => own_kind r1 b1 (by decide) e.symm), ?_, h.new⟩
  · exact (h.t.below_ (h1.of_nil)).grown hg fun k hk => .inr (r1.lt k hk).1
  · rw [List.length_append, alL_app]; exact ho
theorem StS.whole {al : Al} {v v7 : Value} {nm : Bs} {w7 : World} (h : StS w0 base g p vo s wr al v w)
    (hg : ((w.setCell ⟨g, 2, none⟩ (.bool true)).alloc (.cells #[.string (mkS nm)] 9)).grownBy w7 vo.ownBlock) (ho : w7.ownsRow base 9 1 v7 (s.opn.length + 1) (strL s.opn ++ [.string (mkS nm)]))
    (hat : v7.ownBlock = vo.ownBlock ∨ v7.ownBlock = some ((w.setCell ⟨g, 2, none⟩ (.bool true)).alloc (.cells #[.string (mkS nm)] 9)).heap.size) :
    Blk w7 g 98 #[.string (mkS s.rest), vo, .bool true, .bool s.short, .int .i64 wr] ∧ Turned (fOf g vo) w0 (w7.setCell ⟨g, 1, none⟩ v7) ∧ XRd (w7.setCell ⟨g, 1, none⟩ v7) base g v7 { s with opn := s.opn ++ [nm], begun := true } wr ∧
    Fresh w0 (fOf g vo) (fOf g v7) ∧ Blk (w7.setCell ⟨g, 1, none⟩ v7) p 68 #[.int .i64 0, .string ⟨#[]⟩, .slice none 0 0, .string ⟨#[]⟩] ∧ (∀ A c, v = .slice A al.length c → AlK (w7.setCell ⟨g, 1, none⟩ v7) A al) := by
  have x1 := h.rd.set2
  have t1 : Turned (fOf g vo) w (w.setCell ⟨g, 2, none⟩ (.bool true)) := (Turned.refl _ _).setCell (p := ⟨g, 2, none⟩) (.inl (g_mem _ _)) _
  generalize w.setCell ⟨g, 2, none⟩ (.bool true) = W1 at *
  have x2 := x1.turned ((Turned.refl [] W1).alloc (.cells #[.string (mkS nm)] 9)) (fun k hk => by cases hk)
  have t2 := t1.alloc (.cells #[.string (mkS nm)] 9)
  have hz := t2.size
  generalize W1.alloc (.cells #[.string (mkS nm)] 9) = W2 at *
  have b7 : Blk w7 g 98 #[.string (mkS s.rest), vo, .bool true, .bool s.short, .int .i64 wr] := Blk.grown x2.blk hg (fun e => x2.vo_ne e.symm)
  have t7 := t2.grown hg (fun k hk => .inl (fOf_mem.2 (.inr hk)))
  have t8 : Turned (fOf g vo) w (w7.setCell ⟨g, 1, none⟩ v7) := t7.setCell (p := ⟨g, 1, none⟩) (.inl (g_mem _ _)) _
  refine ⟨b7, h.t.trans t8 (Fresh.refl _ _), ⟨Blk.set_ b7 1 v7, ?_, h.rd.far⟩, fun k hk => ?_, h.res.turned t8 h.ne, fun A c hv => ?_⟩
  · show World.ownsRow _ base _ _ v7 (s.opn ++ [nm]).length (strL (s.opn ++ [nm]))
    rw [List.length_append, show strL (s.opn ++ [nm]) = strL s.opn ++ [.string (mkS nm)] from by unfold strL; rw [List.map_append]; rfl]
    exact own_setCell (p := ⟨g, 1, none⟩) ho (own_kind ho b7 (by decide)) _
  · rcases fOf_mem.1 hk with rfl | hk
    · exact .inl (g_mem _ _)
    · rcases hat with ha | ha
      · exact .inl (fOf_mem.2 (.inr (ha ▸ hk)))
      · rw [ha] at hk
        injection hk with hk
        have := h.t.size
        exact .inr (by omega)
  · subst hv
    exact (own_alK h.row).turned t8 (fun k hk cs => h.rd.not_kind hk (by decide) (by decide))
theorem info_attr : ∃ i z, Tryz.prog.info? 172 = some i ∧ i.zero = some z ∧ z.cells.size = 2 ∧ i.size = 2 ∧ i.bytes = 32 := by
  have h : (Tryz.prog.info? 172).map (fun i => (i.zero.map fun z => z.cells.size, i.size, i.bytes)) = some (some 2, 2, 32) := by kernel_rfl
  obtain ⟨i, hi, h2⟩ := Option.map_eq_some_iff.1 h
  simp only [Prod.mk.injEq] at h2
  obtain ⟨z, hz, hz1⟩ := Option.map_eq_some_iff.1 h2.1
  exact ⟨i, z, hi, hz, hz1, h2.2.1, h2.2.2⟩
theorem info_str : ∃ i z, Tryz.prog.info? 9 = some i ∧ i.zero = some z ∧ z.cells.size = 1 ∧ i.size = 1 ∧ i.bytes = 16 := by
  have h : (Tryz.prog.info? 9).map (fun i => (i.zero.map fun z => z.cells.size, i.size, i.bytes)) = some (some 1, 1, 16) := by kernel_rfl
  obtain ⟨i, hi, h2⟩ := Option.map_eq_some_iff.1 h
  simp only [Prod.mk.injEq] at h2
  obtain ⟨z, hz, hz1⟩ := Option.map_eq_some_iff.1 h2.1
  exact ⟨i, z, hi, hz, hz1, h2.2.1, h2.2.2⟩
def ActS (g p : Nat) (nm : Bs) (v : Value) (act : Act) : Prop := ∃ u1 u5 u6 u7 u8 u9 u10 u11 u12 u13 u14 u15 u16 u17 u18 u19 u20 u21 u22 u23 u24 u25 u26 u27 u28 u29 u30 u31 u32 u33 u34 u35 u36 u37 u38 u39 u40 u41 u42 u43 u44 u45 u46 u47 u48 u49 u50 u51 u52 u53 u54 u55 u56 u57 u58 u59 u60 u61 u62 u63 : Value, act = { tmps := #[.pointer (some ⟨g, 0, none⟩), u1, .pointer (some ⟨p, 0, none⟩), .string (mkS nm), v, u5, u6, u7, u8, u9, u10, u11, u12, u13, u14, u15, u16, u17, u18, u19, u20, u21, u22, u23, u24, u25, u26, u27, u28, u29, u30, u31, u32, u33, u34, u35, u36, u37, u38, u39, u40, u41, u42, u43, u44, u45, u46, u47, u48, u49, u50, u51, u52, u53, u54, u55, u56, u57, u58, u59, u60, u61, u62, u63], defers := [] }
def JS (w0 : World) (base g p : Nat) (nm : Bs) (vo : Value) (s : XS) (wr : Int) (resA : RR (Al × Bool)) (l n : Nat) (act : Act) (w : World) : Prop :=
  ∃ r v al sh, StS w0 base g p vo { s with rest := r, short := sh } wr al v w ∧ ActS g p nm v act ∧ r.length ≤ 40000 ∧ al.length ≤ 16 ∧
    ((l = 0 ∧ n = r.length + 1 ∧ sh = false ∧ ∃ k, r.length < k ∧ attrsR k al r = resA) ∨ (l = 1 ∧ n = 0 ∧ resA = .ok ((al, sh), r)))
theorem attrsR_eq {al : Al} {r : Bs} {k : Nat} {x : Bool × Bs} (h : layoutR r = .ok x) : attrsR (k + 1) al r =
    if Lib.hasPrefix x.2 [62] = true then .ok ((al, false), Lib.trimPrefix x.2 [62])
    else if Lib.hasPrefix x.2 [47, 62] = true then .ok ((al, true), Lib.trimPrefix x.2 [47, 62])
    else if x.1 = true then (attrR al x.2).bind fun y => attrsR k (al ++ [y.1]) y.2 else .error 100 := by rw [attrsR, h]; rfl
theorem attrR_few {al : Al} {r : Bs} {x : (Bs × Bs) × Bs} (h : attrR al r = .ok x) : al.length < 16 := by
  unfold attrR at h
  obtain ⟨n, hn, h⟩ := bind_ok h
  split at h
  · assumption
  · cases h
theorem startR_eq (s : XS) : startR s = (nameR s.rest).bind fun n =>
  if s.opn.length < 16 then
    if 0 < s.opn.length ∨ s.begun = false then (attrsR (n.2.length + 1) [] n.2).map fun a => (⟨1, n.1, a.1.1, []⟩, ⟨a.2, s.opn ++ [n.1], true, a.1.2⟩)
    else .error 100
  else .error 102 := rfl
set_option maxHeartbeats 16000000 in
set_option maxRecDepth 1000000 in
theorem start_any {B : Nat} (h : XRd w base g vo s wr) (hE : XEnv B w) (hBb : B ≤ base) (hr : s.rest.length ≤ 40000) (ho2 : s.opn.length ≤ 16) (hs : s.short = false) :
    Calls Tryz.prog 91 #[.pointer (some ⟨g, 0, none⟩)] w (Told w base g vo wr (startR s)) := by
  have HS0 := Lib.hid (EnS.first h)
  obtain ⟨p, hp⟩ : ∃ p, p = w.heap.size := ⟨_, rfl⟩
  obtain ⟨wa, hwa⟩ : ∃ wa, wa = w.alloc (.cells #[.int .i64 0, .string ⟨#[]⟩, .slice none 0 0, .string ⟨#[]⟩] 68) := ⟨_, rfl⟩
  rw [← hp, ← hwa] at HS0
  have CN := Lib.hid (name_any HS0.out.rd.blk hr)
  obtain ⟨res, hres⟩ : ∃ res, res = startR s := ⟨_, rfl⟩
  rw [← hres]
  have hbase : base ≤ w.heap.size := Nat.le_trans h.far (Nat.le_of_lt (Blk.lt h.blk))
  have HEN : Hid (∀ w', Turned (fOf g vo) w w' → XEnv B w') := fun w' ht => hE.turned ht (fun k hk => Nat.le_trans hBb (h.base_le hk))
  have hBg : B ≤ g := Nat.le_trans hBb h.far
  clear h hE
  cases hn : nameR s.rest with
  | error e =>
    have HE : Hid (res = .error e) := by show res = _; rw [hres, startR_eq, hn]; rfl
    have HN := Lib.hid hn
    clear hn hres
    go_enter Tryz.func91, Tryz.ntmps91
    go_upto_region 1 with fail
    rw [← hp, ← hwa]
    clear hwa hp
    go_step3
    go_wp2_with fail
    refine CN.out.mono ?_
    intro en w1 ha
    obtain ⟨h1, ⟨r', h2⟩, rfl⟩ := ha.no HN.out
    have HS1 := Lib.hid (HS0.out.next h1 h2)
    clear ha h1 h2 CN
    unfold gaveUp
    go_wp2_with fail
    exact ⟨rfl, Told.mkNo HS1.out.t HS1.out.rd HE.out⟩
  | ok x =>
    obtain ⟨nm, r1⟩ := x
    have HN := Lib.hid hn
    have hr1 : r1.length ≤ 40000 := by have := nameR_len hn; simp at this; omega
    have hq : res = if s.opn.length < 16 then
        if 0 < s.opn.length ∨ s.begun = false then (attrsR (r1.length + 1) [] r1).map fun a => (⟨1, nm, a.1.1, []⟩, ⟨a.2, s.opn ++ [nm], true, a.1.2⟩)
        else .error 100
      else .error 102 := by rw [hres, startR_eq, hn]; rfl
    clear hn hres
    by_cases h16 : s.opn.length < 16
    rotate_left
    · rw [if_neg h16] at hq
      have HE := Lib.hid hq
      have hz : ¬ (s.opn.length : Int) < 16 := by omega
      have hd : decide ((s.opn.length : Int) < 16) = false := decide_eq_false hz
      clear h16 hq
      go_enter Tryz.func91, Tryz.ntmps91
      go_upto_region 1 with fail
      rw [← hp, ← hwa]
      clear hwa hp
      go_step3
      go_wp2_with fail
      refine CN.out.mono ?_
      intro en w1 ha
      obtain ⟨h1, h2, rfl⟩ := ha.ok HN.out
      have HS1 := Lib.hid (HS0.out.next h1 h2)
      clear ha h1 h2 CN
      unfold sV
      obtain ⟨A, c, hvo, hnc, hcm⟩ := own_form' HS1.out.rd.row
      subst hvo
      unfold maxLen at hcm
      have c1 : w1.cell? ⟨g, 1, none⟩ = some (.slice A s.opn.length c) := Blk.cell HS1.out.rd.blk 1
      have c2 : w1.cell? ⟨g, 2, none⟩ = some (.bool s.begun) := Blk.cell HS1.out.rd.blk 2
      go_wp2_with fail
      refine (must_no 102 _).mono ?_
      rintro e wm ⟨rfl, rfl⟩
      unfold gaveUp
      go_wp2_with fail
      exact ⟨rfl, Told.mkNo HS1.out.t HS1.out.rd HE.out⟩
    rw [if_pos h16] at hq
    have hz : (s.opn.length : Int) < 16 := by omega
    have hd : decide ((s.opn.length : Int) < 16) = true := decide_eq_true hz
    by_cases hb : 0 < s.opn.length ∨ s.begun = false
    rotate_left
    · rw [if_neg hb] at hq
      have HE := Lib.hid hq
      have hz0 : ¬ (0 : Int) < (s.opn.length : Int) := by omega
      have hd0 : decide ((0 : Int) < (s.opn.length : Int)) = false := decide_eq_false hz0
      have hbg : s.begun = true := by cases hsb : s.begun with
        | true => rfl
        | false => exact absurd (.inr hsb) hb
      clear h16 hq hb
      go_enter Tryz.func91, Tryz.ntmps91
      go_upto_region 1 with fail
      rw [← hp, ← hwa]
      clear hwa hp
      go_step3
      go_wp2_with fail
      refine CN.out.mono ?_
      intro en w1 ha
      obtain ⟨h1, h2, rfl⟩ := ha.ok HN.out
      have HS1 := Lib.hid (HS0.out.next h1 h2)
      clear ha h1 h2 CN
      unfold sV
      obtain ⟨A, c, hvo, hnc, hcm⟩ := own_form' HS1.out.rd.row
      subst hvo
      unfold maxLen at hcm
      have c1 : w1.cell? ⟨g, 1, none⟩ = some (.slice A s.opn.length c) := Blk.cell HS1.out.rd.blk 1
      have c2 : w1.cell? ⟨g, 2, none⟩ = some (.bool s.begun) := Blk.cell HS1.out.rd.blk 2
      rw [hbg] at c2
      generalize s.opn.length = N at *
      obtain rfl : N = 0 := by omega
      go_wp2_with fail
      refine (must_yes 102 _).mono ?_
      rintro e wm ⟨rfl, rfl⟩
      go_wp2_with fail
      refine (must_no 100 _).mono ?_
      rintro e wm2 ⟨rfl, rfl⟩
      unfold gaveUp
      go_wp2_with fail
      exact ⟨rfl, Told.mkNo HS1.out.t HS1.out.rd HE.out⟩
    rw [if_pos hb] at hq
    have HQ := Lib.hid hq
    obtain ⟨resA, hresA⟩ : ∃ resA, resA = attrsR (r1.length + 1) [] r1 := ⟨_, rfl⟩
    rw [← hresA] at HQ
    have HRA := Lib.hid hresA.symm
    clear hq h16 hresA
    obtain ⟨ia, za, hia, hza, hza1, hza2, hza3⟩ := info_attr
    obtain ⟨is_, zs, his, hzs, hzs1, hzs2, hzs3⟩ := info_str
    have HIA := Lib.hid hia
    have HIS := Lib.hid his
    clear hia his
    have HSH := Lib.hid hs
    clear hs
    have hb2 : (0 : Int) < (s.opn.length : Int) ∨ (¬ (0 : Int) < (s.opn.length : Int) ∧ s.begun = false) := by
      rcases Nat.eq_zero_or_pos s.opn.length with h0 | h0
      · exact .inr ⟨by omega, hb.resolve_left (by omega)⟩
      · exact .inl (by omega)
    clear hb
    have HB2 := Lib.hid hb2
    clear hb2
    go_enter Tryz.func91, Tryz.ntmps91
    go_upto_region 1 with fail
    rw [← hp, ← hwa]
    clear hwa hp
    obtain ⟨A, c, hvo, hnc, hcm⟩ := own_form' HS0.out.rd.row
    subst hvo
    have HCM := Lib.hid hcm
    refine wp_scope_2 (JS w base g p nm (.slice A s.opn.length c) s wr resA) rfl rfl ?hJ ?p0 ?p1 ?first
    case hJ =>
      rintro l n a w ⟨r, v, al, sh, -, -, -, -, ⟨rfl, -⟩ | ⟨rfl, -⟩⟩ <;> omega
    case first =>
      intro H
      have HH := Lib.hid H
      clear H
      rcases HB2.out with hz0 | ⟨hz0, hbg⟩
      all_goals
        go_wp2_with fail
        refine CN.out.mono ?_
        intro en w1 ha
        obtain ⟨h1, h2, rfl⟩ := ha.ok HN.out
        have HS1 := Lib.hid (HS0.out.next h1 h2)
        clear ha h1 h2 CN
        unfold sV
        unfold maxLen at hcm
        have c1 : w1.cell? ⟨g, 1, none⟩ = some (.slice A s.opn.length c) := Blk.cell HS1.out.rd.blk 1
        have c2 : w1.cell? ⟨g, 2, none⟩ = some (.bool s.begun) := Blk.cell HS1.out.rd.blk 2
        first | rw [hbg] at c2 | skip
        generalize hNN : s.opn.length = N at c1 hz0 hz hd ⊢
        have HNN := Lib.hid hNN
        clear hNN
        go_wp2_with fail
        refine (must_yes 102 _).mono ?_
        rintro e wm ⟨rfl, rfl⟩
        go_wp2_with fail
        refine (must_yes 100 _).mono ?_
        rintro e wm2 ⟨rfl, rfl⟩
        have HW0 : Hid (StS w base g p (.slice A s.opn.length c) { s with rest := r1, short := false } wr [] (.slice none 0 0) w1) := by
          have hx := HS1.out.rd
          have e : ({ s with rest := r1, short := false } : XS) = { s with rest := r1 } := by have := HSH.out; cases s; simp at this; subst this; rfl
          refine ⟨HS1.out.t, ?_, HS1.out.res, World.ownsRow_nil _ _ _ _, HS1.out.new⟩
          rw [e]; exact hx
        clear c1 c2
        go_wp2_with fail
        go_step3
        rename_i K hK
        have hNN := HNN.out
        subst hNN
        refine hK _ _ (HH.out _ _ _ ⟨r1, .slice none 0 0, [], false, HW0.out, ⟨_, _, _, _, _, _, _, _, _, _, _, _, _, _, _, _, _, _, _, _, _, _, _, _, _, _, _, _, _, _, _, _, _, _, _, _, _, _, _, _, _, _, _, _, _, _, _, _, _, _, _, _, _, _, _, _, _, _, _, _, rfl⟩, hr1, Nat.zero_le _, .inl ⟨rfl, rfl, rfl, r1.length + 1, Nat.lt_succ_self _, HRA.out⟩⟩)

    case p0 =>
      rintro n a w2 ⟨r, v, al, sh, hW, ⟨u1, u5, u6, u7, u8, u9, u10, u11, u12, u13, u14, u15, u16, u17, u18, u19, u20, u21, u22, u23, u24, u25, u26, u27, u28, u29, u30, u31, u32, u33, u34, u35, u36, u37, u38, u39, u40, u41, u42, u43, u44, u45, u46, u47, u48, u49, u50, u51, u52, u53, u54, u55, u56, u57, u58, u59, u60, u61, u62, u63, rfl⟩, hr, hal, hor⟩
      obtain ⟨hn, rfl, k, hk, hA⟩ : n = r.length + 1 ∧ sh = false ∧ ∃ k, r.length < k ∧ attrsR k al r = resA := by
        rcases hor with ⟨-, h1, h2, h3⟩ | ⟨h0, -⟩
        · exact ⟨h1, h2, h3⟩
        · cases h0
      clear hor
      obtain ⟨k, rfl⟩ : ∃ k', k = k' + 1 := ⟨k - 1, by omega⟩
      obtain ⟨bl, r2, hL⟩ : ∃ bl r2, layoutR r = .ok (bl, r2) := ⟨_, _, layoutR_ok r⟩
      have hr2 : r2.length ≤ r.length := by have := layoutR_len hL; simpa using this
      have hA2 := (attrsR_eq (al := al) (k := k) hL).symm.trans hA
      simp only at hA2
      have HL := Lib.hid hL
      have HW := Lib.hid hW
      have CL := Lib.hid (layout_any hW.rd.blk hr)
      obtain ⟨Av, cv, hv, hncv, hcmv⟩ := own_form' hW.row
      subst hv
      unfold maxLen at hcmv
      clear hW hL hA
      cases h62 : Lib.hasPrefix r2 [62] with
      | true =>
        rw [if_pos h62] at hA2
        have HE := Lib.hid hA2.symm
        have H62 := Lib.hid h62
        have htl := trim_len r2 [62]
        clear hA2 h62
        go_wp2_with fail
        refine CL.out.mono ?_
        intro en w3 ha
        obtain ⟨h1, h2, rfl⟩ := ha.ok HL.out
        have HW3 := Lib.hid (HW.out.next h1 h2)
        clear ha h1 h2 CL
        unfold bV
        have CT := Lib.hid (takes_any HW3.out.rd.blk [62])
        rw [H62.out] at CT
        go_wp2_with fail
        refine CT.out.mono ?_
        rintro e w4 ⟨rfl, h1, h2⟩
        have HW4 := Lib.hid (HW3.out.next h1 h2)
        clear h1 h2 CT
        go_wp2_with fail
        go_step3
        refine ⟨0, by omega, _, _, _, false, HW4.out, ⟨_, _, _, _, _, _, _, _, _, _, _, _, _, _, _, _, _, _, _, _, _, _, _, _, _, _, _, _, _, _, _, _, _, _, _, _, _, _, _, _, _, _, _, _, _, _, _, _, _, _, _, _, _, _, _, _, _, _, _, _, rfl⟩, by omega, hal, .inr ⟨rfl, rfl, HE.out⟩⟩
      | false =>
        have H62 := Lib.hid h62
        rw [if_neg (by rw [h62]; decide)] at hA2
        clear h62
        cases h47 : Lib.hasPrefix r2 [47, 62] with
        | true =>
          rw [if_pos h47] at hA2
          have HE := Lib.hid hA2.symm
          have H47 := Lib.hid h47
          have htl := trim_len r2 [47, 62]
          clear hA2 h47
          go_wp2_with fail
          refine CL.out.mono ?_
          intro en w3 ha
          obtain ⟨h1, h2, rfl⟩ := ha.ok HL.out
          have HW3 := Lib.hid (HW.out.next h1 h2)
          clear ha h1 h2 CL
          unfold bV
          have CT := Lib.hid (takes_any HW3.out.rd.blk [62])
          rw [H62.out] at CT
          go_wp2_with fail
          refine CT.out.mono ?_
          rintro e w4 ⟨rfl, h1, h2⟩
          rw [trim_no H62.out] at h2
          have HW4 := Lib.hid (HW3.out.next h1 h2)
          clear h1 h2 CT
          have CT := Lib.hid (takes_any HW4.out.rd.blk [47, 62])
          rw [H47.out] at CT
          go_wp2_with fail
          refine CT.out.mono ?_
          rintro e w5 ⟨rfl, h1, h2⟩
          have HW5 := Lib.hid (HW4.out.next h1 h2)
          clear h1 h2 CT
          have f3 := Blk.free HW5.out.rd.blk 3
          have c3 := Blk.cell HW5.out.rd.blk 3
          simp at c3
          have HW6 := Lib.hid HW5.out.set3
          go_wp2_with fail
          go_step3
          refine ⟨0, by omega, _, _, _, true, HW6.out, ⟨_, _, _, _, _, _, _, _, _, _, _, _, _, _, _, _, _, _, _, _, _, _, _, _, _, _, _, _, _, _, _, _, _, _, _, _, _, _, _, _, _, _, _, _, _, _, _, _, _, _, _, _, _, _, _, _, _, _, _, _, rfl⟩, by omega, hal, .inr ⟨rfl, rfl, HE.out⟩⟩
        | false =>
          have H47 := Lib.hid h47
          rw [if_neg (by rw [h47]; decide)] at hA2
          clear h47
          have PRE : True := trivial
          cases bl with
          | false =>
            have HE : Hid (resA = .error 100) := hA2.symm
            have HE2 : Hid (res = .error 100) := by show res = _; rw [HQ.out, HE.out]; rfl
            clear hA2
            go_wp2_with fail
            refine CL.out.mono ?_
            intro en w3 ha
            obtain ⟨h1, h2, rfl⟩ := ha.ok HL.out
            have HW3 := Lib.hid (HW.out.next h1 h2)
            clear ha h1 h2 CL
            unfold bV
            have CT := Lib.hid (takes_any HW3.out.rd.blk [62])
            rw [H62.out] at CT
            go_wp2_with fail
            refine CT.out.mono ?_
            rintro e w4 ⟨rfl, h1, h2⟩
            rw [trim_no H62.out] at h2
            have HW4 := Lib.hid (HW3.out.next h1 h2)
            clear h1 h2 CT
            have CT := Lib.hid (takes_any HW4.out.rd.blk [47, 62])
            rw [H47.out] at CT
            go_wp2_with fail
            refine CT.out.mono ?_
            rintro e w5 ⟨rfl, h1, h2⟩
            rw [trim_no H47.out] at h2
            have HW5 := Lib.hid (HW4.out.next h1 h2)
            clear h1 h2 CT
            go_wp2_with fail
            refine (must_no 100 _).mono ?_
            rintro e wm ⟨rfl, rfl⟩
            unfold gaveUp
            go_wp2_with fail
            exact ⟨rfl, Told.mkNo HW5.out.t HW5.out.rd HE2.out⟩
          | true =>
            rw [if_pos rfl] at hA2
            cases ha : attrR al r2 with
            | error e =>
              have HE : Hid (resA = .error e) := by show resA = _; rw [← hA2, ha]; rfl
              have HE2 : Hid (res = .error e) := by show res = _; rw [HQ.out, HE.out]; rfl
              have HA := Lib.hid ha
              clear hA2 ha
              go_wp2_with fail
              refine CL.out.mono ?_
              intro en w3 ha
              obtain ⟨h1, h2, rfl⟩ := ha.ok HL.out
              have HW3 := Lib.hid (HW.out.next h1 h2)
              clear ha h1 h2 CL
              unfold bV
              have CT := Lib.hid (takes_any HW3.out.rd.blk [62])
              rw [H62.out] at CT
              go_wp2_with fail
              refine CT.out.mono ?_
              rintro e w4 ⟨rfl, h1, h2⟩
              rw [trim_no H62.out] at h2
              have HW4 := Lib.hid (HW3.out.next h1 h2)
              clear h1 h2 CT
              have CT := Lib.hid (takes_any HW4.out.rd.blk [47, 62])
              rw [H47.out] at CT
              go_wp2_with fail
              refine CT.out.mono ?_
              rintro e w5 ⟨rfl, h1, h2⟩
              rw [trim_no H47.out] at h2
              have HW5 := Lib.hid (HW4.out.next h1 h2)
              clear h1 h2 CT
              have CA := Lib.hid (attr_any HW5.out.rd.blk (HEN.out w5 HW5.out.t) hBg (show r2.length ≤ 40000 by omega) al Av cv hncv (by unfold maxLen; exact hcmv) (fun w' ht => own_al (own_turned HW5.out.row ht (fun k hk hm => by simp at hm; subst hm; exact own_kind HW5.out.row HW5.out.rd.blk (by decide) hk))))
              go_wp2_with fail
              refine (must_yes 100 _).mono ?_
              rintro e wm ⟨rfl, rfl⟩
              go_wp2_with fail
              refine CA.out.mono ?_
              intro en w6 ha
              obtain ⟨h1, ⟨r', h2⟩, rfl⟩ := ha.no HA.out
              have HW6 := Lib.hid (HW5.out.next h1 h2)
              clear ha h1 h2 CA
              unfold gaveUp
              go_wp2_with fail
              exact ⟨rfl, Told.mkNo HW6.out.t HW6.out.rd HE2.out⟩
            | ok z =>
              obtain ⟨⟨a1, a2⟩, r3⟩ := z
              have hal2 := attrR_few ha
              have hr3 : r3.length < r2.length := attrR_len ha
              have HE : Hid (attrsR k (al ++ [(a1, a2)]) r3 = resA) := by show _ = resA; rw [← hA2, ha]; rfl
              have HA := Lib.hid ha
              clear hA2 ha
              go_wp2_with fail
              refine CL.out.mono ?_
              intro en w3 ha
              obtain ⟨h1, h2, rfl⟩ := ha.ok HL.out
              have HW3 := Lib.hid (HW.out.next h1 h2)
              clear ha h1 h2 CL
              unfold bV
              have CT := Lib.hid (takes_any HW3.out.rd.blk [62])
              rw [H62.out] at CT
              go_wp2_with fail
              refine CT.out.mono ?_
              rintro e w4 ⟨rfl, h1, h2⟩
              rw [trim_no H62.out] at h2
              have HW4 := Lib.hid (HW3.out.next h1 h2)
              clear h1 h2 CT
              have CT := Lib.hid (takes_any HW4.out.rd.blk [47, 62])
              rw [H47.out] at CT
              go_wp2_with fail
              refine CT.out.mono ?_
              rintro e w5 ⟨rfl, h1, h2⟩
              rw [trim_no H47.out] at h2
              have HW5 := Lib.hid (HW4.out.next h1 h2)
              clear h1 h2 CT
              have CA := Lib.hid (attr_any HW5.out.rd.blk (HEN.out w5 HW5.out.t) hBg (show r2.length ≤ 40000 by omega) al Av cv hncv (by unfold maxLen; exact hcmv) (fun w' ht => own_al (own_turned HW5.out.row ht (fun k hk hm => by simp at hm; subst hm; exact own_kind HW5.out.row HW5.out.rd.blk (by decide) hk))))
              go_wp2_with fail
              refine (must_yes 100 _).mono ?_
              rintro e wm ⟨rfl, rfl⟩
              go_wp2_with fail
              refine CA.out.mono ?_
              intro en w6 ha
              obtain ⟨h1, h2, rfl⟩ := ha.ok HA.out
              have HW6 := Lib.hid (HW5.out.next h1 h2)
              have HOWN := Lib.hid (HW6.out.row.alloc (.cells #[.string (mkS a1), .string (mkS a2)] 172))
              have hwsz : w.heap.size ≤ w6.heap.size := HW6.out.t.size
              have HPUT := Lib.hid (fun v' w' hg ho => HW6.out.put (a := (a1, a2)) (w1 := w6.alloc (.cells #[.string (mkS a1), .string (mkS a2)] 172)) (v' := v') (w' := w') rfl hg ho)
              have HCN := Lib.hid (cells_new w6 #[.string (mkS a1), .string (mkS a2)] 172)
              clear ha h1 h2 CA
              unfold aV
              go_wp2_with (at_builtin; refine wpList_append_own_at _ rfl (.tmp 42) (.tmp 46) 66 rfl w.heap.size 172 ia za 2 32 Tryz.underlying66 HIA.out hza hza2 hza3 hza1 (by decide) (.slice Av al.length cv) al.length (alL al) rfl HOWN.out ⟨w6.heap.size, 0, none⟩ 1 1 [.string (mkS a1), .string (mkS a2)] rfl rfl HCN.out (by intro u hu; simp at hu; rcases hu with rfl | rfl <;> rfl) (by unfold maxLen; omega) (by omega) (by simp; omega) ?_; intro v7 w7 hown7 hg7 hnil7 hat7; have HX := Lib.hid (HPUT.out v7 w7 hg7 hown7); clear hown7 hg7 hnil7 hat7)
              go_step3
              refine ⟨r3.length + 1, by omega, _, _, _, false, HX.out, ⟨_, _, _, _, _, _, _, _, _, _, _, _, _, _, _, _, _, _, _, _, _, _, _, _, _, _, _, _, _, _, _, _, _, _, _, _, _, _, _, _, _, _, _, _, _, _, _, _, _, _, _, _, _, _, _, _, _, _, _, _, rfl⟩, by omega, by simp; omega, .inl ⟨rfl, rfl, rfl, k, by omega, HE.out⟩⟩
    case p1 =>
      rintro n a w2 ⟨r, v, al, sh, hW, ⟨u1, u5, u6, u7, u8, u9, u10, u11, u12, u13, u14, u15, u16, u17, u18, u19, u20, u21, u22, u23, u24, u25, u26, u27, u28, u29, u30, u31, u32, u33, u34, u35, u36, u37, u38, u39, u40, u41, u42, u43, u44, u45, u46, u47, u48, u49, u50, u51, u52, u53, u54, u55, u56, u57, u58, u59, u60, u61, u62, u63, rfl⟩, hr, hal, hor⟩
      have hA : resA = .ok ((al, sh), r) := by
        rcases hor with ⟨h0, -⟩ | ⟨-, -, h3⟩
        · cases h0
        · exact h3
      clear hor
      have HE : Hid (res = .ok (⟨1, nm, al, []⟩, ⟨r, s.opn ++ [nm], true, sh⟩)) := by show res = _; rw [HQ.out, hA]; rfl
      have HW := Lib.hid hW
      obtain ⟨Av, cv, hv, hncv, hcmv⟩ := own_form' hW.row
      subst hv
      unfold maxLen at hcmv
      have c1 : w2.cell? ⟨g, 1, none⟩ = some (.slice A s.opn.length c) := Blk.cell hW.rd.blk 1
      have c2 : w2.cell? ⟨g, 2, none⟩ = some (.bool s.begun) := Blk.cell hW.rd.blk 2
      have f2 := Blk.free hW.rd.blk 2
      have x1 := hW.rd.set2
      have HOWN := Lib.hid (x1.row.alloc (.cells #[.string (mkS nm)] 9))
      have hbz : base ≤ (w2.setCell ⟨g, 2, none⟩ (.bool true)).heap.size := by have := hW.t.size; simp [World.setCell]; omega
      have HWH := Lib.hid (fun v7 w7 hg ho hat => hW.whole (nm := nm) (v7 := v7) (w7 := w7) hg ho hat)
      have HCN := Lib.hid (cell_one_new (w2.setCell ⟨g, 2, none⟩ (.bool true)) (.string (mkS nm)) 9)
      have d1 : (w2.setCell ⟨g, 2, none⟩ (.bool true)).cell? ⟨g, 1, none⟩ = some (.slice A s.opn.length c) := Blk.cell x1.blk 1
      clear hW hA x1
      go_upto_region 12 with fail
      generalize w2.setCell ⟨g, 2, none⟩ (.bool true) = W1 at *
      have hcm2 := HCM.out
      go_upto_region 13 with (at_builtin; refine wpList_append_own_at _ rfl (.tmp 55) (.tmp 57) 37 rfl base 9 is_ zs 1 16 Tryz.underlying37 HIS.out hzs hzs2 hzs3 hzs1 (by decide) (.slice A s.opn.length c) s.opn.length (strL s.opn) rfl HOWN.out ⟨W1.heap.size, 0, none⟩ 1 1 [.string (mkS nm)] rfl rfl HCN.out (by intro u hu; simp at hu; subst hu; rfl) (by unfold maxLen; omega) (by omega) (by simp; omega) ?_; intro v7 w7 hown7 hg7 hnil7 hat7; obtain ⟨A7, c7, hv7, hn7, hm7⟩ := own_form' hown7; have HX := Lib.hid (HWH.out v7 w7 hg7 hown7 hat7); subst hv7; have f71 := Blk.free HX.out.1 1; have e71 : w7.cell? ⟨g, 1, none⟩ = some (.slice A s.opn.length c) := Blk.cell HX.out.1 1; clear hown7 hg7 hnil7 hat7)
      obtain ⟨hb7, ht8, hx8, hf8, hp8, hA8⟩ := HX.out
      clear HX f71 e71 hb7
      generalize w7.setCell ⟨g, 1, none⟩ (.slice A7 (s.opn.length + 1) c7) = W8 at *
      have HB4 := Lib.hid (put4_blk (a := .int .i64 1) (b := .string (mkS nm)) (c := .slice Av al.length cv) (d := .string (mkS [])) hp8)
      have HV := Lib.hid (told_put (pc := ⟨1, nm, al, []⟩) (A := Av) (c := cv) (w' := put4 W8 p (.int .i64 1) (.string (mkS nm)) (.slice Av al.length cv) (.string (mkS []))) ht8 hx8 hf8 HE.out hp8 HW.out.new hncv (by unfold maxLen; exact hcmv) (hA8 Av cv rfl) put4_turned)
      have b0 := hp8.cell 0
      have b1 := hp8.cell 1
      have b2 := hp8.cell 2
      have b3 := hp8.cell 3
      have f0 := hp8.free 0
      have f1 := hp8.free 1
      have f2 := hp8.free 2
      have f3 := hp8.free 3
      simp at b0 b1 b2 b3
      clear ht8 hx8 hf8 hp8 hA8
      unfold pcV at HV
      unfold put4 at HV HB4
      go_wp2_with fail
      try simp only [jumpM]
      refine bodyPost_ret (v := .agg #[.int .i64 1, .string (mkS nm), .slice Av al.length cv, .string (mkS [])]) ?_ rfl HV.out
      refine (results_one rfl _ (ad := ⟨p, 0, none⟩) rfl).trans ?_
      exact pc_load HB4.out

end
end Go.Proofs.YtljldbdjkjllhaaGreatDoor

/- Whether a text is layout alone: strings.Trim. -/
namespace Go.Proofs.YtljldbdjkjllhaaGreatDoor
set_option linter.unusedSimpArgs false
set_option linter.unusedVariables false
open Go.RowKit

def layS : Bs := [9, 10, 13, 32]
theorem lay_has (c : UInt8) : layS.contains c = xLay c := by
  unfold layS xLay
  simp only [List.contains_cons, List.contains_nil, Bool.or_false, Bool.or_assoc]
def allLay (l : Bs) : Bool := l.all xLay
/-- A set of bytes in memory. -/
def SetAt (w : World) (b : Nat) : Prop := ∀ x : UInt8, w.cell? ⟨b, x.toNat, none⟩ = some (.bool (xLay x))
set_option maxHeartbeats 4000000 in
set_option maxRecDepth 1000000 in
theorem trimR_any (b : Nat) (w : World) (hs : SetAt w b) (l : Bs) (hl : l.length ≤ 200000) :
    Calls Tryz.prog 98 #[.string (mkS l), .pointer (some ⟨b, 0, none⟩)] w fun e w' => (∃ t : Bs, e = .returned (.string (mkS t)) ∧ t.length ≤ l.length ∧ ((t = [] ∧ allLay l = true) ∨ ∃ i c, t = i ++ [c] ∧ xLay c = false ∧ allLay l = false)) ∧ w = w' := by
  have HS := Lib.hid hs
  clear hs
  have HC := Lib.hid (fun x w hc => Tryz.asciiSet_contains b x (xLay x) w hc)
  go_enter Tryz.func98, Tryz.ntmps98
  go_wp2_with fail
  go_loop [0] (fun v => ∃ k : Nat, k ≤ l.length ∧ v = .string (mkS (l.take k)) ∧ Hid (allLay (l.drop k) = true)) (fun v => match v with | .string s => s.size | _ => 0)
  case atStart => exact ⟨l.length, Nat.le_refl _, by rw [List.take_length], by show allLay (l.drop l.length) = true; rw [List.drop_length]; rfl⟩
  case round =>
    obtain ⟨k, hk, rfl, hall⟩ := hrel
    have hz : (mkS (l.take k)).size = k := by rw [mkS_size, List.length_take]; omega
    cases k with
    | zero =>
      have HV : Hid (allLay l = true) := hall.out
      have h0 : ((mkS (l.take 0)).size : Int) = 0 := by rw [hz]; rfl
      go_wp2_with fail
      go_ret
      exact ⟨⟨[], rfl, Nat.zero_le _, .inl ⟨rfl, HV.out⟩⟩, rfl⟩
    | succ j =>
      have hj : j < l.length := by omega
      have hjz : j < (mkS (l.take (j + 1))).size := by omega
      obtain ⟨c, hc⟩ : ∃ c, c = l[j] := ⟨_, rfl⟩
      have hget : (mkS (l.take (j + 1)))[j]'hjz = c := by
        have h1 := byte_at hjz
        rw [mkS_list, List.getElem?_take, if_pos (by omega), List.getElem?_eq_getElem hj] at h1
        injection h1 with h1
        rw [hc]; exact h1.symm
      have hext : (mkS (l.take (j + 1))).extract 0 j = mkS (l.take j) := by rw [mkS_take, List.take_take, Nat.min_eq_left (by omega)]
      have htk : l.take (j + 1) = l.take j ++ [c] := by rw [List.take_add_one, List.getElem?_eq_getElem hj, hc]; rfl
      have hdr : l.drop j = c :: l.drop (j + 1) := by rw [hc]; exact List.drop_eq_getElem_cons hj
      have HN1 : Hid (xLay c = true → allLay (l.drop j) = true) := fun h => by have := hall.out; unfold allLay at this ⊢; rw [hdr, List.all_cons, h, this]; rfl
      have HN2 : Hid (xLay c = false → allLay l = false) := fun h => by
        unfold allLay; rw [← List.take_append_drop j l, List.all_append, hdr, List.all_cons, h]; simp
      have HTK := Lib.hid htk
      have HZJ : Hid ((mkS (l.take j)).size < (mkS (l.take (j + 1))).size) := by show (mkS _).size < _; rw [hz, mkS_size, List.length_take]; omega
      have CC := Lib.hid (HC.out c w (HS.out c))
      have hs1 : ((mkS (l.take (j + 1))).size : Int) - 1 = (j : Int) := by rw [hz]; omega
      have hs0 : (0 : Int) < ((mkS (l.take (j + 1))).size : Int) := by rw [hz]; omega
      have hz40 : (mkS (l.take (j + 1))).size ≤ 200000 := by rw [hz]; omega
      clear hdr htk hc hz hall hj
      generalize hSS : mkS (l.take (j + 1)) = S at *
      have HSS := Lib.hid hSS
      clear hSS
      generalize hR : mkS (l.take j) = R at *
      have HR := Lib.hid hR
      clear hR
      generalize hxc : xLay c = bb at *
      cases bb with
      | true =>
        clear hxc
        have HN := Lib.hid (HN1.out rfl)
        clear HN1 HN2
        go_wp2_with fail
        refine CC.out.mono ?_
        rintro e w1 ⟨rfl, rfl⟩
        go_wp2_with fail
        go_round
        case rel => exact ⟨j, by omega, by rw [HR.out], HN⟩
        case measure => exact HZJ.out
      | false =>
        have HN := Lib.hid (HN2.out rfl)
        have HXC := Lib.hid hxc
        clear HN1 HN2 hxc
        go_wp2_with fail
        refine CC.out.mono ?_
        rintro e w1 ⟨rfl, rfl⟩
        go_wp2_with fail
        go_ret
        exact ⟨⟨l.take (j + 1), (by first | (rw [HSS.out]; done) | (rw [HSS.out]; rfl)), by simp; omega, .inr ⟨l.take j, c, HTK.out, HXC.out, HN.out⟩⟩, rfl⟩
set_option maxHeartbeats 4000000 in
set_option maxRecDepth 1000000 in
theorem trimL_any (b : Nat) (w : World) (hs : SetAt w b) (l : Bs) (hl : l.length ≤ 200000) (h : l = [] ∨ ∃ i c, l = i ++ [c] ∧ xLay c = false) :
    Calls Tryz.prog 97 #[.string (mkS l), .pointer (some ⟨b, 0, none⟩)] w fun e w' => (∃ t : Bs, e = .returned (.string (mkS t)) ∧ (t = [] ↔ l = [])) ∧ w = w' := by
  have HS := Lib.hid hs
  clear hs
  have HC := Lib.hid (fun x w hc => Tryz.asciiSet_contains b x (xLay x) w hc)
  have HH := Lib.hid h
  clear h
  go_enter Tryz.func97, Tryz.ntmps97
  go_wp2_with fail
  go_loop [0] (fun v => ∃ m : Bs, m.length ≤ l.length ∧ v = .string (mkS m) ∧ Hid ((m = [] ↔ l = []) ∧ (m = [] ∨ ∃ i c, m = i ++ [c] ∧ xLay c = false))) (fun v => match v with | .string s => s.size | _ => 0)
  case atStart => exact ⟨l, Nat.le_refl _, rfl, Iff.rfl, HH.out⟩
  case round =>
    obtain ⟨m, hm, rfl, hall⟩ := hrel
    cases m with
    | nil =>
      have HV : Hid (l = []) := hall.out.1.1 rfl
      have h0 : ((mkS []).size : Int) = 0 := rfl
      generalize hSS : mkS [] = S at *
      have HSS := Lib.hid hSS
      clear hSS hall
      go_wp2_with fail
      go_ret
      exact ⟨⟨[], (by first | (rw [HSS.out]; done) | (rw [HSS.out]; rfl)), ⟨fun _ => HV.out, fun _ => rfl⟩⟩, rfl⟩
    | cons c r =>
      have hjz : 0 < (mkS (c :: r)).size := by rw [mkS_size]; simp
      have hget : (mkS (c :: r))[0]'hjz = c := rfl
      have hext : (mkS (c :: r)).extract 1 (mkS (c :: r)).size = mkS r := by rw [mkS_drop]; rfl
      have CC := Lib.hid (HC.out c w (HS.out c))
      have hs0 : (0 : Int) < ((mkS (c :: r)).size : Int) := by omega
      have hz40 : (mkS (c :: r)).size ≤ 200000 := by rw [mkS_size]; omega
      have HZJ : Hid ((mkS r).size < (mkS (c :: r)).size) := by show (mkS r).size < _; rw [mkS_size, mkS_size]; simp
      have HRN : Hid (xLay c = true → (r = [] ↔ l = []) ∧ (r = [] ∨ ∃ i c, r = i ++ [c] ∧ xLay c = false)) := fun hc => by
        obtain ⟨h1, h2⟩ := hall.out
        rcases h2 with h2 | ⟨i, d, hid, hd⟩
        · cases h2
        · cases i with
          | nil =>
            simp at hid
            rw [hid.1] at hc
            rw [hc] at hd; cases hd
          | cons x i =>
            have hr : r = i ++ [d] := by simpa using (List.cons.inj hid).2
            refine ⟨⟨fun h => by rw [h] at hr; simp at hr, fun h => absurd (h1.2 h) (by simp)⟩, .inr ⟨i, d, hr, hd⟩⟩
      have HQ := Lib.hid hall.out.1
      have hrl : r.length ≤ l.length := by simp at hm; omega
      clear hall hm
      generalize hSS : mkS (c :: r) = S at *
      generalize hRR : mkS r = R at *
      have HSS := Lib.hid hSS
      have HR := Lib.hid hRR
      clear hSS hRR
      generalize xLay c = bb at *
      cases bb with
      | true =>
        have HN := Lib.hid (HRN.out rfl)
        clear HRN
        go_wp2_with fail
        refine CC.out.mono ?_
        rintro e w1 ⟨rfl, rfl⟩
        go_wp2_with fail
        go_round
        case rel => exact ⟨r, hrl, by rw [HR.out], HN⟩
        case measure => exact HZJ.out
      | false =>
        clear HRN
        go_wp2_with fail
        refine CC.out.mono ?_
        rintro e w1 ⟨rfl, rfl⟩
        go_wp2_with fail
        go_ret
        exact ⟨⟨c :: r, (by first | (rw [HSS.out]; done) | (rw [HSS.out]; rfl)), HQ.out⟩, rfl⟩
set_option maxHeartbeats 8000000 in
set_option maxRecDepth 1000000 in
theorem trim_any (l : Bs) (hl : l.length ≤ 200000) (w : World) :
    Calls Tryz.prog 54 #[.string (mkS l), .string (mkS layS)] w fun e w' => (∃ t : Bs, e = .returned (.string (mkS t)) ∧ (t = [] ↔ allLay l = true)) ∧ Below w.heap.size w w' := by
  have CM := Lib.hid (fun w => Tryz.strings_makeASCIISet zeroSet (mkS layS) w (by decide) (fun j b hb => by
    have h : ∀ c ∈ layS, c.toNat < 128 := by decide
    exact h b (List.mem_of_getElem? hb)))
  obtain ⟨CS, hCS⟩ : ∃ CS, CS = Lib.setCells layS := ⟨_, rfl⟩
  have S1 := Lib.hid (show CS.size = 256 from hCS ▸ Lib.setCells_size _)
  have S2 := Lib.hid (show CS.all (·.oneCell') = true from hCS ▸ Lib.setCells_one _)
  have S3 : Hid (∀ x : UInt8, CS[x.toNat]? = some (.bool (xLay x))) := fun x => by
    rw [hCS, Lib.setCells_at, lay_has]
  rw [mkS_list, ← hCS] at CM
  clear hCS
  have hsc : (storeCells ⟨w.heap.size + 1, 0, none⟩ CS.toList 0).run Tryz.prog ((w.alloc (.cells CS 147)).alloc (.cells (Array.replicate 256 (.bool false)) 147)) = .ok () ((w.alloc (.cells CS 147)).alloc (.cells CS 147)) := by
    have := run_storeCells_new (P := Tryz.prog) (w.alloc (.cells CS 147)) 147 (Array.replicate 256 (.bool false)) CS (by rw [S1.out]; kernel_rfl) (by rw [S1.out, Array.size_replicate]) S2.out
    simpa using this
  have hlay : (mkS layS).toList.isEmpty = false := by rw [toList_cons (by decide)]
  have hone : (((mkS layS).size : Int) == 1) = false := by decide
  have hzs := zeroSet
  cases hl0 : l with
  | nil =>
    have hemp : (mkS ([] : Bs)).toList.isEmpty = true := by rw [isEmpty_mkS]; rfl
    generalize hSS : mkS ([] : Bs) = S at *
    have HSS := Lib.hid hSS
    clear hSS hl0 hl
    generalize mkS layS = LS at *
    go_enter Tryz.func54, Tryz.ntmps54
    go_wp2_with fail
    go_ret
    exact ⟨⟨[], (by first | (rw [HSS.out]; done) | (rw [HSS.out]; rfl)), ⟨fun _ => rfl, fun _ => rfl⟩⟩, Below.refl _ _⟩
  | cons c r =>
    rw [← hl0]
    have hemp : (mkS l).toList.isEmpty = false := by rw [isEmpty_mkS, hl0]; rfl
    clear hl0 c r
    have CR := Lib.hid (fun b w hs => trimR_any b w hs l hl)
    generalize mkS l = S at *
    generalize mkS layS = LS at *
    go_enter Tryz.func54, Tryz.ntmps54
    go_wp2_with (go_at_call 96; refine (CM.out _).mono ?_; rintro e w' ⟨rfl, hw⟩; rw [hw])
    have HB : Hid (Below w.heap.size w ((w.alloc (.cells CS 147)).alloc (.cells CS 147))) := ((Below.refl _ _).alloc (Nat.le_refl _) _).alloc (by simp) _
    have HC : SetAt ((w.alloc (.cells CS 147)).alloc (.cells CS 147)) (w.heap.size + 1) := fun x => by
      rw [(Blk.new' (w := w.alloc (.cells CS 147)) (g := w.heap.size + 1) (t := 147) (cs := CS) (by simp)).cell]
      exact S3.out x
    have CR1 := Lib.hid (CR.out _ _ HC)
    have HCC := Lib.hid HC
    clear hsc CM hzs HC CR
    generalize ((w.alloc (.cells CS 147)).alloc (.cells CS 147)) = w1 at *
    go_wp2_with fail
    refine CR1.out.mono ?_
    rintro e w2 ⟨⟨t, rfl, htl, ht⟩, rfl⟩
    have CL1 := Lib.hid (trimL_any (w.heap.size + 1) w1 HCC.out t (Nat.le_trans htl hl) (ht.elim (fun h => .inl h.1) (fun ⟨i, c, h1, h2, _⟩ => .inr ⟨i, c, h1, h2⟩)))
    have HT : Hid (t = [] ↔ allLay l = true) := by
      rcases ht with ⟨h1, h2⟩ | ⟨i, c, h1, h2, h3⟩
      · exact ⟨fun _ => h2, fun _ => h1⟩
      · exact ⟨fun h => by rw [h1] at h; simp at h, fun h => by rw [h3] at h; cases h⟩
    clear ht CR1
    go_wp2_with fail
    refine CL1.out.mono ?_
    rintro e w2 ⟨⟨u, rfl, hu⟩, rfl⟩
    have HU := Lib.hid hu
    clear hu CL1
    go_wp2_with fail
    go_ret
    exact ⟨⟨u, rfl, HU.out.trans HT.out⟩, HB.out⟩
end Go.Proofs.YtljldbdjkjllhaaGreatDoor
