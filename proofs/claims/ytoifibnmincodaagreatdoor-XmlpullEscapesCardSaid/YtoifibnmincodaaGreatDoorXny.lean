/- Next. -/
import Derived.Test.YtoifibnmincodaaGreatDoorXnx
import Derived.StillTailTactics
namespace Go.Proofs.YtoifibnmincodaaGreatDoor
set_option linter.unusedSimpArgs false
set_option linter.unusedVariables false
open Go.RowKit

section
variable {w w' w0 : World} {B base g : Nat} {vo : Value} {s : XS} {wr : Int}
def NextPost (w : World) (base g : Nat) (vo : Value) (res : Except Int (Pc × XS)) (e : Ending) (w' : World) : Prop :=
  Turned (fOf g vo) w w' ∧ ∃ vo' s', Fresh w (fOf g vo) (fOf g vo') ∧
    ((∃ pc A c, res = .ok (pc, s') ∧ e = .returned (.tuple #[pcV pc A c, .int .i64 0]) ∧ XRd w' base g vo' s' 0 ∧ pc.attrs.length ≤ c ∧ c ≤ maxLen ∧ AlK w' A pc.attrs) ∨
     (∃ k, res = .error k ∧ e = .returned (.tuple #[.agg zeroP, .int .i64 k]) ∧ XRd w' base g vo' s' k))
theorem results_ct {fn : Func} {t u : Tmp} {e : TypeId} (h : fn.results = #[.cell t e, .tmp u]) (tmps : Array Value) {P : Program} {w : World} {ad : Addr} (hp : tmps[t]?.getD undef = .pointer (some ad)) {v : Value} (hv : (loadVar e ad).run P w = .ok v w) :
    (results fn tmps).run P w = .ok (.tuple #[v, tmps.getD u undef]) w := by
  simp [results, h, hp, asAddr, hv]
theorem enter_clos : ∀ args w, (callFunc 26 args).run Tryz.prog w = .ok (.enter 26 args) w := enters_of Tryz.func26 (by kernel_rfl) rfl
def NW (w : World) (g : Nat) : World := ((w.alloc (.cells #[.pointer (some ⟨g, 0, none⟩)] 41)).alloc (.cells #[.int .i64 0, .string ⟨#[]⟩, .slice none 0 0, .string ⟨#[]⟩] 32)).alloc (.cells #[.int .i64 0, .string ⟨#[]⟩, .slice none 0 0, .string ⟨#[]⟩] 32)
set_option maxHeartbeats 8000000 in
set_option maxRecDepth 1000000 in
theorem Next_live (h : XRd w base g vo s 0) (hE : XEnv B w) (hBb : B ≤ base) (ho : XOk s) :
    Calls Tryz.prog 16 #[.pointer (some ⟨g, 0, none⟩)] w (NextPost w base g vo (nextR s)) := by
  have hz := fOf_lt h
  obtain ⟨W, hW⟩ : ∃ W, W = NW w g := ⟨_, rfl⟩
  have T0 : Turned [] w W := by subst hW; exact (((Turned.refl _ _).alloc _).alloc _).alloc _
  have K1 : Blk W w.heap.size 41 #[.pointer (some ⟨g, 0, none⟩)] := by subst hW; exact ((Blk.new _ _ _).alloc _).alloc _
  have K2 : Blk W (w.heap.size + 1) 32 zeroP := by subst hW; exact (Blk.new' (by simp)).alloc _
  have K3 : Blk W (w.heap.size + 2) 32 zeroP := by subst hW; exact Blk.new' (by simp)
  have hWz : W.heap.size = w.heap.size + 3 := by subst hW; simp [NW]
  have X0 := h.turned T0 (fun k hk => by cases hk)
  have E0 := hE.turned T0 (fun k hk => by cases hk)
  unfold NW at hW
  obtain ⟨res, hres⟩ : ∃ res, res = nextR s := ⟨_, rfl⟩
  rw [← hres]
  have HRES := Lib.hid hres
  clear hres
  go_enter Tryz.func16, Tryz.ntmps16
  go_upto_region 4 with fail
  rw [← hW]
  clear hW
  have c1 : W.cell? ⟨w.heap.size, 0, none⟩ = some (.pointer (some ⟨g, 0, none⟩)) := K1.cell 0
  have c4 : W.cell? ⟨g, 4, none⟩ = some (.int .i64 0) := Blk.cell X0.blk 4
  have hzg := hz g (g_mem _ _)
  have hn1 : w.heap.size ≠ g := by omega
  have hn2 : w.heap.size + 1 ≠ g := by omega
  have hn3 : w.heap.size + 2 ≠ g := by omega
  obtain ⟨WA, hWA⟩ : ∃ WA, WA = W.drew.alloc (.cells #[.int .i64 0] 24) := ⟨_, rfl⟩
  have TA : Turned [] W WA := by subst hWA; exact (Turned.refl _ _).drew.alloc _
  have HCL : Hid (Calls Tryz.prog 26 #[.pointer (some ⟨w.heap.size, 0, none⟩), .pointer (some ⟨w.heap.size + 2, 0, none⟩)] WA (Done ((w.heap.size + 2) :: fOf g vo) WA (NxQ WA base g (w.heap.size + 2) vo s 0) (NxP WA base g (w.heap.size + 2) vo s 0))) :=
    clos_any (X0.turned TA (fun k hk => by cases hk)) (E0.turned TA (fun k hk => by cases hk)) hBb ho (K1.turned TA (fun hk => by cases hk)) (K3.turned TA (fun hk => by cases hk))
  have hWAz : WA.heap.size = w.heap.size + 4 := by subst hWA; show (W.heap.push _).size = _; simp; exact hWz
  have HWA := Lib.hid hWA
  have CC : Hid (Calls Tryz.prog 25 #[.func (.func 26) #[] #[.pointer (some ⟨w.heap.size, 0, none⟩), .pointer (some ⟨w.heap.size + 2, 0, none⟩)]] W.drew fun e w' => ∃ w1, Turned ((w.heap.size + 2) :: fOf g vo) WA w1 ∧ Turned [w.heap.size + 3] w1 w' ∧ ((e = .returned (.int .i64 0) ∧ NxQ WA base g (w.heap.size + 2) vo s 0 w1) ∨ ∃ n, e = .returned (.int .i64 n) ∧ NxP WA base g (w.heap.size + 2) vo s 0 n w1)) := by
    have h1 := caught_any 26 #[.pointer (some ⟨w.heap.size, 0, none⟩), .pointer (some ⟨w.heap.size + 2, 0, none⟩)] enter_clos ((w.heap.size + 2) :: fOf g vo) (NxQ WA base g (w.heap.size + 2) vo s 0) (NxP WA base g (w.heap.size + 2) vo s 0) W.drew (fun k hk => by
      show k < W.heap.size
      rcases List.mem_cons.1 hk with rfl | hk
      · omega
      · have := hz k hk; omega) (by rw [← hWA]; exact HCL.out)
    rw [← hWA] at h1
    have e : W.drew.heap.size = w.heap.size + 3 := hWz
    rw [e] at h1
    exact h1
  have hmf : ∀ (fn : Fn) (first cap : Array Value) (w : World), (Instr.makeFunc fn first cap).run Tryz.prog w = .ok (.func fn first cap) w := fun _ _ _ _ => rfl
  have K4 : Blk WA (w.heap.size + 3) 24 #[.int .i64 0] := by subst hWA; exact Blk.new' hWz
  have hfr : ∀ k ∈ [w.heap.size, w.heap.size + 1, w.heap.size + 3], k ∉ (w.heap.size + 2) :: fOf g vo := fun k hk hm => by
    simp at hk
    rcases List.mem_cons.1 hm with h1 | h1
    · omega
    · have := hz k h1; omega
  have TWA : Turned (fOf g vo) w WA := (T0.more (F' := fOf g vo) (fun k hk => by cases hk)).trans TA (fun k hk => by cases hk)
  have K1A := K1.turned TA (fun hk => by cases hk)
  have K2A := K2.turned TA (fun hk => by cases hk)
  clear h hE hBb ho hWA HCL X0 E0 K1 K2 K3 T0 TA HWA
  go_upto_region 5 with fail
  refine wp_region_S (fun _ w' => w'.cell? ⟨w.heap.size, 0, none⟩ = some (.pointer (some ⟨g, 0, none⟩))) (by kernel_rfl) c1 (fun hS => ?_)
  refine wpAnyS_take (i := 0) (fun w' => w'.cell? ⟨w.heap.size, 0, none⟩ = some (.pointer (some ⟨g, 0, none⟩))) (v := .pointer (some ⟨g, 0, none⟩)) rfl (by kernel_rfl) (by kernel_rfl) (by kernel_rfl) (fun _ _ _ h => h) (fun l w hw hS => hS) (fun _ _ => Iff.rfl) (by kernel_rfl) hS (fun w' hSw => ?_) (by kernel_rfl) (fun hS => ?_)
  · go_simp
  try simp only [List.getElem_toArray, List.getElem_cons_zero, List.getElem_cons_succ, Act.put, List.setIfInBounds_toArray, List.set_cons_zero, List.set_cons_succ]
  refine wpAnyS_take (i := 1) (fun w' => w'.cell? ⟨w.heap.size, 0, none⟩ = some (.pointer (some ⟨g, 0, none⟩))) (v := .func (.func 26) #[] #[.pointer (some ⟨w.heap.size, 0, none⟩), .pointer (some ⟨w.heap.size + 2, 0, none⟩)]) rfl (by kernel_rfl) (by kernel_rfl) (by kernel_rfl) (fun _ _ _ h => h) (fun l w hw hS => hS) (fun _ _ => Iff.rfl) (by kernel_rfl) hS (fun w' hSw => ?_) (by kernel_rfl) (fun hS => ?_)
  · go_simp
  try simp only [List.getElem_toArray, List.getElem_cons_zero, List.getElem_cons_succ, Act.put, List.setIfInBounds_toArray, List.set_cons_zero, List.set_cons_succ]
  refine wpAnyS_one (i := 2) (by kernel_rfl) rfl (fun K7 hK7 => ?_)
  go_simp
  refine CC.out.mono ?_
  rintro e w4 ⟨w1, ht1, ht2, ⟨rfl, vo', s', pc, A, c, hr, hx, hf, hb, hl, hm, hA⟩ | ⟨n, rfl, vo', s', hr, hx, hf, hb⟩⟩
  all_goals
    have K41 := K4.turned ht1 (hfr _ (by simp))
    have J1 := (K1A.turned ht1 (hfr _ (by simp))).turned ht2 (by simp)
    have J2 := (K2A.turned ht1 (hfr _ (by simp))).turned ht2 (by simp)
    have J3 := hb.turned ht2 (by simp)
    have X4 := hx.turned ht2 (fun k hk hm => by simp at hk; subst hk; exact hx.not_kind hm (by decide) (by decide) K41)
    have T4 : Turned (fOf g vo) w w4 := (TWA.trans ht1 (fun k hk => by
      rcases List.mem_cons.1 hk with rfl | hk
      · exact .inr (by omega)
      · exact .inl hk)).new_ ht2 (by omega)
    have HFR : Hid (Fresh w (fOf g vo) (fOf g vo')) := fun k hk => by
      rcases hf k hk with h | h
      · exact .inl h
      · exact .inr (by omega)
  · have hA4 := hA.turned ht2 (fun k hk cs hb' => by simp at hk; subst hk; exact Blk.kind hb' K41 (by decide) rfl)
    have HE : Hid (res = .ok (pc, s')) := HRES.out.trans hr
    clear ht1 ht2 hf hb hx hA hr CC K41
    have e1 : w4.cell? ⟨w.heap.size, 0, none⟩ = some (.pointer (some ⟨g, 0, none⟩)) := J1.cell 0
    refine hK7.out _ _ e1 (fun hS => ?_)
    clear hK7 K7
    try simp only [List.getElem_toArray, List.getElem_cons_zero, List.getElem_cons_succ, Act.put, List.setIfInBounds_toArray, List.set_cons_zero, List.set_cons_succ]
    refine wpAnyS_one (i := 3) (by kernel_rfl) rfl (fun K7 hK7 => ?_)
    go_simp
    refine hK7.out _ _ e1 (fun hS => ?_)
    clear hK7 K7
    try simp only [List.getElem_toArray, List.getElem_cons_zero, List.getElem_cons_succ, Act.put, List.setIfInBounds_toArray, List.set_cons_zero, List.set_cons_succ]
    refine wpAnyS_one (i := 4) (by kernel_rfl) rfl (fun K7 hK7 => ?_)
    go_simp
    refine hK7.out _ _ e1 (fun hS => ?_)
    clear hK7 K7
    try simp only [List.getElem_toArray, List.getElem_cons_zero, List.getElem_cons_succ, Act.put, List.setIfInBounds_toArray, List.set_cons_zero, List.set_cons_succ]
    have f4 := Blk.free X4.blk 4
    have e4 : w4.cell? ⟨g, 4, none⟩ = some (.int .i64 0) := Blk.cell X4.blk 4
    have L1 := J1.far (p := ⟨g, 4, none⟩) (fun e => hn1 e) (.int .i64 0)
    have L2 := J2.far (p := ⟨g, 4, none⟩) (fun e => hn2 e) (.int .i64 0)
    have L3 := J3.far (p := ⟨g, 4, none⟩) (fun e => hn3 e) (.int .i64 0)
    have X5 := X4.set4 0
    have TG : Turned [g] w4 (w4.setCell ⟨g, 4, none⟩ (.int .i64 0)) := (Turned.refl [g] w4).setCell (p := ⟨g, 4, none⟩) (.inl (by simp)) (.int .i64 0)
    have T5 := T4.setCell (p := ⟨g, 4, none⟩) (.inl (g_mem g vo)) (.int .i64 0)
    have A5 := hA4.turned TG (fun k hk cs => by simp at hk; subst hk; exact X4.not_kind (g_mem _ _) (by decide) (by decide))
    generalize hW5 : w4.setCell ⟨g, 4, none⟩ (.int .i64 0) = w5 at *
    have l1 : w5.cell? ⟨w.heap.size, 0, none⟩ = some (.pointer (some ⟨g, 0, none⟩)) := L1.cell 0
    refine wpAnyS_one (i := 5) (by kernel_rfl) rfl (fun K7 hK7 => ?_)
    go_simp
    try rw [hW5]
    refine hK7.out _ _ l1 (fun hS => ?_)
    clear hK7 K7
    try simp only [List.getElem_toArray, List.getElem_cons_zero, List.getElem_cons_succ, Act.put, List.setIfInBounds_toArray, List.set_cons_zero, List.set_cons_succ]
    refine wpAnyS_done (by kernel_rfl) ?_ _
    clear hS hW5 f4 e4 e1 T4 X4 J1 J2 J3 TG
    have l30 : w5.cell? ⟨w.heap.size + 2, 0, none⟩ = some (.int .i64 pc.kind) := L3.cell 0
    have l31 : w5.cell? ⟨w.heap.size + 2, 1, none⟩ = some (.string (mkS pc.name)) := L3.cell 1
    have l32 : w5.cell? ⟨w.heap.size + 2, 2, none⟩ = some (.slice A pc.attrs.length c) := L3.cell 2
    have l33 : w5.cell? ⟨w.heap.size + 2, 3, none⟩ = some (.string (mkS pc.text)) := L3.cell 3
    have l5 : w5.cell? ⟨g, 4, none⟩ = some (.int .i64 0) := Blk.cell X5.blk 4
    have l20 := L2.cell 0
    have l21 := L2.cell 1
    have l22 := L2.cell 2
    have l23 := L2.cell 3
    have f20 := L2.free 0
    have f21 := L2.free 1
    have f22 := L2.free 2
    have f23 := L2.free 3
    unfold zeroP at l20 l21 l22 l23
    simp at l20 l21 l22 l23
    have HB2 := Lib.hid (put4_blk (a := .int .i64 pc.kind) (b := .string (mkS pc.name)) (c := .slice A pc.attrs.length c) (d := .string (mkS pc.text)) L2)
    have HT2 : Turned [w.heap.size + 1] w5 (put4 w5 (w.heap.size + 1) (.int .i64 pc.kind) (.string (mkS pc.name)) (.slice A pc.attrs.length c) (.string (mkS pc.text))) := put4_turned
    have X6 := X5.turned HT2 (fun k hk hm => by simp at hk; subst hk; exact X5.not_kind hm (by decide) (by decide) L2)
    have T6 := T5.new_ HT2 (by omega)
    have A6 := A5.turned HT2 (fun k hk cs hb => by simp at hk; subst hk; exact Blk.kind hb L2 (by decide) rfl)
    have m1 : (put4 w5 (w.heap.size + 1) (.int .i64 pc.kind) (.string (mkS pc.name)) (.slice A pc.attrs.length c) (.string (mkS pc.text))).cell? ⟨w.heap.size, 0, none⟩ = some (.pointer (some ⟨g, 0, none⟩)) := (L1.turned HT2 (by simp)).cell 0
    have m3 := L3.turned HT2 (by simp)
    have m30 : (put4 w5 (w.heap.size + 1) (.int .i64 pc.kind) (.string (mkS pc.name)) (.slice A pc.attrs.length c) (.string (mkS pc.text))).cell? ⟨w.heap.size + 2, 0, none⟩ = some (.int .i64 pc.kind) := m3.cell 0
    have m31 : (put4 w5 (w.heap.size + 1) (.int .i64 pc.kind) (.string (mkS pc.name)) (.slice A pc.attrs.length c) (.string (mkS pc.text))).cell? ⟨w.heap.size + 2, 1, none⟩ = some (.string (mkS pc.name)) := m3.cell 1
    have m32 : (put4 w5 (w.heap.size + 1) (.int .i64 pc.kind) (.string (mkS pc.name)) (.slice A pc.attrs.length c) (.string (mkS pc.text))).cell? ⟨w.heap.size + 2, 2, none⟩ = some (.slice A pc.attrs.length c) := m3.cell 2
    have m33 : (put4 w5 (w.heap.size + 1) (.int .i64 pc.kind) (.string (mkS pc.name)) (.slice A pc.attrs.length c) (.string (mkS pc.text))).cell? ⟨w.heap.size + 2, 3, none⟩ = some (.string (mkS pc.text)) := m3.cell 3
    have m5 : (put4 w5 (w.heap.size + 1) (.int .i64 pc.kind) (.string (mkS pc.name)) (.slice A pc.attrs.length c) (.string (mkS pc.text))).cell? ⟨g, 4, none⟩ = some (.int .i64 0) := Blk.cell X6.blk 4
    have HM := Lib.hid (And.intro m1 (And.intro m5 (And.intro m30 (And.intro m31 (And.intro m32 m33)))))
    have HF : Hid (NextPost w base g vo res (.returned (.tuple #[.agg #[.int .i64 pc.kind, .string (mkS pc.name), .slice A pc.attrs.length c, .string (mkS pc.text)], .int .i64 0])) ((put4 w5 (w.heap.size + 1) (.int .i64 pc.kind) (.string (mkS pc.name)) (.slice A pc.attrs.length c) (.string (mkS pc.text))).drew)) := ⟨T6.drew, vo', s', HFR.out, .inl ⟨pc, A, c, HE.out, rfl, X6.drew, hl, hm, A6⟩⟩
    clear A6 A5
    clear m1 m3 m30 m31 m32 m33 m5 HT2 X6 T6 X5 T5 L1 L2 L3 c1
    go_upto_region 6 with fail
    refine wp_region_S (fun _ w' => w'.cell? ⟨w.heap.size, 0, none⟩ = some (.pointer (some ⟨g, 0, none⟩)) ∧ w'.cell? ⟨g, 4, none⟩ = some (.int .i64 0) ∧ w'.cell? ⟨w.heap.size + 2, 0, none⟩ = some (.int .i64 pc.kind) ∧ w'.cell? ⟨w.heap.size + 2, 1, none⟩ = some (.string (mkS pc.name)) ∧ w'.cell? ⟨w.heap.size + 2, 2, none⟩ = some (.slice A pc.attrs.length c) ∧ w'.cell? ⟨w.heap.size + 2, 3, none⟩ = some (.string (mkS pc.text))) (by kernel_rfl) ⟨l1, l5, l30, l31, l32, l33⟩ (fun hS => ?_)
    refine wpAnyS_take (i := 0) (fun w' => w'.cell? ⟨w.heap.size, 0, none⟩ = some (.pointer (some ⟨g, 0, none⟩)) ∧ w'.cell? ⟨g, 4, none⟩ = some (.int .i64 0) ∧ w'.cell? ⟨w.heap.size + 2, 0, none⟩ = some (.int .i64 pc.kind) ∧ w'.cell? ⟨w.heap.size + 2, 1, none⟩ = some (.string (mkS pc.name)) ∧ w'.cell? ⟨w.heap.size + 2, 2, none⟩ = some (.slice A pc.attrs.length c) ∧ w'.cell? ⟨w.heap.size + 2, 3, none⟩ = some (.string (mkS pc.text))) (v := .agg #[.int .i64 pc.kind, .string (mkS pc.name), .slice A pc.attrs.length c, .string (mkS pc.text)]) rfl (by kernel_rfl) (by kernel_rfl) (by kernel_rfl) (fun _ _ _ h => h) (fun l w hw hS => hS) (fun _ _ => Iff.rfl) (by kernel_rfl) hS (fun w' hSw => ?_) (by kernel_rfl) (fun hS => ?_)
    · obtain ⟨s1, s2, s3, s4, s5, s6⟩ := hSw
      go_simp
    try simp only [List.getElem_toArray, List.getElem_cons_zero, List.getElem_cons_succ, Act.put, List.setIfInBounds_toArray, List.set_cons_zero, List.set_cons_succ]
    refine wpAnyS_take (i := 1) (fun w' => w'.cell? ⟨w.heap.size, 0, none⟩ = some (.pointer (some ⟨g, 0, none⟩)) ∧ w'.cell? ⟨g, 4, none⟩ = some (.int .i64 0) ∧ w'.cell? ⟨w.heap.size + 2, 0, none⟩ = some (.int .i64 pc.kind) ∧ w'.cell? ⟨w.heap.size + 2, 1, none⟩ = some (.string (mkS pc.name)) ∧ w'.cell? ⟨w.heap.size + 2, 2, none⟩ = some (.slice A pc.attrs.length c) ∧ w'.cell? ⟨w.heap.size + 2, 3, none⟩ = some (.string (mkS pc.text))) (v := .pointer (some ⟨g, 0, none⟩)) rfl (by kernel_rfl) (by kernel_rfl) (by kernel_rfl) (fun _ _ _ h => h) (fun l w hw hS => hS) (fun _ _ => Iff.rfl) (by kernel_rfl) hS (fun w' hSw => ?_) (by kernel_rfl) (fun hS => ?_)
    · obtain ⟨s1, s2, s3, s4, s5, s6⟩ := hSw
      go_simp
    try simp only [List.getElem_toArray, List.getElem_cons_zero, List.getElem_cons_succ, Act.put, List.setIfInBounds_toArray, List.set_cons_zero, List.set_cons_succ]
    refine wpAnyS_take (i := 2) (fun w' => w'.cell? ⟨w.heap.size, 0, none⟩ = some (.pointer (some ⟨g, 0, none⟩)) ∧ w'.cell? ⟨g, 4, none⟩ = some (.int .i64 0) ∧ w'.cell? ⟨w.heap.size + 2, 0, none⟩ = some (.int .i64 pc.kind) ∧ w'.cell? ⟨w.heap.size + 2, 1, none⟩ = some (.string (mkS pc.name)) ∧ w'.cell? ⟨w.heap.size + 2, 2, none⟩ = some (.slice A pc.attrs.length c) ∧ w'.cell? ⟨w.heap.size + 2, 3, none⟩ = some (.string (mkS pc.text))) (v := .pointer (some ⟨g, 0, none⟩)) rfl (by kernel_rfl) (by kernel_rfl) (by kernel_rfl) (fun _ _ _ h => h) (fun l w hw hS => hS) (fun _ _ => Iff.rfl) (by kernel_rfl) hS (fun w' hSw => ?_) (by kernel_rfl) (fun hS => ?_)
    · obtain ⟨s1, s2, s3, s4, s5, s6⟩ := hSw
      go_simp
    try simp only [List.getElem_toArray, List.getElem_cons_zero, List.getElem_cons_succ, Act.put, List.setIfInBounds_toArray, List.set_cons_zero, List.set_cons_succ]
    refine wpAnyS_take (i := 3) (fun w' => w'.cell? ⟨w.heap.size, 0, none⟩ = some (.pointer (some ⟨g, 0, none⟩)) ∧ w'.cell? ⟨g, 4, none⟩ = some (.int .i64 0) ∧ w'.cell? ⟨w.heap.size + 2, 0, none⟩ = some (.int .i64 pc.kind) ∧ w'.cell? ⟨w.heap.size + 2, 1, none⟩ = some (.string (mkS pc.name)) ∧ w'.cell? ⟨w.heap.size + 2, 2, none⟩ = some (.slice A pc.attrs.length c) ∧ w'.cell? ⟨w.heap.size + 2, 3, none⟩ = some (.string (mkS pc.text))) (v := .pointer (some ⟨g, 4, none⟩)) rfl (by kernel_rfl) (by kernel_rfl) (by kernel_rfl) (fun _ _ _ h => h) (fun l w hw hS => hS) (fun _ _ => Iff.rfl) (by kernel_rfl) hS (fun w' hSw => ?_) (by kernel_rfl) (fun hS => ?_)
    · obtain ⟨s1, s2, s3, s4, s5, s6⟩ := hSw
      go_simp
    try simp only [List.getElem_toArray, List.getElem_cons_zero, List.getElem_cons_succ, Act.put, List.setIfInBounds_toArray, List.set_cons_zero, List.set_cons_succ]
    refine wpAnyS_take (i := 4) (fun w' => w'.cell? ⟨w.heap.size, 0, none⟩ = some (.pointer (some ⟨g, 0, none⟩)) ∧ w'.cell? ⟨g, 4, none⟩ = some (.int .i64 0) ∧ w'.cell? ⟨w.heap.size + 2, 0, none⟩ = some (.int .i64 pc.kind) ∧ w'.cell? ⟨w.heap.size + 2, 1, none⟩ = some (.string (mkS pc.name)) ∧ w'.cell? ⟨w.heap.size + 2, 2, none⟩ = some (.slice A pc.attrs.length c) ∧ w'.cell? ⟨w.heap.size + 2, 3, none⟩ = some (.string (mkS pc.text))) (v := .int .i64 0) rfl (by kernel_rfl) (by kernel_rfl) (by kernel_rfl) (fun _ _ _ h => h) (fun l w hw hS => hS) (fun _ _ => Iff.rfl) (by kernel_rfl) hS (fun w' hSw => ?_) (by kernel_rfl) (fun hS => ?_)
    · obtain ⟨s1, s2, s3, s4, s5, s6⟩ := hSw
      go_simp
    try simp only [List.getElem_toArray, List.getElem_cons_zero, List.getElem_cons_succ, Act.put, List.setIfInBounds_toArray, List.set_cons_zero, List.set_cons_succ]
    refine wpAnyS_one (i := 5) (by kernel_rfl) rfl (fun K7 hK7 => ?_)
    go_simp
    unfold put4 at HM HF HB2
    refine hK7.out _ _ HM.out (fun hS => ?_)
    clear hK7 K7
    try simp only [List.getElem_toArray, List.getElem_cons_zero, List.getElem_cons_succ, Act.put, List.setIfInBounds_toArray, List.set_cons_zero, List.set_cons_succ]
    refine wpAnyS_one (i := 6) (by kernel_rfl) rfl (fun K7 hK7 => ?_)
    go_simp
    refine hK7.out _ _ HM.out (fun hS => ?_)
    clear hK7 K7
    try simp only [List.getElem_toArray, List.getElem_cons_zero, List.getElem_cons_succ, Act.put, List.setIfInBounds_toArray, List.set_cons_zero, List.set_cons_succ]
    refine wpAnyS_done (by kernel_rfl) ?_ _
    clear hS l1 l5 l20 l21 l22 l23 l30 l31 l32 l33 f20 f21 f22 f23
    go_wp2_with fail
    refine bodyPost_ret (v := .tuple #[.agg #[.int .i64 pc.kind, .string (mkS pc.name), .slice A pc.attrs.length c, .string (mkS pc.text)], .int .i64 0]) ?_ rfl HF.out
    refine (results_ct (t := 2) (u := 3) rfl _ (ad := ⟨w.heap.size + 1, 0, none⟩) rfl (pc_load HB2.out.drew)).trans ?_
    rfl
  · have HE : Hid (res = .error n) := HRES.out.trans hr
    clear ht1 ht2 hf hb hx hr CC K41
    have e1 : w4.cell? ⟨w.heap.size, 0, none⟩ = some (.pointer (some ⟨g, 0, none⟩)) := J1.cell 0
    refine hK7.out _ _ e1 (fun hS => ?_)
    clear hK7 K7
    try simp only [List.getElem_toArray, List.getElem_cons_zero, List.getElem_cons_succ, Act.put, List.setIfInBounds_toArray, List.set_cons_zero, List.set_cons_succ]
    refine wpAnyS_one (i := 3) (by kernel_rfl) rfl (fun K7 hK7 => ?_)
    go_simp
    refine hK7.out _ _ e1 (fun hS => ?_)
    clear hK7 K7
    try simp only [List.getElem_toArray, List.getElem_cons_zero, List.getElem_cons_succ, Act.put, List.setIfInBounds_toArray, List.set_cons_zero, List.set_cons_succ]
    refine wpAnyS_one (i := 4) (by kernel_rfl) rfl (fun K7 hK7 => ?_)
    go_simp
    refine hK7.out _ _ e1 (fun hS => ?_)
    clear hK7 K7
    try simp only [List.getElem_toArray, List.getElem_cons_zero, List.getElem_cons_succ, Act.put, List.setIfInBounds_toArray, List.set_cons_zero, List.set_cons_succ]
    have f4 := Blk.free X4.blk 4
    have e4 : w4.cell? ⟨g, 4, none⟩ = some (.int .i64 0) := Blk.cell X4.blk 4
    have L1 := J1.far (p := ⟨g, 4, none⟩) (fun e => hn1 e) (.int .i64 n)
    have L2 := J2.far (p := ⟨g, 4, none⟩) (fun e => hn2 e) (.int .i64 n)
    have L3 := J3.far (p := ⟨g, 4, none⟩) (fun e => hn3 e) (.int .i64 n)
    have X5 := X4.set4 n
    have TG : Turned [g] w4 (w4.setCell ⟨g, 4, none⟩ (.int .i64 n)) := (Turned.refl [g] w4).setCell (p := ⟨g, 4, none⟩) (.inl (by simp)) (.int .i64 n)
    have T5 := T4.setCell (p := ⟨g, 4, none⟩) (.inl (g_mem g vo)) (.int .i64 n)
    generalize hW5 : w4.setCell ⟨g, 4, none⟩ (.int .i64 n) = w5 at *
    have l1 : w5.cell? ⟨w.heap.size, 0, none⟩ = some (.pointer (some ⟨g, 0, none⟩)) := L1.cell 0
    refine wpAnyS_one (i := 5) (by kernel_rfl) rfl (fun K7 hK7 => ?_)
    go_simp
    try rw [hW5]
    refine hK7.out _ _ l1 (fun hS => ?_)
    clear hK7 K7
    try simp only [List.getElem_toArray, List.getElem_cons_zero, List.getElem_cons_succ, Act.put, List.setIfInBounds_toArray, List.set_cons_zero, List.set_cons_succ]
    refine wpAnyS_done (by kernel_rfl) ?_ _
    clear hS hW5 f4 e4 e1 T4 X4 J1 J2 J3 TG
    have l30 : w5.cell? ⟨w.heap.size + 2, 0, none⟩ = some (.int .i64 0) := L3.cell 0
    have l31 : w5.cell? ⟨w.heap.size + 2, 1, none⟩ = some (.string ⟨#[]⟩) := L3.cell 1
    have l32 : w5.cell? ⟨w.heap.size + 2, 2, none⟩ = some (.slice none 0 0) := L3.cell 2
    have l33 : w5.cell? ⟨w.heap.size + 2, 3, none⟩ = some (.string ⟨#[]⟩) := L3.cell 3
    have l5 : w5.cell? ⟨g, 4, none⟩ = some (.int .i64 n) := Blk.cell X5.blk 4
    have l20 := L2.cell 0
    have l21 := L2.cell 1
    have l22 := L2.cell 2
    have l23 := L2.cell 3
    have f20 := L2.free 0
    have f21 := L2.free 1
    have f22 := L2.free 2
    have f23 := L2.free 3
    unfold zeroP at l20 l21 l22 l23
    simp at l20 l21 l22 l23
    have HB2 := Lib.hid (put4_blk (a := .int .i64 0) (b := .string ⟨#[]⟩) (c := .slice none 0 0) (d := .string ⟨#[]⟩) L2)
    have HT2 : Turned [w.heap.size + 1] w5 (put4 w5 (w.heap.size + 1) (.int .i64 0) (.string ⟨#[]⟩) (.slice none 0 0) (.string ⟨#[]⟩)) := put4_turned
    have X6 := X5.turned HT2 (fun k hk hm => by simp at hk; subst hk; exact X5.not_kind hm (by decide) (by decide) L2)
    have T6 := T5.new_ HT2 (by omega)
    have m1 : (put4 w5 (w.heap.size + 1) (.int .i64 0) (.string ⟨#[]⟩) (.slice none 0 0) (.string ⟨#[]⟩)).cell? ⟨w.heap.size, 0, none⟩ = some (.pointer (some ⟨g, 0, none⟩)) := (L1.turned HT2 (by simp)).cell 0
    have m3 := L3.turned HT2 (by simp)
    have m30 : (put4 w5 (w.heap.size + 1) (.int .i64 0) (.string ⟨#[]⟩) (.slice none 0 0) (.string ⟨#[]⟩)).cell? ⟨w.heap.size + 2, 0, none⟩ = some (.int .i64 0) := m3.cell 0
    have m31 : (put4 w5 (w.heap.size + 1) (.int .i64 0) (.string ⟨#[]⟩) (.slice none 0 0) (.string ⟨#[]⟩)).cell? ⟨w.heap.size + 2, 1, none⟩ = some (.string ⟨#[]⟩) := m3.cell 1
    have m32 : (put4 w5 (w.heap.size + 1) (.int .i64 0) (.string ⟨#[]⟩) (.slice none 0 0) (.string ⟨#[]⟩)).cell? ⟨w.heap.size + 2, 2, none⟩ = some (.slice none 0 0) := m3.cell 2
    have m33 : (put4 w5 (w.heap.size + 1) (.int .i64 0) (.string ⟨#[]⟩) (.slice none 0 0) (.string ⟨#[]⟩)).cell? ⟨w.heap.size + 2, 3, none⟩ = some (.string ⟨#[]⟩) := m3.cell 3
    have m5 : (put4 w5 (w.heap.size + 1) (.int .i64 0) (.string ⟨#[]⟩) (.slice none 0 0) (.string ⟨#[]⟩)).cell? ⟨g, 4, none⟩ = some (.int .i64 n) := Blk.cell X6.blk 4
    have HM := Lib.hid (And.intro m1 (And.intro m5 (And.intro m30 (And.intro m31 (And.intro m32 m33)))))
    have HF : Hid (NextPost w base g vo res (.returned (.tuple #[.agg #[.int .i64 0, .string ⟨#[]⟩, .slice none 0 0, .string ⟨#[]⟩], .int .i64 n])) ((put4 w5 (w.heap.size + 1) (.int .i64 0) (.string ⟨#[]⟩) (.slice none 0 0) (.string ⟨#[]⟩)).drew)) := ⟨T6.drew, vo', s', HFR.out, .inr ⟨n, HE.out, rfl, X6.drew⟩⟩
    clear m1 m3 m30 m31 m32 m33 m5 HT2 X6 T6 X5 T5 L1 L2 L3 c1
    go_upto_region 6 with fail
    refine wp_region_S (fun _ w' => w'.cell? ⟨w.heap.size, 0, none⟩ = some (.pointer (some ⟨g, 0, none⟩)) ∧ w'.cell? ⟨g, 4, none⟩ = some (.int .i64 n) ∧ w'.cell? ⟨w.heap.size + 2, 0, none⟩ = some (.int .i64 0) ∧ w'.cell? ⟨w.heap.size + 2, 1, none⟩ = some (.string ⟨#[]⟩) ∧ w'.cell? ⟨w.heap.size + 2, 2, none⟩ = some (.slice none 0 0) ∧ w'.cell? ⟨w.heap.size + 2, 3, none⟩ = some (.string ⟨#[]⟩)) (by kernel_rfl) ⟨l1, l5, l30, l31, l32, l33⟩ (fun hS => ?_)
    refine wpAnyS_take (i := 0) (fun w' => w'.cell? ⟨w.heap.size, 0, none⟩ = some (.pointer (some ⟨g, 0, none⟩)) ∧ w'.cell? ⟨g, 4, none⟩ = some (.int .i64 n) ∧ w'.cell? ⟨w.heap.size + 2, 0, none⟩ = some (.int .i64 0) ∧ w'.cell? ⟨w.heap.size + 2, 1, none⟩ = some (.string ⟨#[]⟩) ∧ w'.cell? ⟨w.heap.size + 2, 2, none⟩ = some (.slice none 0 0) ∧ w'.cell? ⟨w.heap.size + 2, 3, none⟩ = some (.string ⟨#[]⟩)) (v := .agg #[.int .i64 0, .string ⟨#[]⟩, .slice none 0 0, .string ⟨#[]⟩]) rfl (by kernel_rfl) (by kernel_rfl) (by kernel_rfl) (fun _ _ _ h => h) (fun l w hw hS => hS) (fun _ _ => Iff.rfl) (by kernel_rfl) hS (fun w' hSw => ?_) (by kernel_rfl) (fun hS => ?_)
    · obtain ⟨s1, s2, s3, s4, s5, s6⟩ := hSw
      go_simp
    try simp only [List.getElem_toArray, List.getElem_cons_zero, List.getElem_cons_succ, Act.put, List.setIfInBounds_toArray, List.set_cons_zero, List.set_cons_succ]
    refine wpAnyS_take (i := 1) (fun w' => w'.cell? ⟨w.heap.size, 0, none⟩ = some (.pointer (some ⟨g, 0, none⟩)) ∧ w'.cell? ⟨g, 4, none⟩ = some (.int .i64 n) ∧ w'.cell? ⟨w.heap.size + 2, 0, none⟩ = some (.int .i64 0) ∧ w'.cell? ⟨w.heap.size + 2, 1, none⟩ = some (.string ⟨#[]⟩) ∧ w'.cell? ⟨w.heap.size + 2, 2, none⟩ = some (.slice none 0 0) ∧ w'.cell? ⟨w.heap.size + 2, 3, none⟩ = some (.string ⟨#[]⟩)) (v := .pointer (some ⟨g, 0, none⟩)) rfl (by kernel_rfl) (by kernel_rfl) (by kernel_rfl) (fun _ _ _ h => h) (fun l w hw hS => hS) (fun _ _ => Iff.rfl) (by kernel_rfl) hS (fun w' hSw => ?_) (by kernel_rfl) (fun hS => ?_)
    · obtain ⟨s1, s2, s3, s4, s5, s6⟩ := hSw
      go_simp
    try simp only [List.getElem_toArray, List.getElem_cons_zero, List.getElem_cons_succ, Act.put, List.setIfInBounds_toArray, List.set_cons_zero, List.set_cons_succ]
    refine wpAnyS_take (i := 2) (fun w' => w'.cell? ⟨w.heap.size, 0, none⟩ = some (.pointer (some ⟨g, 0, none⟩)) ∧ w'.cell? ⟨g, 4, none⟩ = some (.int .i64 n) ∧ w'.cell? ⟨w.heap.size + 2, 0, none⟩ = some (.int .i64 0) ∧ w'.cell? ⟨w.heap.size + 2, 1, none⟩ = some (.string ⟨#[]⟩) ∧ w'.cell? ⟨w.heap.size + 2, 2, none⟩ = some (.slice none 0 0) ∧ w'.cell? ⟨w.heap.size + 2, 3, none⟩ = some (.string ⟨#[]⟩)) (v := .pointer (some ⟨g, 0, none⟩)) rfl (by kernel_rfl) (by kernel_rfl) (by kernel_rfl) (fun _ _ _ h => h) (fun l w hw hS => hS) (fun _ _ => Iff.rfl) (by kernel_rfl) hS (fun w' hSw => ?_) (by kernel_rfl) (fun hS => ?_)
    · obtain ⟨s1, s2, s3, s4, s5, s6⟩ := hSw
      go_simp
    try simp only [List.getElem_toArray, List.getElem_cons_zero, List.getElem_cons_succ, Act.put, List.setIfInBounds_toArray, List.set_cons_zero, List.set_cons_succ]
    refine wpAnyS_take (i := 3) (fun w' => w'.cell? ⟨w.heap.size, 0, none⟩ = some (.pointer (some ⟨g, 0, none⟩)) ∧ w'.cell? ⟨g, 4, none⟩ = some (.int .i64 n) ∧ w'.cell? ⟨w.heap.size + 2, 0, none⟩ = some (.int .i64 0) ∧ w'.cell? ⟨w.heap.size + 2, 1, none⟩ = some (.string ⟨#[]⟩) ∧ w'.cell? ⟨w.heap.size + 2, 2, none⟩ = some (.slice none 0 0) ∧ w'.cell? ⟨w.heap.size + 2, 3, none⟩ = some (.string ⟨#[]⟩)) (v := .pointer (some ⟨g, 4, none⟩)) rfl (by kernel_rfl) (by kernel_rfl) (by kernel_rfl) (fun _ _ _ h => h) (fun l w hw hS => hS) (fun _ _ => Iff.rfl) (by kernel_rfl) hS (fun w' hSw => ?_) (by kernel_rfl) (fun hS => ?_)
    · obtain ⟨s1, s2, s3, s4, s5, s6⟩ := hSw
      go_simp
    try simp only [List.getElem_toArray, List.getElem_cons_zero, List.getElem_cons_succ, Act.put, List.setIfInBounds_toArray, List.set_cons_zero, List.set_cons_succ]
    refine wpAnyS_take (i := 4) (fun w' => w'.cell? ⟨w.heap.size, 0, none⟩ = some (.pointer (some ⟨g, 0, none⟩)) ∧ w'.cell? ⟨g, 4, none⟩ = some (.int .i64 n) ∧ w'.cell? ⟨w.heap.size + 2, 0, none⟩ = some (.int .i64 0) ∧ w'.cell? ⟨w.heap.size + 2, 1, none⟩ = some (.string ⟨#[]⟩) ∧ w'.cell? ⟨w.heap.size + 2, 2, none⟩ = some (.slice none 0 0) ∧ w'.cell? ⟨w.heap.size + 2, 3, none⟩ = some (.string ⟨#[]⟩)) (v := .int .i64 n) rfl (by kernel_rfl) (by kernel_rfl) (by kernel_rfl) (fun _ _ _ h => h) (fun l w hw hS => hS) (fun _ _ => Iff.rfl) (by kernel_rfl) hS (fun w' hSw => ?_) (by kernel_rfl) (fun hS => ?_)
    · obtain ⟨s1, s2, s3, s4, s5, s6⟩ := hSw
      go_simp
    try simp only [List.getElem_toArray, List.getElem_cons_zero, List.getElem_cons_succ, Act.put, List.setIfInBounds_toArray, List.set_cons_zero, List.set_cons_succ]
    refine wpAnyS_one (i := 5) (by kernel_rfl) rfl (fun K7 hK7 => ?_)
    go_simp
    unfold put4 at HM HF HB2
    refine hK7.out _ _ HM.out (fun hS => ?_)
    clear hK7 K7
    try simp only [List.getElem_toArray, List.getElem_cons_zero, List.getElem_cons_succ, Act.put, List.setIfInBounds_toArray, List.set_cons_zero, List.set_cons_succ]
    refine wpAnyS_one (i := 6) (by kernel_rfl) rfl (fun K7 hK7 => ?_)
    go_simp
    refine hK7.out _ _ HM.out (fun hS => ?_)
    clear hK7 K7
    try simp only [List.getElem_toArray, List.getElem_cons_zero, List.getElem_cons_succ, Act.put, List.setIfInBounds_toArray, List.set_cons_zero, List.set_cons_succ]
    refine wpAnyS_done (by kernel_rfl) ?_ _
    clear hS l1 l5 l20 l21 l22 l23 l30 l31 l32 l33 f20 f21 f22 f23
    go_wp2_with fail
    refine bodyPost_ret (v := .tuple #[.agg #[.int .i64 0, .string ⟨#[]⟩, .slice none 0 0, .string ⟨#[]⟩], .int .i64 n]) ?_ rfl HF.out
    refine (results_ct (t := 2) (u := 3) rfl _ (ad := ⟨w.heap.size + 1, 0, none⟩) rfl (pc_load HB2.out.drew)).trans ?_
    rfl
end
end Go.Proofs.YtoifibnmincodaaGreatDoor
