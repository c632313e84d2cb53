/- Parts of the proof. -/
import Derived.Test.YtdhgiammfpjniaaGreatDoorZrbd
import Derived.StillTailTactics
namespace Go.Proofs.YtdhgiammfpjniaaGreatDoor.Ev
set_option linter.unusedSimpArgs false
set_option linter.unusedVariables false
open Go.RowKit
def zeroD : Dep := .mk 0 ⟨#[]⟩ 0 ⟨#[]⟩ []
def aaQ8 : Array Value := #[.int .i64 0, .string ⟨#[]⟩, .int .i64 0, .string ⟨#[]⟩, .slice none 0 0]
def Told (text : ByteArray) (n0 : Nat) (w : World) (d : Dep) (t : Value) : Prop := parseD text.data.toList = (some d, 0) ∧ ∃ S, Lay w S d t ∧ CleanS w S ∧ (∀ b, S b → n0 ≤ b) ∧ nodes d ≤ text.size
def aoQa (text : ByteArray) (gd : Nat) (w0 : World) : Ending → World → Prop :=
 Done [gd] w0 (fun w' => ∃ d t, Blk w' gd 39 (rowD d t) ∧ Told text w0.heap.size w' d t) (fun n w' => parseD text.data.toList = (none, n) ∧ Blk w' gd 39 aaQ8)
def five (w : World) (g : Nat) (d : Dep) (s : Value) : World := ((((w.setCell ⟨g, 0, none⟩ (.int .i64 d.kind)).setCell ⟨g, 1, none⟩ (.string d.name)).setCell ⟨g, 2, none⟩ (.int .i64 d.op)).setCell ⟨g, 3, none⟩ (.string d.evr)).setCell ⟨g, 4, none⟩ s
theorem abQ3 (w : World) (g : Nat) (d : Dep) (s : Value) : Turned [g] w (five w g d s) := (((((Turned.refl _ _).setCell (.inl (by simp)) _).setCell (.inl (by simp)) _).setCell (.inl (by simp)) _).setCell (.inl (by simp)) _).setCell (.inl (by simp)) _
theorem aaQt {w : World} {g : Nat} {t : TypeId} {x0 x1 x2 x3 x4 : Value} (h : Blk w g t #[x0, x1, x2, x3, x4]) (d : Dep) (s : Value) : Blk (five w g d s) g t (rowD d s) := ((((h.set_ 0 (.int .i64 d.kind)).set_ 1 (.string d.name)).set_ 2 (.int .i64 d.op)).set_ 3 (.string d.evr)).set_ 4 s
theorem Told.stay {text : ByteArray} {n0 : Nat} {w w' : World} {d : Dep} {t : Value} {F : List Nat} (h : Told text n0 w d t) (ht : Turned F w w') (hF : ∀ k ∈ F, k < n0) : Told text n0 w' d t := by
 obtain ⟨h1, S, h2, h3, h4, h5⟩ := h
 have hst : StayS S w w' := StayS.turned ht fun b hb hf => by have := hF b hf; have := h4 b hb; omega
 exact ⟨h1, S, h2.stay (fun _ h => h) hst, h3.stay hst, h4, h5⟩
theorem Told.mono {text : ByteArray} {n0 n1 : Nat} {w : World} {d : Dep} {t : Value} (h : Told text n0 w d t) (hn : n1 ≤ n0) : Told text n1 w d t := by
 obtain ⟨h1, S, h2, h3, h4, h5⟩ := h
 exact ⟨h1, S, h2, h3, fun b hb => by have := h4 b hb; omega, h5⟩
set_option maxHeartbeats 2000000 in
set_option maxRecDepth 100000 in
theorem amQt (text : ByteArray) (hs : text.size ≤ 4194304) (w0 : World) (gt gd : Nat) (hgt : Blk w0 gt 9 #[.string text]) (hgd : Blk w0 gd 39 aaQ8) (hT : Tabs w0) (h2 : 4 ≤ gd) :
 Calls Tryz.prog 185 #[.pointer (some ⟨gt, 0, none⟩), .pointer (some ⟨gd, 0, none⟩)] w0 (aoQa text gd w0) := by
 have C1 := hQQ (read_any text hs w0 hT)
 have HT := hQQ hT
 have HD := hQQ hgd
 have HN := hQQ h2
 have g0 := hgt.cell 0
 clear hT hgt hgd h2
 go_enter Tryz.func185, Tryz.ntmps185
 go_wp2_with fail
 refine C1.out.mono ?_
 rintro e w1 ⟨hb, h⟩
 rcases h with ⟨hn, rfl⟩ | ⟨d, t, S, hd, rfl, hL, hC, hS, hN⟩
 ·have HPP : Hid (aoQa text gd w0 (abQf 50) w1) := ⟨Turned.of_below hb _, .inr ⟨50, rfl, by unfold parseD; rw [hn], HD.out.below hb HD.out.lt⟩⟩
  clear hn hb C1 g0
  unfold abQf
  go_wp2_with fail
  exact ⟨rfl, HPP.out⟩
 ·have HW : Hid (Below w0.heap.size w0 w1) := hb
  have HR := hQQ hd
  have HG : Hid (Blk w1 gd 39 aaQ8) := HD.out.below hb HD.out.lt
  have hba : Below w1.heap.size w1 (w1.alloc (.cells (rowD d t) 39)) := (Below.refl _ _).alloc (Nat.le_refl _) _
  have hst1 : StayS S w1 (w1.alloc (.cells (rowD d t) 39)) := StayS.below' hba
  have hT2 : Tabs (w1.alloc (.cells (rowD d t) 39)) := (HT.out.below hb HT.out.two).below hba (by have := HT.out.two; have := hb.size; omega)
  have C2 := hQQ (alQo d t S _ (hL.stay (fun _ h => h) hst1) (hC.stay hst1) hT2 (by omega))
  have HTold : Hid (checkN d = 0 → Told text w0.heap.size (w1.alloc (.cells (rowD d t) 39)) d t) := fun hc => ⟨by unfold parseD; rw [hd]; dsimp only; rw [if_pos hc], S, hL.stay (fun _ h => h) hst1, hC.stay hst1, hS, hN⟩
  have HQ : Hid (∀ w2, Below (w1.alloc (.cells (rowD d t) 39)).heap.size (w1.alloc (.cells (rowD d t) 39)) w2 →
   Blk w2 w1.heap.size 39 (rowD d t) ∧ Blk w2 gd 39 aaQ8 ∧ Turned [] w0 w2 ∧ (checkN d = 0 → Told text w0.heap.size w2 d t)) := by
   intro w2 hb2
   have hT2 : Turned [] w1 w2 := ((Turned.refl [] _).alloc _).trans (Turned.of_below hb2 []) (Fresh.refl _ _)
   exact ⟨(Blk.new w1 39 (rowD d t)).below hb2 (by simp), HG.out.turned hT2 (by simp), (Turned.of_below HW.out []).trans hT2 (Fresh.refl _ _), fun hc => (HTold.out hc).stay (Turned.of_below hb2 []) (fun k hk => by cases hk)⟩
  obtain ⟨A, c, rfl, _, _⟩ := hL.form_
  clear hd hb hL hC hS hN hst1 hT2 C1 g0 hba HTold HG HW
  unfold rowD at C2 HQ
  unfold rowD
  go_wp2_with fail
  refine C2.out.mono ?_
  rintro e w2 ⟨hb2, h⟩
  obtain ⟨hB, hG, hT, hTold⟩ := HQ.out w2 hb2
  clear C2 HQ hb2
  rcases h with ⟨h0, rfl⟩ | ⟨hne, rfl⟩
  ·have HE : Hid (aoQa text gd w0 (.returned (.tuple #[])) (five w2 gd d (.slice A d.args.length c))) := ⟨(hT.more (fun k hk => by cases hk)).trans (abQ3 _ _ _ _) (Fresh.refl _ _), .inl ⟨rfl, d, _, aaQt hG d _, (hTold h0).stay (abQ3 _ _ _ _) (fun k hk => by simp at hk; subst hk; exact HD.out.lt)⟩⟩
   have c0 := hB.cell 0
   have c1 := hB.cell 1
   have c2 := hB.cell 2
   have c3 := hB.cell 3
   have c4 := hB.cell 4
   have d0 := hG.cell 0
   have d1 := hG.cell 1
   have d2 := hG.cell 2
   have d3 := hG.cell 3
   have d4 := hG.cell 4
   have k0 := hG.free 0
   have k1 := hG.free 1
   have k2 := hG.free 2
   have k3 := hG.free 3
   have k4 := hG.free 4
   unfold aaQ8 at d0 d1 d2 d3 d4
   simp at c0 c1 c2 c3 c4 d0 d1 d2 d3 d4
   clear hB hG hT hTold h0 HD HN HT HR
   unfold five at HE
   go_wp2_with fail
   go_end0
   exact HE.out
  ·have HPP : Hid (aoQa text gd w0 (abQf (checkN d)) w2) := ⟨hT.more (fun k hk => by cases hk), .inr ⟨checkN d, rfl, by unfold parseD; rw [HR.out]; dsimp only; rw [if_neg hne], hG⟩⟩
   clear hB hG hT hTold hne HD HN HT HR
   unfold abQf
   go_wp2_with fail
   exact ⟨rfl, HPP.out⟩
theorem aaQe {fn : Func} {t u : Tmp} {e : TypeId} (h : fn.results = #[.cell t e, .tmp u]) (tmps : Array Value) {P : Program} {w : World} {ad : Addr} {v x : Value} (hp : tmps[t]?.getD undef = .pointer (some ad)) (hx : tmps[u]?.getD undef = x) (hv : (loadVar e ad).run P w = .ok v w) :
 (results fn tmps).run P w = .ok (.tuple #[v, x]) w := by
 simp [results, h, hp, hx, asAddr, hv, Result.andThen]
def ParsePost (text : ByteArray) (w0 : World) (e : Ending) (w' : World) : Prop :=
 Below w0.heap.size w0 w' ∧ ((∃ d t, Told text w0.heap.size w' d t ∧ e = .returned (.tuple #[.agg (rowD d t), .int .i64 0])) ∨ (∃ n, parseD text.data.toList = (none, n) ∧ e = .returned (.tuple #[.agg aaQ8, .int .i64 n])))
theorem anQs {w : World} {g : Nat} {d : Dep} {t : Value} (h : Blk w g 39 (rowD d t)) : (loadVar 39 ⟨g, 0, none⟩).run Tryz.prog w = .ok (.agg (rowD d t)) w := by
 have b0 := h.cell 0
 have b1 := h.cell 1
 have b2 := h.cell 2
 have b3 := h.cell 3
 have b4 := h.cell 4
 unfold rowD at b0 b1 b2 b3 b4 ⊢
 simp at b0 b1 b2 b3 b4
 clear h
 go_simp
set_option maxHeartbeats 2000000 in
set_option maxRecDepth 100000 in
theorem depParse_any (text : ByteArray) (hs : text.size ≤ 4194304) (w0 : World) (hT : Tabs w0) : Calls Tryz.prog 137 #[.string text] w0 (ParsePost text w0) := by
 have hmf : ∀ (fn : Fn) (first cap : Array Value) (w : World), (Instr.makeFunc fn first cap).run Tryz.prog w = .ok (.func fn first cap) w := fun _ _ _ _ => rfl
 obtain ⟨wa, hwa⟩ : ∃ wa, wa = w0.alloc (.cells #[.string text] 9) := ⟨_, rfl⟩
 obtain ⟨wb, hwb⟩ : ∃ wb, wb = wa.alloc (.cells aaQ8 39) := ⟨_, rfl⟩
 obtain ⟨wc, hwc⟩ : ∃ wc, wc = wb.alloc (.cells aaQ8 39) := ⟨_, rfl⟩
 have za : wa.heap.size = w0.heap.size + 1 := by rw [hwa]; simp
 have zb : wb.heap.size = w0.heap.size + 2 := by rw [hwb]; simp [za]
 have zc : wc.heap.size = w0.heap.size + 3 := by rw [hwc]; simp [zb]
 have hBc : Below w0.heap.size w0 wc := by
  rw [hwc, hwb, hwa]
  exact (((Below.refl _ _).alloc (Nat.le_refl _) _).alloc (by simp) _).alloc (by simp; omega) _
 have kt : Blk wc w0.heap.size 9 #[.string text] := by rw [hwc, hwb, hwa]; exact ((Blk.new _ _ _).alloc _).alloc _
 have kr : Blk wc (w0.heap.size + 1) 39 aaQ8 := by rw [hwc, hwb]; exact (Blk.new' za).alloc _
 have kd : Blk wc (w0.heap.size + 2) 39 aaQ8 := by rw [hwc]; exact Blk.new' zb
 have hTc : Tabs wc := hT.below hBc hT.two
 have ht2 := hT.two
 have hBx : Below wc.heap.size wc (wc.alloc (.cells #[.int .i64 0] 24)) := (Below.refl _ _).alloc (Nat.le_refl _) _
 have CC := aiQl 185 #[.pointer (some ⟨w0.heap.size, 0, none⟩), .pointer (some ⟨w0.heap.size + 2, 0, none⟩)] (enters_of Tryz.func185 (by kernel_rfl) rfl) [w0.heap.size + 2] _ _ wc (fun k hk => by simp at hk; omega)
  (amQt text hs (wc.alloc (.cells #[.int .i64 0] 24)) w0.heap.size (w0.heap.size + 2) (kt.alloc _) (kd.alloc _) (hTc.below hBx hTc.two) (by omega))
 have HQ : Hid (∀ (e : Ending) (w' : World), (∃ w1, Turned [w0.heap.size + 2] (wc.alloc (.cells #[.int .i64 0] 24)) w1 ∧ Turned [wc.heap.size] w1 w' ∧ ((e = .returned (.int .i64 0) ∧ ∃ d t, Blk w1 (w0.heap.size + 2) 39 (rowD d t) ∧ Told text (wc.alloc (.cells #[.int .i64 0] 24)).heap.size w1 d t) ∨ ∃ n, e = .returned (.int .i64 n) ∧ parseD text.data.toList = (none, n) ∧ Blk w1 (w0.heap.size + 2) 39 aaQ8)) →
  Below w0.heap.size w0 w' ∧ Blk w' (w0.heap.size + 1) 39 aaQ8 ∧ ((∃ d t, e = .returned (.int .i64 0) ∧ Blk w' (w0.heap.size + 2) 39 (rowD d t) ∧ Told text (w0.heap.size + 3) w' d t) ∨ ∃ n, e = .returned (.int .i64 n) ∧ parseD text.data.toList = (none, n) ∧ Blk w' (w0.heap.size + 2) 39 aaQ8)) := by
  rintro e w' ⟨w1, h1, h2, h⟩
  have hw1 : Below w0.heap.size w0 w1 := (hBc.trans (hBx.mono (by omega))).trans (h1.below (fun k hk => by simp at hk; omega) (by simp; omega))
  have hw' : Below w0.heap.size w0 w' := hw1.trans (h2.below (fun k hk => by simp at hk; omega) hw1.size)
  have hr : Blk w' (w0.heap.size + 1) 39 aaQ8 := ((kr.alloc _).turned h1 (by simp)).turned h2 (by simp; omega)
  refine ⟨hw', hr, ?_⟩
  rcases h with ⟨rfl, d, t, hb, ht⟩ | ⟨n, rfl, hn, hb⟩
  ·exact .inl ⟨d, t, rfl, hb.turned h2 (by simp; omega), (ht.stay h2 (fun k hk => by simp at hk; subst hk; simp)).mono (by simp; omega)⟩
  ·exact .inr ⟨n, rfl, hn, hb.turned h2 (by simp; omega)⟩
 have HC : Hid (Calls Tryz.prog 184 #[.func (.func 185) #[] #[.pointer (some ⟨w0.heap.size, 0, none⟩), .pointer (some ⟨w0.heap.size + 2, 0, none⟩)]] wc (fun e w' => Below w0.heap.size w0 w' ∧ Blk w' (w0.heap.size + 1) 39 aaQ8 ∧ ((∃ d t, e = .returned (.int .i64 0) ∧ Blk w' (w0.heap.size + 2) 39 (rowD d t) ∧ Told text (w0.heap.size + 3) w' d t) ∨ ∃ n, e = .returned (.int .i64 n) ∧ parseD text.data.toList = (none, n) ∧ Blk w' (w0.heap.size + 2) 39 aaQ8))) := CC.mono fun e w' h => HQ.out e w' h
 clear CC HQ hBx hTc kt kr kd hBc zc za zb ht2 hT
 subst hwc hwb hwa
 unfold aaQ8 at HC
 go_enter Tryz.func137, Tryz.ntmps137
 go_wp2_with fail
 refine HC.out.mono ?_
 rintro e w2 ⟨hb, hr, h⟩
 have HB := hQQ hb
 have HR : Hid (Blk w2 (w0.heap.size + 1) 39 aaQ8) := hr
 have k0 := hr.free 0
 have k1 := hr.free 1
 have k2 := hr.free 2
 have k3 := hr.free 3
 have k4 := hr.free 4
 have d0 := hr.cell 0
 have d1 := hr.cell 1
 have d2 := hr.cell 2
 have d3 := hr.cell 3
 have d4 := hr.cell 4
 simp at d0 d1 d2 d3 d4
 clear hb hr HC
 rcases h with ⟨d, t, rfl, hd, ht⟩ | ⟨n, rfl, hn, hd⟩
 ·obtain ⟨A, c, rfl⟩ : ∃ A c, t = .slice A d.args.length c := by
   obtain ⟨_, S, hL, _⟩ := ht
   obtain ⟨A, c, h, _, _⟩ := hL.form_
   exact ⟨A, c, h⟩
  have HP : Hid (ParsePost text w0 (.returned (.tuple #[.agg (rowD d (.slice A d.args.length c)), .int .i64 0])) (five w2 (w0.heap.size + 1) d (.slice A d.args.length c))) := by
   have h5 := abQ3 w2 (w0.heap.size + 1) d (.slice A d.args.length c)
   exact ⟨HB.out.trans (h5.below (fun k hk => by simp at hk; omega) HB.out.size), .inl ⟨d, _, (ht.stay h5 (fun k hk => by simp at hk; omega)).mono (by omega), rfl⟩⟩
  have HL : Hid _ := anQs (aaQt HR.out d (.slice A d.args.length c))
  have c0 := hd.cell 0
  have c1 := hd.cell 1
  have c2 := hd.cell 2
  have c3 := hd.cell 3
  have c4 := hd.cell 4
  unfold rowD at c0 c1 c2 c3 c4
  simp at c0 c1 c2 c3 c4
  clear hd ht HB HR
  unfold five at HP HL
  go_wp2_with fail
  exact bodyPost_ret (v := .tuple #[.agg (rowD d (.slice A d.args.length c)), .int .i64 0]) (aaQe rfl _ rfl rfl HL.out) rfl HP.out
 ·have HP : Hid (ParsePost text w0 (.returned (.tuple #[.agg aaQ8, .int .i64 n])) (five w2 (w0.heap.size + 1) zeroD (.slice none 0 0))) := by
   have h5 := abQ3 w2 (w0.heap.size + 1) zeroD (.slice none 0 0)
   exact ⟨HB.out.trans (h5.below (fun k hk => by simp at hk; omega) HB.out.size), .inr ⟨n, hn, rfl⟩⟩
  have HL : Hid _ := anQs (aaQt HR.out zeroD (.slice none 0 0))
  have c0 := hd.cell 0
  have c1 := hd.cell 1
  have c2 := hd.cell 2
  have c3 := hd.cell 3
  have c4 := hd.cell 4
  unfold aaQ8 at c0 c1 c2 c3 c4
  simp at c0 c1 c2 c3 c4
  clear hd hn HB HR
  unfold five zeroD at HP HL
  dsimp only [Dep.kind, Dep.name, Dep.op, Dep.evr] at HP HL
  go_wp2_with fail
  refine bodyPost_ret (v := .tuple #[.agg aaQ8, .int .i64 n]) ?_ rfl HP.out
  exact aaQe rfl _ rfl rfl HL.out
end Go.Proofs.YtdhgiammfpjniaaGreatDoor.Ev
namespace Go.Proofs.YtdhgiammfpjniaaGreatDoor.Ev
set_option linter.unusedSimpArgs false
set_option linter.unusedVariables false
open Go.RowKit
end Go.Proofs.YtdhgiammfpjniaaGreatDoor.Ev
