/- A text is read as a dependency, or refused: Parse and its closure. A dependency's text is written: write, Print. A dependency's text, or why it has none: Print. -/
import Derived.Test.YtciogfpejenedaaGreatDoorDRead3
import Derived.Test.YtciogfpejenedaaGreatDoorBld
import Derived.StillTailTactics
namespace Go.Proofs.YtciogfpejenedaaGreatDoor
set_option linter.unusedSimpArgs false
set_option linter.unusedVariables false
open Go.RowKit

/-- A dependency that none is. -/
def zeroD : Dep := .mk 0 ⟨#[]⟩ 0 ⟨#[]⟩ []
def zeroRow : Array Value := #[.int .i64 0, .string ⟨#[]⟩, .int .i64 0, .string ⟨#[]⟩, .slice none 0 0]
theorem zeroRow_is : zeroRow = rowD zeroD (.slice none 0 0) := rfl
/-- What a text tells: a dependency, laid in new blocks of its own, none of them marked. -/
def Told (text : ByteArray) (n0 : Nat) (w : World) (d : Dep) (t : Value) : Prop := parseD text.data.toList = (some d, 0) ∧ ∃ S, Lay w S d t ∧ CleanS w S ∧ (∀ b, S b → n0 ≤ b) ∧ nodes d ≤ text.size
def Parsed (text : ByteArray) (gd : Nat) (w0 : World) : Ending → World → Prop :=
  Done [gd] w0 (fun w' => ∃ d t, Blk w' gd 47 (rowD d t) ∧ Told text w0.heap.size w' d t) (fun n w' => parseD text.data.toList = (none, n) ∧ Blk w' gd 47 zeroRow)
def five (w : World) (g : Nat) (d : Dep) (s : Value) : World := ((((w.setCell ⟨g, 0, none⟩ (.int .i64 d.kind)).setCell ⟨g, 1, none⟩ (.string d.name)).setCell ⟨g, 2, none⟩ (.int .i64 d.op)).setCell ⟨g, 3, none⟩ (.string d.evr)).setCell ⟨g, 4, none⟩ s
theorem five_turned (w : World) (g : Nat) (d : Dep) (s : Value) : Turned [g] w (five w g d s) := (((((Turned.refl _ _).setCell (.inl (by simp)) _).setCell (.inl (by simp)) _).setCell (.inl (by simp)) _).setCell (.inl (by simp)) _).setCell (.inl (by simp)) _
theorem five_blk {w : World} {g : Nat} {t : TypeId} {x0 x1 x2 x3 x4 : Value} (h : Blk w g t #[x0, x1, x2, x3, x4]) (d : Dep) (s : Value) : Blk (five w g d s) g t (rowD d s) := ((((h.set_ 0 (.int .i64 d.kind)).set_ 1 (.string d.name)).set_ 2 (.int .i64 d.op)).set_ 3 (.string d.evr)).set_ 4 s
theorem Told.stay {text : ByteArray} {n0 : Nat} {w w' : World} {d : Dep} {t : Value} {F : List Nat} (h : Told text n0 w d t) (ht : Turned F w w') (hF : ∀ k ∈ F, k < n0) : Told text n0 w' d t := by
  obtain ⟨h1, S, h2, h3, h4, h5⟩ := h
  have hst : StayS S w w' := StayS.turned ht fun b hb hf => by have := hF b hf; have := h4 b hb; omega
  exact ⟨h1, S, h2.stay (fun _ h => h) hst, h3.stay hst, h4, h5⟩
theorem Told.mono {text : ByteArray} {n0 n1 : Nat} {w : World} {d : Dep} {t : Value} (h : Told text n0 w d t) (hn : n1 ≤ n0) : Told text n1 w d t := by
  obtain ⟨h1, S, h2, h3, h4, h5⟩ := h
  exact ⟨h1, S, h2, h3, fun b hb => by have := h4 b hb; omega, h5⟩

set_option maxHeartbeats 2000000 in
set_option maxRecDepth 100000 in
theorem parseIn_any (text : ByteArray) (hs : text.size ≤ 4194304) (w0 : World) (gt gd : Nat) (hgt : Blk w0 gt 9 #[.string text]) (hgd : Blk w0 gd 47 zeroRow) (hT : Tabs w0) (h2 : 4 ≤ gd) :
    Calls Tryz.prog 43 #[.pointer (some ⟨gt, 0, none⟩), .pointer (some ⟨gd, 0, none⟩)] w0 (Parsed text gd w0) := by
  have C1 := Lib.hid (read_any text hs w0 hT)
  have HT := Lib.hid hT
  have HD := Lib.hid hgd
  have HN := Lib.hid h2
  have g0 := hgt.cell 0
  clear hT hgt hgd h2
  go_enter Tryz.func43, Tryz.ntmps43
  go_wp2_with fail
  refine C1.out.mono ?_
  rintro e w1 ⟨hb, h⟩
  rcases h with ⟨hn, rfl⟩ | ⟨d, t, S, hd, rfl, hL, hC, hS, hN⟩
  · have HPP : Hid (Parsed text gd w0 (gaveUp 50) w1) := ⟨Turned.of_below hb _, .inr ⟨50, rfl, by unfold parseD; rw [hn], HD.out.below hb HD.out.lt⟩⟩
    clear hn hb C1 g0
    unfold gaveUp
    go_wp2_with fail
    exact ⟨rfl, HPP.out⟩
  · have HW : Hid (Below w0.heap.size w0 w1) := hb
    have HR := Lib.hid hd
    have HG : Hid (Blk w1 gd 47 zeroRow) := HD.out.below hb HD.out.lt
    have hba : Below w1.heap.size w1 (w1.alloc (.cells (rowD d t) 47)) := (Below.refl _ _).alloc (Nat.le_refl _) _
    have hst1 : StayS S w1 (w1.alloc (.cells (rowD d t) 47)) := StayS.below' hba
    have hT2 : Tabs (w1.alloc (.cells (rowD d t) 47)) := (HT.out.below hb HT.out.two).below hba (by have := HT.out.two; have := hb.size; omega)
    have C2 := Lib.hid (check_any d t S _ (hL.stay (fun _ h => h) hst1) (hC.stay hst1) hT2 (by omega))
    have HTold : Hid (checkN d = 0 → Told text w0.heap.size (w1.alloc (.cells (rowD d t) 47)) d t) := fun hc => ⟨by unfold parseD; rw [hd]; dsimp only; rw [if_pos hc], S, hL.stay (fun _ h => h) hst1, hC.stay hst1, hS, hN⟩
    have HQ : Hid (∀ w2, Below (w1.alloc (.cells (rowD d t) 47)).heap.size (w1.alloc (.cells (rowD d t) 47)) w2 →
        Blk w2 w1.heap.size 47 (rowD d t) ∧ Blk w2 gd 47 zeroRow ∧ Turned [] w0 w2 ∧ (checkN d = 0 → Told text w0.heap.size w2 d t)) := by
      intro w2 hb2
      have hT2 : Turned [] w1 w2 := ((Turned.refl [] _).alloc _).trans (Turned.of_below hb2 []) (Fresh.refl _ _)
      exact ⟨(Blk.new w1 47 (rowD d t)).below hb2 (by simp), HG.out.turned hT2 (by simp), (Turned.of_below HW.out []).trans hT2 (Fresh.refl _ _), fun hc => (HTold.out hc).stay (Turned.of_below hb2 []) (fun k hk => by cases hk)⟩
    obtain ⟨A, c, rfl, _, _⟩ := hL.form_
    clear hd hb hL hC hS hN hst1 hT2 C1 g0 hba HTold HG HW
    unfold rowD at C2 HQ
    unfold rowD
    go_wp2_with fail
    refine C2.out.mono ?_
    rintro e w2 ⟨hb2, h⟩
    obtain ⟨hB, hG, hT, hTold⟩ := HQ.out w2 hb2
    clear C2 HQ hb2
    rcases h with ⟨h0, rfl⟩ | ⟨hne, rfl⟩
    · have HE : Hid (Parsed text gd w0 (.returned (.tuple #[])) (five w2 gd d (.slice A d.args.length c))) := ⟨(hT.more (fun k hk => by cases hk)).trans (five_turned _ _ _ _) (Fresh.refl _ _), .inl ⟨rfl, d, _, five_blk hG d _, (hTold h0).stay (five_turned _ _ _ _) (fun k hk => by simp at hk; subst hk; exact HD.out.lt)⟩⟩
      have c0 := hB.cell 0
      have c1 := hB.cell 1
      have c2 := hB.cell 2
      have c3 := hB.cell 3
      have c4 := hB.cell 4
      have d0 := hG.cell 0
      have d1 := hG.cell 1
      have d2 := hG.cell 2
      have d3 := hG.cell 3
      have d4 := hG.cell 4
      have k0 := hG.free 0
      have k1 := hG.free 1
      have k2 := hG.free 2
      have k3 := hG.free 3
      have k4 := hG.free 4
      unfold zeroRow at d0 d1 d2 d3 d4
      simp at c0 c1 c2 c3 c4 d0 d1 d2 d3 d4
      clear hB hG hT hTold h0 HD HN HT HR
      unfold five at HE
      go_wp2_with fail
      go_end0
      exact HE.out
    · have HPP : Hid (Parsed text gd w0 (gaveUp (checkN d)) w2) := ⟨hT.more (fun k hk => by cases hk), .inr ⟨checkN d, rfl, by unfold parseD; rw [HR.out]; dsimp only; rw [if_neg hne], hG⟩⟩
      clear hB hG hT hTold hne HD HN HT HR
      unfold gaveUp
      go_wp2_with fail
      exact ⟨rfl, HPP.out⟩

theorem results_cell2 {fn : Func} {t u : Tmp} {e : TypeId} (h : fn.results = #[.cell t e, .tmp u]) (tmps : Array Value) {P : Program} {w : World} {ad : Addr} {v x : Value} (hp : tmps[t]?.getD undef = .pointer (some ad)) (hx : tmps[u]?.getD undef = x) (hv : (loadVar e ad).run P w = .ok v w) :
    (results fn tmps).run P w = .ok (.tuple #[v, x]) w := by
  simp [results, h, hp, hx, asAddr, hv, Result.andThen]
def ParsePost (text : ByteArray) (w0 : World) (e : Ending) (w' : World) : Prop :=
  Below w0.heap.size w0 w' ∧ ((∃ d t, Told text w0.heap.size w' d t ∧ e = .returned (.tuple #[.agg (rowD d t), .int .i64 0])) ∨ (∃ n, parseD text.data.toList = (none, n) ∧ e = .returned (.tuple #[.agg zeroRow, .int .i64 n])))
theorem load_dep {w : World} {g : Nat} {d : Dep} {t : Value} (h : Blk w g 47 (rowD d t)) : (loadVar 47 ⟨g, 0, none⟩).run Tryz.prog w = .ok (.agg (rowD d t)) w := by
  have b0 := h.cell 0
  have b1 := h.cell 1
  have b2 := h.cell 2
  have b3 := h.cell 3
  have b4 := h.cell 4
  unfold rowD at b0 b1 b2 b3 b4 ⊢
  simp at b0 b1 b2 b3 b4
  clear h
  go_simp
set_option maxHeartbeats 2000000 in
set_option maxRecDepth 100000 in
theorem depParse_any (text : ByteArray) (hs : text.size ≤ 4194304) (w0 : World) (hT : Tabs w0) : Calls Tryz.prog 27 #[.string text] w0 (ParsePost text w0) := by
  have hmf : ∀ (fn : Fn) (first cap : Array Value) (w : World), (Instr.makeFunc fn first cap).run Tryz.prog w = .ok (.func fn first cap) w := fun _ _ _ _ => rfl
  obtain ⟨wa, hwa⟩ : ∃ wa, wa = w0.alloc (.cells #[.string text] 9) := ⟨_, rfl⟩
  obtain ⟨wb, hwb⟩ : ∃ wb, wb = wa.alloc (.cells zeroRow 47) := ⟨_, rfl⟩
  obtain ⟨wc, hwc⟩ : ∃ wc, wc = wb.alloc (.cells zeroRow 47) := ⟨_, rfl⟩
  have za : wa.heap.size = w0.heap.size + 1 := by rw [hwa]; simp
  have zb : wb.heap.size = w0.heap.size + 2 := by rw [hwb]; simp [za]
  have zc : wc.heap.size = w0.heap.size + 3 := by rw [hwc]; simp [zb]
  have hBc : Below w0.heap.size w0 wc := by
    rw [hwc, hwb, hwa]
    exact (((Below.refl _ _).alloc (Nat.le_refl _) _).alloc (by simp) _).alloc (by simp; omega) _
  have kt : Blk wc w0.heap.size 9 #[.string text] := by rw [hwc, hwb, hwa]; exact ((Blk.new _ _ _).alloc _).alloc _
  have kr : Blk wc (w0.heap.size + 1) 47 zeroRow := by rw [hwc, hwb]; exact (Blk.new' za).alloc _
  have kd : Blk wc (w0.heap.size + 2) 47 zeroRow := by rw [hwc]; exact Blk.new' zb
  have hTc : Tabs wc := hT.below hBc hT.two
  have ht2 := hT.two
  have hBx : Below wc.heap.size wc (wc.alloc (.cells #[.int .i64 0] 26)) := (Below.refl _ _).alloc (Nat.le_refl _) _
  have CC := caught_any 43 #[.pointer (some ⟨w0.heap.size, 0, none⟩), .pointer (some ⟨w0.heap.size + 2, 0, none⟩)] (enters_of Tryz.func43 (by kernel_rfl) rfl) [w0.heap.size + 2] _ _ wc (fun k hk => by simp at hk; omega)
    (parseIn_any text hs (wc.alloc (.cells #[.int .i64 0] 26)) w0.heap.size (w0.heap.size + 2) (kt.alloc _) (kd.alloc _) (hTc.below hBx hTc.two) (by omega))
  have HQ : Hid (∀ (e : Ending) (w' : World), (∃ w1, Turned [w0.heap.size + 2] (wc.alloc (.cells #[.int .i64 0] 26)) w1 ∧ Turned [wc.heap.size] w1 w' ∧ ((e = .returned (.int .i64 0) ∧ ∃ d t, Blk w1 (w0.heap.size + 2) 47 (rowD d t) ∧ Told text (wc.alloc (.cells #[.int .i64 0] 26)).heap.size w1 d t) ∨ ∃ n, e = .returned (.int .i64 n) ∧ parseD text.data.toList = (none, n) ∧ Blk w1 (w0.heap.size + 2) 47 zeroRow)) →
      Below w0.heap.size w0 w' ∧ Blk w' (w0.heap.size + 1) 47 zeroRow ∧ ((∃ d t, e = .returned (.int .i64 0) ∧ Blk w' (w0.heap.size + 2) 47 (rowD d t) ∧ Told text (w0.heap.size + 3) w' d t) ∨ ∃ n, e = .returned (.int .i64 n) ∧ parseD text.data.toList = (none, n) ∧ Blk w' (w0.heap.size + 2) 47 zeroRow)) := by
    rintro e w' ⟨w1, h1, h2, h⟩
    have hw1 : Below w0.heap.size w0 w1 := (hBc.trans (hBx.mono (by omega))).trans (h1.below (fun k hk => by simp at hk; omega) (by simp; omega))
    have hw' : Below w0.heap.size w0 w' := hw1.trans (h2.below (fun k hk => by simp at hk; omega) hw1.size)
    have hr : Blk w' (w0.heap.size + 1) 47 zeroRow := ((kr.alloc _).turned h1 (by simp)).turned h2 (by simp; omega)
    refine ⟨hw', hr, ?_⟩
    rcases h with ⟨rfl, d, t, hb, ht⟩ | ⟨n, rfl, hn, hb⟩
    · exact .inl ⟨d, t, rfl, hb.turned h2 (by simp; omega), (ht.stay h2 (fun k hk => by simp at hk; subst hk; simp)).mono (by simp; omega)⟩
    · exact .inr ⟨n, rfl, hn, hb.turned h2 (by simp; omega)⟩
  have HC : Hid (Calls Tryz.prog 42 #[.func (.func 43) #[] #[.pointer (some ⟨w0.heap.size, 0, none⟩), .pointer (some ⟨w0.heap.size + 2, 0, none⟩)]] wc (fun e w' => Below w0.heap.size w0 w' ∧ Blk w' (w0.heap.size + 1) 47 zeroRow ∧ ((∃ d t, e = .returned (.int .i64 0) ∧ Blk w' (w0.heap.size + 2) 47 (rowD d t) ∧ Told text (w0.heap.size + 3) w' d t) ∨ ∃ n, e = .returned (.int .i64 n) ∧ parseD text.data.toList = (none, n) ∧ Blk w' (w0.heap.size + 2) 47 zeroRow))) := CC.mono fun e w' h => HQ.out e w' h
  clear CC HQ hBx hTc kt kr kd hBc zc za zb ht2 hT
  subst hwc hwb hwa
  unfold zeroRow at HC
  go_enter Tryz.func27, Tryz.ntmps27
  go_wp2_with fail
  refine HC.out.mono ?_
  rintro e w2 ⟨hb, hr, h⟩
  have HB := Lib.hid hb
  have HR : Hid (Blk w2 (w0.heap.size + 1) 47 zeroRow) := hr
  have k0 := hr.free 0
  have k1 := hr.free 1
  have k2 := hr.free 2
  have k3 := hr.free 3
  have k4 := hr.free 4
  have d0 := hr.cell 0
  have d1 := hr.cell 1
  have d2 := hr.cell 2
  have d3 := hr.cell 3
  have d4 := hr.cell 4
  simp at d0 d1 d2 d3 d4
  clear hb hr HC
  rcases h with ⟨d, t, rfl, hd, ht⟩ | ⟨n, rfl, hn, hd⟩
  · obtain ⟨A, c, rfl⟩ : ∃ A c, t = .slice A d.args.length c := by
      obtain ⟨_, S, hL, _⟩ := ht
      obtain ⟨A, c, h, _, _⟩ := hL.form_
      exact ⟨A, c, h⟩
    have HP : Hid (ParsePost text w0 (.returned (.tuple #[.agg (rowD d (.slice A d.args.length c)), .int .i64 0])) (five w2 (w0.heap.size + 1) d (.slice A d.args.length c))) := by
      have h5 := five_turned w2 (w0.heap.size + 1) d (.slice A d.args.length c)
      exact ⟨HB.out.trans (h5.below (fun k hk => by simp at hk; omega) HB.out.size), .inl ⟨d, _, (ht.stay h5 (fun k hk => by simp at hk; omega)).mono (by omega), rfl⟩⟩
    have HL : Hid _ := load_dep (five_blk HR.out d (.slice A d.args.length c))
    have c0 := hd.cell 0
    have c1 := hd.cell 1
    have c2 := hd.cell 2
    have c3 := hd.cell 3
    have c4 := hd.cell 4
    unfold rowD at c0 c1 c2 c3 c4
    simp at c0 c1 c2 c3 c4
    clear hd ht HB HR
    unfold five at HP HL
    go_wp2_with fail
    exact bodyPost_ret (v := .tuple #[.agg (rowD d (.slice A d.args.length c)), .int .i64 0]) (results_cell2 rfl _ rfl rfl HL.out) rfl HP.out
  · have HP : Hid (ParsePost text w0 (.returned (.tuple #[.agg zeroRow, .int .i64 n])) (five w2 (w0.heap.size + 1) zeroD (.slice none 0 0))) := by
      have h5 := five_turned w2 (w0.heap.size + 1) zeroD (.slice none 0 0)
      exact ⟨HB.out.trans (h5.below (fun k hk => by simp at hk; omega) HB.out.size), .inr ⟨n, hn, rfl⟩⟩
    have HL : Hid _ := load_dep (five_blk HR.out zeroD (.slice none 0 0))
    have c0 := hd.cell 0
    have c1 := hd.cell 1
    have c2 := hd.cell 2
    have c3 := hd.cell 3
    have c4 := hd.cell 4
    unfold zeroRow at c0 c1 c2 c3 c4
    simp at c0 c1 c2 c3 c4
    clear hd hn HB HR
    unfold five zeroD at HP HL
    dsimp only [Dep.kind, Dep.name, Dep.op, Dep.evr] at HP HL
    go_wp2_with fail
    refine bodyPost_ret (v := .tuple #[.agg zeroRow, .int .i64 n]) ?_ rfl HP.out
    exact results_cell2 rfl _ rfl rfl HL.out
end Go.Proofs.YtciogfpejenedaaGreatDoor
namespace Go.Proofs.YtciogfpejenedaaGreatDoor
set_option linter.unusedSimpArgs false
set_option linter.unusedVariables false
open Go.RowKit

theorem texts_append (k : Int) : ∀ (l1 l2 : List Dep) (i : Nat), texts k i (l1 ++ l2) = texts k i l1 ++ texts k (i + l1.length) l2
  | [], l2, i => by simp [texts]
  | a :: r, l2, i => by
    simp only [List.cons_append, texts, texts_append k r l2 (i + 1), List.length_cons, List.append_assoc]
    rw [show i + 1 + r.length = i + (r.length + 1) by omega]
/-- What of a dependency's text is written ahead of its j-th part. -/
def pre (d : Dep) (j : Nat) : Wd := 40 :: texts d.kind 0 (d.args.take j)
def sepT (k : Int) (j : Nat) : Wd := if j = 0 then [] else 32 :: btw k j ++ [32]
theorem pre_succ {d : Dep} {j : Nat} {a : Dep} (h : d.args[j]? = some a) : pre d (j + 1) = pre d j ++ (sepT d.kind j ++ text a) := by
  have hl := (List.getElem?_eq_some_iff.1 h).1
  unfold pre sepT
  rw [List.take_add_one, h, texts_append]
  have e : (List.take j d.args).length = j := by rw [List.length_take]; omega
  simp [texts, e]
theorem text_pre {d : Dep} (hk : d.kind ≠ 1) : text d = pre d d.args.length ++ [41] := by
  obtain ⟨k, n, o, e, xs⟩ := d
  simp only [Dep.kind] at hk
  simp [text, hk, pre, Dep.args, Dep.kind]
theorem pre_le {d : Dep} (hk : d.kind ≠ 1) (j : Nat) : (pre d j).length + 1 ≤ (text d).length := by
  rw [text_pre hk]
  unfold pre
  have : texts d.kind 0 d.args = texts d.kind 0 (d.args.take j) ++ texts d.kind (0 + (d.args.take j).length) (d.args.drop j) := by rw [← texts_append, List.take_append_drop]
  rw [List.take_length, this]
  simp only [List.length_append, List.length_cons, List.length_nil]
  omega
theorem text_leafT {n e : ByteArray} {o : Int} {xs : List Dep} : text (.mk 1 n o e xs) = n.data.toList ++ (if o = 0 then [] else 32 :: signT o ++ 32 :: e.data.toList) := by simp [text]

/-- What writing a dependency does. -/
def Wrote (B b : Nat) (l : Wd) (F : List Nat) (d : Dep) (w : World) (e : Ending) (w' : World) : Prop :=
  e = .returned (.tuple #[]) ∧ ∃ F', Bld w' B b (l ++ text d) F' ∧ Turned F w w' ∧ Fresh w F F'
theorem sign_cell {w : World} (h : SignsAt w) {m : Nat} (h1 : 1 ≤ m) (h7 : m ≤ 7) : w.cell? ⟨3, m, none⟩ = some (.string (mkS (signT (m : Int)))) := by
  have hm : m = 1 ∨ m = 2 ∨ m = 3 ∨ m = 4 ∨ m = 5 ∨ m = 6 ∨ m = 7 := by omega
  rcases hm with rfl | rfl | rfl | rfl | rfl | rfl | rfl <;> exact SignsAt.cell h _
theorem Turned.from_drew {F : List Nat} {w w' : World} (h : Turned F w.drew w') : Turned F w w' := ⟨h.os, h.tape, h.output, h.size, h.block⟩
theorem Bld.drew {w : World} {B b : Nat} {l : List UInt8} {F : List Nat} (h : Bld w B b l F) : Bld w.drew B b l F := h
theorem add4 (a b : ByteArray) : (⟨#[32]⟩ ++ a ++ ⟨#[32]⟩ ++ b : ByteArray).data.toList = 32 :: a.data.toList ++ 32 :: b.data.toList := by simp [ByteArray.data_append]
theorem sign_size {m : Nat} (h1 : 1 ≤ m) (h7 : m ≤ 7) : (mkS (signT (m : Int))).size ≤ 3 := by
  have hm : m = 1 ∨ m = 2 ∨ m = 3 ∨ m = 4 ∨ m = 5 ∨ m = 6 ∨ m = 7 := by omega
  rcases hm with rfl | rfl | rfl | rfl | rfl | rfl | rfl <;> decide
set_option maxHeartbeats 2000000 in
set_option maxRecDepth 100000 in
theorem write_leaf (n : ByteArray) (o : Int) (ev : ByteArray) (hf : form (.mk 1 n o ev []) = true) (s : Value) (S : Nat → Prop) (B b : Nat) (l : Wd) (F : List Nat) (w : World) (hL : Lay w S (.mk 1 n o ev []) s) (hb : Bld w B b l F) (hT : Tabs w) (hF : ∀ k ∈ F, 4 ≤ k) (hlen : l.length + (text (.mk 1 n o ev [])).length ≤ 1099511627776) :
    Calls Tryz.prog 47 #[.pointer (some ⟨b, 0, none⟩), .agg (rowD (.mk 1 n o ev []) s)] w (Wrote B b l F (.mk 1 n o ev []) w) := by
  obtain ⟨A, c, rfl, _, _⟩ := hL.form_
  obtain ⟨hn, hcmp, _⟩ := may_leaf (form_may hf) rfl
  have hnl : n.size ≤ 60 := by have := (name_ne hn).2.2.2.1; rwa [size_len] at this
  rw [text_leafT] at hlen
  have HB : Hid (Below w.heap.size w (w.alloc (.cells (rowD (.mk 1 n o ev []) (.slice A 0 c)) 47))) := (Below.refl _ _).alloc (Nat.le_refl _) _
  have K := Lib.hid (Blk.new w 47 (rowD (.mk 1 n o ev []) (.slice A 0 c)))
  have hb1 : Bld (w.alloc (.cells (rowD (.mk 1 n o ev []) (.slice A 0 c)) 47)) B b l F := hb.below HB.out
  have HLT := Lib.hid hb.lt
  have C1 := Lib.hid (writeString_any B b l F n _ hb1 (by rw [List.length_append, size_len] at hlen; omega))
  have HT := Lib.hid hT
  have HF := Lib.hid hF
  have HLen := Lib.hid hlen
  rw [show (Dep.mk 1 n o ev []).args.length = 0 from rfl] at *
  unfold rowD at HB K C1 ⊢
  simp only [Dep.kind, Dep.name, Dep.op, Dep.evr] at HB K C1 ⊢
  clear hL hf hb hb1 hT hF hlen
  rcases mayCmp_cases hcmp with ⟨rfl, he⟩ | ⟨h1, h7, he⟩
  · have HE := Lib.hid he
    clear he hcmp hn
    go_enter Tryz.func47, Tryz.ntmps47
    go_wp2_with fail
    refine C1.out.mono ?_
    rintro e w1 ⟨rfl, F1, hb1, ht1, hf1⟩
    have k2 := (K.out.turned ht1 (fun hm => by have := (HLT.out _ hm).2; omega)).cell 2
    simp at k2
    have HP : Hid (Wrote B b l F (.mk 1 n 0 ev []) w (.returned (.tuple #[])) w1) := by
      refine ⟨rfl, F1, ?_, (Turned.of_below HB.out F).trans ht1 (Fresh.refl _ _), fun k hk => (hf1 k hk).imp id (fun h => by simp at h; omega)⟩
      rw [text_leafT, if_pos rfl, List.append_nil]
      exact hb1
    clear hb1 ht1 hf1 C1 K HB
    go_wp2_with fail
    go_end0
    exact HP.out
  · obtain ⟨m, rfl⟩ : ∃ m : Nat, o = (m : Int) := ⟨o.toNat, by omega⟩
    have hm1 : 1 ≤ m := by omega
    have hm7 : m ≤ 7 := by omega
    have t0 : (((m : Nat) : Int) != 0) = true := bne_iff_ne.2 (by omega)
    have HE := Lib.hid he
    clear he hcmp hn h1 h7
    go_enter Tryz.func47, Tryz.ntmps47
    go_wp2_with fail
    refine C1.out.mono ?_
    rintro e w1 ⟨rfl, F1, hb1, ht1, hf1⟩
    have K1 := K.out.turned ht1 (fun hm => by have := (HLT.out _ hm).2; omega)
    have k2 := K1.cell 2
    have k3 := K1.cell 3
    simp at k2 k3
    have hT1 : Tabs w1 := (HT.out.below HB.out HT.out.two).turned ht1 HF.out
    have ks := sign_cell hT1.signs hm1 hm7
    have HB1 := Lib.hid hb1
    have HT1 := Lib.hid ht1
    have HF1 := Lib.hid hf1
    have HS := Lib.hid hT1
    have hev : ev.size ≤ 60 := by have := (evr_may HE.out).2.1; rwa [size_len] at this
    have hsg : (mkS (signT (m : Int))).size ≤ 3 := sign_size hm1 hm7
    obtain ⟨sg, hsg'⟩ : ∃ sg, Hid (sg = mkS (signT (m : Int))) := ⟨_, rfl⟩
    rw [← hsg'.out] at ks hsg
    have C2 := Lib.hid (writeString_any B b (l ++ n.data.toList) F1 (⟨#[32]⟩ ++ sg ++ ⟨#[32]⟩ ++ ev) w1.drew hb1.drew (by
      have h := HLen.out
      rw [if_neg (by omega)] at h
      rw [← size_len, add4, hsg'.out]
      simp only [List.length_append, List.length_cons] at h ⊢
      have e0 : (mkS (signT (m : Int))).data.toList = signT (m : Int) := rfl
      rw [e0]
      omega))
    clear hb1 ht1 hf1 hT1 C1 K K1 HLen
    go_wp2_with fail
    have q0 : (0 : Int) ≤ (m : Int) := by omega
    have q1 : (m : Int) < 8 := by omega
    have q2 : m < 8 := by omega
    have q3 : ((m : Int)).toNat = m := by omega
    have HM := Lib.hid hm1
    clear q2 hm1 hm7
    have z1 : ¬ 9223372036854775807 < 1 + sg.size := by omega
    have z2 : ¬ 9223372036854775807 < 1 + sg.size + 1 := by omega
    have z3 : ¬ 9223372036854775807 < 1 + sg.size + 1 + ev.size := by omega
    go_still_tail 10, (by kernel_rfl)
    go_wp2_with fail
    refine C2.out.mono ?_
    rintro e w2 ⟨rfl, F2, hb2, ht2, hf2⟩
    have HP : Hid (Wrote B b l F (.mk 1 n (m : Int) ev []) w (.returned (.tuple #[])) w2) := by
      refine ⟨rfl, F2, ?_, ((Turned.of_below HB.out F).trans HT1.out (Fresh.refl _ _)).trans ht2.from_drew ?_, ?_⟩
      · rw [text_leafT, if_neg (by have := HM.out; omega)]
        rw [add4] at hb2
        rw [hsg'.out] at hb2
        have e0 : l ++ (n.data.toList ++ (32 :: signT (m : Int) ++ 32 :: ev.data.toList)) = l ++ n.data.toList ++ (32 :: (mkS (signT (m : Int))).data.toList ++ 32 :: ev.data.toList) := by rw [List.append_assoc]; rfl
        rw [e0]
        exact hb2
      · exact fun k hk => (HF1.out k hk).imp id (fun h => by simp at h; omega)
      · refine Fresh.trans (w' := w1.drew) (fun k hk => (HF1.out k hk).imp id (fun h => by simp at h; omega)) ?_ hf2
        have := HT1.out.size
        simp at this
        show w.heap.size ≤ w1.heap.size
        omega
    clear hb2 ht2 hf2 C2
    go_wp2_with fail
    go_end0
    exact HP.out

/-- While a dependency is being written: what is written, what has turned since world w1. -/
structure Mid (B b : Nat) (F : List Nat) (w1 : World) (l : Wd) (wx : World) (F' : List Nat) : Prop where
  bld : Bld wx B b l F'
  turned : Turned F w1 wx
  fresh : Fresh w1 F F'
section
variable {B b : Nat} {F F' : List Nat} {w1 wx w' : World} {l : Wd}
theorem Mid.str {s : ByteArray} {e : Ending} (h : Mid B b F w1 l wx F') (k : WrotePost B b l F' s wx e w') : ∃ F2, Mid B b F w1 (l ++ s.data.toList) w' F2 := by
  obtain ⟨_, F2, hb, ht, hf⟩ := k
  exact ⟨F2, hb, h.turned.trans ht h.fresh, h.fresh.trans h.turned.size hf⟩
theorem Mid.dep {d : Dep} {e : Ending} (h : Mid B b F w1 l wx F') (k : Wrote B b l F' d wx e w') : ∃ F2, Mid B b F w1 (l ++ text d) w' F2 := by
  obtain ⟨_, F2, hb, ht, hf⟩ := k
  exact ⟨F2, hb, h.turned.trans ht h.fresh, h.fresh.trans h.turned.size hf⟩
theorem Mid.alloc (h : Mid B b F w1 l wx F') (o : Obj) : Mid B b F w1 l (wx.alloc o) F' := ⟨h.bld.below ((Below.refl _ _).alloc (Nat.le_refl _) _), h.turned.alloc _, h.fresh⟩
theorem Mid.notin (h : Mid B b F w1 l wx F') {x : Nat} (hx : x < w1.heap.size) (hn : x ∉ F) : x ∉ F' := fun hm => by
  rcases h.fresh x hm with h1 | h1
  · exact hn h1
  · omega
theorem Mid.ge2 (h : Mid B b F w1 l wx F') (h2 : ∀ k ∈ F, 4 ≤ k) (hz : 4 ≤ w1.heap.size) : ∀ k ∈ F', 4 ≤ k := fun k hk => by
  rcases h.fresh k hk with h1 | h1
  · exact h2 k h1
  · omega
end
theorem btw_size {k : Int} {n : Nat} (h2 : 2 ≤ k) (h6 : k ≤ 6) : (mkS (btw k n)).size ≤ 7 := by
  have := btw_cases (n := n) h2 h6
  simp only [List.mem_cons, List.not_mem_nil, or_false] at this
  rcases this with e | e | e | e | e | e <;> rw [e] <;> decide
theorem sep_text (b : ByteArray) : (⟨#[32]⟩ ++ b ++ ⟨#[32]⟩ : ByteArray).data.toList = 32 :: b.data.toList ++ [32] := by simp [ByteArray.data_append]
def WriteOk (d : Dep) : Prop := ∀ (s : Value) (S : Nat → Prop) (B b : Nat) (l : Wd) (F : List Nat) (w : World), Lay w S d s → (∀ x, S x → x < w.heap.size ∧ x ∉ F) → Bld w B b l F → Tabs w → (∀ k ∈ F, 4 ≤ k) → l.length + (text d).length ≤ 1099511627776 →
  Calls Tryz.prog 47 #[.pointer (some ⟨b, 0, none⟩), .agg (rowD d s)] w (Wrote B b l F d w)
set_option maxHeartbeats 2000000 in
set_option maxRecDepth 100000 in
theorem write_node (d : Dep) (hf : form d = true) (hk : d.kind ≠ 1) (ih : ∀ a ∈ d.args, WriteOk a) : WriteOk d := by
  intro s S B b l F w hL hS hb hT hF hlen
  obtain ⟨A, c, rfl, hc1, hc2, hA⟩ := hL.args_
  have hargs : numArgs d.kind d.args = true := by
    obtain ⟨k, n, o, e, xs⟩ := d
    exact (may_node (form_may hf) hk).2.2.2
  obtain ⟨hk2, hk6, hn2, hk4, _⟩ := args_kind hargs
  obtain ⟨w1, hw1⟩ : ∃ w1, w1 = w.alloc (.cells (rowD d (.slice A d.args.length c)) 47) := ⟨_, rfl⟩
  have hB1 : Below w.heap.size w w1 := by rw [hw1]; exact (Below.refl _ _).alloc (Nat.le_refl _) _
  have hz1 : w1.heap.size = w.heap.size + 1 := by rw [hw1]; simp
  have K : Blk w1 w.heap.size 47 (rowD d (.slice A d.args.length c)) := by rw [hw1]; exact Blk.new _ _ _
  have hgF : w.heap.size ∉ F := fun hm => by have := (hb.lt _ hm).2; omega
  have hMid0 : Mid B b F w1 l w1 F := ⟨hb.below hB1, Turned.refl _ _, Fresh.refl _ _⟩
  have C1 := Lib.hid (writeString_any B b l F ⟨#[40]⟩ w1 hMid0.bld (by
    have := pre_le hk 0
    have e : (pre d 0).length = 1 := rfl
    show l.length + 1 ≤ _
    omega))
  have hpl := pre_le hk
  have hT1 : Tabs w1 := hT.below hB1 hT.two
  have hA1 : ArgsAt w1 S d.args A := hA.stay (fun _ h => h) (StayS.below' hB1)
  have HF : Hid (∀ wx F' l', Mid B b F w1 l' wx F' → Blk wx w.heap.size 47 (rowD d (.slice A d.args.length c)) ∧ Tabs wx ∧ ArgsAt wx S d.args A ∧ (∀ x, S x → x < wx.heap.size ∧ x ∉ F') ∧ (∀ k ∈ F', 4 ≤ k)) := by
    intro wx F' l' hM
    refine ⟨K.turned hM.turned hgF, hT1.turned hM.turned hF, hA1.stay (fun _ h => h) (StayS.turned hM.turned fun x hx => (hS x hx).2), fun x hx => ⟨?_, hM.notin (by have := (hS x hx).1; omega) (hS x hx).2⟩, hM.ge2 hF (by have := hT.two; omega)⟩
    have := hM.turned.size
    have := (hS x hx).1
    omega
  have HLen := Lib.hid hlen
  have HPre := Lib.hid hpl
  have HM0 := Lib.hid hMid0
  have HIH := Lib.hid ih
  have HEnd : Hid (∀ w' F', Mid B b F w1 (l ++ text d) w' F' → Wrote B b l F d w (.returned (.tuple #[])) w') := fun w' F' h =>
    ⟨rfl, F', h.bld, (Turned.of_below hB1 F).trans h.turned (Fresh.refl _ _), fun k hk => (h.fresh k hk).imp id (fun h => by omega)⟩
  have HFin := Lib.hid (text_pre hk)
  have HStep : Hid (∀ j a, d.args[j]? = some a → pre d (j + 1) = pre d j ++ (sepT d.kind j ++ text a)) := fun j a h => pre_succ h
  have t1 : (d.kind == 1) = false := beq_eq_false_iff_ne.2 hk
  have t1' : ¬ d.kind = 1 := hk
  have hkd : kindB d.kind := ⟨by omega, by omega⟩
  obtain ⟨R, HR⟩ : ∃ R : Nat → World → List Nat → Prop, Hid (∀ k wx F', R k wx F' ↔ Mid B b F w1 (l ++ pre d k) wx F') := ⟨fun k wx F' => Mid B b F w1 (l ++ pre d k) wx F', fun _ _ _ => Iff.rfl⟩
  have hcm : c ≤ maxLen := hc2
  unfold maxLen at hcm
  have hnl : d.args.length ≤ 9223372036854775807 := by omega
  clear hL hS hb hT hF hlen hA hargs hMid0 hpl hT1 hA1 hgF K ih hf hk hB1
  subst hw1
  unfold rowD at C1 HM0 HF HEnd HR ⊢
  go_enter Tryz.func47, Tryz.ntmps47
  go_wp2_with fail
  refine C1.out.mono ?_
  rintro e w2 h
  have he := h.1
  subst he
  obtain ⟨F2, hM2⟩ := HM0.out.str h
  obtain ⟨K2, _, _, _, _⟩ := HF.out _ _ _ hM2
  have k4 := K2.cell 4
  simp at k4
  have HM2 : Hid (R 0 w2 F2) := (HR.out _ _ _).2 hM2
  clear hM2 K2 C1 HM0 h hc1 hc2
  go_wp2_with fail
  go_loopw [32] (fun v32 wx => ∃ (k : Nat) (F' : List Nat), k ≤ d.args.length ∧ v32 = .int .i64 (k : Int) ∧ Hid (R k wx F')) (fun v32 _ => d.args.length - (intOf v32).toNat)
  case atStart => exact ⟨0, F2, Nat.zero_le _, rfl, HM2⟩
  case round =>
    clear HM2 k4
    obtain ⟨k, F', hk, rfl, HM⟩ := hrel
    have HMr := Lib.hid ((HR.out _ _ _).1 HM.out)
    obtain ⟨Kr, hTr, hAr, hSr, hFr⟩ := HF.out _ _ _ HMr.out
    by_cases hlt : k < d.args.length
    · obtain ⟨a, ha⟩ : ∃ a, d.args[k]? = some a := ⟨_, List.getElem?_eq_getElem hlt⟩
      obtain ⟨b', o', t, hA', hSb, hC, hLa⟩ := hAr k a ha
      obtain ⟨At, ct, rfl, _, _⟩ := hLa.form_
      subst hA'
      obtain ⟨e0, e1, e2, e3, e4⟩ := hC
      have k0 := Kr.cell 0
      have hltw := Kr.lt
      simp at k0
      have hst := HStep.out k a ha
      have hple : (pre d (k + 1)).length + 1 ≤ (text d).length := HPre.out (k + 1)
      have hln := HLen.out
      rw [hst] at hple
      simp only [List.length_append] at hple
      have hbl := HMr.out.bld.lt
      have HMv := Lib.hid (HMr.out.alloc (.cells (rowD a (.slice At a.args.length ct)) 47))
      have hKv := Blk.new wr 47 (rowD a (.slice At a.args.length ct))
      obtain ⟨_, hTv, hAv, hSv, hFv⟩ := HF.out _ _ _ HMv.out
      have hLv : Lay (wr.alloc (.cells (rowD a (.slice At a.args.length ct)) 47)) S a (.slice At a.args.length ct) := hLa.stay (fun _ h => h) (StayS.below' ((Below.refl _ _).alloc (Nat.le_refl _) _))
      by_cases hk0 : k = 0
      · subst hk0
        simp only [Nat.zero_mul, Nat.add_zero] at e0 e1 e2 e3 e4
        have CI := Lib.hid (HIH.out a (List.mem_of_getElem? ha) (.slice At a.args.length ct) S B b (l ++ pre d 0) F' _ hLv hSv HMv.out.bld hTv hFv (by rw [List.length_append]; omega))
        have HS := Lib.hid hst
        clear hst hple hln hbl hKv hTv hAv hSv hFv hLv hTr hAr hSr hFr Kr HM HMr
        unfold rowD at CI HMv
        go_wp2_with fail
        refine CI.out.mono ?_
        rintro e w5 h
        have he := h.1
        subst he
        obtain ⟨F5, hM5⟩ := HMv.out.dep h
        have HN : Hid (R 1 w5 F5) := (HR.out _ _ _).2 (by rw [HS.out]; simpa [sepT] using hM5)
        clear h hM5 CI HMv
        go_wp2_with fail
        go_roundw
        case rel => exact ⟨1, F5, by omega, by go_num, HN⟩
        case measure => simp [intOf]; omega
      · obtain ⟨bs, hbs⟩ : ∃ bs, Hid (bs = mkS (btw d.kind k)) := ⟨_, rfl⟩
        have hbz : bs.size ≤ 7 := by rw [hbs.out]; exact btw_size hk2 hk6
        have hsp : sepT d.kind k = (⟨#[32]⟩ ++ bs ++ ⟨#[32]⟩ : ByteArray).data.toList := by rw [sep_text, hbs.out]; unfold sepT; rw [if_neg hk0]; rfl
        have CB := Lib.hid (between_any d.kind k hkd _ hTv.words)
        rw [← hbs.out] at CB
        have hsl : (sepT d.kind k).length = (⟨#[32]⟩ ++ bs ++ ⟨#[32]⟩ : ByteArray).size := by rw [hsp, size_len]
        have CW := Lib.hid (writeString_any B b (l ++ pre d k) F' (⟨#[32]⟩ ++ bs ++ ⟨#[32]⟩) _ HMv.out.bld (by rw [List.length_append]; omega))
        have HS := Lib.hid hst
        have HSp := Lib.hid hsp
        have HKv := Lib.hid hKv
        have HLv := Lib.hid hLv
        have HBl := Lib.hid hbl
        have HLn2 : Hid ((l ++ pre d k ++ sepT d.kind k).length + (text a).length ≤ 1099511627776) := by show _ ≤ _; simp only [List.length_append]; omega
        have hk1 : 0 < k := by omega
        have hkI : (0 : Int) < (k : Int) := by omega
        clear hst hple hln hbl hKv hTv hAv hSv hFv hLv hTr hAr hSr hFr Kr HM hsp hsl
        unfold rowD at CB CW HMv HKv HLv
        go_wp2_with fail
        refine CB.out.mono ?_
        rintro e w3 ⟨rfl, rfl⟩
        clear CB
        go_wp2_with fail
        refine CW.out.mono ?_
        rintro e w3 h
        have he := h.1
        subst he
        obtain ⟨F3, hM3⟩ := HMv.out.str h
        rw [← HSp.out] at hM3
        obtain ⟨K3, hT3, _, hS3, hF3⟩ := HF.out _ _ _ hM3
        have hst3 : StayS S _ w3 := StayS.turned h.2.choose_spec.2.1 (fun x hx => (HF.out _ _ _ HMv.out).2.2.2.1 x hx |>.2)
        have CI := Lib.hid (HIH.out a (List.mem_of_getElem? ha) (.slice At a.args.length ct) S B b (l ++ pre d k ++ sepT d.kind k) F3 w3 (HLv.out.stay (fun _ h => h) hst3) hS3 hM3.bld hT3 hF3 HLn2.out)
        have hK3 := HKv.out.turned h.2.choose_spec.2.1 (fun hm => by have := (HBl.out _ hm).2; omega)
        have d0 := hK3.cell 0
        have d1 := hK3.cell 1
        have d2 := hK3.cell 2
        have d3 := hK3.cell 3
        have d4 := hK3.cell 4
        simp at d0 d1 d2 d3 d4
        have HM3 := Lib.hid hM3
        clear h hM3 K3 hT3 hS3 hF3 hst3 hK3 CW HMv HKv HLv
        unfold rowD at CI
        go_wp2_with fail
        refine CI.out.mono ?_
        rintro e w5 h
        have he := h.1
        subst he
        obtain ⟨F5, hM5⟩ := HM3.out.dep h
        have HN : Hid (R (k + 1) w5 F5) := (HR.out _ _ _).2 (by rw [HS.out, ← List.append_assoc, ← List.append_assoc]; exact hM5)
        clear h hM5 CI HM3
        go_wp2_with fail
        go_roundw
        case rel => exact ⟨k + 1, F5, by omega, by go_num, HN⟩
        case measure => simp [intOf]; omega
    · have hkn : k = d.args.length := by omega
      subst hkn
      have CW := Lib.hid (writeString_any B b (l ++ pre d d.args.length) F' ⟨#[41]⟩ _ HMr.out.bld (by
        have h1 := HPre.out d.args.length
        have h2 := HLen.out
        rw [List.length_append]
        show l.length + (pre d d.args.length).length + 1 ≤ _
        omega))
      have HE2 : Hid (∀ e w', WrotePost B b (l ++ pre d d.args.length) F' ⟨#[41]⟩ wr e w' → Wrote B b l F d w (.returned (.tuple #[])) w') := fun e w' h => by
        obtain ⟨F3, hM3⟩ := HMr.out.str h
        refine HEnd.out w' F3 ?_
        rw [HFin.out, ← List.append_assoc]
        exact hM3
      clear hTr hAr hSr hFr Kr HM HMr HEnd HF HR HIH HStep HPre
      go_wp2_with fail
      refine CW.out.mono ?_
      rintro e w3 h
      have HP := Lib.hid (HE2.out _ _ h)
      have he := h.1
      subst he
      clear h CW HE2
      go_wp2_with fail
      go_end0
      exact HP.out
end Go.Proofs.YtciogfpejenedaaGreatDoor
namespace Go.Proofs.YtciogfpejenedaaGreatDoor
set_option linter.unusedSimpArgs false
set_option linter.unusedVariables false
open Go.RowKit

theorem write_any (d : Dep) : form d = true → WriteOk d := by
  induction d using Dep.ind with
  | h k n o e xs ih =>
    intro hf
    by_cases hk : k = 1
    · subst hk
      obtain ⟨_, _, rfl⟩ := may_leaf (form_may hf) rfl
      intro s S B b l F w hL hS hb hT hF hlen
      exact write_leaf n o e hf s S B b l F w hL hb hT hF hlen
    · exact write_node _ hf hk fun a ha => ih a ha (forms_mem (form_args hf) a ha)
theorem texts_len {k : Int} (h2 : 2 ≤ k) (h6 : k ≤ 6) : ∀ (xs : List Dep) (i : Nat), (∀ a ∈ xs, (text a).length + 9 ≤ 140 * nodes a) → (texts k i xs).length ≤ 140 * nodesA xs
  | [], i, _ => by simp [texts]
  | a :: r, i, h => by
    have h1 := h a (by simp)
    have h3 := texts_len h2 h6 r (i + 1) fun x hx => h x (by simp [hx])
    have hb : (btw k i).length ≤ 7 := by have := btw_size (n := i) h2 h6; rwa [← size_len] at this
    simp only [texts, nodesA, List.length_append]
    split
    · simp only [List.length_nil]; omega
    · simp only [List.length_cons, List.length_append, List.length_nil]; omega
theorem text_len (d : Dep) : form d = true → (text d).length + 9 ≤ 140 * nodes d := by
  induction d using Dep.ind with
  | h k n o e xs ih =>
    intro hf
    by_cases hk : k = 1
    · subst hk
      obtain ⟨hn, hc, rfl⟩ := may_leaf (form_may hf) rfl
      have h1 := (name_ne hn).2.2.2.1
      rw [text_leafT]
      simp only [nodes, nodesA]
      rcases mayCmp_cases hc with ⟨rfl, _⟩ | ⟨h3, h7, he⟩
      · simp only [if_true, List.append_nil]; omega
      · have h4 := (evr_may he).2.1
        have h5 : (signT o).length ≤ 3 := by
          obtain ⟨m, rfl⟩ : ∃ m : Nat, o = (m : Int) := ⟨o.toNat, by omega⟩
          have := sign_size (m := m) (by omega) (by omega)
          rwa [← size_len] at this
        rw [if_neg (by omega)]
        simp only [List.length_append, List.length_cons]
        omega
    · obtain ⟨h2, h6, _⟩ := args_kind (may_node (form_may hf) hk).2.2.2
      have h3 := texts_len h2 h6 xs 0 fun a ha => ih a ha (forms_mem (form_args hf) a ha)
      simp only [text, nodes, if_neg hk, List.length_append, List.length_cons, List.length_nil]
      omega
def printS (d : Dep) : ByteArray := if checkN d = 0 then mkS (text d) else ⟨#[]⟩
set_option maxHeartbeats 2000000 in
set_option maxRecDepth 100000 in
theorem depPrint_any (d : Dep) (s : Value) (S : Nat → Prop) (w0 : World) (hL : Lay w0 S d s) (hC : CleanS w0 S) (hT : Tabs w0) (hN : nodes d ≤ 4194304) :
    Calls Tryz.prog 28 #[.agg (rowD d s)] w0 fun e w' => e = .returned (.tuple #[.string (printS d), .int .i64 (checkN d)]) ∧ Below w0.heap.size w0 w' := by
  obtain ⟨A, c, rfl, _, _⟩ := hL.form_
  obtain ⟨w1, hw1⟩ : ∃ w1, w1 = w0.alloc (.cells (rowD d (.slice A d.args.length c)) 47) := ⟨_, rfl⟩
  have hB1 : Below w0.heap.size w0 w1 := by rw [hw1]; exact (Below.refl _ _).alloc (Nat.le_refl _) _
  have hz1 : w1.heap.size = w0.heap.size + 1 := by rw [hw1]; simp
  have K : Blk w1 w0.heap.size 47 (rowD d (.slice A d.args.length c)) := by rw [hw1]; exact Blk.new _ _ _
  have hst1 := StayS.below' (S := S) hB1
  have C1 := Lib.hid (depCheck_any d _ S w1 (hL.stay (fun _ h => h) hst1) (hC.stay hst1) (hT.below hB1 hT.two) hN)
  have hSlt : ∀ x, S x → x < w0.heap.size := fun x hx => by obtain ⟨cs, hc⟩ := hC x hx; exact hc.lt
  have HW : Hid (∀ w2, Below w1.heap.size w1 w2 → checkN d = 0 → Blk w2 w0.heap.size 47 (rowD d (.slice A d.args.length c)) ∧ Below w0.heap.size w0 w2 ∧
      Calls Tryz.prog 47 #[.pointer (some ⟨w2.heap.size, 0, none⟩), .agg (rowD d (.slice A d.args.length c))] (w2.alloc (.cells #[.pointer none, .slice none 0 0] 88)) (Wrote w2.heap.size w2.heap.size [] [w2.heap.size] d (w2.alloc (.cells #[.pointer none, .slice none 0 0] 88)))) := by
    intro w2 hb2 hc0
    obtain ⟨hf, hlv⟩ := check_form hc0
    have hnl := nodes_leaves d hf
    have hb02 : Below w0.heap.size w0 w2 := hB1.trans (hb2.mono (by omega))
    have hz2 := hb2.size
    have hb3 : Below w2.heap.size w2 (w2.alloc (.cells #[.pointer none, .slice none 0 0] 88)) := (Below.refl _ _).alloc (Nat.le_refl _) _
    have hb03 : Below w0.heap.size w0 (w2.alloc (.cells #[.pointer none, .slice none 0 0] 88)) := hb02.trans (hb3.mono (by omega))
    refine ⟨K.below hb2 (by omega), hb02, write_any d hf _ S _ _ [] _ _ (hL.stay (fun _ h => h) (StayS.below' hb03)) (fun x hx => ⟨?_, ?_⟩) (Bld.new w2) (hT.below hb03 hT.two) ?_ ?_⟩
    · have := hSlt x hx; simp; omega
    · have := hSlt x hx; simp; omega
    · intro k hk; have := hT.two; simp at hk; omega
    · have := text_len d hf; simp only [List.length_nil]; omega
  have HB1 := Lib.hid hB1
  have HZ := Lib.hid hz1
  have K0 := Lib.hid K
  clear hL hC hT hB1 hz1 K hst1 hSlt
  subst hw1
  unfold rowD at C1 HB1 HZ K0 HW ⊢
  go_enter Tryz.func28, Tryz.ntmps28
  go_wp2_with fail
  refine C1.out.mono ?_
  rintro e w2 ⟨rfl, hb2⟩
  have HBx := Lib.hid hb2
  clear hb2 C1
  by_cases hc0 : checkN d = 0
  · obtain ⟨K2, hb02, C2⟩ := HW.out w2 HBx.out hc0
    have t0 : (checkN d != 0) = false := by rw [hc0]; rfl
    have k0 := K2.cell 0
    have k1 := K2.cell 1
    have k2 := K2.cell 2
    have k3 := K2.cell 3
    have k4 := K2.cell 4
    simp at k0 k1 k2 k3 k4
    have hlt := K2.lt
    have HC2 := Lib.hid C2
    have HB2 := Lib.hid hb02
    have HC0 := Lib.hid hc0
    clear K2 hb02 C2 hc0 HW HBx K0 HB1 HZ
    go_wp2_with fail
    refine HC2.out.mono ?_
    rintro e w3 ⟨rfl, F3, hb3, ht3, hf3⟩
    have CS := Lib.hid (string_any _ _ _ _ _ hb3 (by have := ht3.size; simp at this; omega))
    have HT3 := Lib.hid ht3
    clear hb3 ht3 hf3 HC2
    go_wp2_with fail
    refine CS.out.mono ?_
    rintro e w4 ⟨rfl, hb4⟩
    have HP : Hid (Below w0.heap.size w0 w4) := by
      have h1 : Below w2.heap.size w2 w3 := ((Below.refl w2.heap.size w2).alloc (Nat.le_refl _) _).trans (HT3.out.below (fun k hk => by simp at hk; omega) (by simp))
      have hz := HB2.out.size
      exact (HB2.out.trans (h1.mono hz)).trans (hb4.mono hz)
    clear hb4 CS HT3
    go_wp2_with fail
    go_ret2
    refine ⟨?_, HP.out⟩
    unfold printS
    rw [if_pos HC0.out, HC0.out]
    rfl
  · have t0 : (checkN d != 0) = true := bne_iff_ne.2 hc0
    have HP : Hid (Below w0.heap.size w0 w2) := HB1.out.trans (HBx.out.mono (by have := HZ.out; omega))
    have HC0 := Lib.hid hc0
    clear hc0 HW HBx K0 HB1 HZ
    go_wp2_with fail
    go_ret2
    refine ⟨?_, HP.out⟩
    unfold printS
    rw [if_neg HC0.out]
    rfl
end Go.Proofs.YtciogfpejenedaaGreatDoor
