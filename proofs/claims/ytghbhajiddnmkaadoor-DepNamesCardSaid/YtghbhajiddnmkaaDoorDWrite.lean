/- A dependency's text is written: write, Print. -/
import Derived.Test.YtghbhajiddnmkaaDoorDParse
import Derived.Test.YtghbhajiddnmkaaDoorBld
import Derived.StillTailTactics
namespace Go.Proofs.YtghbhajiddnmkaaDoor
set_option linter.unusedSimpArgs false
set_option linter.unusedVariables false
open Go.RowKit

theorem texts_append (k : Int) : ∀ (l1 l2 : List Dep) (i : Nat), texts k i (l1 ++ l2) = texts k i l1 ++ texts k (i + l1.length) l2
  | [], l2, i => by simp [texts]
  | a :: r, l2, i => by
    simp only [List.cons_append, texts, texts_append k r l2 (i + 1), List.length_cons, List.append_assoc]
    rw [show i + 1 + r.length = i + (r.length + 1) by omega]
/-- What of a dependency's text is written ahead of its j-th part. -/
def pre (d : Dep) (j : Nat) : Wd := 40 :: texts d.kind 0 (d.args.take j)
def sepT (k : Int) (j : Nat) : Wd := if j = 0 then [] else 32 :: btw k j ++ [32]
theorem pre_succ {d : Dep} {j : Nat} {a : Dep} (h : d.args[j]? = some a) : pre d (j + 1) = pre d j ++ (sepT d.kind j ++ text a) := by
  have hl := (List.getElem?_eq_some_iff.1 h).1
  unfold pre sepT
  rw [List.take_add_one, h, texts_append]
  have e : (List.take j d.args).length = j := by rw [List.length_take]; omega
  simp [texts, e]
theorem text_pre {d : Dep} (hk : d.kind ≠ 1) : text d = pre d d.args.length ++ [41] := by
  obtain ⟨k, n, o, e, xs⟩ := d
  simp only [Dep.kind] at hk
  simp [text, hk, pre, Dep.args, Dep.kind]
theorem pre_le {d : Dep} (hk : d.kind ≠ 1) (j : Nat) : (pre d j).length + 1 ≤ (text d).length := by
  rw [text_pre hk]
  unfold pre
  have : texts d.kind 0 d.args = texts d.kind 0 (d.args.take j) ++ texts d.kind (0 + (d.args.take j).length) (d.args.drop j) := by rw [← texts_append, List.take_append_drop]
  rw [List.take_length, this]
  simp only [List.length_append, List.length_cons, List.length_nil]
  omega
theorem text_leafT {n e : ByteArray} {o : Int} {xs : List Dep} : text (.mk 1 n o e xs) = n.data.toList ++ (if o = 0 then [] else 32 :: signT o ++ 32 :: e.data.toList) := by simp [text]

/-- What writing a dependency does. -/
def Wrote (B b : Nat) (l : Wd) (F : List Nat) (d : Dep) (w : World) (e : Ending) (w' : World) : Prop :=
  e = .returned (.tuple #[]) ∧ ∃ F', Bld w' B b (l ++ text d) F' ∧ Turned F w w' ∧ Fresh w F F'
theorem sign_cell {w : World} (h : SignsAt w) {m : Nat} (h1 : 1 ≤ m) (h7 : m ≤ 7) : w.cell? ⟨1, m, none⟩ = some (.string (mkS (signT (m : Int)))) := by
  have hm : m = 1 ∨ m = 2 ∨ m = 3 ∨ m = 4 ∨ m = 5 ∨ m = 6 ∨ m = 7 := by omega
  rcases hm with rfl | rfl | rfl | rfl | rfl | rfl | rfl <;> exact SignsAt.cell h _
theorem Turned.from_drew {F : List Nat} {w w' : World} (h : Turned F w.drew w') : Turned F w w' := ⟨h.os, h.tape, h.output, h.size, h.block⟩
theorem Bld.drew {w : World} {B b : Nat} {l : List UInt8} {F : List Nat} (h : Bld w B b l F) : Bld w.drew B b l F := h
theorem add4 (a b : ByteArray) : (⟨#[32]⟩ ++ a ++ ⟨#[32]⟩ ++ b : ByteArray).data.toList = 32 :: a.data.toList ++ 32 :: b.data.toList := by simp [ByteArray.data_append]
theorem sign_size {m : Nat} (h1 : 1 ≤ m) (h7 : m ≤ 7) : (mkS (signT (m : Int))).size ≤ 3 := by
  have hm : m = 1 ∨ m = 2 ∨ m = 3 ∨ m = 4 ∨ m = 5 ∨ m = 6 ∨ m = 7 := by omega
  rcases hm with rfl | rfl | rfl | rfl | rfl | rfl | rfl <;> decide
set_option maxHeartbeats 2000000 in
set_option maxRecDepth 100000 in
theorem write_leaf (n : ByteArray) (o : Int) (ev : ByteArray) (hf : form (.mk 1 n o ev []) = true) (s : Value) (S : Nat → Prop) (B b : Nat) (l : Wd) (F : List Nat) (w : World) (hL : Lay w S (.mk 1 n o ev []) s) (hb : Bld w B b l F) (hT : Tabs w) (hF : ∀ k ∈ F, 2 ≤ k) (hlen : l.length + (text (.mk 1 n o ev [])).length ≤ 1099511627776) :
    Calls Tryd.prog 28 #[.pointer (some ⟨b, 0, none⟩), .agg (rowD (.mk 1 n o ev []) s)] w (Wrote B b l F (.mk 1 n o ev []) w) := by
  obtain ⟨A, c, rfl, _, _⟩ := hL.form_
  obtain ⟨hn, hcmp, _⟩ := may_leaf (form_may hf) rfl
  have hnl : n.size ≤ 60 := by have := (name_ne hn).2.2.2.1; rwa [size_len] at this
  rw [text_leafT] at hlen
  have HB : Hid (Below w.heap.size w (w.alloc (.cells (rowD (.mk 1 n o ev []) (.slice A 0 c)) 25))) := (Below.refl _ _).alloc (Nat.le_refl _) _
  have K := Lib.hid (Blk.new w 25 (rowD (.mk 1 n o ev []) (.slice A 0 c)))
  have hb1 : Bld (w.alloc (.cells (rowD (.mk 1 n o ev []) (.slice A 0 c)) 25)) B b l F := hb.below HB.out
  have HLT := Lib.hid hb.lt
  have C1 := Lib.hid (writeString_any B b l F n _ hb1 (by rw [List.length_append, size_len] at hlen; omega))
  have HT := Lib.hid hT
  have HF := Lib.hid hF
  have HLen := Lib.hid hlen
  rw [show (Dep.mk 1 n o ev []).args.length = 0 from rfl] at *
  unfold rowD at HB K C1 ⊢
  simp only [Dep.kind, Dep.name, Dep.op, Dep.evr] at HB K C1 ⊢
  clear hL hf hb hb1 hT hF hlen
  rcases mayCmp_cases hcmp with ⟨rfl, he⟩ | ⟨h1, h7, he⟩
  · have HE := Lib.hid he
    clear he hcmp hn
    go_enter Tryd.func28, Tryd.ntmps28
    go_wp2_with fail
    refine C1.out.mono ?_
    rintro e w1 ⟨rfl, F1, hb1, ht1, hf1⟩
    have k2 := (K.out.turned ht1 (fun hm => by have := (HLT.out _ hm).2; omega)).cell 2
    simp at k2
    have HP : Hid (Wrote B b l F (.mk 1 n 0 ev []) w (.returned (.tuple #[])) w1) := by
      refine ⟨rfl, F1, ?_, (Turned.of_below HB.out F).trans ht1 (Fresh.refl _ _), fun k hk => (hf1 k hk).imp id (fun h => by simp at h; omega)⟩
      rw [text_leafT, if_pos rfl, List.append_nil]
      exact hb1
    clear hb1 ht1 hf1 C1 K HB
    go_wp2_with fail
    go_end0
    exact HP.out
  · obtain ⟨m, rfl⟩ : ∃ m : Nat, o = (m : Int) := ⟨o.toNat, by omega⟩
    have hm1 : 1 ≤ m := by omega
    have hm7 : m ≤ 7 := by omega
    have t0 : (((m : Nat) : Int) != 0) = true := bne_iff_ne.2 (by omega)
    have HE := Lib.hid he
    clear he hcmp hn h1 h7
    go_enter Tryd.func28, Tryd.ntmps28
    go_wp2_with fail
    refine C1.out.mono ?_
    rintro e w1 ⟨rfl, F1, hb1, ht1, hf1⟩
    have K1 := K.out.turned ht1 (fun hm => by have := (HLT.out _ hm).2; omega)
    have k2 := K1.cell 2
    have k3 := K1.cell 3
    simp at k2 k3
    have hT1 : Tabs w1 := (HT.out.below HB.out HT.out.two).turned ht1 HF.out
    have ks := sign_cell hT1.signs hm1 hm7
    have HB1 := Lib.hid hb1
    have HT1 := Lib.hid ht1
    have HF1 := Lib.hid hf1
    have HS := Lib.hid hT1
    have hev : ev.size ≤ 60 := by have := (evr_may HE.out).2.1; rwa [size_len] at this
    have hsg : (mkS (signT (m : Int))).size ≤ 3 := sign_size hm1 hm7
    obtain ⟨sg, hsg'⟩ : ∃ sg, Hid (sg = mkS (signT (m : Int))) := ⟨_, rfl⟩
    rw [← hsg'.out] at ks hsg
    have C2 := Lib.hid (writeString_any B b (l ++ n.data.toList) F1 (⟨#[32]⟩ ++ sg ++ ⟨#[32]⟩ ++ ev) w1.drew hb1.drew (by
      have h := HLen.out
      rw [if_neg (by omega)] at h
      rw [← size_len, add4, hsg'.out]
      simp only [List.length_append, List.length_cons] at h ⊢
      have e0 : (mkS (signT (m : Int))).data.toList = signT (m : Int) := rfl
      rw [e0]
      omega))
    clear hb1 ht1 hf1 hT1 C1 K K1 HLen
    go_wp2_with fail
    have q0 : (0 : Int) ≤ (m : Int) := by omega
    have q1 : (m : Int) < 8 := by omega
    have q2 : m < 8 := by omega
    have q3 : ((m : Int)).toNat = m := by omega
    have HM := Lib.hid hm1
    clear q2 hm1 hm7
    have z1 : ¬ 9223372036854775807 < 1 + sg.size := by omega
    have z2 : ¬ 9223372036854775807 < 1 + sg.size + 1 := by omega
    have z3 : ¬ 9223372036854775807 < 1 + sg.size + 1 + ev.size := by omega
    go_still_tail 10, (by kernel_rfl)
    go_wp2_with fail
    refine C2.out.mono ?_
    rintro e w2 ⟨rfl, F2, hb2, ht2, hf2⟩
    have HP : Hid (Wrote B b l F (.mk 1 n (m : Int) ev []) w (.returned (.tuple #[])) w2) := by
      refine ⟨rfl, F2, ?_, ((Turned.of_below HB.out F).trans HT1.out (Fresh.refl _ _)).trans ht2.from_drew ?_, ?_⟩
      · rw [text_leafT, if_neg (by have := HM.out; omega)]
        rw [add4] at hb2
        rw [hsg'.out] at hb2
        have e0 : l ++ (n.data.toList ++ (32 :: signT (m : Int) ++ 32 :: ev.data.toList)) = l ++ n.data.toList ++ (32 :: (mkS (signT (m : Int))).data.toList ++ 32 :: ev.data.toList) := by rw [List.append_assoc]; rfl
        rw [e0]
        exact hb2
      · exact fun k hk => (HF1.out k hk).imp id (fun h => by simp at h; omega)
      · refine Fresh.trans (w' := w1.drew) (fun k hk => (HF1.out k hk).imp id (fun h => by simp at h; omega)) ?_ hf2
        have := HT1.out.size
        simp at this
        show w.heap.size ≤ w1.heap.size
        omega
    clear hb2 ht2 hf2 C2
    go_wp2_with fail
    go_end0
    exact HP.out

/-- While a dependency is being written: what is written, what has turned since world w1. -/
structure Mid (B b : Nat) (F : List Nat) (w1 : World) (l : Wd) (wx : World) (F' : List Nat) : Prop where
  bld : Bld wx B b l F'
  turned : Turned F w1 wx
  fresh : Fresh w1 F F'
section
variable {B b : Nat} {F F' : List Nat} {w1 wx w' : World} {l : Wd}
theorem Mid.str {s : ByteArray} {e : Ending} (h : Mid B b F w1 l wx F') (k : WrotePost B b l F' s wx e w') : ∃ F2, Mid B b F w1 (l ++ s.data.toList) w' F2 := by
  obtain ⟨_, F2, hb, ht, hf⟩ := k
  exact ⟨F2, hb, h.turned.trans ht h.fresh, h.fresh.trans h.turned.size hf⟩
theorem Mid.dep {d : Dep} {e : Ending} (h : Mid B b F w1 l wx F') (k : Wrote B b l F' d wx e w') : ∃ F2, Mid B b F w1 (l ++ text d) w' F2 := by
  obtain ⟨_, F2, hb, ht, hf⟩ := k
  exact ⟨F2, hb, h.turned.trans ht h.fresh, h.fresh.trans h.turned.size hf⟩
theorem Mid.alloc (h : Mid B b F w1 l wx F') (o : Obj) : Mid B b F w1 l (wx.alloc o) F' := ⟨h.bld.below ((Below.refl _ _).alloc (Nat.le_refl _) _), h.turned.alloc _, h.fresh⟩
theorem Mid.notin (h : Mid B b F w1 l wx F') {x : Nat} (hx : x < w1.heap.size) (hn : x ∉ F) : x ∉ F' := fun hm => by
  rcases h.fresh x hm with h1 | h1
  · exact hn h1
  · omega
theorem Mid.ge2 (h : Mid B b F w1 l wx F') (h2 : ∀ k ∈ F, 2 ≤ k) (hz : 2 ≤ w1.heap.size) : ∀ k ∈ F', 2 ≤ k := fun k hk => by
  rcases h.fresh k hk with h1 | h1
  · exact h2 k h1
  · omega
end
theorem btw_size {k : Int} {n : Nat} (h2 : 2 ≤ k) (h6 : k ≤ 6) : (mkS (btw k n)).size ≤ 7 := by
  have := btw_cases (n := n) h2 h6
  simp only [List.mem_cons, List.not_mem_nil, or_false] at this
  rcases this with e | e | e | e | e | e <;> rw [e] <;> decide
theorem sep_text (b : ByteArray) : (⟨#[32]⟩ ++ b ++ ⟨#[32]⟩ : ByteArray).data.toList = 32 :: b.data.toList ++ [32] := by simp [ByteArray.data_append]
def WriteOk (d : Dep) : Prop := ∀ (s : Value) (S : Nat → Prop) (B b : Nat) (l : Wd) (F : List Nat) (w : World), Lay w S d s → (∀ x, S x → x < w.heap.size ∧ x ∉ F) → Bld w B b l F → Tabs w → (∀ k ∈ F, 2 ≤ k) → l.length + (text d).length ≤ 1099511627776 →
  Calls Tryd.prog 28 #[.pointer (some ⟨b, 0, none⟩), .agg (rowD d s)] w (Wrote B b l F d w)
set_option maxHeartbeats 2000000 in
set_option maxRecDepth 100000 in
theorem write_node (d : Dep) (hf : form d = true) (hk : d.kind ≠ 1) (ih : ∀ a ∈ d.args, WriteOk a) : WriteOk d := by
  intro s S B b l F w hL hS hb hT hF hlen
  obtain ⟨A, c, rfl, hc1, hc2, hA⟩ := hL.args_
  have hargs : numArgs d.kind d.args = true := by
    obtain ⟨k, n, o, e, xs⟩ := d
    exact (may_node (form_may hf) hk).2.2.2
  obtain ⟨hk2, hk6, hn2, hk4, _⟩ := args_kind hargs
  obtain ⟨w1, hw1⟩ : ∃ w1, w1 = w.alloc (.cells (rowD d (.slice A d.args.length c)) 25) := ⟨_, rfl⟩
  have hB1 : Below w.heap.size w w1 := by rw [hw1]; exact (Below.refl _ _).alloc (Nat.le_refl _) _
  have hz1 : w1.heap.size = w.heap.size + 1 := by rw [hw1]; simp
  have K : Blk w1 w.heap.size 25 (rowD d (.slice A d.args.length c)) := by rw [hw1]; exact Blk.new _ _ _
  have hgF : w.heap.size ∉ F := fun hm => by have := (hb.lt _ hm).2; omega
  have hMid0 : Mid B b F w1 l w1 F := ⟨hb.below hB1, Turned.refl _ _, Fresh.refl _ _⟩
  have C1 := Lib.hid (writeString_any B b l F ⟨#[40]⟩ w1 hMid0.bld (by
    have := pre_le hk 0
    have e : (pre d 0).length = 1 := rfl
    show l.length + 1 ≤ _
    omega))
  have hpl := pre_le hk
  have hT1 : Tabs w1 := hT.below hB1 hT.two
  have hA1 : ArgsAt w1 S d.args A := hA.stay (fun _ h => h) (StayS.below' hB1)
  have HF : Hid (∀ wx F' l', Mid B b F w1 l' wx F' → Blk wx w.heap.size 25 (rowD d (.slice A d.args.length c)) ∧ Tabs wx ∧ ArgsAt wx S d.args A ∧ (∀ x, S x → x < wx.heap.size ∧ x ∉ F') ∧ (∀ k ∈ F', 2 ≤ k)) := by
    intro wx F' l' hM
    refine ⟨K.turned hM.turned hgF, hT1.turned hM.turned hF, hA1.stay (fun _ h => h) (StayS.turned hM.turned fun x hx => (hS x hx).2), fun x hx => ⟨?_, hM.notin (by have := (hS x hx).1; omega) (hS x hx).2⟩, hM.ge2 hF (by have := hT.two; omega)⟩
    have := hM.turned.size
    have := (hS x hx).1
    omega
  have HLen := Lib.hid hlen
  have HPre := Lib.hid hpl
  have HM0 := Lib.hid hMid0
  have HIH := Lib.hid ih
  have HEnd : Hid (∀ w' F', Mid B b F w1 (l ++ text d) w' F' → Wrote B b l F d w (.returned (.tuple #[])) w') := fun w' F' h =>
    ⟨rfl, F', h.bld, (Turned.of_below hB1 F).trans h.turned (Fresh.refl _ _), fun k hk => (h.fresh k hk).imp id (fun h => by omega)⟩
  have HFin := Lib.hid (text_pre hk)
  have HStep : Hid (∀ j a, d.args[j]? = some a → pre d (j + 1) = pre d j ++ (sepT d.kind j ++ text a)) := fun j a h => pre_succ h
  have t1 : (d.kind == 1) = false := beq_eq_false_iff_ne.2 hk
  have t1' : ¬ d.kind = 1 := hk
  have hkd : kindB d.kind := ⟨by omega, by omega⟩
  obtain ⟨R, HR⟩ : ∃ R : Nat → World → List Nat → Prop, Hid (∀ k wx F', R k wx F' ↔ Mid B b F w1 (l ++ pre d k) wx F') := ⟨fun k wx F' => Mid B b F w1 (l ++ pre d k) wx F', fun _ _ _ => Iff.rfl⟩
  have hcm : c ≤ maxLen := hc2
  unfold maxLen at hcm
  have hnl : d.args.length ≤ 9223372036854775807 := by omega
  clear hL hS hb hT hF hlen hA hargs hMid0 hpl hT1 hA1 hgF K ih hf hk hB1
  subst hw1
  unfold rowD at C1 HM0 HF HEnd HR ⊢
  go_enter Tryd.func28, Tryd.ntmps28
  go_wp2_with fail
  refine C1.out.mono ?_
  rintro e w2 h
  have he := h.1
  subst he
  obtain ⟨F2, hM2⟩ := HM0.out.str h
  obtain ⟨K2, _, _, _, _⟩ := HF.out _ _ _ hM2
  have k4 := K2.cell 4
  simp at k4
  have HM2 : Hid (R 0 w2 F2) := (HR.out _ _ _).2 hM2
  clear hM2 K2 C1 HM0 h hc1 hc2
  go_wp2_with fail
  go_loopw [32] (fun v32 wx => ∃ (k : Nat) (F' : List Nat), k ≤ d.args.length ∧ v32 = .int .i64 (k : Int) ∧ Hid (R k wx F')) (fun v32 _ => d.args.length - (intOf v32).toNat)
  case atStart => exact ⟨0, F2, Nat.zero_le _, rfl, HM2⟩
  case round =>
    clear HM2 k4
    obtain ⟨k, F', hk, rfl, HM⟩ := hrel
    have HMr := Lib.hid ((HR.out _ _ _).1 HM.out)
    obtain ⟨Kr, hTr, hAr, hSr, hFr⟩ := HF.out _ _ _ HMr.out
    by_cases hlt : k < d.args.length
    · obtain ⟨a, ha⟩ : ∃ a, d.args[k]? = some a := ⟨_, List.getElem?_eq_getElem hlt⟩
      obtain ⟨b', o', t, hA', hSb, hC, hLa⟩ := hAr k a ha
      obtain ⟨At, ct, rfl, _, _⟩ := hLa.form_
      subst hA'
      obtain ⟨e0, e1, e2, e3, e4⟩ := hC
      have k0 := Kr.cell 0
      have hltw := Kr.lt
      simp at k0
      have hst := HStep.out k a ha
      have hple : (pre d (k + 1)).length + 1 ≤ (text d).length := HPre.out (k + 1)
      have hln := HLen.out
      rw [hst] at hple
      simp only [List.length_append] at hple
      have hbl := HMr.out.bld.lt
      have HMv := Lib.hid (HMr.out.alloc (.cells (rowD a (.slice At a.args.length ct)) 25))
      have hKv := Blk.new wr 25 (rowD a (.slice At a.args.length ct))
      obtain ⟨_, hTv, hAv, hSv, hFv⟩ := HF.out _ _ _ HMv.out
      have hLv : Lay (wr.alloc (.cells (rowD a (.slice At a.args.length ct)) 25)) S a (.slice At a.args.length ct) := hLa.stay (fun _ h => h) (StayS.below' ((Below.refl _ _).alloc (Nat.le_refl _) _))
      by_cases hk0 : k = 0
      · subst hk0
        simp only [Nat.zero_mul, Nat.add_zero] at e0 e1 e2 e3 e4
        have CI := Lib.hid (HIH.out a (List.mem_of_getElem? ha) (.slice At a.args.length ct) S B b (l ++ pre d 0) F' _ hLv hSv HMv.out.bld hTv hFv (by rw [List.length_append]; omega))
        have HS := Lib.hid hst
        clear hst hple hln hbl hKv hTv hAv hSv hFv hLv hTr hAr hSr hFr Kr HM HMr
        unfold rowD at CI HMv
        go_wp2_with fail
        refine CI.out.mono ?_
        rintro e w5 h
        have he := h.1
        subst he
        obtain ⟨F5, hM5⟩ := HMv.out.dep h
        have HN : Hid (R 1 w5 F5) := (HR.out _ _ _).2 (by rw [HS.out]; simpa [sepT] using hM5)
        clear h hM5 CI HMv
        go_wp2_with fail
        go_roundw
        case rel => exact ⟨1, F5, by omega, by go_num, HN⟩
        case measure => simp [intOf]; omega
      · obtain ⟨bs, hbs⟩ : ∃ bs, Hid (bs = mkS (btw d.kind k)) := ⟨_, rfl⟩
        have hbz : bs.size ≤ 7 := by rw [hbs.out]; exact btw_size hk2 hk6
        have hsp : sepT d.kind k = (⟨#[32]⟩ ++ bs ++ ⟨#[32]⟩ : ByteArray).data.toList := by rw [sep_text, hbs.out]; unfold sepT; rw [if_neg hk0]; rfl
        have CB := Lib.hid (between_any d.kind k hkd _ hTv.words)
        rw [← hbs.out] at CB
        have hsl : (sepT d.kind k).length = (⟨#[32]⟩ ++ bs ++ ⟨#[32]⟩ : ByteArray).size := by rw [hsp, size_len]
        have CW := Lib.hid (writeString_any B b (l ++ pre d k) F' (⟨#[32]⟩ ++ bs ++ ⟨#[32]⟩) _ HMv.out.bld (by rw [List.length_append]; omega))
        have HS := Lib.hid hst
        have HSp := Lib.hid hsp
        have HKv := Lib.hid hKv
        have HLv := Lib.hid hLv
        have HBl := Lib.hid hbl
        have HLn2 : Hid ((l ++ pre d k ++ sepT d.kind k).length + (text a).length ≤ 1099511627776) := by show _ ≤ _; simp only [List.length_append]; omega
        have hk1 : 0 < k := by omega
        have hkI : (0 : Int) < (k : Int) := by omega
        clear hst hple hln hbl hKv hTv hAv hSv hFv hLv hTr hAr hSr hFr Kr HM hsp hsl
        unfold rowD at CB CW HMv HKv HLv
        go_wp2_with fail
        refine CB.out.mono ?_
        rintro e w3 ⟨rfl, rfl⟩
        clear CB
        go_wp2_with fail
        refine CW.out.mono ?_
        rintro e w3 h
        have he := h.1
        subst he
        obtain ⟨F3, hM3⟩ := HMv.out.str h
        rw [← HSp.out] at hM3
        obtain ⟨K3, hT3, _, hS3, hF3⟩ := HF.out _ _ _ hM3
        have hst3 : StayS S _ w3 := StayS.turned h.2.choose_spec.2.1 (fun x hx => (HF.out _ _ _ HMv.out).2.2.2.1 x hx |>.2)
        have CI := Lib.hid (HIH.out a (List.mem_of_getElem? ha) (.slice At a.args.length ct) S B b (l ++ pre d k ++ sepT d.kind k) F3 w3 (HLv.out.stay (fun _ h => h) hst3) hS3 hM3.bld hT3 hF3 HLn2.out)
        have hK3 := HKv.out.turned h.2.choose_spec.2.1 (fun hm => by have := (HBl.out _ hm).2; omega)
        have d0 := hK3.cell 0
        have d1 := hK3.cell 1
        have d2 := hK3.cell 2
        have d3 := hK3.cell 3
        have d4 := hK3.cell 4
        simp at d0 d1 d2 d3 d4
        have HM3 := Lib.hid hM3
        clear h hM3 K3 hT3 hS3 hF3 hst3 hK3 CW HMv HKv HLv
        unfold rowD at CI
        go_wp2_with fail
        refine CI.out.mono ?_
        rintro e w5 h
        have he := h.1
        subst he
        obtain ⟨F5, hM5⟩ := HM3.out.dep h
        have HN : Hid (R (k + 1) w5 F5) := (HR.out _ _ _).2 (by rw [HS.out, ← List.append_assoc, ← List.append_assoc]; exact hM5)
        clear h hM5 CI HM3
        go_wp2_with fail
        go_roundw
        case rel => exact ⟨k + 1, F5, by omega, by go_num, HN⟩
        case measure => simp [intOf]; omega
    · have hkn : k = d.args.length := by omega
      subst hkn
      have CW := Lib.hid (writeString_any B b (l ++ pre d d.args.length) F' ⟨#[41]⟩ _ HMr.out.bld (by
        have h1 := HPre.out d.args.length
        have h2 := HLen.out
        rw [List.length_append]
        show l.length + (pre d d.args.length).length + 1 ≤ _
        omega))
      have HE2 : Hid (∀ e w', WrotePost B b (l ++ pre d d.args.length) F' ⟨#[41]⟩ wr e w' → Wrote B b l F d w (.returned (.tuple #[])) w') := fun e w' h => by
        obtain ⟨F3, hM3⟩ := HMr.out.str h
        refine HEnd.out w' F3 ?_
        rw [HFin.out, ← List.append_assoc]
        exact hM3
      clear hTr hAr hSr hFr Kr HM HMr HEnd HF HR HIH HStep HPre
      go_wp2_with fail
      refine CW.out.mono ?_
      rintro e w3 h
      have HP := Lib.hid (HE2.out _ _ h)
      have he := h.1
      subst he
      clear h CW HE2
      go_wp2_with fail
      go_end0
      exact HP.out
end Go.Proofs.YtghbhajiddnmkaaDoor
