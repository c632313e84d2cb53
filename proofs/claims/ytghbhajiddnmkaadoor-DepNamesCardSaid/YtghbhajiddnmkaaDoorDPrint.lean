/- A dependency's text, or why it has none: Print. -/
import Derived.Test.YtghbhajiddnmkaaDoorDWrite
namespace Go.Proofs.YtghbhajiddnmkaaDoor
set_option linter.unusedSimpArgs false
set_option linter.unusedVariables false
open Go.RowKit

theorem write_any (d : Dep) : form d = true → WriteOk d := by
  induction d using Dep.ind with
  | h k n o e xs ih =>
    intro hf
    by_cases hk : k = 1
    · subst hk
      obtain ⟨_, _, rfl⟩ := may_leaf (form_may hf) rfl
      intro s S B b l F w hL hS hb hT hF hlen
      exact write_leaf n o e hf s S B b l F w hL hb hT hF hlen
    · exact write_node _ hf hk fun a ha => ih a ha (forms_mem (form_args hf) a ha)
theorem texts_len {k : Int} (h2 : 2 ≤ k) (h6 : k ≤ 6) : ∀ (xs : List Dep) (i : Nat), (∀ a ∈ xs, (text a).length + 9 ≤ 140 * nodes a) → (texts k i xs).length ≤ 140 * nodesA xs
  | [], i, _ => by simp [texts]
  | a :: r, i, h => by
    have h1 := h a (by simp)
    have h3 := texts_len h2 h6 r (i + 1) fun x hx => h x (by simp [hx])
    have hb : (btw k i).length ≤ 7 := by have := btw_size (n := i) h2 h6; rwa [← size_len] at this
    simp only [texts, nodesA, List.length_append]
    split
    · simp only [List.length_nil]; omega
    · simp only [List.length_cons, List.length_append, List.length_nil]; omega
theorem text_len (d : Dep) : form d = true → (text d).length + 9 ≤ 140 * nodes d := by
  induction d using Dep.ind with
  | h k n o e xs ih =>
    intro hf
    by_cases hk : k = 1
    · subst hk
      obtain ⟨hn, hc, rfl⟩ := may_leaf (form_may hf) rfl
      have h1 := (name_ne hn).2.2.2.1
      rw [text_leafT]
      simp only [nodes, nodesA]
      rcases mayCmp_cases hc with ⟨rfl, _⟩ | ⟨h3, h7, he⟩
      · simp only [if_true, List.append_nil]; omega
      · have h4 := (evr_may he).2.1
        have h5 : (signT o).length ≤ 3 := by
          obtain ⟨m, rfl⟩ : ∃ m : Nat, o = (m : Int) := ⟨o.toNat, by omega⟩
          have := sign_size (m := m) (by omega) (by omega)
          rwa [← size_len] at this
        rw [if_neg (by omega)]
        simp only [List.length_append, List.length_cons]
        omega
    · obtain ⟨h2, h6, _⟩ := args_kind (may_node (form_may hf) hk).2.2.2
      have h3 := texts_len h2 h6 xs 0 fun a ha => ih a ha (forms_mem (form_args hf) a ha)
      simp only [text, nodes, if_neg hk, List.length_append, List.length_cons, List.length_nil]
      omega
def printS (d : Dep) : ByteArray := if checkN d = 0 then mkS (text d) else ⟨#[]⟩
set_option maxHeartbeats 2000000 in
set_option maxRecDepth 100000 in
theorem depPrint_any (d : Dep) (s : Value) (S : Nat → Prop) (w0 : World) (hL : Lay w0 S d s) (hC : CleanS w0 S) (hT : Tabs w0) (hN : nodes d ≤ 4194304) :
    Calls Tryd.prog 13 #[.agg (rowD d s)] w0 fun e w' => e = .returned (.tuple #[.string (printS d), .int .i64 (checkN d)]) ∧ Below w0.heap.size w0 w' := by
  obtain ⟨A, c, rfl, _, _⟩ := hL.form_
  obtain ⟨w1, hw1⟩ : ∃ w1, w1 = w0.alloc (.cells (rowD d (.slice A d.args.length c)) 25) := ⟨_, rfl⟩
  have hB1 : Below w0.heap.size w0 w1 := by rw [hw1]; exact (Below.refl _ _).alloc (Nat.le_refl _) _
  have hz1 : w1.heap.size = w0.heap.size + 1 := by rw [hw1]; simp
  have K : Blk w1 w0.heap.size 25 (rowD d (.slice A d.args.length c)) := by rw [hw1]; exact Blk.new _ _ _
  have hst1 := StayS.below' (S := S) hB1
  have C1 := Lib.hid (depCheck_any d _ S w1 (hL.stay (fun _ h => h) hst1) (hC.stay hst1) (hT.below hB1 hT.two) hN)
  have hSlt : ∀ x, S x → x < w0.heap.size := fun x hx => by obtain ⟨cs, hc⟩ := hC x hx; exact hc.lt
  have HW : Hid (∀ w2, Below w1.heap.size w1 w2 → checkN d = 0 → Blk w2 w0.heap.size 25 (rowD d (.slice A d.args.length c)) ∧ Below w0.heap.size w0 w2 ∧
      Calls Tryd.prog 28 #[.pointer (some ⟨w2.heap.size, 0, none⟩), .agg (rowD d (.slice A d.args.length c))] (w2.alloc (.cells #[.pointer none, .slice none 0 0] 52)) (Wrote w2.heap.size w2.heap.size [] [w2.heap.size] d (w2.alloc (.cells #[.pointer none, .slice none 0 0] 52)))) := by
    intro w2 hb2 hc0
    obtain ⟨hf, hlv⟩ := check_form hc0
    have hnl := nodes_leaves d hf
    have hb02 : Below w0.heap.size w0 w2 := hB1.trans (hb2.mono (by omega))
    have hz2 := hb2.size
    have hb3 : Below w2.heap.size w2 (w2.alloc (.cells #[.pointer none, .slice none 0 0] 52)) := (Below.refl _ _).alloc (Nat.le_refl _) _
    have hb03 : Below w0.heap.size w0 (w2.alloc (.cells #[.pointer none, .slice none 0 0] 52)) := hb02.trans (hb3.mono (by omega))
    refine ⟨K.below hb2 (by omega), hb02, write_any d hf _ S _ _ [] _ _ (hL.stay (fun _ h => h) (StayS.below' hb03)) (fun x hx => ⟨?_, ?_⟩) (Bld.new w2) (hT.below hb03 hT.two) ?_ ?_⟩
    · have := hSlt x hx; simp; omega
    · have := hSlt x hx; simp; omega
    · intro k hk; have := hT.two; simp at hk; omega
    · have := text_len d hf; simp only [List.length_nil]; omega
  have HB1 := Lib.hid hB1
  have HZ := Lib.hid hz1
  have K0 := Lib.hid K
  clear hL hC hT hB1 hz1 K hst1 hSlt
  subst hw1
  unfold rowD at C1 HB1 HZ K0 HW ⊢
  go_enter Tryd.func13, Tryd.ntmps13
  go_wp2_with fail
  refine C1.out.mono ?_
  rintro e w2 ⟨rfl, hb2⟩
  have HBx := Lib.hid hb2
  clear hb2 C1
  by_cases hc0 : checkN d = 0
  · obtain ⟨K2, hb02, C2⟩ := HW.out w2 HBx.out hc0
    have t0 : (checkN d != 0) = false := by rw [hc0]; rfl
    have k0 := K2.cell 0
    have k1 := K2.cell 1
    have k2 := K2.cell 2
    have k3 := K2.cell 3
    have k4 := K2.cell 4
    simp at k0 k1 k2 k3 k4
    have hlt := K2.lt
    have HC2 := Lib.hid C2
    have HB2 := Lib.hid hb02
    have HC0 := Lib.hid hc0
    clear K2 hb02 C2 hc0 HW HBx K0 HB1 HZ
    go_wp2_with fail
    refine HC2.out.mono ?_
    rintro e w3 ⟨rfl, F3, hb3, ht3, hf3⟩
    have CS := Lib.hid (string_any _ _ _ _ _ hb3 (by have := ht3.size; simp at this; omega))
    have HT3 := Lib.hid ht3
    clear hb3 ht3 hf3 HC2
    go_wp2_with fail
    refine CS.out.mono ?_
    rintro e w4 ⟨rfl, hb4⟩
    have HP : Hid (Below w0.heap.size w0 w4) := by
      have h1 : Below w2.heap.size w2 w3 := ((Below.refl w2.heap.size w2).alloc (Nat.le_refl _) _).trans (HT3.out.below (fun k hk => by simp at hk; omega) (by simp))
      have hz := HB2.out.size
      exact (HB2.out.trans (h1.mono hz)).trans (hb4.mono hz)
    clear hb4 CS HT3
    go_wp2_with fail
    go_ret2
    refine ⟨?_, HP.out⟩
    unfold printS
    rw [if_pos HC0.out, HC0.out]
    rfl
  · have t0 : (checkN d != 0) = true := bne_iff_ne.2 hc0
    have HP : Hid (Below w0.heap.size w0 w2) := HB1.out.trans (HBx.out.mono (by have := HZ.out; omega))
    have HC0 := Lib.hid hc0
    clear hc0 HW HBx K0 HB1 HZ
    go_wp2_with fail
    go_ret2
    refine ⟨?_, HP.out⟩
    unfold printS
    rw [if_neg HC0.out]
    rfl
end Go.Proofs.YtghbhajiddnmkaaDoor
