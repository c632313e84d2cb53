/- A value is set: the store behind it. -/
import Derived.Test.YthgagobdkcikiaaDoorKey
import Derived.Test.YthgagobdkcikiaaDoorMay
import Derived.Test.YthgagobdkcikiaaDoorApart
namespace Go.Proofs.YthgagobdkcikiaaDoor
set_option linter.unusedSimpArgs false
set_option linter.unusedVariables false
open Go.RowKit

def setS (S : VSt) (key : ByteArray) (id : Int) (r : RawN) : VSt := ⟨S.keys, S.kind, S.inner, fun b i => if b = key ∧ i = id then some r else S.raw b i⟩
/-- The blocks that stand for a store's values. -/
def vfeet (S : VSt) (bs : Nat) (vk : Value) (mk mv : Nat) : List Nat := bs :: mk :: mv :: (vk.ownBlock.toList ++ S.keys.filterMap S.inner)
theorem values_run {w : World} {mv n : Nat} {E : DataW Unit} {f : ByteArray → Option Nat} (hM : w.ownsMap Tryd.prog 9 rdM mv n E) (hA : Agr kdS (fun _ => True) enM E (fun k => (f k).map some)) (key : ByteArray) (hk : key.size ≤ maxLen) :
    (Instr.lookup 52 (.map (some mv)) (.string key) false).run Tryd.prog w = .ok (.map (f key)) w := by
  obtain ⟨v, ps, hrun, hv⟩ := hM.lookup lawS Tryd.underlying52 (zeroM w) (rdBy_val (en := enM) valM_inj none) (Go.WideMaps.keyOf_string_mk (P := Tryd.prog) Tryd.underlying9 hk)
  have h1 := hA.at_ key none trivial
  unfold kdS at h1
  rw [h1] at hv
  have h2 := rdBy_inv enM_inj hv
  subst h2
  have e : (((f key).map some).getD none) = f key := by cases f key <;> rfl
  rw [e] at hrun
  exact hrun
theorem ValP.below {w w' : World} {vk : Value} {mk mv N : Nat} {S : VSt} (h : ValP w vk mk mv S N) (hb : Below w.heap.size w w') : ValP w' vk mk mv S N := by
  obtain ⟨D, hM, hA⟩ := h.kinds
  obtain ⟨E, hM2, hA2⟩ := h.vals
  have T : Turned [] w w' := Turned.of_below hb []
  have hz := hb.size
  refine ⟨h.ok, own_turned h.row T (by simp), ⟨D, map_turned hM T (by simp), hA⟩, ⟨E, map_turned hM2 T (by simp), hA2⟩, fun k b hk => ?_, h.two, h.far, fun k id r hr => ?_, fun k id r b hr hra => ?_⟩
  · obtain ⟨Di, hm, ha⟩ := h.inn k b hk
    exact ⟨Di, map_turned hm T (by simp), ha⟩
  · obtain ⟨l, hl, ho⟩ := h.lists k id r hr
    refine ⟨l, ?_, ho⟩
    unfold RowAt at hl ⊢
    cases hra : r.1.a with
    | none => rw [hra] at hl; exact hl
    | some b => rw [hra] at hl; exact ⟨hl.1, hl.2.turned T (by simp)⟩
  · have := h.listsFar k id r b hr hra
    exact ⟨by omega, this.2⟩
theorem set_fin {w5 w6 w7 : World} {bs mk mv N ib : Nat} {vk vd vp : Value} {S : VSt} {key : ByteArray} {id : Int} {r : RawN} {ss : List ByteArray} {Di : DataW Unit}
    (hV : ValP w5 vk mk mv S N) (hB : Blk w5 bs 56 #[vk, .map (some mk), .map (some mv), vd, vp]) (hi : S.inner key = some ib) (hid : okI id) (hA : Agr kdI okI enRN Di (S.raw key)) (hb6 : Below w5.heap.size w5 w6)
    (hr : RowAt w6 r.1 ss) (hro : RawOk r ss) (hrf : ∀ b, r.1.a = some b → w5.heap.size ≤ b)
    (hm : w7.ownsMap Tryd.prog 3 rdR ib (N + 1) (Di.put (kdI id) (enRN r))) (hg : w6.grownBy w7 (some ib)) :
    Blk w7 bs 56 #[vk, .map (some mk), .map (some mv), vd, vp] ∧ ValP w7 vk mk mv (setS S key id r) (N + 1) ∧ Turned [ib] w5 w7 ∧ RowAt w7 r.1 ss := by
  have h6 := hV.below hb6
  obtain ⟨D, hMk, hAk⟩ := h6.kinds
  obtain ⟨E, hMv, hAv⟩ := h6.vals
  obtain ⟨Dj, hMi, _⟩ := h6.inn key ib hi
  have hB6 := hB.below hb6 hB.lt
  have T : Turned [ib] w6 w7 := (Turned.refl _ _).grown hg (fun k hk => .inl (by injection hk with hk; simp [hk]))
  have hz6 := hb6.size
  have hz7 := hg.size
  have hib : ib ≠ bs := map_kind hMi hB6
  have rowOf : ∀ (q : Raw) l, RowAt w6 q l → RowAt w7 q l := fun q l hq => by
    unfold RowAt at hq ⊢
    cases hqa : q.a with
    | none => rw [hqa] at hq; exact hq
    | some b => rw [hqa] at hq; exact ⟨hq.1, hq.2.turned T (by simp; exact fun e => map_kind hMi hq.2 e.symm)⟩
  refine ⟨hB6.turned T (by simp; exact fun e => hib e.symm), ⟨⟨h6.ok.few, h6.ok.once, h6.ok.short, h6.ok.kinds, h6.ok.inners, h6.ok.apart, fun b i hb => ?_⟩, own_turned h6.row T (fun k hk hm' => ?_), ⟨D, map_turned hMk T (by simp; exact fun e => (h6.far key ib hi).1 e.symm), hAk⟩, ⟨E, map_turned hMv T (by simp; exact fun e => (h6.far key ib hi).2 e.symm), hAv⟩, fun k b hk => ?_, h6.two, h6.far, fun k i q hq => ?_, fun k i q b hq hqa => ?_⟩, (Turned.of_below hb6 _).trans T (Fresh.refl _ _), rowOf _ _ hr⟩
  · show (if b = key ∧ i = id then some r else S.raw b i) = none
    have hne : ¬ (b = key ∧ i = id) := fun e => by
      change S.inner b = none at hb
      rw [e.1, hi] at hb; cases hb
    rw [if_neg hne]
    exact h6.ok.none_ b i hb
  · simp at hm'
    subst hm'
    exact map_own hMi h6.row hk
  · by_cases hkk : k = key
    · subst hkk
      have : b = ib := by change S.inner k = some b at hk; rw [hi] at hk; injection hk with hk; exact hk.symm
      subst this
      refine ⟨_, hm, (hA.put kdI_inj id hid (kdI_key id) r).congr fun i => ?_⟩
      show _ = if k = k ∧ i = id then some r else S.raw k i
      by_cases hii : i = id <;> simp [hii]
    · obtain ⟨Dk, hmk, hAk2⟩ := h6.inn k b hk
      have hbi : b ≠ ib := fun e => hkk (h6.ok.apart k key b hk (by rw [e]; exact hi))
      refine ⟨Dk, (map_turned hmk T (by simp; exact hbi)).mono (by omega), hAk2.congr fun i => ?_⟩
      show _ = if k = key ∧ i = id then some r else S.raw k i
      rw [if_neg (fun e => hkk e.1)]
  · change (if k = key ∧ i = id then some r else S.raw k i) = some q at hq
    by_cases hkk : k = key ∧ i = id
    · rw [if_pos hkk] at hq
      injection hq with hq
      subst hq
      exact ⟨ss, rowOf _ _ hr, hro⟩
    · rw [if_neg hkk] at hq
      obtain ⟨l, hl, ho⟩ := h6.lists k i q hq
      exact ⟨l, rowOf _ _ hl, ho⟩
  · change (if k = key ∧ i = id then some r else S.raw k i) = some q at hq
    by_cases hkk : k = key ∧ i = id
    · rw [if_pos hkk] at hq
      injection hq with hq
      subst hq
      have h1 := hrf b hqa
      unfold RowAt at hr
      rw [hqa] at hr
      have h2 := hr.2.lt
      refine ⟨by omega, fun e => ?_⟩
      have := own_lt hV.row e
      omega
    · rw [if_neg hkk] at hq
      have := h6.listsFar k i q b hq hqa
      exact ⟨by omega, this.2⟩
end Go.Proofs.YthgagobdkcikiaaDoor
