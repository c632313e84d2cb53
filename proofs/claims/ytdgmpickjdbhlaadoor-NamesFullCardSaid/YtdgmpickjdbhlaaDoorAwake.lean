/- The calls whose answers the document fixes come out so: chandlerlaw02.awake. -/
import Derived.Test.YtdgmpickjdbhlaaDoorRelate
import Derived.Test.YtdgmpickjdbhlaaDoorNew
import Derived.Test.YtdgmpickjdbhlaaDoorUp
namespace Go.Proofs.YtdgmpickjdbhlaaDoor
open Go.RowKit

theorem relate_any (w : World) (F : List Nat) (bt : Nat) (l : List ByteArray) (r : List Cmp) (n op e : Int) (h : Tab w F bt l r) :
    Calls Tryd.prog 9 #[.pointer (some ⟨bt, 0, none⟩), .int .i64 n, .int .i64 op, .int .i64 e] w (TabPost w F bt l (relR l r n op e) (two (relId l r n op e) (relErr l r n op e))) := by
  have keep : ∀ {v : Value} {x : Ending} {w' : World}, x = .returned v ∧ Below w.heap.size w w' → TabPost w F bt l r v x w' := fun {v x w'} ⟨h1, h2⟩ =>
    ⟨h1, F, h.turned (Turned.of_below h2 []) (fun _ _ hk => by cases hk), Turned.of_below h2 _, Fresh.refl _ _⟩
  have keep' : ∀ {v : Value} {x : Ending} {w' : World}, x = .returned v ∧ w = w' → TabPost w F bt l r v x w' := fun {v x w'} ⟨h1, h2⟩ => keep ⟨h1, by subst h2; exact Below.refl _ _⟩
  cases hb : (hasB l n && hasB l e) with
  | false =>
    rw [show relR l r n op e = r by simp [relR, fitB, hb], show relId l r n op e = 0 by simp [relId, fitB, hb], show relErr l r n op e = 22 by simp [relErr, hb]]
    exact (relate_none w F bt l r n op e hb h).mono fun _ _ hh => keep' hh
  | true =>
    obtain ⟨hn, he⟩ : hasB l n = true ∧ hasB l e = true := by simpa using hb
    by_cases ho : 1 ≤ op ∧ op ≤ 7
    · obtain ⟨n', rfl, _⟩ := hasB_nat hn
      obtain ⟨e', rfl, _⟩ := hasB_nat he
      obtain ⟨op', rfl⟩ : ∃ k : Nat, op = (k : Int) := ⟨op.toNat, by omega⟩
      have hf : fitB l n' op' e' = true := by simp only [fitB, hb, ho]; rfl
      have hc : cmpOf n' op' e' = (n', op', e') := rfl
      cases hix : ix r (n', op', e') with
      | some k =>
        rw [show relR l r n' op' e' = r by simp [relR, hf, hc, hix], show relId l r n' op' e' = k by simp [relId, hf, hc, hix], show relErr l r n' op' e' = 0 by simp [relErr, hb, ho, hc, hix]]
        exact (relate_old w F bt l r n' op' e' k hn he (by omega) (by omega) hix h).mono fun _ _ hh => keep hh
      | none =>
        by_cases hm : 5000 ≤ r.length
        · rw [show relR l r n' op' e' = r by simp [relR, hf, hc, hix, hm], show relId l r n' op' e' = 0 by simp [relId, hf, hc, hix, hm], show relErr l r n' op' e' = 20 by simp [relErr, hb, ho, hc, hix, hm]]
          exact (relate_many w F bt l r n' op' e' hn he (by omega) (by omega) hix hm h).mono fun _ _ hh => keep hh
        · rw [show relR l r n' op' e' = r ++ [(n', op', e')] by simp [relR, hf, hc, hix, hm], show relId l r n' op' e' = r.length by simp [relId, hf, hc, hix, hm], show relErr l r n' op' e' = 0 by simp [relErr, hb, ho, hc, hix, hm]]
          exact relate_new w F bt l r n' op' e' hn he (by omega) (by omega) hix (by omega) h
    · rw [show relR l r n op e = r by simp [relR, fitB, ho], show relId l r n op e = 0 by simp [relId, fitB, ho], show relErr l r n op e = 23 by simp [relErr, hb, ho]]
      exact (relate_op w F bt l r n op e hn he (by omega) h).mono fun _ _ hh => keep' hh

theorem ids3 : addId [⟨#[]⟩] ⟨#[97]⟩ = 1 ∧ addErr [⟨#[]⟩] ⟨#[97]⟩ = 0 ∧ addL [⟨#[]⟩] ⟨#[97]⟩ = [⟨#[]⟩, ⟨#[97]⟩] ∧
    addId [⟨#[]⟩, ⟨#[97]⟩] ⟨#[98]⟩ = 2 ∧ addErr [⟨#[]⟩, ⟨#[97]⟩] ⟨#[98]⟩ = 0 ∧ addL [⟨#[]⟩, ⟨#[97]⟩] ⟨#[98]⟩ = [⟨#[]⟩, ⟨#[97]⟩, ⟨#[98]⟩] ∧
    addId [⟨#[]⟩, ⟨#[97]⟩, ⟨#[98]⟩] ⟨#[97]⟩ = 1 ∧ addErr [⟨#[]⟩, ⟨#[97]⟩, ⟨#[98]⟩] ⟨#[97]⟩ = 0 ∧ addL [⟨#[]⟩, ⟨#[97]⟩, ⟨#[98]⟩] ⟨#[97]⟩ = [⟨#[]⟩, ⟨#[97]⟩, ⟨#[98]⟩] ∧
    relId [⟨#[]⟩, ⟨#[97]⟩, ⟨#[98]⟩] [] 1 4 2 = 0 ∧ relErr [⟨#[]⟩, ⟨#[97]⟩, ⟨#[98]⟩] [] 1 4 2 = 0 ∧ relR [⟨#[]⟩, ⟨#[97]⟩, ⟨#[98]⟩] [] 1 4 2 = [(1, 4, 2)] := by decide

theorem TabPost.open_ {w : World} {F : List Nat} {bt : Nat} {l : List ByteArray} {r : List Cmp} {v : Value} {e : Ending} {w' : World} (h : TabPost w F bt l r v e w') :
    e = .returned v ∧ ∃ F', Tab w' F' bt l r ∧ Turned F w w' ∧ Fresh w F F' := h

set_option maxHeartbeats 1000000 in
set_option maxRecDepth 100000 in
theorem awake_any (w : World) : Calls Tryd.prog 4 #[] w (TrueBelow w) := by
  go_enter Tryd.func4, Tryd.ntmps4
  go_wp2_with fail
  refine (new_any _).mono ?_
  rintro e w1 ⟨bt, F, rfl, hT, hb, hF⟩
  have I := Lib.hid ids3
  have HT := Lib.hid hT
  have HB := Lib.hid hb
  have HF := Lib.hid hF
  clear hT hb hF
  go_wp2_with fail
  have C := add_any w1 F bt [⟨#[]⟩] [] ⟨#[97]⟩ (by decide) HT.out
  rw [I.out.1, I.out.2.1, I.out.2.2.1] at C
  refine C.mono ?_
  clear C
  rintro e w2 ⟨rfl, F2, hT2, ht2, hf2⟩
  have HT2 := Lib.hid hT2
  have T2 := Lib.hid ht2
  have R2 := Lib.hid hf2
  unfold two
  clear hT2 ht2 hf2
  go_wp2_with fail
  have C := add_any w2 F2 bt _ [] ⟨#[98]⟩ (by decide) HT2.out
  rw [I.out.2.2.2.1, I.out.2.2.2.2.1, I.out.2.2.2.2.2.1] at C
  refine C.mono ?_
  clear C
  rintro e w3 ⟨rfl, F3, hT3, ht3, hf3⟩
  have HT3 := Lib.hid hT3
  have T3 := Lib.hid ht3
  have R3 := Lib.hid hf3
  unfold two
  clear hT3 ht3 hf3
  go_wp2_with fail
  have C := add_any w3 F3 bt _ [] ⟨#[97]⟩ (by decide) HT3.out
  rw [I.out.2.2.2.2.2.2.1, I.out.2.2.2.2.2.2.2.1, I.out.2.2.2.2.2.2.2.2.1] at C
  refine C.mono ?_
  clear C
  rintro e w4 ⟨rfl, F4, hT4, ht4, hf4⟩
  have HT4 := Lib.hid hT4
  have T4 := Lib.hid ht4
  have R4 := Lib.hid hf4
  unfold two
  clear hT4 ht4 hf4
  go_wp2_with fail
  have C := relate_any w4 F4 bt _ [] 1 4 2 HT4.out
  rw [I.out.2.2.2.2.2.2.2.2.2.1, I.out.2.2.2.2.2.2.2.2.2.2.1, I.out.2.2.2.2.2.2.2.2.2.2.2] at C
  refine C.mono ?_
  clear C
  rintro e w5 ⟨rfl, F5, hT5, ht5, hf5⟩
  have HT5 := Lib.hid hT5
  have T5 := Lib.hid ht5
  unfold two
  clear hT5 ht5 hf5
  go_wp2_with fail
  refine (len_any w5 F5 bt _ _ HT5.out).mono ?_
  rintro e w6 ⟨rfl, rfl⟩
  go_wp2_with fail
  go_ret
  refine ⟨rfl, ?_⟩
  have f2 := (Fresh.trans (w := w) (F := []) (fun k hk => .inr (HF.out k hk)) HB.out.size R2.out)
  have s2 := Nat.le_trans HB.out.size T2.out.size
  have f3 := f2.trans s2 R3.out
  have s3 := Nat.le_trans s2 T3.out.size
  have f4 := f3.trans s3 R4.out
  exact (((((Turned.of_below HB.out []).trans T2.out (fun k hk => .inr (HF.out k hk))).trans T3.out f2).trans T4.out f3).trans T5.out f4).of_nil
end Go.Proofs.YtdgmpickjdbhlaaDoor
