/- The walk of EvrSpans. -/
import Derived.Test.YtbfpljlgjpmmmaaDoorAwake
import Derived.BigGuardPart
namespace Go.Proofs.YtbfpljlgjpmmmaaDoor
set_option linter.unusedSimpArgs false
set_option linter.unusedVariables false
open Go.RowKit

/-- Beside a version with a release another one with a release is less, equal or greater, as they compare. -/
theorem span_meet (kind op : Int) {p q : Parts} (hk : kindB kind = true) (hp : p.r ≠ []) (hq : q.r ≠ []) (h1 : 1 ≤ op) (h7 : op ≤ 7) :
    meetB kind op 2 (some q) (some p) = signB (-(cmpEvr kind p q)) op 2 ∧ meetE kind op 2 (some q) (some p) = 0 := by
  have ho : opB op = true := by unfold opB; simp; omega
  have h2 : opB 2 = true := by decide
  have hz : ¬ (op = 0 ∨ (2 : Int) = 0) := by omega
  have hc : meetC kind q p = -(cmpEvr kind p q) := by
    rw [← (ordEvr kind).anti p q]
    unfold meetC cmpEvr thenC
    by_cases h : cmpEV kind q p = 0
    · rw [if_pos ⟨h, hq, hp⟩, if_pos h]
    · rw [if_neg (fun x => h x.1), if_neg h]
  constructor
  · unfold meetB
    rw [hk, ho, h2, show (true && true && true) = true from rfl, if_pos rfl, if_neg hz]
    simp only
    rw [hc]
  · unfold meetE bothErr
    rw [hk, ho, h2, show (true && true && true) = true from rfl, if_pos rfl, if_neg hz, if_pos rfl]
    rfl

set_option maxHeartbeats 8000000 in
set_option maxRecDepth 1000000 in
theorem evrSpans_walk {H : Type} {enc : TypeId × Value → H} (W : World) {v0 v1 v2 : Value} {d0 d1 d2 : DataW H} (h0 : In enc Tryd.prog W 3 v0 d0) (h1 : In enc Tryd.prog W 9 v1 d1) (h2 : In enc Tryd.prog W 9 v2 d2)
    (hL : laidMetH Tryd.prog Rows.evrSpansRow.laid W) (hsz : (DataW.weightsEach Tryd.prog [3, 9, 9] [d0, d1, d2]).all (· ≤ reachBytes) = true) :
    Calls Tryd.prog 9 #[v0, v1, v2] W (TrueBelow W) := by
  obtain ⟨kind, rfl, _, _⟩ := h0.int Tryd.underlying3
  obtain ⟨a, rfl, _, _⟩ := h1.string Tryd.underlying9
  obtain ⟨b, rfl, _, _⟩ := h2.string Tryd.underlying9
  clear h0 h1 h2 hL hsz
  have PA := Lib.hid (fun w => parse_any a w)
  have PB := Lib.hid (fun w => parse_any b w)
  have C := Lib.hid (fun w => compare_any kind a b w)
  cases hp : parse a.data.toList with
  | none =>
    rw [hp] at PA
    obtain ⟨eb, vb, rb, hB⟩ := evr_agg (parse b.data.toList)
    rw [hB] at PB
    unfold evrV errV at PA
    generalize errV (parse b.data.toList) = y2 at *
    generalize cmpO kind (parse a.data.toList) (parse b.data.toList) = x1 at *
    generalize bothErr kind (parse a.data.toList) (parse b.data.toList) = y1 at *
    clear hp hB
    go_enter Tryd.func9, Tryd.ntmps9
    go_wp2_with fail
    refine (awake_any _).mono ?_
    rintro e w1 ⟨rfl, hb1⟩
    have HB1 := Lib.hid hb1
    have hz1 := hb1.size
    clear hb1
    go_wp2_with fail
    refine (PA.out _).mono ?_
    rintro e w2 ⟨rfl, hb2⟩
    have HB2 : Hid (Below W.heap.size W w2) := HB1.out.trans (hb2.mono hz1)
    have hz2 := HB2.out.size
    clear hb2
    go_wp2_with fail
    refine (PB.out _).mono ?_
    rintro e w3 ⟨rfl, hb3⟩
    have K1 := Lib.hid ((Blk.new w2 24 #[Value.string ⟨#[]⟩, .string ⟨#[]⟩, .string ⟨#[]⟩]).below hb3 (by simp))
    have HB3 : Hid (Below W.heap.size W w3) := (HB2.out.alloc hz2 _).trans (hb3.mono (by simp; omega))
    have hz3 := HB3.out.size
    have hl3 : w2.heap.size < w3.heap.size := K1.out.lt
    clear hb3
    go_wp2_with fail
    refine (C.out _).mono ?_
    rintro e w4 ⟨rfl, hb4⟩
    have K1 := Lib.hid ((K1.out.alloc (.cells #[Value.string eb, .string vb, .string rb] 24)).below hb4 (by simp; omega))
    have K2 := Lib.hid ((Blk.new w3 24 #[Value.string eb, .string vb, .string rb]).below hb4 (by simp))
    have HB4 : Hid (Below W.heap.size W w4) := (HB3.out.alloc hz3 _).trans (hb4.mono (by simp; omega))
    have hz4 := HB4.out.size
    have c1 : w4.cell? ⟨w2.heap.size, 2, none⟩ = some (.string ⟨#[]⟩) := K1.out.cell 2
    have c2 : w4.cell? ⟨w3.heap.size, 2, none⟩ = some (.string rb) := K2.out.cell 2
    clear hb4
    go_wp2_with fail
    go_ret
    exact ⟨rfl, HB4.out⟩
  | some p =>
    obtain ⟨ea, va, ra, hA⟩ := evr_agg (some p)
    have hra : ra.data.toList = p.r := by
      unfold evrV at hA
      injection hA with hA
      injection hA with hA
      injection hA with _ hA
      injection hA with _ hA
      injection hA with hA
      injection hA with hA
      rw [← hA]; rfl
    rw [hp] at PA
    rw [hA] at PA
    unfold errV at PA
    cases hq : parse b.data.toList with
    | none =>
      rw [hq] at PB
      unfold evrV errV at PB
      generalize cmpO kind (parse a.data.toList) (parse b.data.toList) = x1 at *
      generalize bothErr kind (parse a.data.toList) (parse b.data.toList) = y1 at *
      clear hp hq hA hra
      go_enter Tryd.func9, Tryd.ntmps9
      go_wp2_with fail
      refine (awake_any _).mono ?_
      rintro e w1 ⟨rfl, hb1⟩
      have HB1 := Lib.hid hb1
      have hz1 := hb1.size
      clear hb1
      go_wp2_with fail
      refine (PA.out _).mono ?_
      rintro e w2 ⟨rfl, hb2⟩
      have HB2 : Hid (Below W.heap.size W w2) := HB1.out.trans (hb2.mono hz1)
      have hz2 := HB2.out.size
      clear hb2
      go_wp2_with fail
      refine (PB.out _).mono ?_
      rintro e w3 ⟨rfl, hb3⟩
      have K1 := Lib.hid ((Blk.new w2 24 #[Value.string ea, .string va, .string ra]).below hb3 (by simp))
      have HB3 : Hid (Below W.heap.size W w3) := (HB2.out.alloc hz2 _).trans (hb3.mono (by simp; omega))
      have hz3 := HB3.out.size
      have hl3 : w2.heap.size < w3.heap.size := K1.out.lt
      clear hb3
      go_wp2_with fail
      refine (C.out _).mono ?_
      rintro e w4 ⟨rfl, hb4⟩
      have K1 := Lib.hid ((K1.out.alloc (.cells #[Value.string ⟨#[]⟩, .string ⟨#[]⟩, .string ⟨#[]⟩] 24)).below hb4 (by simp; omega))
      have K2 := Lib.hid ((Blk.new w3 24 #[Value.string ⟨#[]⟩, .string ⟨#[]⟩, .string ⟨#[]⟩]).below hb4 (by simp))
      have HB4 : Hid (Below W.heap.size W w4) := (HB3.out.alloc hz3 _).trans (hb4.mono (by simp; omega))
      have hz4 := HB4.out.size
      have c1 : w4.cell? ⟨w2.heap.size, 2, none⟩ = some (.string ra) := K1.out.cell 2
      have c2 : w4.cell? ⟨w3.heap.size, 2, none⟩ = some (.string ⟨#[]⟩) := K2.out.cell 2
      clear hb4
      go_wp2_with fail
      go_ret
      exact ⟨rfl, HB4.out⟩
    | some q =>
      obtain ⟨eb, vb, rb, hB⟩ := evr_agg (some q)
      have hrb : rb.data.toList = q.r := by
        unfold evrV at hB
        injection hB with hB
        injection hB with hB
        injection hB with _ hB
        injection hB with _ hB
        injection hB with hB
        injection hB with hB
        rw [← hB]; rfl
      rw [hq] at PB
      rw [hB] at PB
      unfold errV at PB
      rw [hp, hq] at C
      cases hk : kindB kind with
      | false =>
        have hz : bothErr kind (some p) (some q) = 1 := by unfold bothErr; rw [hk]; rfl
        rw [hz] at C
        generalize cmpO kind (some p) (some q) = x1 at *
        clear hz hp hq hA hB hra hrb hk
        go_enter Tryd.func9, Tryd.ntmps9
        go_wp2_with fail
        refine (awake_any _).mono ?_
        rintro e w1 ⟨rfl, hb1⟩
        have HB1 := Lib.hid hb1
        have hz1 := hb1.size
        clear hb1
        go_wp2_with fail
        refine (PA.out _).mono ?_
        rintro e w2 ⟨rfl, hb2⟩
        have HB2 : Hid (Below W.heap.size W w2) := HB1.out.trans (hb2.mono hz1)
        have hz2 := HB2.out.size
        clear hb2
        go_wp2_with fail
        refine (PB.out _).mono ?_
        rintro e w3 ⟨rfl, hb3⟩
        have K1 := Lib.hid ((Blk.new w2 24 #[Value.string ea, .string va, .string ra]).below hb3 (by simp))
        have HB3 : Hid (Below W.heap.size W w3) := (HB2.out.alloc hz2 _).trans (hb3.mono (by simp; omega))
        have hz3 := HB3.out.size
        have hl3 : w2.heap.size < w3.heap.size := K1.out.lt
        clear hb3
        go_wp2_with fail
        refine (C.out _).mono ?_
        rintro e w4 ⟨rfl, hb4⟩
        have K1 := Lib.hid ((K1.out.alloc (.cells #[Value.string eb, .string vb, .string rb] 24)).below hb4 (by simp; omega))
        have K2 := Lib.hid ((Blk.new w3 24 #[Value.string eb, .string vb, .string rb]).below hb4 (by simp))
        have HB4 : Hid (Below W.heap.size W w4) := (HB3.out.alloc hz3 _).trans (hb4.mono (by simp; omega))
        have hz4 := HB4.out.size
        have c1 : w4.cell? ⟨w2.heap.size, 2, none⟩ = some (.string ra) := K1.out.cell 2
        have c2 : w4.cell? ⟨w3.heap.size, 2, none⟩ = some (.string rb) := K2.out.cell 2
        clear hb4
        go_wp2_with fail
        go_ret
        exact ⟨rfl, HB4.out⟩
      | true =>
        have hz : bothErr kind (some p) (some q) = 0 := by unfold bothErr; rw [hk]; rfl
        have hc : cmpO kind (some p) (some q) = cmpEvr kind p q := by
          show (if kindB kind = true then cmpEvr kind p q else 0) = _
          rw [if_pos hk]
        rw [hz, hc] at C
        by_cases z1 : ra.size = 0
        · obtain rfl := empty_of z1
          generalize cmpEvr kind p q = x1 at *
          clear hz hc hp hq hA hB hra hrb hk z1
          go_enter Tryd.func9, Tryd.ntmps9
          go_wp2_with fail
          refine (awake_any _).mono ?_
          rintro e w1 ⟨rfl, hb1⟩
          have HB1 := Lib.hid hb1
          have hz1 := hb1.size
          clear hb1
          go_wp2_with fail
          refine (PA.out _).mono ?_
          rintro e w2 ⟨rfl, hb2⟩
          have HB2 : Hid (Below W.heap.size W w2) := HB1.out.trans (hb2.mono hz1)
          have hz2 := HB2.out.size
          clear hb2
          go_wp2_with fail
          refine (PB.out _).mono ?_
          rintro e w3 ⟨rfl, hb3⟩
          have K1 := Lib.hid ((Blk.new w2 24 #[Value.string ea, .string va, .string ⟨#[]⟩]).below hb3 (by simp))
          have HB3 : Hid (Below W.heap.size W w3) := (HB2.out.alloc hz2 _).trans (hb3.mono (by simp; omega))
          have hz3 := HB3.out.size
          have hl3 : w2.heap.size < w3.heap.size := K1.out.lt
          clear hb3
          go_wp2_with fail
          refine (C.out _).mono ?_
          rintro e w4 ⟨rfl, hb4⟩
          have K1 := Lib.hid ((K1.out.alloc (.cells #[Value.string eb, .string vb, .string rb] 24)).below hb4 (by simp; omega))
          have K2 := Lib.hid ((Blk.new w3 24 #[Value.string eb, .string vb, .string rb]).below hb4 (by simp))
          have HB4 : Hid (Below W.heap.size W w4) := (HB3.out.alloc hz3 _).trans (hb4.mono (by simp; omega))
          have hz4 := HB4.out.size
          have c1 : w4.cell? ⟨w2.heap.size, 2, none⟩ = some (.string ⟨#[]⟩) := K1.out.cell 2
          have c2 : w4.cell? ⟨w3.heap.size, 2, none⟩ = some (.string rb) := K2.out.cell 2
          clear hb4
          go_wp2_with fail
          go_ret
          exact ⟨rfl, HB4.out⟩
        · have he := toList_cons (s := ra) (by omega)
          have he2 : ra.toList ≠ [] := by intro h; rw [h] at he; cases he
          by_cases z2 : rb.size = 0
          · obtain rfl := empty_of z2
            generalize cmpEvr kind p q = x1 at *
            clear hz hc hp hq hA hB hra hrb hk z1 z2
            go_enter Tryd.func9, Tryd.ntmps9
            go_wp2_with fail
            refine (awake_any _).mono ?_
            rintro e w1 ⟨rfl, hb1⟩
            have HB1 := Lib.hid hb1
            have hz1 := hb1.size
            clear hb1
            go_wp2_with fail
            refine (PA.out _).mono ?_
            rintro e w2 ⟨rfl, hb2⟩
            have HB2 : Hid (Below W.heap.size W w2) := HB1.out.trans (hb2.mono hz1)
            have hz2 := HB2.out.size
            clear hb2
            go_wp2_with fail
            refine (PB.out _).mono ?_
            rintro e w3 ⟨rfl, hb3⟩
            have K1 := Lib.hid ((Blk.new w2 24 #[Value.string ea, .string va, .string ra]).below hb3 (by simp))
            have HB3 : Hid (Below W.heap.size W w3) := (HB2.out.alloc hz2 _).trans (hb3.mono (by simp; omega))
            have hz3 := HB3.out.size
            have hl3 : w2.heap.size < w3.heap.size := K1.out.lt
            clear hb3
            go_wp2_with fail
            refine (C.out _).mono ?_
            rintro e w4 ⟨rfl, hb4⟩
            have K1 := Lib.hid ((K1.out.alloc (.cells #[Value.string eb, .string vb, .string ⟨#[]⟩] 24)).below hb4 (by simp; omega))
            have K2 := Lib.hid ((Blk.new w3 24 #[Value.string eb, .string vb, .string ⟨#[]⟩]).below hb4 (by simp))
            have HB4 : Hid (Below W.heap.size W w4) := (HB3.out.alloc hz3 _).trans (hb4.mono (by simp; omega))
            have hz4 := HB4.out.size
            have c1 : w4.cell? ⟨w2.heap.size, 2, none⟩ = some (.string ra) := K1.out.cell 2
            have c2 : w4.cell? ⟨w3.heap.size, 2, none⟩ = some (.string ⟨#[]⟩) := K2.out.cell 2
            clear hb4
            go_wp2_with fail
            go_ret
            exact ⟨rfl, HB4.out⟩
          · have ge := toList_cons (s := rb) (by omega)
            have ge2 : rb.toList ≠ [] := by intro h; rw [h] at ge; cases ge
            have CM : ∀ op : Int, 1 ≤ op → op ≤ 7 → ∀ w : World, Calls Tryd.prog 16 #[.int .i64 kind, .int .i64 op, .string b, .int .i64 2, .string a] w fun e w' => e = .returned (.tuple #[.bool (signB (-(cmpEvr kind p q)) op 2), .int .i64 0]) ∧ Below w.heap.size w w' := fun op h1 h7 w => by
              have := meets_any kind op 2 b a w
              have hm := span_meet kind op hk (p := p) (q := q) (by rw [← hra]; intro e; exact z1 (by rw [← size_len, e]; rfl)) (by rw [← hrb]; intro e; exact z2 (by rw [← size_len, e]; rfl)) h1 h7
              rw [hp, hq, hm.1, hm.2] at this
              exact this
            have R := (ordEvr kind).range p q
            generalize cmpEvr kind p q = x at *
            clear hz hc hp hq hA hB hra hrb hk z1 z2
            rcases R with rfl | rfl | rfl
            · skip
              have m1 := CM 1 (by omega) (by omega)
              rw [show signB (-(-1)) 1 2 = true by decide] at m1
              have M1 := Lib.hid m1
              clear m1
              have m2 := CM 2 (by omega) (by omega)
              rw [show signB (-(-1)) 2 2 = false by decide] at m2
              have M2 := Lib.hid m2
              clear m2
              have m3 := CM 3 (by omega) (by omega)
              rw [show signB (-(-1)) 3 2 = true by decide] at m3
              have M3 := Lib.hid m3
              clear m3
              have m4 := CM 4 (by omega) (by omega)
              rw [show signB (-(-1)) 4 2 = false by decide] at m4
              have M4 := Lib.hid m4
              clear m4
              have m5 := CM 5 (by omega) (by omega)
              rw [show signB (-(-1)) 5 2 = true by decide] at m5
              have M5 := Lib.hid m5
              clear m5
              have m6 := CM 6 (by omega) (by omega)
              rw [show signB (-(-1)) 6 2 = false by decide] at m6
              have M6 := Lib.hid m6
              clear m6
              have m7 := CM 7 (by omega) (by omega)
              rw [show signB (-(-1)) 7 2 = true by decide] at m7
              have M7 := Lib.hid m7
              clear m7
              clear CM
              go_enter Tryd.func9, Tryd.ntmps9
              go_wp2_with fail
              refine (awake_any _).mono ?_
              rintro e w1 ⟨rfl, hb1⟩
              have HB1 := Lib.hid hb1
              have hz1 := hb1.size
              clear hb1
              go_wp2_with fail
              refine (PA.out _).mono ?_
              rintro e w2 ⟨rfl, hb2⟩
              have HB2 : Hid (Below W.heap.size W w2) := HB1.out.trans (hb2.mono hz1)
              have hz2 := HB2.out.size
              clear hb2
              go_wp2_with fail
              refine (PB.out _).mono ?_
              rintro e w3 ⟨rfl, hb3⟩
              have K1 := Lib.hid ((Blk.new w2 24 #[Value.string ea, .string va, .string ra]).below hb3 (by simp))
              have HB3 : Hid (Below W.heap.size W w3) := (HB2.out.alloc hz2 _).trans (hb3.mono (by simp; omega))
              have hz3 := HB3.out.size
              have hl3 : w2.heap.size < w3.heap.size := K1.out.lt
              clear hb3
              go_wp2_with fail
              refine (C.out _).mono ?_
              rintro e w4 ⟨rfl, hb4⟩
              have K1 := Lib.hid ((K1.out.alloc (.cells #[Value.string eb, .string vb, .string rb] 24)).below hb4 (by simp; omega))
              have K2 := Lib.hid ((Blk.new w3 24 #[Value.string eb, .string vb, .string rb]).below hb4 (by simp))
              have HB4 : Hid (Below W.heap.size W w4) := (HB3.out.alloc hz3 _).trans (hb4.mono (by simp; omega))
              have hz4 := HB4.out.size
              have c1 : w4.cell? ⟨w2.heap.size, 2, none⟩ = some (.string ra) := K1.out.cell 2
              have c2 : w4.cell? ⟨w3.heap.size, 2, none⟩ = some (.string rb) := K2.out.cell 2
              clear hb4
              go_wp2_with fail
              refine (M1.out _).mono ?_
              rintro e w5 ⟨rfl, hb5⟩
              have HB5 : Hid (Below W.heap.size W w5) := HB4.out.trans (hb5.mono hz4)
              have hz5 := HB5.out.size
              clear hb5
              go_wp2_with fail
              refine (M2.out _).mono ?_
              rintro e w6 ⟨rfl, hb6⟩
              have HB6 : Hid (Below W.heap.size W w6) := HB5.out.trans (hb6.mono hz5)
              have hz6 := HB6.out.size
              clear hb6
              go_wp2_with fail
              refine (M4.out _).mono ?_
              rintro e w7 ⟨rfl, hb7⟩
              have HB7 : Hid (Below W.heap.size W w7) := HB6.out.trans (hb7.mono hz6)
              have hz7 := HB7.out.size
              clear hb7
              go_wp2_with fail
              clear K1 K2 c1 c2 HB1 HB2 HB3 HB4 HB5 HB6 hz1 hz2 hz3 hz4 hz5 hz6 hl3 PA PB C he he2 ge ge2
              go_loopw [20] (fun k wr => ∃ n : Nat, 1 ≤ n ∧ n ≤ 8 ∧ k = .int .i64 (n : Int) ∧ Hid (Below W.heap.size W wr)) (fun k _ => 8 - (intOf k).toNat)
              case atStart => exact ⟨1, by omega, by omega, rfl, HB7.out⟩
              case round =>
                obtain ⟨n, n1, n8, rfl, HB⟩ := hrel
                have hzz := HB.out.size
                have hn : n = 1 ∨ n = 2 ∨ n = 3 ∨ n = 4 ∨ n = 5 ∨ n = 6 ∨ n = 7 ∨ n = 8 := by omega
                rcases hn with rfl | rfl | rfl | rfl | rfl | rfl | rfl | rfl
                · clear n1 n8
                  go_wp2_with fail
                  refine (M1.out _).mono ?_
                  rintro e w8 ⟨rfl, hb8⟩
                  have HB8 : Hid (Below W.heap.size W w8) := HB.out.trans (hb8.mono hzz)
                  clear hb8
                  go_wp2_with fail
                  go_roundw
                  case rel => exact ⟨2, by omega, by omega, rfl, HB8.out⟩
                  case measure => decide
                · clear n1 n8
                  go_wp2_with fail
                  refine (M2.out _).mono ?_
                  rintro e w8 ⟨rfl, hb8⟩
                  have HB8 : Hid (Below W.heap.size W w8) := HB.out.trans (hb8.mono hzz)
                  clear hb8
                  go_wp2_with fail
                  go_roundw
                  case rel => exact ⟨3, by omega, by omega, rfl, HB8.out⟩
                  case measure => decide
                · clear n1 n8
                  go_wp2_with fail
                  refine (M3.out _).mono ?_
                  rintro e w8 ⟨rfl, hb8⟩
                  have HB8 : Hid (Below W.heap.size W w8) := HB.out.trans (hb8.mono hzz)
                  clear hb8
                  go_wp2_with fail
                  go_roundw
                  case rel => exact ⟨4, by omega, by omega, rfl, HB8.out⟩
                  case measure => decide
                · clear n1 n8
                  go_wp2_with fail
                  refine (M4.out _).mono ?_
                  rintro e w8 ⟨rfl, hb8⟩
                  have HB8 : Hid (Below W.heap.size W w8) := HB.out.trans (hb8.mono hzz)
                  clear hb8
                  go_wp2_with fail
                  go_roundw
                  case rel => exact ⟨5, by omega, by omega, rfl, HB8.out⟩
                  case measure => decide
                · clear n1 n8
                  go_wp2_with fail
                  refine (M5.out _).mono ?_
                  rintro e w8 ⟨rfl, hb8⟩
                  have HB8 : Hid (Below W.heap.size W w8) := HB.out.trans (hb8.mono hzz)
                  clear hb8
                  go_wp2_with fail
                  go_roundw
                  case rel => exact ⟨6, by omega, by omega, rfl, HB8.out⟩
                  case measure => decide
                · clear n1 n8
                  go_wp2_with fail
                  refine (M6.out _).mono ?_
                  rintro e w8 ⟨rfl, hb8⟩
                  have HB8 : Hid (Below W.heap.size W w8) := HB.out.trans (hb8.mono hzz)
                  clear hb8
                  go_wp2_with fail
                  go_roundw
                  case rel => exact ⟨7, by omega, by omega, rfl, HB8.out⟩
                  case measure => decide
                · clear n1 n8
                  go_wp2_with fail
                  refine (M7.out _).mono ?_
                  rintro e w8 ⟨rfl, hb8⟩
                  have HB8 : Hid (Below W.heap.size W w8) := HB.out.trans (hb8.mono hzz)
                  clear hb8
                  go_wp2_with fail
                  go_roundw
                  case rel => exact ⟨8, by omega, by omega, rfl, HB8.out⟩
                  case measure => decide
                · clear n1 n8
                  go_wp2_with fail
                  go_ret
                  exact ⟨rfl, HB.out⟩
            · skip
              have m1 := CM 1 (by omega) (by omega)
              rw [show signB (-(0)) 1 2 = false by decide] at m1
              have M1 := Lib.hid m1
              clear m1
              have m2 := CM 2 (by omega) (by omega)
              rw [show signB (-(0)) 2 2 = true by decide] at m2
              have M2 := Lib.hid m2
              clear m2
              have m3 := CM 3 (by omega) (by omega)
              rw [show signB (-(0)) 3 2 = true by decide] at m3
              have M3 := Lib.hid m3
              clear m3
              have m4 := CM 4 (by omega) (by omega)
              rw [show signB (-(0)) 4 2 = false by decide] at m4
              have M4 := Lib.hid m4
              clear m4
              have m5 := CM 5 (by omega) (by omega)
              rw [show signB (-(0)) 5 2 = false by decide] at m5
              have M5 := Lib.hid m5
              clear m5
              have m6 := CM 6 (by omega) (by omega)
              rw [show signB (-(0)) 6 2 = true by decide] at m6
              have M6 := Lib.hid m6
              clear m6
              have m7 := CM 7 (by omega) (by omega)
              rw [show signB (-(0)) 7 2 = true by decide] at m7
              have M7 := Lib.hid m7
              clear m7
              clear CM
              go_enter Tryd.func9, Tryd.ntmps9
              go_wp2_with fail
              refine (awake_any _).mono ?_
              rintro e w1 ⟨rfl, hb1⟩
              have HB1 := Lib.hid hb1
              have hz1 := hb1.size
              clear hb1
              go_wp2_with fail
              refine (PA.out _).mono ?_
              rintro e w2 ⟨rfl, hb2⟩
              have HB2 : Hid (Below W.heap.size W w2) := HB1.out.trans (hb2.mono hz1)
              have hz2 := HB2.out.size
              clear hb2
              go_wp2_with fail
              refine (PB.out _).mono ?_
              rintro e w3 ⟨rfl, hb3⟩
              have K1 := Lib.hid ((Blk.new w2 24 #[Value.string ea, .string va, .string ra]).below hb3 (by simp))
              have HB3 : Hid (Below W.heap.size W w3) := (HB2.out.alloc hz2 _).trans (hb3.mono (by simp; omega))
              have hz3 := HB3.out.size
              have hl3 : w2.heap.size < w3.heap.size := K1.out.lt
              clear hb3
              go_wp2_with fail
              refine (C.out _).mono ?_
              rintro e w4 ⟨rfl, hb4⟩
              have K1 := Lib.hid ((K1.out.alloc (.cells #[Value.string eb, .string vb, .string rb] 24)).below hb4 (by simp; omega))
              have K2 := Lib.hid ((Blk.new w3 24 #[Value.string eb, .string vb, .string rb]).below hb4 (by simp))
              have HB4 : Hid (Below W.heap.size W w4) := (HB3.out.alloc hz3 _).trans (hb4.mono (by simp; omega))
              have hz4 := HB4.out.size
              have c1 : w4.cell? ⟨w2.heap.size, 2, none⟩ = some (.string ra) := K1.out.cell 2
              have c2 : w4.cell? ⟨w3.heap.size, 2, none⟩ = some (.string rb) := K2.out.cell 2
              clear hb4
              go_wp2_with fail
              refine (M1.out _).mono ?_
              rintro e w5 ⟨rfl, hb5⟩
              have HB5 : Hid (Below W.heap.size W w5) := HB4.out.trans (hb5.mono hz4)
              have hz5 := HB5.out.size
              clear hb5
              go_wp2_with fail
              refine (M2.out _).mono ?_
              rintro e w6 ⟨rfl, hb6⟩
              have HB6 : Hid (Below W.heap.size W w6) := HB5.out.trans (hb6.mono hz5)
              have hz6 := HB6.out.size
              clear hb6
              go_wp2_with fail
              refine (M4.out _).mono ?_
              rintro e w7 ⟨rfl, hb7⟩
              have HB7 : Hid (Below W.heap.size W w7) := HB6.out.trans (hb7.mono hz6)
              have hz7 := HB7.out.size
              clear hb7
              go_wp2_with fail
              clear K1 K2 c1 c2 HB1 HB2 HB3 HB4 HB5 HB6 hz1 hz2 hz3 hz4 hz5 hz6 hl3 PA PB C he he2 ge ge2
              go_loopw [20] (fun k wr => ∃ n : Nat, 1 ≤ n ∧ n ≤ 8 ∧ k = .int .i64 (n : Int) ∧ Hid (Below W.heap.size W wr)) (fun k _ => 8 - (intOf k).toNat)
              case atStart => exact ⟨1, by omega, by omega, rfl, HB7.out⟩
              case round =>
                obtain ⟨n, n1, n8, rfl, HB⟩ := hrel
                have hzz := HB.out.size
                have hn : n = 1 ∨ n = 2 ∨ n = 3 ∨ n = 4 ∨ n = 5 ∨ n = 6 ∨ n = 7 ∨ n = 8 := by omega
                rcases hn with rfl | rfl | rfl | rfl | rfl | rfl | rfl | rfl
                · clear n1 n8
                  go_wp2_with fail
                  refine (M1.out _).mono ?_
                  rintro e w8 ⟨rfl, hb8⟩
                  have HB8 : Hid (Below W.heap.size W w8) := HB.out.trans (hb8.mono hzz)
                  clear hb8
                  go_wp2_with fail
                  go_roundw
                  case rel => exact ⟨2, by omega, by omega, rfl, HB8.out⟩
                  case measure => decide
                · clear n1 n8
                  go_wp2_with fail
                  refine (M2.out _).mono ?_
                  rintro e w8 ⟨rfl, hb8⟩
                  have HB8 : Hid (Below W.heap.size W w8) := HB.out.trans (hb8.mono hzz)
                  clear hb8
                  go_wp2_with fail
                  go_roundw
                  case rel => exact ⟨3, by omega, by omega, rfl, HB8.out⟩
                  case measure => decide
                · clear n1 n8
                  go_wp2_with fail
                  refine (M3.out _).mono ?_
                  rintro e w8 ⟨rfl, hb8⟩
                  have HB8 : Hid (Below W.heap.size W w8) := HB.out.trans (hb8.mono hzz)
                  clear hb8
                  go_wp2_with fail
                  go_roundw
                  case rel => exact ⟨4, by omega, by omega, rfl, HB8.out⟩
                  case measure => decide
                · clear n1 n8
                  go_wp2_with fail
                  refine (M4.out _).mono ?_
                  rintro e w8 ⟨rfl, hb8⟩
                  have HB8 : Hid (Below W.heap.size W w8) := HB.out.trans (hb8.mono hzz)
                  clear hb8
                  go_wp2_with fail
                  go_roundw
                  case rel => exact ⟨5, by omega, by omega, rfl, HB8.out⟩
                  case measure => decide
                · clear n1 n8
                  go_wp2_with fail
                  refine (M5.out _).mono ?_
                  rintro e w8 ⟨rfl, hb8⟩
                  have HB8 : Hid (Below W.heap.size W w8) := HB.out.trans (hb8.mono hzz)
                  clear hb8
                  go_wp2_with fail
                  go_roundw
                  case rel => exact ⟨6, by omega, by omega, rfl, HB8.out⟩
                  case measure => decide
                · clear n1 n8
                  go_wp2_with fail
                  refine (M6.out _).mono ?_
                  rintro e w8 ⟨rfl, hb8⟩
                  have HB8 : Hid (Below W.heap.size W w8) := HB.out.trans (hb8.mono hzz)
                  clear hb8
                  go_wp2_with fail
                  go_roundw
                  case rel => exact ⟨7, by omega, by omega, rfl, HB8.out⟩
                  case measure => decide
                · clear n1 n8
                  go_wp2_with fail
                  refine (M7.out _).mono ?_
                  rintro e w8 ⟨rfl, hb8⟩
                  have HB8 : Hid (Below W.heap.size W w8) := HB.out.trans (hb8.mono hzz)
                  clear hb8
                  go_wp2_with fail
                  go_roundw
                  case rel => exact ⟨8, by omega, by omega, rfl, HB8.out⟩
                  case measure => decide
                · clear n1 n8
                  go_wp2_with fail
                  go_ret
                  exact ⟨rfl, HB.out⟩
            · skip
              have m1 := CM 1 (by omega) (by omega)
              rw [show signB (-(1)) 1 2 = false by decide] at m1
              have M1 := Lib.hid m1
              clear m1
              have m2 := CM 2 (by omega) (by omega)
              rw [show signB (-(1)) 2 2 = false by decide] at m2
              have M2 := Lib.hid m2
              clear m2
              have m3 := CM 3 (by omega) (by omega)
              rw [show signB (-(1)) 3 2 = false by decide] at m3
              have M3 := Lib.hid m3
              clear m3
              have m4 := CM 4 (by omega) (by omega)
              rw [show signB (-(1)) 4 2 = true by decide] at m4
              have M4 := Lib.hid m4
              clear m4
              have m5 := CM 5 (by omega) (by omega)
              rw [show signB (-(1)) 5 2 = true by decide] at m5
              have M5 := Lib.hid m5
              clear m5
              have m6 := CM 6 (by omega) (by omega)
              rw [show signB (-(1)) 6 2 = true by decide] at m6
              have M6 := Lib.hid m6
              clear m6
              have m7 := CM 7 (by omega) (by omega)
              rw [show signB (-(1)) 7 2 = true by decide] at m7
              have M7 := Lib.hid m7
              clear m7
              clear CM
              go_enter Tryd.func9, Tryd.ntmps9
              go_wp2_with fail
              refine (awake_any _).mono ?_
              rintro e w1 ⟨rfl, hb1⟩
              have HB1 := Lib.hid hb1
              have hz1 := hb1.size
              clear hb1
              go_wp2_with fail
              refine (PA.out _).mono ?_
              rintro e w2 ⟨rfl, hb2⟩
              have HB2 : Hid (Below W.heap.size W w2) := HB1.out.trans (hb2.mono hz1)
              have hz2 := HB2.out.size
              clear hb2
              go_wp2_with fail
              refine (PB.out _).mono ?_
              rintro e w3 ⟨rfl, hb3⟩
              have K1 := Lib.hid ((Blk.new w2 24 #[Value.string ea, .string va, .string ra]).below hb3 (by simp))
              have HB3 : Hid (Below W.heap.size W w3) := (HB2.out.alloc hz2 _).trans (hb3.mono (by simp; omega))
              have hz3 := HB3.out.size
              have hl3 : w2.heap.size < w3.heap.size := K1.out.lt
              clear hb3
              go_wp2_with fail
              refine (C.out _).mono ?_
              rintro e w4 ⟨rfl, hb4⟩
              have K1 := Lib.hid ((K1.out.alloc (.cells #[Value.string eb, .string vb, .string rb] 24)).below hb4 (by simp; omega))
              have K2 := Lib.hid ((Blk.new w3 24 #[Value.string eb, .string vb, .string rb]).below hb4 (by simp))
              have HB4 : Hid (Below W.heap.size W w4) := (HB3.out.alloc hz3 _).trans (hb4.mono (by simp; omega))
              have hz4 := HB4.out.size
              have c1 : w4.cell? ⟨w2.heap.size, 2, none⟩ = some (.string ra) := K1.out.cell 2
              have c2 : w4.cell? ⟨w3.heap.size, 2, none⟩ = some (.string rb) := K2.out.cell 2
              clear hb4
              go_wp2_with fail
              refine (M1.out _).mono ?_
              rintro e w5 ⟨rfl, hb5⟩
              have HB5 : Hid (Below W.heap.size W w5) := HB4.out.trans (hb5.mono hz4)
              have hz5 := HB5.out.size
              clear hb5
              go_wp2_with fail
              refine (M2.out _).mono ?_
              rintro e w6 ⟨rfl, hb6⟩
              have HB6 : Hid (Below W.heap.size W w6) := HB5.out.trans (hb6.mono hz5)
              have hz6 := HB6.out.size
              clear hb6
              go_wp2_with fail
              refine (M4.out _).mono ?_
              rintro e w7 ⟨rfl, hb7⟩
              have HB7 : Hid (Below W.heap.size W w7) := HB6.out.trans (hb7.mono hz6)
              have hz7 := HB7.out.size
              clear hb7
              go_wp2_with fail
              clear K1 K2 c1 c2 HB1 HB2 HB3 HB4 HB5 HB6 hz1 hz2 hz3 hz4 hz5 hz6 hl3 PA PB C he he2 ge ge2
              go_loopw [20] (fun k wr => ∃ n : Nat, 1 ≤ n ∧ n ≤ 8 ∧ k = .int .i64 (n : Int) ∧ Hid (Below W.heap.size W wr)) (fun k _ => 8 - (intOf k).toNat)
              case atStart => exact ⟨1, by omega, by omega, rfl, HB7.out⟩
              case round =>
                obtain ⟨n, n1, n8, rfl, HB⟩ := hrel
                have hzz := HB.out.size
                have hn : n = 1 ∨ n = 2 ∨ n = 3 ∨ n = 4 ∨ n = 5 ∨ n = 6 ∨ n = 7 ∨ n = 8 := by omega
                rcases hn with rfl | rfl | rfl | rfl | rfl | rfl | rfl | rfl
                · clear n1 n8
                  go_wp2_with fail
                  refine (M1.out _).mono ?_
                  rintro e w8 ⟨rfl, hb8⟩
                  have HB8 : Hid (Below W.heap.size W w8) := HB.out.trans (hb8.mono hzz)
                  clear hb8
                  go_wp2_with fail
                  go_roundw
                  case rel => exact ⟨2, by omega, by omega, rfl, HB8.out⟩
                  case measure => decide
                · clear n1 n8
                  go_wp2_with fail
                  refine (M2.out _).mono ?_
                  rintro e w8 ⟨rfl, hb8⟩
                  have HB8 : Hid (Below W.heap.size W w8) := HB.out.trans (hb8.mono hzz)
                  clear hb8
                  go_wp2_with fail
                  go_roundw
                  case rel => exact ⟨3, by omega, by omega, rfl, HB8.out⟩
                  case measure => decide
                · clear n1 n8
                  go_wp2_with fail
                  refine (M3.out _).mono ?_
                  rintro e w8 ⟨rfl, hb8⟩
                  have HB8 : Hid (Below W.heap.size W w8) := HB.out.trans (hb8.mono hzz)
                  clear hb8
                  go_wp2_with fail
                  go_roundw
                  case rel => exact ⟨4, by omega, by omega, rfl, HB8.out⟩
                  case measure => decide
                · clear n1 n8
                  go_wp2_with fail
                  refine (M4.out _).mono ?_
                  rintro e w8 ⟨rfl, hb8⟩
                  have HB8 : Hid (Below W.heap.size W w8) := HB.out.trans (hb8.mono hzz)
                  clear hb8
                  go_wp2_with fail
                  go_roundw
                  case rel => exact ⟨5, by omega, by omega, rfl, HB8.out⟩
                  case measure => decide
                · clear n1 n8
                  go_wp2_with fail
                  refine (M5.out _).mono ?_
                  rintro e w8 ⟨rfl, hb8⟩
                  have HB8 : Hid (Below W.heap.size W w8) := HB.out.trans (hb8.mono hzz)
                  clear hb8
                  go_wp2_with fail
                  go_roundw
                  case rel => exact ⟨6, by omega, by omega, rfl, HB8.out⟩
                  case measure => decide
                · clear n1 n8
                  go_wp2_with fail
                  refine (M6.out _).mono ?_
                  rintro e w8 ⟨rfl, hb8⟩
                  have HB8 : Hid (Below W.heap.size W w8) := HB.out.trans (hb8.mono hzz)
                  clear hb8
                  go_wp2_with fail
                  go_roundw
                  case rel => exact ⟨7, by omega, by omega, rfl, HB8.out⟩
                  case measure => decide
                · clear n1 n8
                  go_wp2_with fail
                  refine (M7.out _).mono ?_
                  rintro e w8 ⟨rfl, hb8⟩
                  have HB8 : Hid (Below W.heap.size W w8) := HB.out.trans (hb8.mono hzz)
                  clear hb8
                  go_wp2_with fail
                  go_roundw
                  case rel => exact ⟨8, by omega, by omega, rfl, HB8.out⟩
                  case measure => decide
                · clear n1 n8
                  go_wp2_with fail
                  go_ret
                  exact ⟨rfl, HB.out⟩
end Go.Proofs.YtbfpljlgjpmmmaaDoor
