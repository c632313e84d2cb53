/- The walk of NamesApart. -/
import Derived.Test.YtdgmpickjdbhlaaLaws
namespace Go.Proofs.Ytdgmpickjdbhlaa
open Go.RowKit

theorem rel_keep {L : List ByteArray} {r : List Cmp} {n op e : Int} {k : Nat} {c : Cmp} (h : r[k]? = some c) : (relR L r n op e)[k]? = some c := by
  have hlt := (List.getElem?_eq_some_iff.1 h).1
  unfold relR
  split
  · split
    · exact h
    · split
      · exact h
      · rw [List.getElem?_append_left hlt]; exact h
  · exact h
theorem rel_ok {L : List ByteArray} {r : List Cmp} {n op e : Int} (h : relErr L r n op e = 0) : ∃ (c : Cmp) (k : Nat), n = (c.1 : Int) ∧ op = (c.2.1 : Int) ∧ e = (c.2.2 : Int) ∧ relId L r n op e = (k : Int) ∧ (relR L r n op e)[k]? = some c := by
  unfold relErr at h
  cases hb : (hasB L n && hasB L e) with
  | false => rw [hb] at h; simp at h
  | true =>
    rw [hb] at h
    simp only [if_true] at h
    obtain ⟨hn, he⟩ : hasB L n = true ∧ hasB L e = true := by simpa using hb
    by_cases ho : 1 ≤ op ∧ op ≤ 7
    · rw [if_pos ho] at h
      obtain ⟨n', rfl, _⟩ := hasB_nat hn
      obtain ⟨e', rfl, _⟩ := hasB_nat he
      obtain ⟨op', rfl⟩ : ∃ k : Nat, op = (k : Int) := ⟨op.toNat, by omega⟩
      have hf : fitB L n' op' e' = true := by simp only [fitB, hb, ho]; rfl
      have hc : cmpOf n' op' e' = (n', op', e') := rfl
      cases hix : ix r (n', op', e') with
      | some k => exact ⟨(n', op', e'), k, rfl, rfl, rfl, by simp [relId, hf, hc, hix], by simp only [relR, hf, hc, hix]; exact ix_some hix⟩
      | none =>
        rw [hc, hix] at h
        by_cases hm : 5000 ≤ r.length
        · simp [hm] at h
        · exact ⟨(n', op', e'), r.length, rfl, rfl, rfl, by simp [relId, hf, hc, hix, hm], by simp [relR, hf, hc, hix, hm]⟩
    · rw [if_neg ho] at h; simp at h
theorem nodup_at {r : List Cmp} (h : r.Nodup) {i j : Nat} {c d : Cmp} (hi : r[i]? = some c) (hj : r[j]? = some d) : (i = j) ↔ (c = d) := by
  constructor
  · rintro rfl; rw [hi] at hj; injection hj
  · rintro rfl
    have h1 := ix_get h hi
    rw [ix_get h hj] at h1
    injection h1 with h1
    exact h1.symm

theorem lits3 {a0 a1 a2 : Int} (h0 : (Lit.int .i64 a0).wf = true) (h1 : (Lit.int .i64 a1).wf = true) (h2 : (Lit.int .i64 a2).wf = true) :
    Try.prog.keyLits 2 50 (Value.agg #[.int .i64 a0, .int .i64 a1, .int .i64 a2]).cells.toList = some [.int .i64 a0, .int .i64 a1, .int .i64 a2] := by
  have hc : Try.prog.cellsOf 50 = 3 := by kernel_rfl
  have hi : Try.prog.cellsOf 3 = 1 := by kernel_rfl
  unfold Program.keyLits
  simp only [Try.underlying50, Value.cells]
  rw [if_pos (by rw [hc]; simp), show List.range 3 = [0, 1, 2] from rfl]
  simp [hi, Program.keyLits, Try.underlying3, h0, h1, h2]
theorem eql3 (w : World) {a0 a1 a2 b0 b1 b2 : Int} (h0 : (Lit.int .i64 a0).wf = true) (h1 : (Lit.int .i64 a1).wf = true) (h2 : (Lit.int .i64 a2).wf = true) (g0 : (Lit.int .i64 b0).wf = true) (g1 : (Lit.int .i64 b1).wf = true) (g2 : (Lit.int .i64 b2).wf = true) :
    (Op.equalIn 10000 50 (.agg #[.int .i64 a0, .int .i64 a1, .int .i64 a2]) (.agg #[.int .i64 b0, .int .i64 b1, .int .i64 b2])).run Try.prog w = .ok (decide (a0 = b0 ∧ a1 = b1 ∧ a2 = b2)) w := by
  have hc : Try.prog.cellsOf 50 = 3 := by kernel_rfl
  have hk : Try.prog.keyTypeAt 2 50 = true := by kernel_rfl
  obtain ⟨r, hr, hi⟩ := run_equalIn_deep 9998 2 50 hk w 2 2 (.agg #[.int .i64 a0, .int .i64 a1, .int .i64 a2]) (.agg #[.int .i64 b0, .int .i64 b1, .int .i64 b2]) _ _
    (by simp [Value.formed, Try.underlying50, hc]) (by simp [Value.formed, Try.underlying50, hc]) (lits3 h0 h1 h2) (lits3 g0 g1 g2)
  rw [hr]
  congr 1
  rw [Bool.eq_iff_iff, hi]
  simp

set_option maxHeartbeats 4000000 in
set_option maxRecDepth 100000 in
theorem namesApart_walk {H : Type} {enc : TypeId × Value → H} (W : World) {v0 v1 v2 : Value} {d0 d1 d2 : DataW H} (h0 : In enc Try.prog W 32 v0 d0) (h1 : In enc Try.prog W 50 v1 d1) (h2 : In enc Try.prog W 50 v2 d2)
    (hsz : (DataW.weightsEach Try.prog [32, 50, 50] [d0, d1, d2]).all (· ≤ reachBytes) = true) :
    Calls Try.prog 7 #[v0, v1, v2] W (TrueBelow W) := by
  obtain ⟨A, n, c, ss, rfl, hl, hnc, hcm, hrd, hss, _, _⟩ := h0.strings Try.underlying32 Try.underlying9 (by kernel_rfl)
  obtain ⟨a0, a1, a2, rfl, wa0, wa1, wa2⟩ := h1.ints3 Try.underlying50 (by kernel_rfl) Try.underlying3 (by kernel_rfl)
  obtain ⟨b0, b1, b2, rfl, wb0, wb1, wb2⟩ := h2.ints3 Try.underlying50 (by kernel_rfl) Try.underlying3 (by kernel_rfl)
  have HL := Lib.hid hl
  have HRD := Lib.hid hrd
  have HSS := Lib.hid hss
  unfold maxLen at hcm
  have WA := Lib.hid (And.intro wa0 (And.intro wa1 wa2))
  have WB := Lib.hid (And.intro wb0 (And.intro wb1 wb2))
  clear h0 h1 h2 hsz hl hrd hss wa0 wa1 wa2 wb0 wb1 wb2
  go_enter Try.func7, Try.ntmps7
  go_wp2_with fail
  refine (awake_any _).mono ?_
  rintro e w1 ⟨rfl, hb1⟩
  have hs1 := hb1.size
  simp only [World.size_alloc] at hs1
  have K1 := Lib.hid (((Blk.new W 50 #[.int .i64 a0, .int .i64 a1, .int .i64 a2]).alloc (.cells #[.int .i64 b0, .int .i64 b1, .int .i64 b2] 50)).below hb1 (by simp; omega))
  have K2 := Lib.hid ((Blk.new' (w := W.alloc (.cells #[.int .i64 a0, .int .i64 a1, .int .i64 a2] 50)) (g := W.heap.size + 1) (t := 50) (cs := #[.int .i64 b0, .int .i64 b1, .int .i64 b2]) (by simp)).below hb1 (by simp))
  have HB1 : Hid (Below W.heap.size W w1) := (((Below.refl _ W).alloc (Nat.le_refl _) _).alloc (by simp) _).trans (hb1.mono (by simp; omega))
  go_wp2_with fail
  refine (new_any _).mono ?_
  rintro e w2 ⟨bt, F, rfl, hT, hb2, hF⟩
  have HT := Lib.hid hT
  have HF := Lib.hid hF
  clear hT hF hb1
  go_wp2_with fail
  go_loopw [9] (fun i wr => ∃ (k : Nat) (L : List ByteArray) (F' : List Nat), i = .int .i64 (k : Int) ∧ k ≤ n ∧ Hid (Tab wr F' bt L []) ∧ Hid (∀ x, x ∈ F' → w1.heap.size ≤ x) ∧ Hid (Below w1.heap.size w1 wr)) (fun i _ => n - (intOf i).toNat)
  case atStart => exact ⟨0, _, _, rfl, by omega, HT.out, HF.out, hb2⟩
  case round =>
    obtain ⟨k, L, F', rfl, hk, hT, hF, hB⟩ := hrel
    by_cases hlt : k < n
    · have hlt' : (k : Int) < (n : Int) := by omega
      have hk1 : k < ss.length := by rw [HL.out]; exact hlt
      obtain ⟨s, hs⟩ : ∃ s, ss[k]? = some s := ⟨_, List.getElem?_eq_getElem hk1⟩
      have hsz := HSS.out s (List.mem_of_getElem? hs)
      obtain ⟨b, o, rfl, hbl, hc⟩ := HRD.out k (.string s) (by rw [List.getElem?_map, hs]; rfl)
      have hc1 := (World.cell?_of_block (HB1.out.block b hbl)).trans hc
      have hc2 := (World.cell?_of_block (hB.out.block b (by omega))).trans hc1
      have C := Lib.hid (add_any wr F' bt L [] s hsz hT.out)
      clear hs hc hc1 hk1 hsz hT
      go_wp2_with fail
      refine C.out.mono ?_
      rintro e w3 ⟨rfl, F3, hT3, ht3, hf3⟩
      have T3 := Lib.hid hT3
      have hs3 := hB.out.size
      have HF3 : Hid (∀ x, x ∈ F3 → w1.heap.size ≤ x) := fun x hx => by
        rcases hf3 x hx with h1 | h1
        · exact hF.out x h1
        · omega
      have HB3 : Hid (Below w1.heap.size w1 w3) := hB.out.trans (ht3.below hF.out hs3)
      clear hT3 ht3 hf3 C hF hB
      unfold two
      go_wp2_with fail
      go_roundw
      case rel => go_light; exact ⟨k + 1, _, F3, by go_num, by omega, T3.out, HF3.out, HB3.out⟩
      case measure => go_light; simp only [intOf]; omega
    · have hlt' : ¬ (k : Int) < (n : Int) := by omega
      have hs3 := hB.out.size
      have BK1 := Lib.hid (K1.out.below hB.out (by omega))
      have e0 : wr.cell? ⟨W.heap.size, 0, none⟩ = some (.int .i64 a0) := BK1.out.cell 0
      have e1 : wr.cell? ⟨W.heap.size, 1, none⟩ = some (.int .i64 a1) := BK1.out.cell 1
      have e2 : wr.cell? ⟨W.heap.size, 2, none⟩ = some (.int .i64 a2) := BK1.out.cell 2
      have BK2 := Lib.hid (K2.out.below hB.out (by omega))
      have C := Lib.hid (relate_any wr F' bt L [] a0 a1 a2 hT.out)
      have HEA := Lib.hid (show relErr L [] a0 a1 a2 = 0 → _ from rel_ok)
      generalize hx : relId L [] a0 a1 a2 = x at C HEA
      generalize hea : relErr L [] a0 a1 a2 = ea at C HEA
      generalize hr1 : relR L [] a0 a1 a2 = r1 at C HEA
      clear hT hx hea hr1
      go_wp2_with fail
      refine C.out.mono ?_
      rintro e w3 ⟨rfl, F3, hT3, ht3, hf3⟩
      have HF3 : Hid (∀ x, x ∈ F3 → w1.heap.size ≤ x) := fun x hx => by
        rcases hf3 x hx with h1 | h1
        · exact hF.out x h1
        · omega
      have HB3 : Hid (Below w1.heap.size w1 w3) := hB.out.trans (ht3.below hF.out hs3)
      have hs4 := HB3.out.size
      have BK3 := Lib.hid (K2.out.below HB3.out (by omega))
      have g0 : w3.cell? ⟨W.heap.size + 1, 0, none⟩ = some (.int .i64 b0) := BK3.out.cell 0
      have g1 : w3.cell? ⟨W.heap.size + 1, 1, none⟩ = some (.int .i64 b1) := BK3.out.cell 1
      have g2 : w3.cell? ⟨W.heap.size + 1, 2, none⟩ = some (.int .i64 b2) := BK3.out.cell 2
      have D := Lib.hid (relate_any w3 F3 bt L r1 b0 b1 b2 hT3)
      have HEB := Lib.hid (show relErr L r1 b0 b1 b2 = 0 → _ from rel_ok)
      have HKP := Lib.hid (show ∀ (k : Nat) (c : Cmp), r1[k]? = some c → (relR L r1 b0 b1 b2)[k]? = some c from fun _ _ h => rel_keep h)
      generalize hy : relId L r1 b0 b1 b2 = y at D HEB
      generalize heb : relErr L r1 b0 b1 b2 = eb at D HEB
      generalize hr2 : relR L r1 b0 b1 b2 = r2 at D HEB HKP
      clear hT3 ht3 hf3 hy heb hr2 C hF hB e0 e1 e2 BK1 BK2
      unfold two
      go_wp2_with fail
      refine D.out.mono ?_
      rintro e w4 ⟨rfl, F4, hT4, ht4, hf4⟩
      have HB4 : Hid (Below w1.heap.size w1 w4) := HB3.out.trans (ht4.below HF3.out hs4)
      have hs5 := HB4.out.size
      have BK4 := Lib.hid (K1.out.below HB4.out (by omega))
      have BK5 := Lib.hid (K2.out.below HB4.out (by omega))
      have HT4 := Lib.hid hT4
      clear hT4 ht4 hf4 D g0 g1 g2 BK3 HB3 HF3
      unfold two
      by_cases hea : ea = 0
      · obtain ⟨ca, ka, rfl, rfl, rfl, rfl, hka⟩ := HEA.out hea
        subst hea
        have hka2 := HKP.out _ _ hka
        have CR := Lib.hid (relation_yes w4 F4 bt L r2 ka ca hka2 HT4.out)
        have e0 : w4.cell? ⟨W.heap.size, 0, none⟩ = some (.int .i64 (ca.1 : Int)) := BK4.out.cell 0
        have e1 : w4.cell? ⟨W.heap.size, 1, none⟩ = some (.int .i64 (ca.2.1 : Int)) := BK4.out.cell 1
        have e2 : w4.cell? ⟨W.heap.size, 2, none⟩ = some (.int .i64 (ca.2.2 : Int)) := BK4.out.cell 2
        have HK2 := Lib.hid hka2
        clear hka hka2
        go_wp2_with fail
        refine CR.out.mono ?_
        rintro e w5 ⟨rfl, hb5⟩
        have BK6 := Lib.hid (BK4.out.below hb5 (by omega))
        have BK7 := Lib.hid (BK5.out.below hb5 (by omega))
        have HB5 : Hid (Below w1.heap.size w1 w5) := HB4.out.trans (hb5.mono hs5)
        have e0 : w5.cell? ⟨W.heap.size, 0, none⟩ = some (.int .i64 (ca.1 : Int)) := BK6.out.cell 0
        have e1 : w5.cell? ⟨W.heap.size, 1, none⟩ = some (.int .i64 (ca.2.1 : Int)) := BK6.out.cell 1
        have e2 : w5.cell? ⟨W.heap.size, 2, none⟩ = some (.int .i64 (ca.2.2 : Int)) := BK6.out.cell 2
        have g0 : w5.cell? ⟨W.heap.size + 1, 0, none⟩ = some (.int .i64 b0) := BK7.out.cell 0
        have g1 : w5.cell? ⟨W.heap.size + 1, 1, none⟩ = some (.int .i64 b1) := BK7.out.cell 1
        have g2 : w5.cell? ⟨W.heap.size + 1, 2, none⟩ = some (.int .i64 b2) := BK7.out.cell 2
        by_cases heb : eb = 0
        · obtain ⟨cb, kb, rfl, rfl, rfl, rfl, hkb⟩ := HEB.out heb
          subst heb
          have HN := Lib.hid (nodup_at HT4.out.1.ronce HK2.out hkb)
          have heq := eql3 w5 WA.out.1 WA.out.2.1 WA.out.2.2 WB.out.1 WB.out.2.1 WB.out.2.2
          clear hkb
          go_wp2_with fail
          go_ret
          refine ⟨?_, HB1.out.trans (HB5.out.mono (by omega))⟩
          refine ret_bool ?_
          have hn := HN.out
          obtain ⟨p, q, r⟩ := ca
          obtain ⟨p', q', r'⟩ := cb
          simp only [Prod.mk.injEq] at hn
          rw [beq_iff_eq, Bool.eq_iff_iff]
          simp only [beq_iff_eq, Bool.and_eq_true, decide_eq_true_eq]
          omega
        · have heb' : (eb == 0) = false := by simpa using heb
          have heb2 : (eb != 0) = true := by simpa using heb
          go_wp2_with fail
          go_ret
          exact ⟨rfl, HB1.out.trans (HB5.out.mono (by omega))⟩
      · have hea' : (ea == 0) = false := by simpa using hea
        have hea2 : (ea != 0) = true := by simpa using hea
        go_wp2_with fail
        go_ret
        exact ⟨rfl, HB1.out.trans (HB4.out.mono (by omega))⟩
end Go.Proofs.Ytdgmpickjdbhlaa
