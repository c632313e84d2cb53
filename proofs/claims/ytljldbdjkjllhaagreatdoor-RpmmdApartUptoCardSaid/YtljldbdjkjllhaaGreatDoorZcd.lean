/- What a run stands for. A list of attributes in memory; whether one of them has a name. -/
import Derived.Test.YtljldbdjkjllhaaGreatDoorZcc
/- What a run stands for. -/
namespace Go.Proofs.YtljldbdjkjllhaaGreatDoor
set_option linter.unusedSimpArgs false
set_option linter.unusedVariables false
open Go.RowKit

def ActR (g : Nat) (v : Value) (act : Act) : Prop := ∃ u1 u2 u4 u5 u6 u7 u8 u9 u10 u11 u12 u13 u14 u15 u16 u17 u18 u19 u20 u21 u22 u23 u24 u25 u26 u27 u28 u29 u30 u31 u32 u33 u34 u35 u36 u37 u38 u39 u40 u41 u42 u43 u44 : Value, act = { tmps := #[.pointer (some ⟨g, 0, none⟩), u1, u2, v, u4, u5, u6, u7, u8, u9, u10, u11, u12, u13, u14, u15, u16, u17, u18, u19, u20, u21, u22, u23, u24, u25, u26, u27, u28, u29, u30, u31, u32, u33, u34, u35, u36, u37, u38, u39, u40, u41, u42, u43, u44], defers := [] }
def JR (w0 : World) (g : Nat) (v1 v2 v3 v4 : Value) (res : RR Bs) (l n : Nat) (act : Act) (w : World) : Prop :=
  ∃ r v o k, r.length < k ∧ r.length ≤ 40000 ∧ RunW w0 g v1 v2 v3 v4 r v o w ∧ ActR g v act ∧
    ((l = 0 ∧ n = 2 * r.length + 1 ∧ o.length + 4 * r.length ≤ 200000 ∧ runR k o r = res) ∨
     (l = 1 ∧ n = 2 * r.length + 2 ∧ o.length + 4 * r.length + 4 ≤ 200000 ∧ ((entityR r).bind fun y => runR k (o ++ Lib.encodeRune (y.1 : Int)) y.2) = res) ∨
     (l = 2 ∧ n = 2 * r.length + 2 ∧ o.length + 4 * r.length ≤ 200000 ∧ ((upToR [93, 93, 62] r).bind fun y => runR k (o ++ y.1) y.2) = res) ∨
     (l = 3 ∧ n = 2 * r.length + 2 ∧ o.length + 4 * r.length ≤ 200000 ∧ ((upToR [45, 45] r).bind fun y => (wantR [62] y.2).bind fun z => runR k o z.2) = res) ∨
     (l = 4 ∧ n = 2 * r.length + 2 ∧ o.length + 4 * r.length ≤ 200000 ∧ ((nameR r).bind fun y => (upToR [63, 62] y.2).bind fun z => runR k o z.2) = res))
theorem runR_eq {o r : Bs} {k : Nat} {x : Bs × Bs} (h : plainR [60, 38] r = .ok x) : runR (k + 1) o r =
    if Lib.hasPrefix x.2 [38] = true then (entityR (Lib.trimPrefix x.2 [38])).bind fun y => runR k (o ++ x.1 ++ Lib.encodeRune (y.1 : Int)) y.2
    else if Lib.hasPrefix x.2 cdataB = true then (upToR [93, 93, 62] (Lib.trimPrefix x.2 cdataB)).bind fun y => runR k (o ++ x.1 ++ y.1) y.2
    else if Lib.hasPrefix x.2 [60, 33, 45, 45] = true then (upToR [45, 45] (Lib.trimPrefix x.2 [60, 33, 45, 45])).bind fun y => (wantR [62] y.2).bind fun z => runR k (o ++ x.1) z.2
    else if Lib.hasPrefix x.2 [60, 63] = true then (nameR (Lib.trimPrefix x.2 [60, 63])).bind fun y => (upToR [63, 62] y.2).bind fun z => runR k (o ++ x.1) z.2
    else if Lib.hasPrefix x.2 [60, 33] = true then .error 100 else .ok (o ++ x.1, x.2) := by rw [runR, h]; rfl
theorem runR_no {o r : Bs} {k : Nat} {e : Int} (h : plainR [60, 38] r = .error e) : runR (k + 1) o r = .error e := by rw [runR, h]; rfl
theorem upToR_both {p l : Bs} {x : Bs × Bs} (h : upToR p l = .ok x) : x.1.length + x.2.length ≤ l.length := by
  unfold upToR at h
  split at h
  · obtain ⟨y, hy, h⟩ := bind_ok h
    obtain ⟨z, hz, h⟩ := map_ok h
    subst h
    have := takeR_both hy
    have := (wantR_len hz).1
    show y.1.length + z.2.length ≤ _; omega
  · cases h
theorem seps2 : Seps [60, 38] := ⟨by decide, by decide, by decide⟩
section
variable {w0 : World} {B g : Nat} {r0 : Bs} {v1 v2 v3 v4 : Value}
set_option maxHeartbeats 16000000 in
set_option maxRecDepth 1000000 in
theorem run_any (h : RdB w0 g r0 v1 v2 v3 v4) (hE : XEnv B w0) (hg : B ≤ g) (hr : r0.length ≤ 40000) :
    Calls Tryz.prog 86 #[.pointer (some ⟨g, 0, none⟩)] w0 (Ate w0 g v1 v2 v3 v4 (runR (r0.length + 1) [] r0) sV) := by
  obtain ⟨i0, hi, hz0, hz1, hz2⟩ := info_u8
  have HI := Lib.hid hi
  have HEN : Hid (∀ w, Turned [g] w0 w → XEnv B w) := fun w ht => hE.one ht hg
  have HW0 : Hid (RunW w0 g v1 v2 v3 v4 r0 (.slice none 0 0) [] w0) := ⟨h, World.ownsRowF_nil _ _ _ _, Turned.refl _ _⟩
  have HR0 := Lib.hid hr
  obtain ⟨res, hres⟩ : ∃ res, res = runR (r0.length + 1) [] r0 := ⟨_, rfl⟩
  have HRS : Hid (runR (r0.length + 1) [] r0 = res) := hres.symm
  rw [← hres]
  clear hres h hE hr hi
  go_enter Tryz.func86, Tryz.ntmps86
  go_wp2_with fail
  refine wp_scope_5 (JR w0 g v1 v2 v3 v4 res) rfl rfl rfl rfl rfl ?hJ ?p0 ?p1 ?p2 ?p3 ?p4 ?first
  case hJ =>
    rintro l n a w ⟨r, v, o, k, -, -, -, -, ⟨rfl, -⟩ | ⟨rfl, -⟩ | ⟨rfl, -⟩ | ⟨rfl, -⟩ | ⟨rfl, -⟩⟩ <;> omega
  case first =>
    intro H
    have HH := Lib.hid H
    clear H
    go_wp2_with fail
    go_step3
    rename_i K hK
    refine hK _ _ (HH.out _ _ _ ⟨r0, .slice none 0 0, [], r0.length + 1, by omega, HR0.out, HW0.out, ⟨_, _, _, _, _, _, _, _, _, _, _, _, _, _, _, _, _, _, _, _, _, _, _, _, _, _, _, _, _, _, _, _, _, _, _, _, _, _, _, _, _, _, _, rfl⟩, .inl ⟨rfl, rfl, by have := HR0.out; simp; omega, HRS.out⟩⟩)
  case p0 =>
    rintro n a w ⟨r, v, o, k, hk, hr, hW, ⟨u1, u2, u4, u5, u6, u7, u8, u9, u10, u11, u12, u13, u14, u15, u16, u17, u18, u19, u20, u21, u22, u23, u24, u25, u26, u27, u28, u29, u30, u31, u32, u33, u34, u35, u36, u37, u38, u39, u40, u41, u42, u43, u44, rfl⟩, hor⟩
    obtain ⟨hn, ho, hres⟩ : n = 2 * r.length + 1 ∧ o.length + 4 * r.length ≤ 200000 ∧ runR k o r = res := by
      rcases hor with ⟨-, h1, h2, h3⟩ | ⟨h0, -⟩ | ⟨h0, -⟩ | ⟨h0, -⟩ | ⟨h0, -⟩
      · exact ⟨h1, h2, h3⟩
      · cases h0
      · cases h0
      · cases h0
      · cases h0
    clear hor
    obtain ⟨k, rfl⟩ : ∃ k', k = k' + 1 := ⟨k - 1, by omega⟩
    have HW := Lib.hid hW
    have CP := Lib.hid (plain_any hW.rd hr seps2)
    obtain ⟨A0, c0, hv0⟩ := hW.form
    subst hv0
    clear hW
    cases hp : plainR [60, 38] r with
    | error e =>
      have HE : Hid (res = .error e) := hres.symm.trans (runR_no hp)
      have HP := Lib.hid hp
      clear hp hres hn ho hk
      go_wp2_with fail
      refine CP.out.mono ?_
      intro en w1 ha
      obtain ⟨h1, ⟨r', h2⟩, rfl⟩ := ha.no HP.out
      have HW1 := Lib.hid (HW.out.next h1 h2)
      clear ha h1 h2 CP
      unfold gaveUp
      go_wp2_with fail
      exact ⟨rfl, Ate.mkNo HW1.out.t HW1.out.rd HE.out⟩
    | ok x =>
      obtain ⟨t, r1⟩ := x
      have hlen : t.length + r1.length = r.length := takeR_both hp
      have HP := Lib.hid hp
      have hrr := (runR_eq (o := o) (k := k) hp).symm.trans hres
      clear hp hres
      simp only at hrr
      cases h0 : Lib.hasPrefix r1 [38] with
      | true =>
        have HA := Lib.hid h0
        rw [if_pos h0] at hrr
        have HE := Lib.hid hrr
        have htl := trim_lt h0 (by decide)
        clear hrr h0
        go_wp2_with fail
        refine CP.out.mono ?_
        intro en w1 ha
        obtain ⟨h1, h2, rfl⟩ := ha.ok HP.out
        have HW1 := Lib.hid (HW.out.next h1 h2)
        have hrow := HW1.out.row
        have hsz := HW1.out.size
        clear ha h1 h2 CP
        unfold sV
        go_wp2_with (at_builtin; refine Lib.wpList_append_own_stringF _ rfl _ _ 46 9 rfl w0.heap.size 5 i0 Tryz.underlying46 Tryz.underlying9 HI.out hz0 hz1 hz2 _ _ _ rfl hrow (mkS t) rfl ?c3 ?c4 ?c5 ?_)
        case c3 => rw [mkS_size]; unfold maxLen; omega
        case c4 => rw [mkS_size]; omega
        case c5 => exact hsz
        intro v' w2 hown' hgrow _
        have HW2 := Lib.hid (HW1.out.grown (s := t) hgrow hown')
        obtain ⟨A2, c2, hv2⟩ := HW2.out.form
        subst hv2
        clear hown' hgrow hrow
        have CA := Lib.hid (takes_any HW2.out.rd [38])
        rw [HA.out] at CA
        go_wp2_with fail
        refine CA.out.mono ?_
        rintro e w3 ⟨rfl, h1, h2⟩
        have HW3 := Lib.hid (HW2.out.next h1 h2)
        clear h1 h2 CA
        go_wp2_with fail
        go_step3
        refine ⟨_, ?_, _, _, _, k, ?_, ?_, HW3.out, ⟨_, _, _, _, _, _, _, _, _, _, _, _, _, _, _, _, _, _, _, _, _, _, _, _, _, _, _, _, _, _, _, _, _, _, _, _, _, _, _, _, _, _, _, by rw [List.length_append]⟩, .inr (.inl ⟨rfl, rfl, ?_, HE.out⟩)⟩
        · omega
        · omega
        · omega
        · simp only [List.length_append]; omega
      | false =>
        have HA := Lib.hid h0
        rw [if_neg (by rw [h0]; decide)] at hrr
        clear h0
        cases h1 : Lib.hasPrefix r1 cdataB with
        | true =>
          have HB := Lib.hid h1
          rw [if_pos h1] at hrr
          have HE := Lib.hid hrr
          have htl := trim_lt h1 (by decide)
          clear hrr h1
          go_wp2_with fail
          refine CP.out.mono ?_
          intro en w1 ha
          obtain ⟨h1, h2, rfl⟩ := ha.ok HP.out
          have HW1 := Lib.hid (HW.out.next h1 h2)
          have hrow := HW1.out.row
          have hsz := HW1.out.size
          clear ha h1 h2 CP
          unfold sV
          go_wp2_with (at_builtin; refine Lib.wpList_append_own_stringF _ rfl _ _ 46 9 rfl w0.heap.size 5 i0 Tryz.underlying46 Tryz.underlying9 HI.out hz0 hz1 hz2 _ _ _ rfl hrow (mkS t) rfl ?c3 ?c4 ?c5 ?_)
          case c3 => rw [mkS_size]; unfold maxLen; omega
          case c4 => rw [mkS_size]; omega
          case c5 => exact hsz
          intro v' w2 hown' hgrow _
          have HW2 := Lib.hid (HW1.out.grown (s := t) hgrow hown')
          obtain ⟨A2, c2, hv2⟩ := HW2.out.form
          subst hv2
          clear hown' hgrow hrow
          have CA := Lib.hid (takes_any HW2.out.rd [38])
          rw [HA.out] at CA
          go_wp2_with fail
          refine CA.out.mono ?_
          rintro e w3 ⟨rfl, h1, h2⟩
          rw [trim_no HA.out] at h2
          have HW3 := Lib.hid (HW2.out.next h1 h2)
          clear h1 h2 CA
          have CA := Lib.hid (takes_any HW3.out.rd cdataB)
          rw [HB.out] at CA
          go_wp2_with fail
          refine CA.out.mono ?_
          rintro e w4 ⟨rfl, h1, h2⟩
          have HW4 := Lib.hid (HW3.out.next h1 h2)
          clear h1 h2 CA
          go_wp2_with fail
          go_step3
          refine ⟨_, ?_, _, _, _, k, ?_, ?_, HW4.out, ⟨_, _, _, _, _, _, _, _, _, _, _, _, _, _, _, _, _, _, _, _, _, _, _, _, _, _, _, _, _, _, _, _, _, _, _, _, _, _, _, _, _, _, _, by rw [List.length_append]⟩, .inr (.inr (.inl ⟨rfl, rfl, ?_, HE.out⟩))⟩
          · omega
          · omega
          · omega
          · simp only [List.length_append]; omega
        | false =>
          have HB := Lib.hid h1
          rw [if_neg (by rw [h1]; decide)] at hrr
          clear h1
          cases h2 : Lib.hasPrefix r1 [60, 33, 45, 45] with
          | true =>
            have HC := Lib.hid h2
            rw [if_pos h2] at hrr
            have HE := Lib.hid hrr
            have htl := trim_lt h2 (by decide)
            clear hrr h2
            go_wp2_with fail
            refine CP.out.mono ?_
            intro en w1 ha
            obtain ⟨h1, h2, rfl⟩ := ha.ok HP.out
            have HW1 := Lib.hid (HW.out.next h1 h2)
            have hrow := HW1.out.row
            have hsz := HW1.out.size
            clear ha h1 h2 CP
            unfold sV
            go_wp2_with (at_builtin; refine Lib.wpList_append_own_stringF _ rfl _ _ 46 9 rfl w0.heap.size 5 i0 Tryz.underlying46 Tryz.underlying9 HI.out hz0 hz1 hz2 _ _ _ rfl hrow (mkS t) rfl ?c3 ?c4 ?c5 ?_)
            case c3 => rw [mkS_size]; unfold maxLen; omega
            case c4 => rw [mkS_size]; omega
            case c5 => exact hsz
            intro v' w2 hown' hgrow _
            have HW2 := Lib.hid (HW1.out.grown (s := t) hgrow hown')
            obtain ⟨A2, c2, hv2⟩ := HW2.out.form
            subst hv2
            clear hown' hgrow hrow
            have CA := Lib.hid (takes_any HW2.out.rd [38])
            rw [HA.out] at CA
            go_wp2_with fail
            refine CA.out.mono ?_
            rintro e w3 ⟨rfl, h1, h2⟩
            rw [trim_no HA.out] at h2
            have HW3 := Lib.hid (HW2.out.next h1 h2)
            clear h1 h2 CA
            have CA := Lib.hid (takes_any HW3.out.rd cdataB)
            rw [HB.out] at CA
            go_wp2_with fail
            refine CA.out.mono ?_
            rintro e w4 ⟨rfl, h1, h2⟩
            rw [trim_no HB.out] at h2
            have HW4 := Lib.hid (HW3.out.next h1 h2)
            clear h1 h2 CA
            have CA := Lib.hid (takes_any HW4.out.rd [60, 33, 45, 45])
            rw [HC.out] at CA
            go_wp2_with fail
            refine CA.out.mono ?_
            rintro e w5 ⟨rfl, h1, h2⟩
            have HW5 := Lib.hid (HW4.out.next h1 h2)
            clear h1 h2 CA
            go_wp2_with fail
            go_step3
            refine ⟨_, ?_, _, _, _, k, ?_, ?_, HW5.out, ⟨_, _, _, _, _, _, _, _, _, _, _, _, _, _, _, _, _, _, _, _, _, _, _, _, _, _, _, _, _, _, _, _, _, _, _, _, _, _, _, _, _, _, _, by rw [List.length_append]⟩, .inr (.inr (.inr (.inl ⟨rfl, rfl, ?_, HE.out⟩)))⟩
            · omega
            · omega
            · omega
            · simp only [List.length_append]; omega
          | false =>
            have HC := Lib.hid h2
            rw [if_neg (by rw [h2]; decide)] at hrr
            clear h2
            cases h3 : Lib.hasPrefix r1 [60, 63] with
            | true =>
              have HD := Lib.hid h3
              rw [if_pos h3] at hrr
              have HE := Lib.hid hrr
              have htl := trim_lt h3 (by decide)
              clear hrr h3
              go_wp2_with fail
              refine CP.out.mono ?_
              intro en w1 ha
              obtain ⟨h1, h2, rfl⟩ := ha.ok HP.out
              have HW1 := Lib.hid (HW.out.next h1 h2)
              have hrow := HW1.out.row
              have hsz := HW1.out.size
              clear ha h1 h2 CP
              unfold sV
              go_wp2_with (at_builtin; refine Lib.wpList_append_own_stringF _ rfl _ _ 46 9 rfl w0.heap.size 5 i0 Tryz.underlying46 Tryz.underlying9 HI.out hz0 hz1 hz2 _ _ _ rfl hrow (mkS t) rfl ?c3 ?c4 ?c5 ?_)
              case c3 => rw [mkS_size]; unfold maxLen; omega
              case c4 => rw [mkS_size]; omega
              case c5 => exact hsz
              intro v' w2 hown' hgrow _
              have HW2 := Lib.hid (HW1.out.grown (s := t) hgrow hown')
              obtain ⟨A2, c2, hv2⟩ := HW2.out.form
              subst hv2
              clear hown' hgrow hrow
              have CA := Lib.hid (takes_any HW2.out.rd [38])
              rw [HA.out] at CA
              go_wp2_with fail
              refine CA.out.mono ?_
              rintro e w3 ⟨rfl, h1, h2⟩
              rw [trim_no HA.out] at h2
              have HW3 := Lib.hid (HW2.out.next h1 h2)
              clear h1 h2 CA
              have CA := Lib.hid (takes_any HW3.out.rd cdataB)
              rw [HB.out] at CA
              go_wp2_with fail
              refine CA.out.mono ?_
              rintro e w4 ⟨rfl, h1, h2⟩
              rw [trim_no HB.out] at h2
              have HW4 := Lib.hid (HW3.out.next h1 h2)
              clear h1 h2 CA
              have CA := Lib.hid (takes_any HW4.out.rd [60, 33, 45, 45])
              rw [HC.out] at CA
              go_wp2_with fail
              refine CA.out.mono ?_
              rintro e w5 ⟨rfl, h1, h2⟩
              rw [trim_no HC.out] at h2
              have HW5 := Lib.hid (HW4.out.next h1 h2)
              clear h1 h2 CA
              have CA := Lib.hid (takes_any HW5.out.rd [60, 63])
              rw [HD.out] at CA
              go_wp2_with fail
              refine CA.out.mono ?_
              rintro e w6 ⟨rfl, h1, h2⟩
              have HW6 := Lib.hid (HW5.out.next h1 h2)
              clear h1 h2 CA
              go_wp2_with fail
              go_step3
              refine ⟨_, ?_, _, _, _, k, ?_, ?_, HW6.out, ⟨_, _, _, _, _, _, _, _, _, _, _, _, _, _, _, _, _, _, _, _, _, _, _, _, _, _, _, _, _, _, _, _, _, _, _, _, _, _, _, _, _, _, _, by rw [List.length_append]⟩, .inr (.inr (.inr (.inr ⟨rfl, rfl, ?_, HE.out⟩)))⟩
              · omega
              · omega
              · omega
              · simp only [List.length_append]; omega
            | false =>
              have HD := Lib.hid h3
              rw [if_neg (by rw [h3]; decide)] at hrr
              clear h3
              cases h4 : Lib.hasPrefix r1 [60, 33] with
              | true =>
                have HX := Lib.hid h4
                rw [if_pos h4] at hrr
                have HE := Lib.hid hrr.symm
                clear hrr h4
                go_wp2_with fail
                refine CP.out.mono ?_
                intro en w1 ha
                obtain ⟨h1, h2, rfl⟩ := ha.ok HP.out
                have HW1 := Lib.hid (HW.out.next h1 h2)
                have hrow := HW1.out.row
                have hsz := HW1.out.size
                clear ha h1 h2 CP
                unfold sV
                go_wp2_with (at_builtin; refine Lib.wpList_append_own_stringF _ rfl _ _ 46 9 rfl w0.heap.size 5 i0 Tryz.underlying46 Tryz.underlying9 HI.out hz0 hz1 hz2 _ _ _ rfl hrow (mkS t) rfl ?c3 ?c4 ?c5 ?_)
                case c3 => rw [mkS_size]; unfold maxLen; omega
                case c4 => rw [mkS_size]; omega
                case c5 => exact hsz
                intro v' w2 hown' hgrow _
                have HW2 := Lib.hid (HW1.out.grown (s := t) hgrow hown')
                obtain ⟨A2, c2, hv2⟩ := HW2.out.form
                subst hv2
                clear hown' hgrow hrow
                have CA := Lib.hid (takes_any HW2.out.rd [38])
                rw [HA.out] at CA
                go_wp2_with fail
                refine CA.out.mono ?_
                rintro e w3 ⟨rfl, h1, h2⟩
                rw [trim_no HA.out] at h2
                have HW3 := Lib.hid (HW2.out.next h1 h2)
                clear h1 h2 CA
                have CA := Lib.hid (takes_any HW3.out.rd cdataB)
                rw [HB.out] at CA
                go_wp2_with fail
                refine CA.out.mono ?_
                rintro e w4 ⟨rfl, h1, h2⟩
                rw [trim_no HB.out] at h2
                have HW4 := Lib.hid (HW3.out.next h1 h2)
                clear h1 h2 CA
                have CA := Lib.hid (takes_any HW4.out.rd [60, 33, 45, 45])
                rw [HC.out] at CA
                go_wp2_with fail
                refine CA.out.mono ?_
                rintro e w5 ⟨rfl, h1, h2⟩
                rw [trim_no HC.out] at h2
                have HW5 := Lib.hid (HW4.out.next h1 h2)
                clear h1 h2 CA
                have CA := Lib.hid (takes_any HW5.out.rd [60, 63])
                rw [HD.out] at CA
                go_wp2_with fail
                refine CA.out.mono ?_
                rintro e w6 ⟨rfl, h1, h2⟩
                rw [trim_no HD.out] at h2
                have HW6 := Lib.hid (HW5.out.next h1 h2)
                clear h1 h2 CA
                have CH := Lib.hid (fun w => Tryz.strings_HasPrefix (mkS r1) (mkS [60, 33]) w)
                rw [mkS_list, mkS_list, HX.out] at CH
                have cc := Blk.cell HW6.out.rd 0
                simp at cc
                go_wp2_with fail
                refine (CH.out _).mono ?_
                rintro e w7 ⟨rfl, rfl⟩
                go_wp2_with fail
                refine (must_no 100 _).mono ?_
                rintro e w8 ⟨rfl, rfl⟩
                unfold gaveUp
                go_wp2_with fail
                exact ⟨rfl, Ate.mkNo HW6.out.t HW6.out.rd HE.out⟩
              | false =>
                have HX := Lib.hid h4
                rw [if_neg (by rw [h4]; decide)] at hrr
                have HE := Lib.hid hrr.symm
                clear hrr h4
                go_wp2_with fail
                refine CP.out.mono ?_
                intro en w1 ha
                obtain ⟨h1, h2, rfl⟩ := ha.ok HP.out
                have HW1 := Lib.hid (HW.out.next h1 h2)
                have hrow := HW1.out.row
                have hsz := HW1.out.size
                clear ha h1 h2 CP
                unfold sV
                go_wp2_with (at_builtin; refine Lib.wpList_append_own_stringF _ rfl _ _ 46 9 rfl w0.heap.size 5 i0 Tryz.underlying46 Tryz.underlying9 HI.out hz0 hz1 hz2 _ _ _ rfl hrow (mkS t) rfl ?c3 ?c4 ?c5 ?_)
                case c3 => rw [mkS_size]; unfold maxLen; omega
                case c4 => rw [mkS_size]; omega
                case c5 => exact hsz
                intro v' w2 hown' hgrow _
                have HW2 := Lib.hid (HW1.out.grown (s := t) hgrow hown')
                obtain ⟨A2, c2, hv2⟩ := HW2.out.form
                subst hv2
                clear hown' hgrow hrow
                have CA := Lib.hid (takes_any HW2.out.rd [38])
                rw [HA.out] at CA
                go_wp2_with fail
                refine CA.out.mono ?_
                rintro e w3 ⟨rfl, h1, h2⟩
                rw [trim_no HA.out] at h2
                have HW3 := Lib.hid (HW2.out.next h1 h2)
                clear h1 h2 CA
                have CA := Lib.hid (takes_any HW3.out.rd cdataB)
                rw [HB.out] at CA
                go_wp2_with fail
                refine CA.out.mono ?_
                rintro e w4 ⟨rfl, h1, h2⟩
                rw [trim_no HB.out] at h2
                have HW4 := Lib.hid (HW3.out.next h1 h2)
                clear h1 h2 CA
                have CA := Lib.hid (takes_any HW4.out.rd [60, 33, 45, 45])
                rw [HC.out] at CA
                go_wp2_with fail
                refine CA.out.mono ?_
                rintro e w5 ⟨rfl, h1, h2⟩
                rw [trim_no HC.out] at h2
                have HW5 := Lib.hid (HW4.out.next h1 h2)
                clear h1 h2 CA
                have CA := Lib.hid (takes_any HW5.out.rd [60, 63])
                rw [HD.out] at CA
                go_wp2_with fail
                refine CA.out.mono ?_
                rintro e w6 ⟨rfl, h1, h2⟩
                rw [trim_no HD.out] at h2
                have HW6 := Lib.hid (HW5.out.next h1 h2)
                clear h1 h2 CA
                have CH := Lib.hid (fun w => Tryz.strings_HasPrefix (mkS r1) (mkS [60, 33]) w)
                rw [mkS_list, mkS_list, HX.out] at CH
                have cc := Blk.cell HW6.out.rd 0
                simp at cc
                go_wp2_with fail
                refine (CH.out _).mono ?_
                rintro e w7 ⟨rfl, rfl⟩
                go_wp2_with fail
                refine (must_yes 100 _).mono ?_
                rintro e w8 ⟨rfl, rfl⟩
                have hcv := ownF_conv HW6.out.row
                simp only [List.length_append] at hcv
                go_wp2_with fail
                try simp only [jumpM]
                go_ret
                exact Ate.mkOk HW6.out.t HW6.out.rd HE.out
  case p1 =>
    rintro n a w ⟨r, v, o, k, hk, hr, hW, ⟨u1, u2, u4, u5, u6, u7, u8, u9, u10, u11, u12, u13, u14, u15, u16, u17, u18, u19, u20, u21, u22, u23, u24, u25, u26, u27, u28, u29, u30, u31, u32, u33, u34, u35, u36, u37, u38, u39, u40, u41, u42, u43, u44, rfl⟩, hor⟩
    obtain ⟨hn, ho, hres⟩ : n = 2 * r.length + 2 ∧ o.length + 4 * r.length + 4 ≤ 200000 ∧ ((entityR r).bind fun y => runR k (o ++ Lib.encodeRune (y.1 : Int)) y.2) = res := by
      rcases hor with ⟨h0, -⟩ | ⟨-, h1, h2, h3⟩ | ⟨h0, -⟩ | ⟨h0, -⟩ | ⟨h0, -⟩
      · cases h0
      · exact ⟨h1, h2, h3⟩
      · cases h0
      · cases h0
      · cases h0
    clear hor
    have HW := Lib.hid hW
    have CE := Lib.hid (entity_any hW.rd (HEN.out w hW.t) hr)
    obtain ⟨A0, c0, hv0⟩ := hW.form
    subst hv0
    clear hW
    cases he : entityR r with
    | error e =>
      have HE : Hid (res = .error e) := by show res = _; rw [← hres, he]; rfl
      have HP := Lib.hid he
      clear he hres hn ho hk
      go_wp2_with fail
      refine CE.out.mono ?_
      intro en w1 ha
      obtain ⟨h1, ⟨r', h2⟩, rfl⟩ := ha.no HP.out
      have HW1 := Lib.hid (HW.out.next h1 h2)
      clear ha h1 h2 CE
      unfold gaveUp
      go_wp2_with fail
      exact ⟨rfl, Ate.mkNo HW1.out.t HW1.out.rd HE.out⟩
    | ok x =>
      obtain ⟨ch, r1⟩ := x
      have HE : Hid (runR k (o ++ Lib.encodeRune (ch : Int)) r1 = res) := by show _ = res; rw [← hres, he]; rfl
      have hlen := entityR_len he
      have hch : (ch : Int) ≤ 2147483647 := by
        have := entityR_small he
        omega
      have HP := Lib.hid he
      clear he hres
      have CR := Lib.hid (fun w v n xs h1 h2 h3 => Tryz.utf8_AppendRune_row w0.heap.size v n xs (ch : Int) (by omega) hch w h1 h2 h3)
      go_wp2_with fail
      refine CE.out.mono ?_
      intro en w1 ha
      obtain ⟨h1, h2, rfl⟩ := ha.ok HP.out
      have HW1 := Lib.hid (HW.out.next h1 h2)
      have CR1 := Lib.hid (CR.out w1 _ _ _ HW1.out.row (by omega) HW1.out.size)
      clear ha h1 h2 CE CR
      unfold rV
      go_wp2_with fail
      refine CR1.out.mono ?_
      rintro e w2 ⟨v', rfl, hown', ob, hgrow⟩
      have hl4 : (Lib.encodeRune (ch : Int)).length ≤ 4 := by have := (Lib.runeCells_le (ch : Int)).2; rw [Lib.runeCells_length] at this; exact this
      have HW2 : Hid (RunW w0 g v1 v2 v3 v4 r1 v' (o ++ Lib.encodeRune (ch : Int)) w2) := by
        refine RunW.grown (w := w1.alloc ob) ⟨Blk.alloc HW1.out.rd _, ownF_turned HW1.out.row ((Turned.refl [] w1).alloc ob) (fun k hk hm => by cases hm), HW1.out.t.alloc ob⟩ hgrow ?_
        rw [← Lib.runeCells_length]
        have : u8L (Lib.encodeRune (ch : Int)) = Lib.runeCells (ch : Int) := Lib.byteCells_encodeRune _
        rw [this]
        exact hown'
      clear hown' hgrow CR1
      go_wp2_with fail
      go_step3
      refine ⟨_, ?_, _, _, _, k, ?_, ?_, HW2.out, ⟨_, _, _, _, _, _, _, _, _, _, _, _, _, _, _, _, _, _, _, _, _, _, _, _, _, _, _, _, _, _, _, _, _, _, _, _, _, _, _, _, _, _, _, rfl⟩, .inl ⟨rfl, rfl, ?_, HE.out⟩⟩
      · omega
      · omega
      · omega
      · simp only [List.length_append]; omega
  case p2 =>
    rintro n a w ⟨r, v, o, k, hk, hr, hW, ⟨u1, u2, u4, u5, u6, u7, u8, u9, u10, u11, u12, u13, u14, u15, u16, u17, u18, u19, u20, u21, u22, u23, u24, u25, u26, u27, u28, u29, u30, u31, u32, u33, u34, u35, u36, u37, u38, u39, u40, u41, u42, u43, u44, rfl⟩, hor⟩
    obtain ⟨hn, ho, hres⟩ : n = 2 * r.length + 2 ∧ o.length + 4 * r.length ≤ 200000 ∧ ((upToR [93, 93, 62] r).bind fun y => runR k (o ++ y.1) y.2) = res := by
      rcases hor with ⟨h0, -⟩ | ⟨h0, -⟩ | ⟨-, h1, h2, h3⟩ | ⟨h0, -⟩ | ⟨h0, -⟩
      · cases h0
      · cases h0
      · exact ⟨h1, h2, h3⟩
      · cases h0
      · cases h0
    clear hor
    have HW := Lib.hid hW
    have CP := Lib.hid (upTo_any hW.rd (HEN.out w hW.t) hr [93, 93, 62])
    obtain ⟨A0, c0, hv0⟩ := hW.form
    subst hv0
    clear hW
    cases he : upToR [93, 93, 62] r with
    | error e =>
      have HE : Hid (res = .error e) := by show res = _; rw [← hres, he]; rfl
      have HP := Lib.hid he
      clear he hres hn ho hk
      go_wp2_with fail
      refine CP.out.mono ?_
      intro en w1 ha
      obtain ⟨h1, ⟨r', h2⟩, rfl⟩ := ha.no HP.out
      have HW1 := Lib.hid (HW.out.next h1 h2)
      clear ha h1 h2 CP
      unfold gaveUp
      go_wp2_with fail
      exact ⟨rfl, Ate.mkNo HW1.out.t HW1.out.rd HE.out⟩
    | ok x =>
      obtain ⟨t, r1⟩ := x
      have hlen : t.length + r1.length ≤ r.length := upToR_both he
      have HE : Hid (runR k (o ++ t) r1 = res) := by show _ = res; rw [← hres, he]; rfl
      have HP := Lib.hid he
      clear he hres
      go_wp2_with fail
      refine CP.out.mono ?_
      intro en w1 ha
      obtain ⟨h1, h2, rfl⟩ := ha.ok HP.out
      have HW1 := Lib.hid (HW.out.next h1 h2)
      have hrow := HW1.out.row
      have hsz := HW1.out.size
      clear ha h1 h2 CP
      unfold sV
      go_wp2_with (at_builtin; refine Lib.wpList_append_own_stringF _ rfl _ _ 46 9 rfl w0.heap.size 5 i0 Tryz.underlying46 Tryz.underlying9 HI.out hz0 hz1 hz2 _ _ _ rfl hrow (mkS t) rfl ?c3 ?c4 ?c5 ?_)
      case c3 => rw [mkS_size]; unfold maxLen; omega
      case c4 => rw [mkS_size]; omega
      case c5 => exact hsz
      intro v' w2 hown' hgrow _
      have HW2 := Lib.hid (HW1.out.grown (s := t) hgrow hown')
      obtain ⟨A2, c2, hv2⟩ := HW2.out.form
      subst hv2
      clear hown' hgrow hrow
      go_wp2_with fail
      go_step3
      refine ⟨_, ?_, _, _, _, k, ?_, ?_, HW2.out, ⟨_, _, _, _, _, _, _, _, _, _, _, _, _, _, _, _, _, _, _, _, _, _, _, _, _, _, _, _, _, _, _, _, _, _, _, _, _, _, _, _, _, _, _, by rw [List.length_append]⟩, .inl ⟨rfl, rfl, ?_, HE.out⟩⟩
      · omega
      · omega
      · omega
      · simp only [List.length_append]; omega
  case p3 =>
    rintro n a w ⟨r, v, o, k, hk, hr, hW, ⟨u1, u2, u4, u5, u6, u7, u8, u9, u10, u11, u12, u13, u14, u15, u16, u17, u18, u19, u20, u21, u22, u23, u24, u25, u26, u27, u28, u29, u30, u31, u32, u33, u34, u35, u36, u37, u38, u39, u40, u41, u42, u43, u44, rfl⟩, hor⟩
    obtain ⟨hn, ho, hres⟩ : n = 2 * r.length + 2 ∧ o.length + 4 * r.length ≤ 200000 ∧ ((upToR [45, 45] r).bind fun y => (wantR [62] y.2).bind fun z => runR k o z.2) = res := by
      rcases hor with ⟨h0, -⟩ | ⟨h0, -⟩ | ⟨h0, -⟩ | ⟨-, h1, h2, h3⟩ | ⟨h0, -⟩
      · cases h0
      · cases h0
      · cases h0
      · exact ⟨h1, h2, h3⟩
      · cases h0
    clear hor
    have HW := Lib.hid hW
    have CP := Lib.hid (upTo_any hW.rd (HEN.out w hW.t) hr [45, 45])
    obtain ⟨A0, c0, hv0⟩ := hW.form
    subst hv0
    clear hW
    cases he : upToR [45, 45] r with
    | error e =>
      have HE : Hid (res = .error e) := by show res = _; rw [← hres, he]; rfl
      have HP := Lib.hid he
      clear he hres hn ho hk
      go_wp2_with fail
      refine CP.out.mono ?_
      intro en w1 ha
      obtain ⟨h1, ⟨r', h2⟩, rfl⟩ := ha.no HP.out
      have HW1 := Lib.hid (HW.out.next h1 h2)
      clear ha h1 h2 CP
      unfold gaveUp
      go_wp2_with fail
      exact ⟨rfl, Ate.mkNo HW1.out.t HW1.out.rd HE.out⟩
    | ok x =>
      obtain ⟨t, r1⟩ := x
      have hlen : r1.length ≤ r.length := upToR_len he
      have HP := Lib.hid he
      cases hw : wantR [62] r1 with
      | error e =>
        have HE : Hid (res = .error e) := by show res = _; rw [← hres, he]; show ((wantR [62] r1).bind _ : RR Bs) = _; rw [hw]; rfl
        have HQ := Lib.hid hw
        clear he hw hres hn ho hk
        go_wp2_with fail
        refine CP.out.mono ?_
        intro en w1 ha
        obtain ⟨h1, h2, rfl⟩ := ha.ok HP.out
        have HW1 := Lib.hid (HW.out.next h1 h2)
        have CW := Lib.hid (want_any h2 [62])
        clear ha h1 h2 CP
        unfold sV
        go_wp2_with fail
        refine CW.out.mono ?_
        intro en w2 ha
        obtain ⟨h1, ⟨r', h2⟩, rfl⟩ := ha.no HQ.out
        have HW2 := Lib.hid (HW1.out.next h1 h2)
        clear ha h1 h2 CW
        unfold gaveUp
        go_wp2_with fail
        exact ⟨rfl, Ate.mkNo HW2.out.t HW2.out.rd HE.out⟩
      | ok y =>
        obtain ⟨u, r2⟩ := y
        have hlen2 : r2.length ≤ r1.length := (wantR_len hw).1
        have HE : Hid (runR k o r2 = res) := by show _ = res; rw [← hres, he]; show _ = ((wantR [62] r1).bind _ : RR Bs); rw [hw]; rfl
        have HQ := Lib.hid hw
        clear he hw hres
        go_wp2_with fail
        refine CP.out.mono ?_
        intro en w1 ha
        obtain ⟨h1, h2, rfl⟩ := ha.ok HP.out
        have HW1 := Lib.hid (HW.out.next h1 h2)
        have CW := Lib.hid (want_any h2 [62])
        clear ha h1 h2 CP
        unfold sV
        go_wp2_with fail
        refine CW.out.mono ?_
        intro en w2 ha
        obtain ⟨h1, h2, rfl⟩ := ha.ok HQ.out
        have HW2 := Lib.hid (HW1.out.next h1 h2)
        clear ha h1 h2 CW
        unfold uV
        go_wp2_with fail
        go_step3
        refine ⟨_, ?_, _, _, _, k, ?_, ?_, HW2.out, ⟨_, _, _, _, _, _, _, _, _, _, _, _, _, _, _, _, _, _, _, _, _, _, _, _, _, _, _, _, _, _, _, _, _, _, _, _, _, _, _, _, _, _, _, rfl⟩, .inl ⟨rfl, rfl, ?_, HE.out⟩⟩
        · omega
        · omega
        · omega
        · omega
  case p4 =>
    rintro n a w ⟨r, v, o, k, hk, hr, hW, ⟨u1, u2, u4, u5, u6, u7, u8, u9, u10, u11, u12, u13, u14, u15, u16, u17, u18, u19, u20, u21, u22, u23, u24, u25, u26, u27, u28, u29, u30, u31, u32, u33, u34, u35, u36, u37, u38, u39, u40, u41, u42, u43, u44, rfl⟩, hor⟩
    obtain ⟨hn, ho, hres⟩ : n = 2 * r.length + 2 ∧ o.length + 4 * r.length ≤ 200000 ∧ ((nameR r).bind fun y => (upToR [63, 62] y.2).bind fun z => runR k o z.2) = res := by
      rcases hor with ⟨h0, -⟩ | ⟨h0, -⟩ | ⟨h0, -⟩ | ⟨h0, -⟩ | ⟨-, h1, h2, h3⟩
      · cases h0
      · cases h0
      · cases h0
      · cases h0
      · exact ⟨h1, h2, h3⟩
    clear hor
    have HW := Lib.hid hW
    have CP := Lib.hid (name_any hW.rd hr)
    obtain ⟨A0, c0, hv0⟩ := hW.form
    subst hv0
    clear hW
    cases he : nameR r with
    | error e =>
      have HE : Hid (res = .error e) := by show res = _; rw [← hres, he]; rfl
      have HP := Lib.hid he
      clear he hres hn ho hk
      go_wp2_with fail
      refine CP.out.mono ?_
      intro en w1 ha
      obtain ⟨h1, ⟨r', h2⟩, rfl⟩ := ha.no HP.out
      have HW1 := Lib.hid (HW.out.next h1 h2)
      clear ha h1 h2 CP
      unfold gaveUp
      go_wp2_with fail
      exact ⟨rfl, Ate.mkNo HW1.out.t HW1.out.rd HE.out⟩
    | ok x =>
      obtain ⟨t, r1⟩ := x
      have hlen : r1.length ≤ r.length := Nat.le_of_lt (nameR_len he)
      have HP := Lib.hid he
      cases hw : upToR [63, 62] r1 with
      | error e =>
        have HE : Hid (res = .error e) := by show res = _; rw [← hres, he]; show ((upToR [63, 62] r1).bind _ : RR Bs) = _; rw [hw]; rfl
        have HQ := Lib.hid hw
        clear he hw hres hn ho hk
        go_wp2_with fail
        refine CP.out.mono ?_
        intro en w1 ha
        obtain ⟨h1, h2, rfl⟩ := ha.ok HP.out
        have HW1 := Lib.hid (HW.out.next h1 h2)
        have CW := Lib.hid (upTo_any h2 (HEN.out w1 HW1.out.t) (show r1.length ≤ 40000 by omega) [63, 62])
        clear ha h1 h2 CP
        unfold sV
        go_wp2_with fail
        refine CW.out.mono ?_
        intro en w2 ha
        obtain ⟨h1, ⟨r', h2⟩, rfl⟩ := ha.no HQ.out
        have HW2 := Lib.hid (HW1.out.next h1 h2)
        clear ha h1 h2 CW
        unfold gaveUp
        go_wp2_with fail
        exact ⟨rfl, Ate.mkNo HW2.out.t HW2.out.rd HE.out⟩
      | ok y =>
        obtain ⟨u, r2⟩ := y
        have hlen2 : r2.length ≤ r1.length := upToR_len hw
        have HE : Hid (runR k o r2 = res) := by show _ = res; rw [← hres, he]; show _ = ((upToR [63, 62] r1).bind _ : RR Bs); rw [hw]; rfl
        have HQ := Lib.hid hw
        clear he hw hres
        go_wp2_with fail
        refine CP.out.mono ?_
        intro en w1 ha
        obtain ⟨h1, h2, rfl⟩ := ha.ok HP.out
        have HW1 := Lib.hid (HW.out.next h1 h2)
        have CW := Lib.hid (upTo_any h2 (HEN.out w1 HW1.out.t) (show r1.length ≤ 40000 by omega) [63, 62])
        clear ha h1 h2 CP
        unfold sV
        go_wp2_with fail
        refine CW.out.mono ?_
        intro en w2 ha
        obtain ⟨h1, h2, rfl⟩ := ha.ok HQ.out
        have HW2 := Lib.hid (HW1.out.next h1 h2)
        clear ha h1 h2 CW
        unfold sV
        go_wp2_with fail
        go_step3
        refine ⟨_, ?_, _, _, _, k, ?_, ?_, HW2.out, ⟨_, _, _, _, _, _, _, _, _, _, _, _, _, _, _, _, _, _, _, _, _, _, _, _, _, _, _, _, _, _, _, _, _, _, _, _, _, _, _, _, _, _, _, rfl⟩, .inl ⟨rfl, rfl, ?_, HE.out⟩⟩
        · omega
        · omega
        · omega
        · omega
end
end Go.Proofs.YtljldbdjkjllhaaGreatDoor

/- A list of attributes in memory; whether one of them has a name. -/
namespace Go.Proofs.YtljldbdjkjllhaaGreatDoor
set_option linter.unusedSimpArgs false
set_option linter.unusedVariables false
open Go.RowKit

abbrev Al := List (Bs × Bs)
/-- The cells of attributes; where they lie. -/
def alL (l : Al) : List Value := l.flatMap fun a => [.string (mkS a.1), .string (mkS a.2)]
theorem alL_app (a b : Al) : alL (a ++ b) = alL a ++ alL b := List.flatMap_append ..
theorem alL_at {l : Al} {k : Nat} {a : Bs × Bs} (h : l[k]? = some a) : (alL l)[k * 2]? = some (.string (mkS a.1)) ∧ (alL l)[k * 2 + 1]? = some (.string (mkS a.2)) := by
  induction l generalizing k with
  | nil => cases h
  | cons b r ih =>
    have hc : alL (b :: r) = .string (mkS b.1) :: .string (mkS b.2) :: alL r := rfl
    cases k with
    | zero => injection h with h; subst h; exact ⟨rfl, rfl⟩
    | succ k =>
      have := ih (k := k) (by simpa using h)
      rw [hc, show (k + 1) * 2 = k * 2 + 1 + 1 by omega, show k * 2 + 1 + 1 + 1 = (k * 2 + 1) + 1 + 1 by omega]
      simpa using this
def PairsAt (w : World) (b o : Nat) (l : Al) : Prop := ∀ k a, l[k]? = some a → w.cell? ⟨b, o + k * 2, none⟩ = some (.string (mkS a.1)) ∧ w.cell? ⟨b, o + k * 2 + 1, none⟩ = some (.string (mkS a.2))
/-- A slice of attributes: where there are any, they lie somewhere. -/
def AlAt (w : World) (B : Nat) (A : Option Addr) (l : Al) : Prop := 0 < l.length → ∃ b o, A = some ⟨b, o, none⟩ ∧ b < B ∧ PairsAt w b o l
theorem AlAt.below {w w' : World} {B B' : Nat} {A : Option Addr} {l : Al} (h : AlAt w B A l) (hb : Below B' w w') (hB : B ≤ B') : AlAt w' B A l := fun hl => by
  obtain ⟨b, o, rfl, hlt, hp⟩ := h hl
  refine ⟨b, o, rfl, hlt, fun k a hk => ?_⟩
  have e := hb.block b (Nat.lt_of_lt_of_le hlt hB)
  exact ⟨(World.cell?_of_block (a := ⟨b, o + k * 2, none⟩) e).trans (hp k a hk).1, (World.cell?_of_block (a := ⟨b, o + k * 2 + 1, none⟩) e).trans (hp k a hk).2⟩
theorem own_al {w : World} {base : Nat} {A : Option Addr} {m c : Nat} {l : Al} (h : w.ownsRow base 172 2 (.slice A m c) l.length (alL l)) : AlAt w w.heap.size A l := fun hl => by
  obtain ⟨b, rfl, hc⟩ := own_ats h (k := 0) (u := .string (mkS (l[0]'hl).1)) (alL_at (k := 0) (List.getElem?_eq_getElem hl)).1
  refine ⟨b, 0, rfl, cell_lt hc, fun k a hk => ?_⟩
  obtain ⟨b', e, h1⟩ := own_ats h (alL_at hk).1
  obtain ⟨b'', e', h2⟩ := own_ats h (alL_at hk).2
  injection e with e; injection e with e; subst e
  injection e' with e'; injection e' with e'; subst e'
  rw [Nat.zero_add]
  exact ⟨h1, h2⟩
theorem all_take {α : Type} {l : List α} {k : Nat} {a : α} {P : α → Prop} (h : ∀ x ∈ l.take k, P x) (hk : l[k]? = some a) (ha : P a) : ∀ x ∈ l.take (k + 1), P x := by
  rw [List.take_add_one, hk]
  intro x hx
  rcases List.mem_append.1 hx with hx | hx
  · exact h x hx
  · simp at hx; subst hx; exact ha
def hasNm (nm : Bs) (a : Bs × Bs) : Bool := decide (a.1 = nm)
set_option maxHeartbeats 1000000 in
set_option maxRecDepth 100000 in
theorem same_any (nm : Bs) (a : Bs × Bs) (p : Nat) (w : World) (hc : w.cell? ⟨p, 0, none⟩ = some (.string (mkS nm))) :
    Calls Tryz.prog 214 #[.agg #[.string (mkS a.1), .string (mkS a.2)], .pointer (some ⟨p, 0, none⟩)] w fun e w' => e = .returned (.bool (hasNm nm a)) ∧ Below w.heap.size w w' := by
  have hlt := cell_lt hc
  have hb : Below w.heap.size w (w.alloc (.cells #[.string (mkS a.1), .string (mkS a.2)] 172)) := (Below.refl _ _).alloc (Nat.le_refl _) _
  have hc2 := (World.cell?_of_block (a := ⟨p, 0, none⟩) (hb.block p hlt)).trans hc
  have HB := Lib.hid hb
  have hp : ¬ p = w.heap.size := by have h : p < w.heap.size := hlt; omega
  have K := (Blk.new w 172 #[.string (mkS a.1), .string (mkS a.2)])
  have k0 := K.cell 0
  simp at k0
  clear hb K hlt
  by_cases h : a.1 = nm
  · have t1 : ((mkS a.1).toList == (mkS nm).toList) = true := by rw [h]; simp
    have HV : Hid (hasNm nm a = true) := decide_eq_true h
    clear h
    generalize mkS a.1 = s1 at *
    generalize mkS nm = s2 at *
    go_enter Tryz.func214, Tryz.ntmps214
    go_wp2_with fail
    go_ret
    exact ⟨by rw [HV.out]; rfl, HB.out⟩
  · have t1 : ((mkS a.1).toList == (mkS nm).toList) = false := str_ne (fun e => h (mkS_inj e))
    have HV : Hid (hasNm nm a = false) := decide_eq_false h
    clear h
    generalize mkS a.1 = s1 at *
    generalize mkS nm = s2 at *
    go_enter Tryz.func214, Tryz.ntmps214
    go_wp2_with fail
    go_ret
    exact ⟨by rw [HV.out]; rfl, HB.out⟩
theorem enter_same : ∀ args w, (callFunc 214 args).run Tryz.prog w = .ok (.enter 214 args) w := enters_of Tryz.func214 (by kernel_rfl) rfl
set_option maxHeartbeats 2000000 in
set_option maxRecDepth 100000 in
theorem idxA_any (nm : Bs) (p : Nat) (l : Al) (A : Option Addr) (c : Nat) (w0 : World) (hA : AlAt w0 w0.heap.size A l) (hl : l.length ≤ c) (hcm : c ≤ maxLen) (hc : w0.cell? ⟨p, 0, none⟩ = some (.string (mkS nm))) :
    Calls Tryz.prog 245 #[.slice A l.length c, .func (.func 214) #[] #[.pointer (some ⟨p, 0, none⟩)]] w0 fun e w' => (∃ n : Int, decide (0 ≤ n) = l.any (hasNm nm) ∧ e = .returned (.int .i64 n)) ∧ Below w0.heap.size w0 w' := by
  unfold maxLen at hcm
  have ef := enter_same
  rcases Nat.eq_zero_or_pos l.length with h0 | h0
  · obtain rfl := List.eq_nil_of_length_eq_zero h0
    clear hA h0
    go_enter Tryz.func245, Tryz.ntmps245
    go_wp2_with fail
    go_loop [8] (fun i => i = .int .i64 0) (fun i => 0)
    case atStart => rfl
    case round =>
      subst hrel
      go_wp2_with fail
      go_ret
      exact ⟨⟨-1, by decide, rfl⟩, Below.refl _ _⟩
  obtain ⟨b, o, rfl, hblt, hP⟩ := hA h0
  have HA : Hid (∀ (k : Nat) (hk : k < l.length), w0.cell? ⟨b, o + k * 2, none⟩ = some (.string (mkS (l[k]'hk).1)) ∧ w0.cell? ⟨b, o + k * 2 + 1, none⟩ = some (.string (mkS (l[k]'hk).2))) := fun k hk => hP k _ (List.getElem?_eq_getElem hk)
  have HC := Lib.hid hc
  have hplt := cell_lt hc
  clear hA hP hc
  go_enter Tryz.func245, Tryz.ntmps245
  go_wp2_with fail
  go_loopw [8] (fun i wx => ∃ k : Nat, k ≤ l.length ∧ i = .int .i64 (k : Int) ∧ Hid (∀ a ∈ l.take k, hasNm nm a = false) ∧ Hid (Below w0.heap.size w0 wx)) (fun i _ => l.length - (intOf i).toNat)
  case atStart => exact ⟨0, Nat.zero_le _, rfl, show ∀ a ∈ l.take 0, hasNm nm a = false from by simp, Below.refl _ _⟩
  case round =>
    obtain ⟨k, hk, rfl, hall, hb⟩ := hrel
    by_cases hlt : k < l.length
    · have hCk := HA.out k hlt
      have c0 := (World.cell?_of_block (hb.out.block b hblt)).trans hCk.1
      have c1 := (World.cell?_of_block (hb.out.block b hblt)).trans hCk.2
      have C := Lib.hid (same_any nm l[k] p wr ((World.cell?_of_block (hb.out.block p hplt)).trans HC.out))
      have hz := hb.out.size
      have HT : Hid (hasNm nm l[k] = true → l.any (hasNm nm) = true) := fun h => List.any_eq_true.2 ⟨_, List.getElem_mem hlt, h⟩
      have HF : Hid (hasNm nm l[k] = false → ∀ a ∈ l.take (k + 1), hasNm nm a = false) := fun h => all_take hall.out (List.getElem?_eq_getElem hlt) h
      clear hCk hall
      generalize hasNm nm l[k] = bb at *
      generalize mkS (l[k]'hlt).1 = s1 at *
      generalize mkS (l[k]'hlt).2 = s2 at *
      go_wp2_with fail
      refine C.out.mono ?_
      rintro e w1 ⟨rfl, hb1⟩
      have HB : Hid (Below w0.heap.size w0 w1) := hb.out.trans (hb1.mono hz)
      clear hb1 hb C c0 c1
      cases bb with
      | false =>
        have HN := Lib.hid (HF.out rfl)
        clear HF HT
        go_wp2_with fail
        go_roundw
        case rel => exact ⟨k + 1, by omega, by go_num, HN, HB⟩
        case measure => simp [intOf]; omega
      | true =>
        have HN := Lib.hid (HT.out rfl)
        clear HF HT
        go_wp2_with fail
        go_ret
        exact ⟨⟨k, by rw [HN.out]; simp, rfl⟩, HB.out⟩
    · have HN : Hid (l.any (hasNm nm) = false) := by
        have := hall.out
        rw [List.take_of_length_le (by omega)] at this
        show l.any _ = false
        rw [List.any_eq_false]
        intro a ha
        rw [this a ha]; decide
      clear hall
      go_wp2_with fail
      go_ret
      exact ⟨⟨-1, by rw [HN.out]; decide, rfl⟩, hb.out⟩
set_option maxHeartbeats 1000000 in
set_option maxRecDepth 100000 in
theorem hasA_any (nm : Bs) (p : Nat) (l : Al) (A : Option Addr) (c : Nat) (w0 : World) (hA : AlAt w0 w0.heap.size A l) (hl : l.length ≤ c) (hcm : c ≤ maxLen) (hc : w0.cell? ⟨p, 0, none⟩ = some (.string (mkS nm))) :
    Calls Tryz.prog 213 #[.slice A l.length c, .func (.func 214) #[] #[.pointer (some ⟨p, 0, none⟩)]] w0 fun e w' => e = .returned (.bool (l.any (hasNm nm))) ∧ Below w0.heap.size w0 w' := by
  have C := Lib.hid (idxA_any nm p l A c w0 hA hl hcm hc)
  clear hA hc
  generalize l.any (hasNm nm) = ans at *
  go_enter Tryz.func213, Tryz.ntmps213
  go_wp2_with fail
  refine C.out.mono ?_
  rintro e w1 ⟨⟨n, hn, rfl⟩, hb1⟩
  have HB := Lib.hid hb1
  have HN := Lib.hid hn
  clear hb1 hn C
  go_wp2_with fail
  go_ret
  exact ⟨ret_bool HN.out, HB.out⟩
end Go.Proofs.YtljldbdjkjllhaaGreatDoor
