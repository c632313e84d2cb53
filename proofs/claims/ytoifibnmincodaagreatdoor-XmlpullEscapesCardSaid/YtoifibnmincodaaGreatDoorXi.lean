/- What a run stands for. -/
import Derived.Test.YtoifibnmincodaaGreatDoorXh
namespace Go.Proofs.YtoifibnmincodaaGreatDoor
set_option linter.unusedSimpArgs false
set_option linter.unusedVariables false
open Go.RowKit

def ActR (g : Nat) (v : Value) (act : Act) : Prop := ∃ u1 u2 u4 u5 u6 u7 u8 u9 u10 u11 u12 u13 u14 u15 u16 u17 u18 u19 u20 u21 u22 u23 u24 u25 u26 u27 u28 u29 u30 u31 u32 u33 u34 u35 u36 u37 u38 u39 u40 u41 u42 u43 u44 : Value, act = { tmps := #[.pointer (some ⟨g, 0, none⟩), u1, u2, v, u4, u5, u6, u7, u8, u9, u10, u11, u12, u13, u14, u15, u16, u17, u18, u19, u20, u21, u22, u23, u24, u25, u26, u27, u28, u29, u30, u31, u32, u33, u34, u35, u36, u37, u38, u39, u40, u41, u42, u43, u44], defers := [] }
def JR (w0 : World) (g : Nat) (v1 v2 v3 v4 : Value) (res : RR Bs) (l n : Nat) (act : Act) (w : World) : Prop :=
  ∃ r v o k, r.length < k ∧ r.length ≤ 40000 ∧ RunW w0 g v1 v2 v3 v4 r v o w ∧ ActR g v act ∧
    ((l = 0 ∧ n = 2 * r.length + 1 ∧ o.length + 4 * r.length ≤ 200000 ∧ runR k o r = res) ∨
     (l = 1 ∧ n = 2 * r.length + 2 ∧ o.length + 4 * r.length + 4 ≤ 200000 ∧ ((entityR r).bind fun y => runR k (o ++ Lib.encodeRune (y.1 : Int)) y.2) = res) ∨
     (l = 2 ∧ n = 2 * r.length + 2 ∧ o.length + 4 * r.length ≤ 200000 ∧ ((upToR [93, 93, 62] r).bind fun y => runR k (o ++ y.1) y.2) = res) ∨
     (l = 3 ∧ n = 2 * r.length + 2 ∧ o.length + 4 * r.length ≤ 200000 ∧ ((upToR [45, 45] r).bind fun y => (wantR [62] y.2).bind fun z => runR k o z.2) = res) ∨
     (l = 4 ∧ n = 2 * r.length + 2 ∧ o.length + 4 * r.length ≤ 200000 ∧ ((nameR r).bind fun y => (upToR [63, 62] y.2).bind fun z => runR k o z.2) = res))
theorem runR_eq {o r : Bs} {k : Nat} {x : Bs × Bs} (h : plainR [60, 38] r = .ok x) : runR (k + 1) o r =
    if Lib.hasPrefix x.2 [38] = true then (entityR (Lib.trimPrefix x.2 [38])).bind fun y => runR k (o ++ x.1 ++ Lib.encodeRune (y.1 : Int)) y.2
    else if Lib.hasPrefix x.2 cdataB = true then (upToR [93, 93, 62] (Lib.trimPrefix x.2 cdataB)).bind fun y => runR k (o ++ x.1 ++ y.1) y.2
    else if Lib.hasPrefix x.2 [60, 33, 45, 45] = true then (upToR [45, 45] (Lib.trimPrefix x.2 [60, 33, 45, 45])).bind fun y => (wantR [62] y.2).bind fun z => runR k (o ++ x.1) z.2
    else if Lib.hasPrefix x.2 [60, 63] = true then (nameR (Lib.trimPrefix x.2 [60, 63])).bind fun y => (upToR [63, 62] y.2).bind fun z => runR k (o ++ x.1) z.2
    else if Lib.hasPrefix x.2 [60, 33] = true then .error 100 else .ok (o ++ x.1, x.2) := by rw [runR, h]; rfl
theorem runR_no {o r : Bs} {k : Nat} {e : Int} (h : plainR [60, 38] r = .error e) : runR (k + 1) o r = .error e := by rw [runR, h]; rfl
theorem upToR_both {p l : Bs} {x : Bs × Bs} (h : upToR p l = .ok x) : x.1.length + x.2.length ≤ l.length := by
  unfold upToR at h
  split at h
  · obtain ⟨y, hy, h⟩ := bind_ok h
    obtain ⟨z, hz, h⟩ := map_ok h
    subst h
    have := takeR_both hy
    have := (wantR_len hz).1
    show y.1.length + z.2.length ≤ _; omega
  · cases h
theorem seps2 : Seps [60, 38] := ⟨by decide, by decide, by decide⟩
section
variable {w0 : World} {B g : Nat} {r0 : Bs} {v1 v2 v3 v4 : Value}
set_option maxHeartbeats 16000000 in
set_option maxRecDepth 1000000 in
theorem run_any (h : RdB w0 g r0 v1 v2 v3 v4) (hE : XEnv B w0) (hg : B ≤ g) (hr : r0.length ≤ 40000) :
    Calls Tryz.prog 39 #[.pointer (some ⟨g, 0, none⟩)] w0 (Ate w0 g v1 v2 v3 v4 (runR (r0.length + 1) [] r0) sV) := by
  obtain ⟨i0, hi, hz0, hz1, hz2⟩ := info_u8
  have HI := Lib.hid hi
  have HEN : Hid (∀ w, Turned [g] w0 w → XEnv B w) := fun w ht => hE.one ht hg
  have HW0 : Hid (RunW w0 g v1 v2 v3 v4 r0 (.slice none 0 0) [] w0) := ⟨h, World.ownsRowF_nil _ _ _ _, Turned.refl _ _⟩
  have HR0 := Lib.hid hr
  obtain ⟨res, hres⟩ : ∃ res, res = runR (r0.length + 1) [] r0 := ⟨_, rfl⟩
  have HRS : Hid (runR (r0.length + 1) [] r0 = res) := hres.symm
  rw [← hres]
  clear hres h hE hr hi
  go_enter Tryz.func39, Tryz.ntmps39
  go_wp2_with fail
  refine wp_scope_5 (JR w0 g v1 v2 v3 v4 res) rfl rfl rfl rfl rfl ?hJ ?p0 ?p1 ?p2 ?p3 ?p4 ?first
  case hJ =>
    rintro l n a w ⟨r, v, o, k, -, -, -, -, ⟨rfl, -⟩ | ⟨rfl, -⟩ | ⟨rfl, -⟩ | ⟨rfl, -⟩ | ⟨rfl, -⟩⟩ <;> omega
  case first =>
    intro H
    have HH := Lib.hid H
    clear H
    go_wp2_with fail
    go_step3
    rename_i K hK
    refine hK _ _ (HH.out _ _ _ ⟨r0, .slice none 0 0, [], r0.length + 1, by omega, HR0.out, HW0.out, ⟨_, _, _, _, _, _, _, _, _, _, _, _, _, _, _, _, _, _, _, _, _, _, _, _, _, _, _, _, _, _, _, _, _, _, _, _, _, _, _, _, _, _, _, rfl⟩, .inl ⟨rfl, rfl, by have := HR0.out; simp; omega, HRS.out⟩⟩)
  case p0 =>
    rintro n a w ⟨r, v, o, k, hk, hr, hW, ⟨u1, u2, u4, u5, u6, u7, u8, u9, u10, u11, u12, u13, u14, u15, u16, u17, u18, u19, u20, u21, u22, u23, u24, u25, u26, u27, u28, u29, u30, u31, u32, u33, u34, u35, u36, u37, u38, u39, u40, u41, u42, u43, u44, rfl⟩, hor⟩
    obtain ⟨hn, ho, hres⟩ : n = 2 * r.length + 1 ∧ o.length + 4 * r.length ≤ 200000 ∧ runR k o r = res := by
      rcases hor with ⟨-, h1, h2, h3⟩ | ⟨h0, -⟩ | ⟨h0, -⟩ | ⟨h0, -⟩ | ⟨h0, -⟩
      · exact ⟨h1, h2, h3⟩
      · cases h0
      · cases h0
      · cases h0
      · cases h0
    clear hor
    obtain ⟨k, rfl⟩ : ∃ k', k = k' + 1 := ⟨k - 1, by omega⟩
    have HW := Lib.hid hW
    have CP := Lib.hid (plain_any hW.rd hr seps2)
    obtain ⟨A0, c0, hv0⟩ := hW.form
    subst hv0
    clear hW
    cases hp : plainR [60, 38] r with
    | error e =>
      have HE : Hid (res = .error e) := hres.symm.trans (runR_no hp)
      have HP := Lib.hid hp
      clear hp hres hn ho hk
      go_wp2_with fail
      refine CP.out.mono ?_
      intro en w1 ha
      obtain ⟨h1, ⟨r', h2⟩, rfl⟩ := ha.no HP.out
      have HW1 := Lib.hid (HW.out.next h1 h2)
      clear ha h1 h2 CP
      unfold gaveUp
      go_wp2_with fail
      exact ⟨rfl, Ate.mkNo HW1.out.t HW1.out.rd HE.out⟩
    | ok x =>
      obtain ⟨t, r1⟩ := x
      have hlen : t.length + r1.length = r.length := takeR_both hp
      have HP := Lib.hid hp
      have hrr := (runR_eq (o := o) (k := k) hp).symm.trans hres
      clear hp hres
      simp only at hrr
      cases h0 : Lib.hasPrefix r1 [38] with
      | true =>
        have HA := Lib.hid h0
        rw [if_pos h0] at hrr
        have HE := Lib.hid hrr
        have htl := trim_lt h0 (by decide)
        clear hrr h0
        go_wp2_with fail
        refine CP.out.mono ?_
        intro en w1 ha
        obtain ⟨h1, h2, rfl⟩ := ha.ok HP.out
        have HW1 := Lib.hid (HW.out.next h1 h2)
        have hrow := HW1.out.row
        have hsz := HW1.out.size
        clear ha h1 h2 CP
        unfold sV
        go_wp2_with (at_builtin; refine Lib.wpList_append_own_stringF _ rfl _ _ 47 9 rfl w0.heap.size 5 i0 Tryz.underlying47 Tryz.underlying9 HI.out hz0 hz1 hz2 _ _ _ rfl hrow (mkS t) rfl ?c3 ?c4 ?c5 ?_)
        case c3 => rw [mkS_size]; unfold maxLen; omega
        case c4 => rw [mkS_size]; omega
        case c5 => exact hsz
        intro v' w2 hown' hgrow _
        have HW2 := Lib.hid (HW1.out.grown (s := t) hgrow hown')
        obtain ⟨A2, c2, hv2⟩ := HW2.out.form
        subst hv2
        clear hown' hgrow hrow
        have CA := Lib.hid (takes_any HW2.out.rd [38])
        rw [HA.out] at CA
        go_wp2_with fail
        refine CA.out.mono ?_
        rintro e w3 ⟨rfl, h1, h2⟩
        have HW3 := Lib.hid (HW2.out.next h1 h2)
        clear h1 h2 CA
        go_wp2_with fail
        go_step3
        refine ⟨_, ?_, _, _, _, k, ?_, ?_, HW3.out, ⟨_, _, _, _, _, _, _, _, _, _, _, _, _, _, _, _, _, _, _, _, _, _, _, _, _, _, _, _, _, _, _, _, _, _, _, _, _, _, _, _, _, _, _, by rw [List.length_append]⟩, .inr (.inl ⟨rfl, rfl, ?_, HE.out⟩)⟩
        · omega
        · omega
        · omega
        · simp only [List.length_append]; omega
      | false =>
        have HA := Lib.hid h0
        rw [if_neg (by rw [h0]; decide)] at hrr
        clear h0
        cases h1 : Lib.hasPrefix r1 cdataB with
        | true =>
          have HB := Lib.hid h1
          rw [if_pos h1] at hrr
          have HE := Lib.hid hrr
          have htl := trim_lt h1 (by decide)
          clear hrr h1
          go_wp2_with fail
          refine CP.out.mono ?_
          intro en w1 ha
          obtain ⟨h1, h2, rfl⟩ := ha.ok HP.out
          have HW1 := Lib.hid (HW.out.next h1 h2)
          have hrow := HW1.out.row
          have hsz := HW1.out.size
          clear ha h1 h2 CP
          unfold sV
          go_wp2_with (at_builtin; refine Lib.wpList_append_own_stringF _ rfl _ _ 47 9 rfl w0.heap.size 5 i0 Tryz.underlying47 Tryz.underlying9 HI.out hz0 hz1 hz2 _ _ _ rfl hrow (mkS t) rfl ?c3 ?c4 ?c5 ?_)
          case c3 => rw [mkS_size]; unfold maxLen; omega
          case c4 => rw [mkS_size]; omega
          case c5 => exact hsz
          intro v' w2 hown' hgrow _
          have HW2 := Lib.hid (HW1.out.grown (s := t) hgrow hown')
          obtain ⟨A2, c2, hv2⟩ := HW2.out.form
          subst hv2
          clear hown' hgrow hrow
          have CA := Lib.hid (takes_any HW2.out.rd [38])
          rw [HA.out] at CA
          go_wp2_with fail
          refine CA.out.mono ?_
          rintro e w3 ⟨rfl, h1, h2⟩
          rw [trim_no HA.out] at h2
          have HW3 := Lib.hid (HW2.out.next h1 h2)
          clear h1 h2 CA
          have CA := Lib.hid (takes_any HW3.out.rd cdataB)
          rw [HB.out] at CA
          go_wp2_with fail
          refine CA.out.mono ?_
          rintro e w4 ⟨rfl, h1, h2⟩
          have HW4 := Lib.hid (HW3.out.next h1 h2)
          clear h1 h2 CA
          go_wp2_with fail
          go_step3
          refine ⟨_, ?_, _, _, _, k, ?_, ?_, HW4.out, ⟨_, _, _, _, _, _, _, _, _, _, _, _, _, _, _, _, _, _, _, _, _, _, _, _, _, _, _, _, _, _, _, _, _, _, _, _, _, _, _, _, _, _, _, by rw [List.length_append]⟩, .inr (.inr (.inl ⟨rfl, rfl, ?_, HE.out⟩))⟩
          · omega
          · omega
          · omega
          · simp only [List.length_append]; omega
        | false =>
          have HB := Lib.hid h1
          rw [if_neg (by rw [h1]; decide)] at hrr
          clear h1
          cases h2 : Lib.hasPrefix r1 [60, 33, 45, 45] with
          | true =>
            have HC := Lib.hid h2
            rw [if_pos h2] at hrr
            have HE := Lib.hid hrr
            have htl := trim_lt h2 (by decide)
            clear hrr h2
            go_wp2_with fail
            refine CP.out.mono ?_
            intro en w1 ha
            obtain ⟨h1, h2, rfl⟩ := ha.ok HP.out
            have HW1 := Lib.hid (HW.out.next h1 h2)
            have hrow := HW1.out.row
            have hsz := HW1.out.size
            clear ha h1 h2 CP
            unfold sV
            go_wp2_with (at_builtin; refine Lib.wpList_append_own_stringF _ rfl _ _ 47 9 rfl w0.heap.size 5 i0 Tryz.underlying47 Tryz.underlying9 HI.out hz0 hz1 hz2 _ _ _ rfl hrow (mkS t) rfl ?c3 ?c4 ?c5 ?_)
            case c3 => rw [mkS_size]; unfold maxLen; omega
            case c4 => rw [mkS_size]; omega
            case c5 => exact hsz
            intro v' w2 hown' hgrow _
            have HW2 := Lib.hid (HW1.out.grown (s := t) hgrow hown')
            obtain ⟨A2, c2, hv2⟩ := HW2.out.form
            subst hv2
            clear hown' hgrow hrow
            have CA := Lib.hid (takes_any HW2.out.rd [38])
            rw [HA.out] at CA
            go_wp2_with fail
            refine CA.out.mono ?_
            rintro e w3 ⟨rfl, h1, h2⟩
            rw [trim_no HA.out] at h2
            have HW3 := Lib.hid (HW2.out.next h1 h2)
            clear h1 h2 CA
            have CA := Lib.hid (takes_any HW3.out.rd cdataB)
            rw [HB.out] at CA
            go_wp2_with fail
            refine CA.out.mono ?_
            rintro e w4 ⟨rfl, h1, h2⟩
            rw [trim_no HB.out] at h2
            have HW4 := Lib.hid (HW3.out.next h1 h2)
            clear h1 h2 CA
            have CA := Lib.hid (takes_any HW4.out.rd [60, 33, 45, 45])
            rw [HC.out] at CA
            go_wp2_with fail
            refine CA.out.mono ?_
            rintro e w5 ⟨rfl, h1, h2⟩
            have HW5 := Lib.hid (HW4.out.next h1 h2)
            clear h1 h2 CA
            go_wp2_with fail
            go_step3
            refine ⟨_, ?_, _, _, _, k, ?_, ?_, HW5.out, ⟨_, _, _, _, _, _, _, _, _, _, _, _, _, _, _, _, _, _, _, _, _, _, _, _, _, _, _, _, _, _, _, _, _, _, _, _, _, _, _, _, _, _, _, by rw [List.length_append]⟩, .inr (.inr (.inr (.inl ⟨rfl, rfl, ?_, HE.out⟩)))⟩
            · omega
            · omega
            · omega
            · simp only [List.length_append]; omega
          | false =>
            have HC := Lib.hid h2
            rw [if_neg (by rw [h2]; decide)] at hrr
            clear h2
            cases h3 : Lib.hasPrefix r1 [60, 63] with
            | true =>
              have HD := Lib.hid h3
              rw [if_pos h3] at hrr
              have HE := Lib.hid hrr
              have htl := trim_lt h3 (by decide)
              clear hrr h3
              go_wp2_with fail
              refine CP.out.mono ?_
              intro en w1 ha
              obtain ⟨h1, h2, rfl⟩ := ha.ok HP.out
              have HW1 := Lib.hid (HW.out.next h1 h2)
              have hrow := HW1.out.row
              have hsz := HW1.out.size
              clear ha h1 h2 CP
              unfold sV
              go_wp2_with (at_builtin; refine Lib.wpList_append_own_stringF _ rfl _ _ 47 9 rfl w0.heap.size 5 i0 Tryz.underlying47 Tryz.underlying9 HI.out hz0 hz1 hz2 _ _ _ rfl hrow (mkS t) rfl ?c3 ?c4 ?c5 ?_)
              case c3 => rw [mkS_size]; unfold maxLen; omega
              case c4 => rw [mkS_size]; omega
              case c5 => exact hsz
              intro v' w2 hown' hgrow _
              have HW2 := Lib.hid (HW1.out.grown (s := t) hgrow hown')
              obtain ⟨A2, c2, hv2⟩ := HW2.out.form
              subst hv2
              clear hown' hgrow hrow
              have CA := Lib.hid (takes_any HW2.out.rd [38])
              rw [HA.out] at CA
              go_wp2_with fail
              refine CA.out.mono ?_
              rintro e w3 ⟨rfl, h1, h2⟩
              rw [trim_no HA.out] at h2
              have HW3 := Lib.hid (HW2.out.next h1 h2)
              clear h1 h2 CA
              have CA := Lib.hid (takes_any HW3.out.rd cdataB)
              rw [HB.out] at CA
              go_wp2_with fail
              refine CA.out.mono ?_
              rintro e w4 ⟨rfl, h1, h2⟩
              rw [trim_no HB.out] at h2
              have HW4 := Lib.hid (HW3.out.next h1 h2)
              clear h1 h2 CA
              have CA := Lib.hid (takes_any HW4.out.rd [60, 33, 45, 45])
              rw [HC.out] at CA
              go_wp2_with fail
              refine CA.out.mono ?_
              rintro e w5 ⟨rfl, h1, h2⟩
              rw [trim_no HC.out] at h2
              have HW5 := Lib.hid (HW4.out.next h1 h2)
              clear h1 h2 CA
              have CA := Lib.hid (takes_any HW5.out.rd [60, 63])
              rw [HD.out] at CA
              go_wp2_with fail
              refine CA.out.mono ?_
              rintro e w6 ⟨rfl, h1, h2⟩
              have HW6 := Lib.hid (HW5.out.next h1 h2)
              clear h1 h2 CA
              go_wp2_with fail
              go_step3
              refine ⟨_, ?_, _, _, _, k, ?_, ?_, HW6.out, ⟨_, _, _, _, _, _, _, _, _, _, _, _, _, _, _, _, _, _, _, _, _, _, _, _, _, _, _, _, _, _, _, _, _, _, _, _, _, _, _, _, _, _, _, by rw [List.length_append]⟩, .inr (.inr (.inr (.inr ⟨rfl, rfl, ?_, HE.out⟩)))⟩
              · omega
              · omega
              · omega
              · simp only [List.length_append]; omega
            | false =>
              have HD := Lib.hid h3
              rw [if_neg (by rw [h3]; decide)] at hrr
              clear h3
              cases h4 : Lib.hasPrefix r1 [60, 33] with
              | true =>
                have HX := Lib.hid h4
                rw [if_pos h4] at hrr
                have HE := Lib.hid hrr.symm
                clear hrr h4
                go_wp2_with fail
                refine CP.out.mono ?_
                intro en w1 ha
                obtain ⟨h1, h2, rfl⟩ := ha.ok HP.out
                have HW1 := Lib.hid (HW.out.next h1 h2)
                have hrow := HW1.out.row
                have hsz := HW1.out.size
                clear ha h1 h2 CP
                unfold sV
                go_wp2_with (at_builtin; refine Lib.wpList_append_own_stringF _ rfl _ _ 47 9 rfl w0.heap.size 5 i0 Tryz.underlying47 Tryz.underlying9 HI.out hz0 hz1 hz2 _ _ _ rfl hrow (mkS t) rfl ?c3 ?c4 ?c5 ?_)
                case c3 => rw [mkS_size]; unfold maxLen; omega
                case c4 => rw [mkS_size]; omega
                case c5 => exact hsz
                intro v' w2 hown' hgrow _
                have HW2 := Lib.hid (HW1.out.grown (s := t) hgrow hown')
                obtain ⟨A2, c2, hv2⟩ := HW2.out.form
                subst hv2
                clear hown' hgrow hrow
                have CA := Lib.hid (takes_any HW2.out.rd [38])
                rw [HA.out] at CA
                go_wp2_with fail
                refine CA.out.mono ?_
                rintro e w3 ⟨rfl, h1, h2⟩
                rw [trim_no HA.out] at h2
                have HW3 := Lib.hid (HW2.out.next h1 h2)
                clear h1 h2 CA
                have CA := Lib.hid (takes_any HW3.out.rd cdataB)
                rw [HB.out] at CA
                go_wp2_with fail
                refine CA.out.mono ?_
                rintro e w4 ⟨rfl, h1, h2⟩
                rw [trim_no HB.out] at h2
                have HW4 := Lib.hid (HW3.out.next h1 h2)
                clear h1 h2 CA
                have CA := Lib.hid (takes_any HW4.out.rd [60, 33, 45, 45])
                rw [HC.out] at CA
                go_wp2_with fail
                refine CA.out.mono ?_
                rintro e w5 ⟨rfl, h1, h2⟩
                rw [trim_no HC.out] at h2
                have HW5 := Lib.hid (HW4.out.next h1 h2)
                clear h1 h2 CA
                have CA := Lib.hid (takes_any HW5.out.rd [60, 63])
                rw [HD.out] at CA
                go_wp2_with fail
                refine CA.out.mono ?_
                rintro e w6 ⟨rfl, h1, h2⟩
                rw [trim_no HD.out] at h2
                have HW6 := Lib.hid (HW5.out.next h1 h2)
                clear h1 h2 CA
                have CH := Lib.hid (fun w => Tryz.strings_HasPrefix (mkS r1) (mkS [60, 33]) w)
                rw [mkS_list, mkS_list, HX.out] at CH
                have cc := Blk.cell HW6.out.rd 0
                simp at cc
                go_wp2_with fail
                refine (CH.out _).mono ?_
                rintro e w7 ⟨rfl, rfl⟩
                go_wp2_with fail
                refine (must_no 100 _).mono ?_
                rintro e w8 ⟨rfl, rfl⟩
                unfold gaveUp
                go_wp2_with fail
                exact ⟨rfl, Ate.mkNo HW6.out.t HW6.out.rd HE.out⟩
              | false =>
                have HX := Lib.hid h4
                rw [if_neg (by rw [h4]; decide)] at hrr
                have HE := Lib.hid hrr.symm
                clear hrr h4
                go_wp2_with fail
                refine CP.out.mono ?_
                intro en w1 ha
                obtain ⟨h1, h2, rfl⟩ := ha.ok HP.out
                have HW1 := Lib.hid (HW.out.next h1 h2)
                have hrow := HW1.out.row
                have hsz := HW1.out.size
                clear ha h1 h2 CP
                unfold sV
                go_wp2_with (at_builtin; refine Lib.wpList_append_own_stringF _ rfl _ _ 47 9 rfl w0.heap.size 5 i0 Tryz.underlying47 Tryz.underlying9 HI.out hz0 hz1 hz2 _ _ _ rfl hrow (mkS t) rfl ?c3 ?c4 ?c5 ?_)
                case c3 => rw [mkS_size]; unfold maxLen; omega
                case c4 => rw [mkS_size]; omega
                case c5 => exact hsz
                intro v' w2 hown' hgrow _
                have HW2 := Lib.hid (HW1.out.grown (s := t) hgrow hown')
                obtain ⟨A2, c2, hv2⟩ := HW2.out.form
                subst hv2
                clear hown' hgrow hrow
                have CA := Lib.hid (takes_any HW2.out.rd [38])
                rw [HA.out] at CA
                go_wp2_with fail
                refine CA.out.mono ?_
                rintro e w3 ⟨rfl, h1, h2⟩
                rw [trim_no HA.out] at h2
                have HW3 := Lib.hid (HW2.out.next h1 h2)
                clear h1 h2 CA
                have CA := Lib.hid (takes_any HW3.out.rd cdataB)
                rw [HB.out] at CA
                go_wp2_with fail
                refine CA.out.mono ?_
                rintro e w4 ⟨rfl, h1, h2⟩
                rw [trim_no HB.out] at h2
                have HW4 := Lib.hid (HW3.out.next h1 h2)
                clear h1 h2 CA
                have CA := Lib.hid (takes_any HW4.out.rd [60, 33, 45, 45])
                rw [HC.out] at CA
                go_wp2_with fail
                refine CA.out.mono ?_
                rintro e w5 ⟨rfl, h1, h2⟩
                rw [trim_no HC.out] at h2
                have HW5 := Lib.hid (HW4.out.next h1 h2)
                clear h1 h2 CA
                have CA := Lib.hid (takes_any HW5.out.rd [60, 63])
                rw [HD.out] at CA
                go_wp2_with fail
                refine CA.out.mono ?_
                rintro e w6 ⟨rfl, h1, h2⟩
                rw [trim_no HD.out] at h2
                have HW6 := Lib.hid (HW5.out.next h1 h2)
                clear h1 h2 CA
                have CH := Lib.hid (fun w => Tryz.strings_HasPrefix (mkS r1) (mkS [60, 33]) w)
                rw [mkS_list, mkS_list, HX.out] at CH
                have cc := Blk.cell HW6.out.rd 0
                simp at cc
                go_wp2_with fail
                refine (CH.out _).mono ?_
                rintro e w7 ⟨rfl, rfl⟩
                go_wp2_with fail
                refine (must_yes 100 _).mono ?_
                rintro e w8 ⟨rfl, rfl⟩
                have hcv := ownF_conv HW6.out.row
                simp only [List.length_append] at hcv
                go_wp2_with fail
                try simp only [jumpM]
                go_ret
                exact Ate.mkOk HW6.out.t HW6.out.rd HE.out
  case p1 =>
    rintro n a w ⟨r, v, o, k, hk, hr, hW, ⟨u1, u2, u4, u5, u6, u7, u8, u9, u10, u11, u12, u13, u14, u15, u16, u17, u18, u19, u20, u21, u22, u23, u24, u25, u26, u27, u28, u29, u30, u31, u32, u33, u34, u35, u36, u37, u38, u39, u40, u41, u42, u43, u44, rfl⟩, hor⟩
    obtain ⟨hn, ho, hres⟩ : n = 2 * r.length + 2 ∧ o.length + 4 * r.length + 4 ≤ 200000 ∧ ((entityR r).bind fun y => runR k (o ++ Lib.encodeRune (y.1 : Int)) y.2) = res := by
      rcases hor with ⟨h0, -⟩ | ⟨-, h1, h2, h3⟩ | ⟨h0, -⟩ | ⟨h0, -⟩ | ⟨h0, -⟩
      · cases h0
      · exact ⟨h1, h2, h3⟩
      · cases h0
      · cases h0
      · cases h0
    clear hor
    have HW := Lib.hid hW
    have CE := Lib.hid (entity_any hW.rd (HEN.out w hW.t) hr)
    obtain ⟨A0, c0, hv0⟩ := hW.form
    subst hv0
    clear hW
    cases he : entityR r with
    | error e =>
      have HE : Hid (res = .error e) := by show res = _; rw [← hres, he]; rfl
      have HP := Lib.hid he
      clear he hres hn ho hk
      go_wp2_with fail
      refine CE.out.mono ?_
      intro en w1 ha
      obtain ⟨h1, ⟨r', h2⟩, rfl⟩ := ha.no HP.out
      have HW1 := Lib.hid (HW.out.next h1 h2)
      clear ha h1 h2 CE
      unfold gaveUp
      go_wp2_with fail
      exact ⟨rfl, Ate.mkNo HW1.out.t HW1.out.rd HE.out⟩
    | ok x =>
      obtain ⟨ch, r1⟩ := x
      have HE : Hid (runR k (o ++ Lib.encodeRune (ch : Int)) r1 = res) := by show _ = res; rw [← hres, he]; rfl
      have hlen := entityR_len he
      have hch : (ch : Int) ≤ 2147483647 := by
        have := entityR_small he
        omega
      have HP := Lib.hid he
      clear he hres
      have CR := Lib.hid (fun w v n xs h1 h2 h3 => Tryz.utf8_AppendRune_row w0.heap.size v n xs (ch : Int) (by omega) hch w h1 h2 h3)
      go_wp2_with fail
      refine CE.out.mono ?_
      intro en w1 ha
      obtain ⟨h1, h2, rfl⟩ := ha.ok HP.out
      have HW1 := Lib.hid (HW.out.next h1 h2)
      have CR1 := Lib.hid (CR.out w1 _ _ _ HW1.out.row (by omega) HW1.out.size)
      clear ha h1 h2 CE CR
      unfold rV
      go_wp2_with fail
      refine CR1.out.mono ?_
      rintro e w2 ⟨v', rfl, hown', ob, hgrow⟩
      have hl4 : (Lib.encodeRune (ch : Int)).length ≤ 4 := by have := (Lib.runeCells_le (ch : Int)).2; rw [Lib.runeCells_length] at this; exact this
      have HW2 : Hid (RunW w0 g v1 v2 v3 v4 r1 v' (o ++ Lib.encodeRune (ch : Int)) w2) := by
        refine RunW.grown (w := w1.alloc ob) ⟨Blk.alloc HW1.out.rd _, ownF_turned HW1.out.row ((Turned.refl [] w1).alloc ob) (fun k hk hm => by cases hm), HW1.out.t.alloc ob⟩ hgrow ?_
        rw [← Lib.runeCells_length]
        have : u8L (Lib.encodeRune (ch : Int)) = Lib.runeCells (ch : Int) := Lib.byteCells_encodeRune _
        rw [this]
        exact hown'
      clear hown' hgrow CR1
      go_wp2_with fail
      go_step3
      refine ⟨_, ?_, _, _, _, k, ?_, ?_, HW2.out, ⟨_, _, _, _, _, _, _, _, _, _, _, _, _, _, _, _, _, _, _, _, _, _, _, _, _, _, _, _, _, _, _, _, _, _, _, _, _, _, _, _, _, _, _, rfl⟩, .inl ⟨rfl, rfl, ?_, HE.out⟩⟩
      · omega
      · omega
      · omega
      · simp only [List.length_append]; omega
  case p2 =>
    rintro n a w ⟨r, v, o, k, hk, hr, hW, ⟨u1, u2, u4, u5, u6, u7, u8, u9, u10, u11, u12, u13, u14, u15, u16, u17, u18, u19, u20, u21, u22, u23, u24, u25, u26, u27, u28, u29, u30, u31, u32, u33, u34, u35, u36, u37, u38, u39, u40, u41, u42, u43, u44, rfl⟩, hor⟩
    obtain ⟨hn, ho, hres⟩ : n = 2 * r.length + 2 ∧ o.length + 4 * r.length ≤ 200000 ∧ ((upToR [93, 93, 62] r).bind fun y => runR k (o ++ y.1) y.2) = res := by
      rcases hor with ⟨h0, -⟩ | ⟨h0, -⟩ | ⟨-, h1, h2, h3⟩ | ⟨h0, -⟩ | ⟨h0, -⟩
      · cases h0
      · cases h0
      · exact ⟨h1, h2, h3⟩
      · cases h0
      · cases h0
    clear hor
    have HW := Lib.hid hW
    have CP := Lib.hid (upTo_any hW.rd (HEN.out w hW.t) hr [93, 93, 62])
    obtain ⟨A0, c0, hv0⟩ := hW.form
    subst hv0
    clear hW
    cases he : upToR [93, 93, 62] r with
    | error e =>
      have HE : Hid (res = .error e) := by show res = _; rw [← hres, he]; rfl
      have HP := Lib.hid he
      clear he hres hn ho hk
      go_wp2_with fail
      refine CP.out.mono ?_
      intro en w1 ha
      obtain ⟨h1, ⟨r', h2⟩, rfl⟩ := ha.no HP.out
      have HW1 := Lib.hid (HW.out.next h1 h2)
      clear ha h1 h2 CP
      unfold gaveUp
      go_wp2_with fail
      exact ⟨rfl, Ate.mkNo HW1.out.t HW1.out.rd HE.out⟩
    | ok x =>
      obtain ⟨t, r1⟩ := x
      have hlen : t.length + r1.length ≤ r.length := upToR_both he
      have HE : Hid (runR k (o ++ t) r1 = res) := by show _ = res; rw [← hres, he]; rfl
      have HP := Lib.hid he
      clear he hres
      go_wp2_with fail
      refine CP.out.mono ?_
      intro en w1 ha
      obtain ⟨h1, h2, rfl⟩ := ha.ok HP.out
      have HW1 := Lib.hid (HW.out.next h1 h2)
      have hrow := HW1.out.row
      have hsz := HW1.out.size
      clear ha h1 h2 CP
      unfold sV
      go_wp2_with (at_builtin; refine Lib.wpList_append_own_stringF _ rfl _ _ 47 9 rfl w0.heap.size 5 i0 Tryz.underlying47 Tryz.underlying9 HI.out hz0 hz1 hz2 _ _ _ rfl hrow (mkS t) rfl ?c3 ?c4 ?c5 ?_)
      case c3 => rw [mkS_size]; unfold maxLen; omega
      case c4 => rw [mkS_size]; omega
      case c5 => exact hsz
      intro v' w2 hown' hgrow _
      have HW2 := Lib.hid (HW1.out.grown (s := t) hgrow hown')
      obtain ⟨A2, c2, hv2⟩ := HW2.out.form
      subst hv2
      clear hown' hgrow hrow
      go_wp2_with fail
      go_step3
      refine ⟨_, ?_, _, _, _, k, ?_, ?_, HW2.out, ⟨_, _, _, _, _, _, _, _, _, _, _, _, _, _, _, _, _, _, _, _, _, _, _, _, _, _, _, _, _, _, _, _, _, _, _, _, _, _, _, _, _, _, _, by rw [List.length_append]⟩, .inl ⟨rfl, rfl, ?_, HE.out⟩⟩
      · omega
      · omega
      · omega
      · simp only [List.length_append]; omega
  case p3 =>
    rintro n a w ⟨r, v, o, k, hk, hr, hW, ⟨u1, u2, u4, u5, u6, u7, u8, u9, u10, u11, u12, u13, u14, u15, u16, u17, u18, u19, u20, u21, u22, u23, u24, u25, u26, u27, u28, u29, u30, u31, u32, u33, u34, u35, u36, u37, u38, u39, u40, u41, u42, u43, u44, rfl⟩, hor⟩
    obtain ⟨hn, ho, hres⟩ : n = 2 * r.length + 2 ∧ o.length + 4 * r.length ≤ 200000 ∧ ((upToR [45, 45] r).bind fun y => (wantR [62] y.2).bind fun z => runR k o z.2) = res := by
      rcases hor with ⟨h0, -⟩ | ⟨h0, -⟩ | ⟨h0, -⟩ | ⟨-, h1, h2, h3⟩ | ⟨h0, -⟩
      · cases h0
      · cases h0
      · cases h0
      · exact ⟨h1, h2, h3⟩
      · cases h0
    clear hor
    have HW := Lib.hid hW
    have CP := Lib.hid (upTo_any hW.rd (HEN.out w hW.t) hr [45, 45])
    obtain ⟨A0, c0, hv0⟩ := hW.form
    subst hv0
    clear hW
    cases he : upToR [45, 45] r with
    | error e =>
      have HE : Hid (res = .error e) := by show res = _; rw [← hres, he]; rfl
      have HP := Lib.hid he
      clear he hres hn ho hk
      go_wp2_with fail
      refine CP.out.mono ?_
      intro en w1 ha
      obtain ⟨h1, ⟨r', h2⟩, rfl⟩ := ha.no HP.out
      have HW1 := Lib.hid (HW.out.next h1 h2)
      clear ha h1 h2 CP
      unfold gaveUp
      go_wp2_with fail
      exact ⟨rfl, Ate.mkNo HW1.out.t HW1.out.rd HE.out⟩
    | ok x =>
      obtain ⟨t, r1⟩ := x
      have hlen : r1.length ≤ r.length := upToR_len he
      have HP := Lib.hid he
      cases hw : wantR [62] r1 with
      | error e =>
        have HE : Hid (res = .error e) := by show res = _; rw [← hres, he]; show ((wantR [62] r1).bind _ : RR Bs) = _; rw [hw]; rfl
        have HQ := Lib.hid hw
        clear he hw hres hn ho hk
        go_wp2_with fail
        refine CP.out.mono ?_
        intro en w1 ha
        obtain ⟨h1, h2, rfl⟩ := ha.ok HP.out
        have HW1 := Lib.hid (HW.out.next h1 h2)
        have CW := Lib.hid (want_any h2 [62])
        clear ha h1 h2 CP
        unfold sV
        go_wp2_with fail
        refine CW.out.mono ?_
        intro en w2 ha
        obtain ⟨h1, ⟨r', h2⟩, rfl⟩ := ha.no HQ.out
        have HW2 := Lib.hid (HW1.out.next h1 h2)
        clear ha h1 h2 CW
        unfold gaveUp
        go_wp2_with fail
        exact ⟨rfl, Ate.mkNo HW2.out.t HW2.out.rd HE.out⟩
      | ok y =>
        obtain ⟨u, r2⟩ := y
        have hlen2 : r2.length ≤ r1.length := (wantR_len hw).1
        have HE : Hid (runR k o r2 = res) := by show _ = res; rw [← hres, he]; show _ = ((wantR [62] r1).bind _ : RR Bs); rw [hw]; rfl
        have HQ := Lib.hid hw
        clear he hw hres
        go_wp2_with fail
        refine CP.out.mono ?_
        intro en w1 ha
        obtain ⟨h1, h2, rfl⟩ := ha.ok HP.out
        have HW1 := Lib.hid (HW.out.next h1 h2)
        have CW := Lib.hid (want_any h2 [62])
        clear ha h1 h2 CP
        unfold sV
        go_wp2_with fail
        refine CW.out.mono ?_
        intro en w2 ha
        obtain ⟨h1, h2, rfl⟩ := ha.ok HQ.out
        have HW2 := Lib.hid (HW1.out.next h1 h2)
        clear ha h1 h2 CW
        unfold uV
        go_wp2_with fail
        go_step3
        refine ⟨_, ?_, _, _, _, k, ?_, ?_, HW2.out, ⟨_, _, _, _, _, _, _, _, _, _, _, _, _, _, _, _, _, _, _, _, _, _, _, _, _, _, _, _, _, _, _, _, _, _, _, _, _, _, _, _, _, _, _, rfl⟩, .inl ⟨rfl, rfl, ?_, HE.out⟩⟩
        · omega
        · omega
        · omega
        · omega
  case p4 =>
    rintro n a w ⟨r, v, o, k, hk, hr, hW, ⟨u1, u2, u4, u5, u6, u7, u8, u9, u10, u11, u12, u13, u14, u15, u16, u17, u18, u19, u20, u21, u22, u23, u24, u25, u26, u27, u28, u29, u30, u31, u32, u33, u34, u35, u36, u37, u38, u39, u40, u41, u42, u43, u44, rfl⟩, hor⟩
    obtain ⟨hn, ho, hres⟩ : n = 2 * r.length + 2 ∧ o.length + 4 * r.length ≤ 200000 ∧ ((nameR r).bind fun y => (upToR [63, 62] y.2).bind fun z => runR k o z.2) = res := by
      rcases hor with ⟨h0, -⟩ | ⟨h0, -⟩ | ⟨h0, -⟩ | ⟨h0, -⟩ | ⟨-, h1, h2, h3⟩
      · cases h0
      · cases h0
      · cases h0
      · cases h0
      · exact ⟨h1, h2, h3⟩
    clear hor
    have HW := Lib.hid hW
    have CP := Lib.hid (name_any hW.rd hr)
    obtain ⟨A0, c0, hv0⟩ := hW.form
    subst hv0
    clear hW
    cases he : nameR r with
    | error e =>
      have HE : Hid (res = .error e) := by show res = _; rw [← hres, he]; rfl
      have HP := Lib.hid he
      clear he hres hn ho hk
      go_wp2_with fail
      refine CP.out.mono ?_
      intro en w1 ha
      obtain ⟨h1, ⟨r', h2⟩, rfl⟩ := ha.no HP.out
      have HW1 := Lib.hid (HW.out.next h1 h2)
      clear ha h1 h2 CP
      unfold gaveUp
      go_wp2_with fail
      exact ⟨rfl, Ate.mkNo HW1.out.t HW1.out.rd HE.out⟩
    | ok x =>
      obtain ⟨t, r1⟩ := x
      have hlen : r1.length ≤ r.length := Nat.le_of_lt (nameR_len he)
      have HP := Lib.hid he
      cases hw : upToR [63, 62] r1 with
      | error e =>
        have HE : Hid (res = .error e) := by show res = _; rw [← hres, he]; show ((upToR [63, 62] r1).bind _ : RR Bs) = _; rw [hw]; rfl
        have HQ := Lib.hid hw
        clear he hw hres hn ho hk
        go_wp2_with fail
        refine CP.out.mono ?_
        intro en w1 ha
        obtain ⟨h1, h2, rfl⟩ := ha.ok HP.out
        have HW1 := Lib.hid (HW.out.next h1 h2)
        have CW := Lib.hid (upTo_any h2 (HEN.out w1 HW1.out.t) (show r1.length ≤ 40000 by omega) [63, 62])
        clear ha h1 h2 CP
        unfold sV
        go_wp2_with fail
        refine CW.out.mono ?_
        intro en w2 ha
        obtain ⟨h1, ⟨r', h2⟩, rfl⟩ := ha.no HQ.out
        have HW2 := Lib.hid (HW1.out.next h1 h2)
        clear ha h1 h2 CW
        unfold gaveUp
        go_wp2_with fail
        exact ⟨rfl, Ate.mkNo HW2.out.t HW2.out.rd HE.out⟩
      | ok y =>
        obtain ⟨u, r2⟩ := y
        have hlen2 : r2.length ≤ r1.length := upToR_len hw
        have HE : Hid (runR k o r2 = res) := by show _ = res; rw [← hres, he]; show _ = ((upToR [63, 62] r1).bind _ : RR Bs); rw [hw]; rfl
        have HQ := Lib.hid hw
        clear he hw hres
        go_wp2_with fail
        refine CP.out.mono ?_
        intro en w1 ha
        obtain ⟨h1, h2, rfl⟩ := ha.ok HP.out
        have HW1 := Lib.hid (HW.out.next h1 h2)
        have CW := Lib.hid (upTo_any h2 (HEN.out w1 HW1.out.t) (show r1.length ≤ 40000 by omega) [63, 62])
        clear ha h1 h2 CP
        unfold sV
        go_wp2_with fail
        refine CW.out.mono ?_
        intro en w2 ha
        obtain ⟨h1, h2, rfl⟩ := ha.ok HQ.out
        have HW2 := Lib.hid (HW1.out.next h1 h2)
        clear ha h1 h2 CW
        unfold sV
        go_wp2_with fail
        go_step3
        refine ⟨_, ?_, _, _, _, k, ?_, ?_, HW2.out, ⟨_, _, _, _, _, _, _, _, _, _, _, _, _, _, _, _, _, _, _, _, _, _, _, _, _, _, _, _, _, _, _, _, _, _, _, _, _, _, _, _, _, _, _, rfl⟩, .inl ⟨rfl, rfl, ?_, HE.out⟩⟩
        · omega
        · omega
        · omega
        · omega
end
end Go.Proofs.YtoifibnmincodaaGreatDoor
