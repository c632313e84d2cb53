/- What a run stands for. A list of attributes in memory; whether one of them has a name. An attribute is taken. A reader with what is open; an element ends. A piece is stored whole. An end. A start. -/
import Derived.Test.YtljldbdjkjllhaaGreatDoorWda
import Derived.Test.YtljldbdjkjllhaaGreatDoorWab
import Derived.StillTailTactics
/- What a run stands for. -/
namespace Go.Proofs.YtljldbdjkjllhaaGreatDoor
set_option linter.unusedSimpArgs false
set_option linter.unusedVariables false
open Go.RowKit

def ActR (g : Nat) (v : Value) (act : Act) : Prop := ∃ u1 u2 u4 u5 u6 u7 u8 u9 u10 u11 u12 u13 u14 u15 u16 u17 u18 u19 u20 u21 u22 u23 u24 u25 u26 u27 u28 u29 u30 u31 u32 u33 u34 u35 u36 u37 u38 u39 u40 u41 u42 u43 u44 : Value, act = { tmps := #[.pointer (some ⟨g, 0, none⟩), u1, u2, v, u4, u5, u6, u7, u8, u9, u10, u11, u12, u13, u14, u15, u16, u17, u18, u19, u20, u21, u22, u23, u24, u25, u26, u27, u28, u29, u30, u31, u32, u33, u34, u35, u36, u37, u38, u39, u40, u41, u42, u43, u44], defers := [] }
def JR (w0 : World) (g : Nat) (v1 v2 v3 v4 : Value) (res : RR Bs) (l n : Nat) (act : Act) (w : World) : Prop :=
  ∃ r v o k, r.length < k ∧ r.length ≤ 40000 ∧ RunW w0 g v1 v2 v3 v4 r v o w ∧ ActR g v act ∧
    ((l = 0 ∧ n = 2 * r.length + 1 ∧ o.length + 4 * r.length ≤ 200000 ∧ runR k o r = res) ∨
     (l = 1 ∧ n = 2 * r.length + 2 ∧ o.length + 4 * r.length + 4 ≤ 200000 ∧ ((entityR r).bind fun y => runR k (o ++ Lib.encodeRune (y.1 : Int)) y.2) = res) ∨
     (l = 2 ∧ n = 2 * r.length + 2 ∧ o.length + 4 * r.length ≤ 200000 ∧ ((upToR [93, 93, 62] r).bind fun y => runR k (o ++ y.1) y.2) = res) ∨
     (l = 3 ∧ n = 2 * r.length + 2 ∧ o.length + 4 * r.length ≤ 200000 ∧ ((upToR [45, 45] r).bind fun y => (wantR [62] y.2).bind fun z => runR k o z.2) = res) ∨
     (l = 4 ∧ n = 2 * r.length + 2 ∧ o.length + 4 * r.length ≤ 200000 ∧ ((nameR r).bind fun y => (upToR [63, 62] y.2).bind fun z => runR k o z.2) = res))
theorem runR_eq {o r : Bs} {k : Nat} {x : Bs × Bs} (h : plainR [60, 38] r = .ok x) : runR (k + 1) o r =
    if Lib.hasPrefix x.2 [38] = true then (entityR (Lib.trimPrefix x.2 [38])).bind fun y => runR k (o ++ x.1 ++ Lib.encodeRune (y.1 : Int)) y.2
    else if Lib.hasPrefix x.2 cdataB = true then (upToR [93, 93, 62] (Lib.trimPrefix x.2 cdataB)).bind fun y => runR k (o ++ x.1 ++ y.1) y.2
    else if Lib.hasPrefix x.2 [60, 33, 45, 45] = true then (upToR [45, 45] (Lib.trimPrefix x.2 [60, 33, 45, 45])).bind fun y => (wantR [62] y.2).bind fun z => runR k (o ++ x.1) z.2
    else if Lib.hasPrefix x.2 [60, 63] = true then (nameR (Lib.trimPrefix x.2 [60, 63])).bind fun y => (upToR [63, 62] y.2).bind fun z => runR k (o ++ x.1) z.2
    else if Lib.hasPrefix x.2 [60, 33] = true then .error 100 else .ok (o ++ x.1, x.2) := by rw [runR, h]; rfl
theorem runR_no {o r : Bs} {k : Nat} {e : Int} (h : plainR [60, 38] r = .error e) : runR (k + 1) o r = .error e := by rw [runR, h]; rfl
theorem upToR_both {p l : Bs} {x : Bs × Bs} (h : upToR p l = .ok x) : x.1.length + x.2.length ≤ l.length := by
  unfold upToR at h
  split at h
  · obtain ⟨y, hy, h⟩ := bind_ok h
    obtain ⟨z, hz, h⟩ := map_ok h
    subst h
    have := takeR_both hy
    have := (wantR_len hz).1
    show y.1.length + z.2.length ≤ _; omega
  · cases h
theorem seps2 : Seps [60, 38] := ⟨by decide, by decide, by decide⟩
section
variable {w0 : World} {B g : Nat} {r0 : Bs} {v1 v2 v3 v4 : Value}
set_option maxHeartbeats 16000000 in
set_option maxRecDepth 1000000 in
theorem run_any (h : RdB w0 g r0 v1 v2 v3 v4) (hE : XEnv B w0) (hg : B ≤ g) (hr : r0.length ≤ 40000) :
    Calls Tryz.prog 86 #[.pointer (some ⟨g, 0, none⟩)] w0 (Ate w0 g v1 v2 v3 v4 (runR (r0.length + 1) [] r0) sV) := by
  obtain ⟨i0, hi, hz0, hz1, hz2⟩ := info_u8
  have HI := Lib.hid hi
  have HEN : Hid (∀ w, Turned [g] w0 w → XEnv B w) := fun w ht => hE.one ht hg
  have HW0 : Hid (RunW w0 g v1 v2 v3 v4 r0 (.slice none 0 0) [] w0) := ⟨h, World.ownsRowF_nil _ _ _ _, Turned.refl _ _⟩
  have HR0 := Lib.hid hr
  obtain ⟨res, hres⟩ : ∃ res, res = runR (r0.length + 1) [] r0 := ⟨_, rfl⟩
  have HRS : Hid (runR (r0.length + 1) [] r0 = res) := hres.symm
  rw [← hres]
  clear hres h hE hr hi
  go_enter Tryz.func86, Tryz.ntmps86
  go_wp2_with fail
  refine wp_scope_5 (JR w0 g v1 v2 v3 v4 res) rfl rfl rfl rfl rfl ?hJ ?p0 ?p1 ?p2 ?p3 ?p4 ?first
  case hJ =>
    rintro l n a w ⟨r, v, o, k, -, -, -, -, ⟨rfl, -⟩ | ⟨rfl, -⟩ | ⟨rfl, -⟩ | ⟨rfl, -⟩ | ⟨rfl, -⟩⟩ <;> omega
  case first =>
    intro H
    have HH := Lib.hid H
    clear H
    go_wp2_with fail
    go_step3
    rename_i K hK
    refine hK _ _ (HH.out _ _ _ ⟨r0, .slice none 0 0, [], r0.length + 1, by omega, HR0.out, HW0.out, ⟨_, _, _, _, _, _, _, _, _, _, _, _, _, _, _, _, _, _, _, _, _, _, _, _, _, _, _, _, _, _, _, _, _, _, _, _, _, _, _, _, _, _, _, rfl⟩, .inl ⟨rfl, rfl, by have := HR0.out; simp; omega, HRS.out⟩⟩)
  case p0 =>
    rintro n a w ⟨r, v, o, k, hk, hr, hW, ⟨u1, u2, u4, u5, u6, u7, u8, u9, u10, u11, u12, u13, u14, u15, u16, u17, u18, u19, u20, u21, u22, u23, u24, u25, u26, u27, u28, u29, u30, u31, u32, u33, u34, u35, u36, u37, u38, u39, u40, u41, u42, u43, u44, rfl⟩, hor⟩
    obtain ⟨hn, ho, hres⟩ : n = 2 * r.length + 1 ∧ o.length + 4 * r.length ≤ 200000 ∧ runR k o r = res := by
      rcases hor with ⟨-, h1, h2, h3⟩ | ⟨h0, -⟩ | ⟨h0, -⟩ | ⟨h0, -⟩ | ⟨h0, -⟩
      · exact ⟨h1, h2, h3⟩
      · cases h0
      · cases h0
      · cases h0
      · cases h0
    clear hor
    obtain ⟨k, rfl⟩ : ∃ k', k = k' + 1 := ⟨k - 1, by omega⟩
    have HW := Lib.hid hW
    have CP := Lib.hid (plain_any hW.rd hr seps2)
    obtain ⟨A0, c0, hv0⟩ := hW.form
    subst hv0
    clear hW
    cases hp : plainR [60, 38] r with
    | error e =>
      have HE : Hid (res = .error e) := hres.symm.trans (runR_no hp)
      have HP := Lib.hid hp
      clear hp hres hn ho hk
      go_wp2_with fail
      refine CP.out.mono ?_
      intro en w1 ha
      obtain ⟨h1, ⟨r', h2⟩, rfl⟩ := ha.no HP.out
      have HW1 := Lib.hid (HW.out.next h1 h2)
      clear ha h1 h2 CP
      unfold gaveUp
      go_wp2_with fail
      exact ⟨rfl, Ate.mkNo HW1.out.t HW1.out.rd HE.out⟩
    | ok x =>
      obtain ⟨t, r1⟩ := x
      have hlen : t.length + r1.length = r.length := takeR_both hp
      have HP := Lib.hid hp
      have hrr := (runR_eq (o := o) (k := k) hp).symm.trans hres
      clear hp hres
      simp only at hrr
      cases h0 : Lib.hasPrefix r1 [38] with
      | true =>
        have HA := Lib.hid h0
        rw [if_pos h0] at hrr
        have HE := Lib.hid hrr
        have htl := trim_lt h0 (by decide)
        clear hrr h0
        go_wp2_with fail
        refine CP.out.mono ?_
        intro en w1 ha
        obtain ⟨h1, h2, rfl⟩ := ha.ok HP.out
        have HW1 := Lib.hid (HW.out.next h1 h2)
        have hrow := HW1.out.row
        have hsz := HW1.out.size
        clear ha h1 h2 CP
        unfold sV
        go_wp2_with (at_builtin; refine Lib.wpList_append_own_stringF _ rfl _ _ 46 9 rfl w0.heap.size 5 i0 Tryz.underlying46 Tryz.underlying9 HI.out hz0 hz1 hz2 _ _ _ rfl hrow (mkS t) rfl ?c3 ?c4 ?c5 ?_)
        case c3 => rw [mkS_size]; unfold maxLen; omega
        case c4 => rw [mkS_size]; omega
        case c5 => exact hsz
        intro v' w2 hown' hgrow _
        have HW2 := Lib.hid (HW1.out.grown (s := t) hgrow hown')
        obtain ⟨A2, c2, hv2⟩ := HW2.out.form
        subst hv2
        clear hown' hgrow hrow
        have CA := Lib.hid (takes_any HW2.out.rd [38])
        rw [HA.out] at CA
        go_wp2_with fail
        refine CA.out.mono ?_
        rintro e w3 ⟨rfl, h1, h2⟩
        have HW3 := Lib.hid (HW2.out.next h1 h2)
        clear h1 h2 CA
        go_wp2_with fail
        go_step3
        refine ⟨_, ?_, _, _, _, k, ?_, ?_, HW3.out, ⟨_, _, _, _, _, _, _, _, _, _, _, _, _, _, _, _, _, _, _, _, _, _, _, _, _, _, _, _, _, _, _, _, _, _, _, _, _, _, _, _, _, _, _, by rw [List.length_append]⟩, .inr (.inl ⟨rfl, rfl, ?_, HE.out⟩)⟩
        · omega
        · omega
        · omega
        · simp only [List.length_append]; omega
      | false =>
        have HA := Lib.hid h0
        rw [if_neg (by rw [h0]; decide)] at hrr
        clear h0
        cases h1 : Lib.hasPrefix r1 cdataB with
        | true =>
          have HB := Lib.hid h1
          rw [if_pos h1] at hrr
          have HE := Lib.hid hrr
          have htl := trim_lt h1 (by decide)
          clear hrr h1
          go_wp2_with fail
          refine CP.out.mono ?_
          intro en w1 ha
          obtain ⟨h1, h2, rfl⟩ := ha.ok HP.out
          have HW1 := Lib.hid (HW.out.next h1 h2)
          have hrow := HW1.out.row
          have hsz := HW1.out.size
          clear ha h1 h2 CP
          unfold sV
          go_wp2_with (at_builtin; refine Lib.wpList_append_own_stringF _ rfl _ _ 46 9 rfl w0.heap.size 5 i0 Tryz.underlying46 Tryz.underlying9 HI.out hz0 hz1 hz2 _ _ _ rfl hrow (mkS t) rfl ?c3 ?c4 ?c5 ?_)
          case c3 => rw [mkS_size]; unfold maxLen; omega
          case c4 => rw [mkS_size]; omega
          case c5 => exact hsz
          intro v' w2 hown' hgrow _
          have HW2 := Lib.hid (HW1.out.grown (s := t) hgrow hown')
          obtain ⟨A2, c2, hv2⟩ := HW2.out.form
          subst hv2
          clear hown' hgrow hrow
          have CA := Lib.hid (takes_any HW2.out.rd [38])
          rw [HA.out] at CA
          go_wp2_with fail
          refine CA.out.mono ?_
          rintro e w3 ⟨rfl, h1, h2⟩
          rw [trim_no HA.out] at h2
          have HW3 := Lib.hid (HW2.out.next h1 h2)
          clear h1 h2 CA
          have CA := Lib.hid (takes_any HW3.out.rd cdataB)
          rw [HB.out] at CA
          go_wp2_with fail
          refine CA.out.mono ?_
          rintro e w4 ⟨rfl, h1, h2⟩
          have HW4 := Lib.hid (HW3.out.next h1 h2)
          clear h1 h2 CA
          go_wp2_with fail
          go_step3
          refine ⟨_, ?_, _, _, _, k, ?_, ?_, HW4.out, ⟨_, _, _, _, _, _, _, _, _, _, _, _, _, _, _, _, _, _, _, _, _, _, _, _, _, _, _, _, _, _, _, _, _, _, _, _, _, _, _, _, _, _, _, by rw [List.length_append]⟩, .inr (.inr (.inl ⟨rfl, rfl, ?_, HE.out⟩))⟩
          · omega
          · omega
          · omega
          · simp only [List.length_append]; omega
        | false =>
          have HB := Lib.hid h1
          rw [if_neg (by rw [h1]; decide)] at hrr
          clear h1
          cases h2 : Lib.hasPrefix r1 [60, 33, 45, 45] with
          | true =>
            have HC := Lib.hid h2
            rw [if_pos h2] at hrr
            have HE := Lib.hid hrr
            have htl := trim_lt h2 (by decide)
            clear hrr h2
            go_wp2_with fail
            refine CP.out.mono ?_
            intro en w1 ha
            obtain ⟨h1, h2, rfl⟩ := ha.ok HP.out
            have HW1 := Lib.hid (HW.out.next h1 h2)
            have hrow := HW1.out.row
            have hsz := HW1.out.size
            clear ha h1 h2 CP
            unfold sV
            go_wp2_with (at_builtin; refine Lib.wpList_append_own_stringF _ rfl _ _ 46 9 rfl w0.heap.size 5 i0 Tryz.underlying46 Tryz.underlying9 HI.out hz0 hz1 hz2 _ _ _ rfl hrow (mkS t) rfl ?c3 ?c4 ?c5 ?_)
            case c3 => rw [mkS_size]; unfold maxLen; omega
            case c4 => rw [mkS_size]; omega
            case c5 => exact hsz
            intro v' w2 hown' hgrow _
            have HW2 := Lib.hid (HW1.out.grown (s := t) hgrow hown')
            obtain ⟨A2, c2, hv2⟩ := HW2.out.form
            subst hv2
            clear hown' hgrow hrow
            have CA := Lib.hid (takes_any HW2.out.rd [38])
            rw [HA.out] at CA
            go_wp2_with fail
            refine CA.out.mono ?_
            rintro e w3 ⟨rfl, h1, h2⟩
            rw [trim_no HA.out] at h2
            have HW3 := Lib.hid (HW2.out.next h1 h2)
            clear h1 h2 CA
            have CA := Lib.hid (takes_any HW3.out.rd cdataB)
            rw [HB.out] at CA
            go_wp2_with fail
            refine CA.out.mono ?_
            rintro e w4 ⟨rfl, h1, h2⟩
            rw [trim_no HB.out] at h2
            have HW4 := Lib.hid (HW3.out.next h1 h2)
            clear h1 h2 CA
            have CA := Lib.hid (takes_any HW4.out.rd [60, 33, 45, 45])
            rw [HC.out] at CA
            go_wp2_with fail
            refine CA.out.mono ?_
            rintro e w5 ⟨rfl, h1, h2⟩
            have HW5 := Lib.hid (HW4.out.next h1 h2)
            clear h1 h2 CA
            go_wp2_with fail
            go_step3
            refine ⟨_, ?_, _, _, _, k, ?_, ?_, HW5.out, ⟨_, _, _, _, _, _, _, _, _, _, _, _, _, _, _, _, _, _, _, _, _, _, _, _, _, _, _, _, _, _, _, _, _, _, _, _, _, _, _, _, _, _, _, by rw [List.length_append]⟩, .inr (.inr (.inr (.inl ⟨rfl, rfl, ?_, HE.out⟩)))⟩
            · omega
            · omega
            · omega
            · simp only [List.length_append]; omega
          | false =>
            have HC := Lib.hid h2
            rw [if_neg (by rw [h2]; decide)] at hrr
            clear h2
            cases h3 : Lib.hasPrefix r1 [60, 63] with
            | true =>
              have HD := Lib.hid h3
              rw [if_pos h3] at hrr
              have HE := Lib.hid hrr
              have htl := trim_lt h3 (by decide)
              clear hrr h3
              go_wp2_with fail
              refine CP.out.mono ?_
              intro en w1 ha
              obtain ⟨h1, h2, rfl⟩ := ha.ok HP.out
              have HW1 := Lib.hid (HW.out.next h1 h2)
              have hrow := HW1.out.row
              have hsz := HW1.out.size
              clear ha h1 h2 CP
              unfold sV
              go_wp2_with (at_builtin; refine Lib.wpList_append_own_stringF _ rfl _ _ 46 9 rfl w0.heap.size 5 i0 Tryz.underlying46 Tryz.underlying9 HI.out hz0 hz1 hz2 _ _ _ rfl hrow (mkS t) rfl ?c3 ?c4 ?c5 ?_)
              case c3 => rw [mkS_size]; unfold maxLen; omega
              case c4 => rw [mkS_size]; omega
              case c5 => exact hsz
              intro v' w2 hown' hgrow _
              have HW2 := Lib.hid (HW1.out.grown (s := t) hgrow hown')
              obtain ⟨A2, c2, hv2⟩ := HW2.out.form
              subst hv2
              clear hown' hgrow hrow
              have CA := Lib.hid (takes_any HW2.out.rd [38])
              rw [HA.out] at CA
              go_wp2_with fail
              refine CA.out.mono ?_
              rintro e w3 ⟨rfl, h1, h2⟩
              rw [trim_no HA.out] at h2
              have HW3 := Lib.hid (HW2.out.next h1 h2)
              clear h1 h2 CA
              have CA := Lib.hid (takes_any HW3.out.rd cdataB)
              rw [HB.out] at CA
              go_wp2_with fail
              refine CA.out.mono ?_
              rintro e w4 ⟨rfl, h1, h2⟩
              rw [trim_no HB.out] at h2
              have HW4 := Lib.hid (HW3.out.next h1 h2)
              clear h1 h2 CA
              have CA := Lib.hid (takes_any HW4.out.rd [60, 33, 45, 45])
              rw [HC.out] at CA
              go_wp2_with fail
              refine CA.out.mono ?_
              rintro e w5 ⟨rfl, h1, h2⟩
              rw [trim_no HC.out] at h2
              have HW5 := Lib.hid (HW4.out.next h1 h2)
              clear h1 h2 CA
              have CA := Lib.hid (takes_any HW5.out.rd [60, 63])
              rw [HD.out] at CA
              go_wp2_with fail
              refine CA.out.mono ?_
              rintro e w6 ⟨rfl, h1, h2⟩
              have HW6 := Lib.hid (HW5.out.next h1 h2)
              clear h1 h2 CA
              go_wp2_with fail
              go_step3
              refine ⟨_, ?_, _, _, _, k, ?_, ?_, HW6.out, ⟨_, _, _, _, _, _, _, _, _, _, _, _, _, _, _, _, _, _, _, _, _, _, _, _, _, _, _, _, _, _, _, _, _, _, _, _, _, _, _, _, _, _, _, by rw [List.length_append]⟩, .inr (.inr (.inr (.inr ⟨rfl, rfl, ?_, HE.out⟩)))⟩
              · omega
              · omega
              · omega
              · simp only [List.length_append]; omega
            | false =>
              have HD := Lib.hid h3
              rw [if_neg (by rw [h3]; decide)] at hrr
              clear h3
              cases h4 : Lib.hasPrefix r1 [60, 33] with
              | true =>
                have HX := Lib.hid h4
                rw [if_pos h4] at hrr
                have HE := Lib.hid hrr.symm
                clear hrr h4
                go_wp2_with fail
                refine CP.out.mono ?_
                intro en w1 ha
                obtain ⟨h1, h2, rfl⟩ := ha.ok HP.out
                have HW1 := Lib.hid (HW.out.next h1 h2)
                have hrow := HW1.out.row
                have hsz := HW1.out.size
                clear ha h1 h2 CP
                unfold sV
                go_wp2_with (at_builtin; refine Lib.wpList_append_own_stringF _ rfl _ _ 46 9 rfl w0.heap.size 5 i0 Tryz.underlying46 Tryz.underlying9 HI.out hz0 hz1 hz2 _ _ _ rfl hrow (mkS t) rfl ?c3 ?c4 ?c5 ?_)
                case c3 => rw [mkS_size]; unfold maxLen; omega
                case c4 => rw [mkS_size]; omega
                case c5 => exact hsz
                intro v' w2 hown' hgrow _
                have HW2 := Lib.hid (HW1.out.grown (s := t) hgrow hown')
                obtain ⟨A2, c2, hv2⟩ := HW2.out.form
                subst hv2
                clear hown' hgrow hrow
                have CA := Lib.hid (takes_any HW2.out.rd [38])
                rw [HA.out] at CA
                go_wp2_with fail
                refine CA.out.mono ?_
                rintro e w3 ⟨rfl, h1, h2⟩
                rw [trim_no HA.out] at h2
                have HW3 := Lib.hid (HW2.out.next h1 h2)
                clear h1 h2 CA
                have CA := Lib.hid (takes_any HW3.out.rd cdataB)
                rw [HB.out] at CA
                go_wp2_with fail
                refine CA.out.mono ?_
                rintro e w4 ⟨rfl, h1, h2⟩
                rw [trim_no HB.out] at h2
                have HW4 := Lib.hid (HW3.out.next h1 h2)
                clear h1 h2 CA
                have CA := Lib.hid (takes_any HW4.out.rd [60, 33, 45, 45])
                rw [HC.out] at CA
                go_wp2_with fail
                refine CA.out.mono ?_
                rintro e w5 ⟨rfl, h1, h2⟩
                rw [trim_no HC.out] at h2
                have HW5 := Lib.hid (HW4.out.next h1 h2)
                clear h1 h2 CA
                have CA := Lib.hid (takes_any HW5.out.rd [60, 63])
                rw [HD.out] at CA
                go_wp2_with fail
                refine CA.out.mono ?_
                rintro e w6 ⟨rfl, h1, h2⟩
                rw [trim_no HD.out] at h2
                have HW6 := Lib.hid (HW5.out.next h1 h2)
                clear h1 h2 CA
                have CH := Lib.hid (fun w => Tryz.strings_HasPrefix (mkS r1) (mkS [60, 33]) w)
                rw [mkS_list, mkS_list, HX.out] at CH
                have cc := Blk.cell HW6.out.rd 0
                simp at cc
                go_wp2_with fail
                refine (CH.out _).mono ?_
                rintro e w7 ⟨rfl, rfl⟩
                go_wp2_with fail
                refine (must_no 100 _).mono ?_
                rintro e w8 ⟨rfl, rfl⟩
                unfold gaveUp
                go_wp2_with fail
                exact ⟨rfl, Ate.mkNo HW6.out.t HW6.out.rd HE.out⟩
              | false =>
                have HX := Lib.hid h4
                rw [if_neg (by rw [h4]; decide)] at hrr
                have HE := Lib.hid hrr.symm
                clear hrr h4
                go_wp2_with fail
                refine CP.out.mono ?_
                intro en w1 ha
                obtain ⟨h1, h2, rfl⟩ := ha.ok HP.out
                have HW1 := Lib.hid (HW.out.next h1 h2)
                have hrow := HW1.out.row
                have hsz := HW1.out.size
                clear ha h1 h2 CP
                unfold sV
                go_wp2_with (at_builtin; refine Lib.wpList_append_own_stringF _ rfl _ _ 46 9 rfl w0.heap.size 5 i0 Tryz.underlying46 Tryz.underlying9 HI.out hz0 hz1 hz2 _ _ _ rfl hrow (mkS t) rfl ?c3 ?c4 ?c5 ?_)
                case c3 => rw [mkS_size]; unfold maxLen; omega
                case c4 => rw [mkS_size]; omega
                case c5 => exact hsz
                intro v' w2 hown' hgrow _
                have HW2 := Lib.hid (HW1.out.grown (s := t) hgrow hown')
                obtain ⟨A2, c2, hv2⟩ := HW2.out.form
                subst hv2
                clear hown' hgrow hrow
                have CA := Lib.hid (takes_any HW2.out.rd [38])
                rw [HA.out] at CA
                go_wp2_with fail
                refine CA.out.mono ?_
                rintro e w3 ⟨rfl, h1, h2⟩
                rw [trim_no HA.out] at h2
                have HW3 := Lib.hid (HW2.out.next h1 h2)
                clear h1 h2 CA
                have CA := Lib.hid (takes_any HW3.out.rd cdataB)
                rw [HB.out] at CA
                go_wp2_with fail
                refine CA.out.mono ?_
                rintro e w4 ⟨rfl, h1, h2⟩
                rw [trim_no HB.out] at h2
                have HW4 := Lib.hid (HW3.out.next h1 h2)
                clear h1 h2 CA
                have CA := Lib.hid (takes_any HW4.out.rd [60, 33, 45, 45])
                rw [HC.out] at CA
                go_wp2_with fail
                refine CA.out.mono ?_
                rintro e w5 ⟨rfl, h1, h2⟩
                rw [trim_no HC.out] at h2
                have HW5 := Lib.hid (HW4.out.next h1 h2)
                clear h1 h2 CA
                have CA := Lib.hid (takes_any HW5.out.rd [60, 63])
                rw [HD.out] at CA
                go_wp2_with fail
                refine CA.out.mono ?_
                rintro e w6 ⟨rfl, h1, h2⟩
                rw [trim_no HD.out] at h2
                have HW6 := Lib.hid (HW5.out.next h1 h2)
                clear h1 h2 CA
                have CH := Lib.hid (fun w => Tryz.strings_HasPrefix (mkS r1) (mkS [60, 33]) w)
                rw [mkS_list, mkS_list, HX.out] at CH
                have cc := Blk.cell HW6.out.rd 0
                simp at cc
                go_wp2_with fail
                refine (CH.out _).mono ?_
                rintro e w7 ⟨rfl, rfl⟩
                go_wp2_with fail
                refine (must_yes 100 _).mono ?_
                rintro e w8 ⟨rfl, rfl⟩
                have hcv := ownF_conv HW6.out.row
                simp only [List.length_append] at hcv
                go_wp2_with fail
                try simp only [jumpM]
                go_ret
                exact Ate.mkOk HW6.out.t HW6.out.rd HE.out
  case p1 =>
    rintro n a w ⟨r, v, o, k, hk, hr, hW, ⟨u1, u2, u4, u5, u6, u7, u8, u9, u10, u11, u12, u13, u14, u15, u16, u17, u18, u19, u20, u21, u22, u23, u24, u25, u26, u27, u28, u29, u30, u31, u32, u33, u34, u35, u36, u37, u38, u39, u40, u41, u42, u43, u44, rfl⟩, hor⟩
    obtain ⟨hn, ho, hres⟩ : n = 2 * r.length + 2 ∧ o.length + 4 * r.length + 4 ≤ 200000 ∧ ((entityR r).bind fun y => runR k (o ++ Lib.encodeRune (y.1 : Int)) y.2) = res := by
      rcases hor with ⟨h0, -⟩ | ⟨-, h1, h2, h3⟩ | ⟨h0, -⟩ | ⟨h0, -⟩ | ⟨h0, -⟩
      · cases h0
      · exact ⟨h1, h2, h3⟩
      · cases h0
      · cases h0
      · cases h0
    clear hor
    have HW := Lib.hid hW
    have CE := Lib.hid (entity_any hW.rd (HEN.out w hW.t) hr)
    obtain ⟨A0, c0, hv0⟩ := hW.form
    subst hv0
    clear hW
    cases he : entityR r with
    | error e =>
      have HE : Hid (res = .error e) := by show res = _; rw [← hres, he]; rfl
      have HP := Lib.hid he
      clear he hres hn ho hk
      go_wp2_with fail
      refine CE.out.mono ?_
      intro en w1 ha
      obtain ⟨h1, ⟨r', h2⟩, rfl⟩ := ha.no HP.out
      have HW1 := Lib.hid (HW.out.next h1 h2)
      clear ha h1 h2 CE
      unfold gaveUp
      go_wp2_with fail
      exact ⟨rfl, Ate.mkNo HW1.out.t HW1.out.rd HE.out⟩
    | ok x =>
      obtain ⟨ch, r1⟩ := x
      have HE : Hid (runR k (o ++ Lib.encodeRune (ch : Int)) r1 = res) := by show _ = res; rw [← hres, he]; rfl
      have hlen := entityR_len he
      have hch : (ch : Int) ≤ 2147483647 := by
        have := entityR_small he
        omega
      have HP := Lib.hid he
      clear he hres
      have CR := Lib.hid (fun w v n xs h1 h2 h3 => Tryz.utf8_AppendRune_row w0.heap.size v n xs (ch : Int) (by omega) hch w h1 h2 h3)
      go_wp2_with fail
      refine CE.out.mono ?_
      intro en w1 ha
      obtain ⟨h1, h2, rfl⟩ := ha.ok HP.out
      have HW1 := Lib.hid (HW.out.next h1 h2)
      have CR1 := Lib.hid (CR.out w1 _ _ _ HW1.out.row (by omega) HW1.out.size)
      clear ha h1 h2 CE CR
      unfold rV
      go_wp2_with fail
      refine CR1.out.mono ?_
      rintro e w2 ⟨v', rfl, hown', ob, hgrow⟩
      have hl4 : (Lib.encodeRune (ch : Int)).length ≤ 4 := by have := (Lib.runeCells_le (ch : Int)).2; rw [Lib.runeCells_length] at this; exact this
      have HW2 : Hid (RunW w0 g v1 v2 v3 v4 r1 v' (o ++ Lib.encodeRune (ch : Int)) w2) := by
        refine RunW.grown (w := w1.alloc ob) ⟨Blk.alloc HW1.out.rd _, ownF_turned HW1.out.row ((Turned.refl [] w1).alloc ob) (fun k hk hm => by cases hm), HW1.out.t.alloc ob⟩ hgrow ?_
        rw [← Lib.runeCells_length]
        have : u8L (Lib.encodeRune (ch : Int)) = Lib.runeCells (ch : Int) := Lib.byteCells_encodeRune _
        rw [this]
        exact hown'
      clear hown' hgrow CR1
      go_wp2_with fail
      go_step3
      refine ⟨_, ?_, _, _, _, k, ?_, ?_, HW2.out, ⟨_, _, _, _, _, _, _, _, _, _, _, _, _, _, _, _, _, _, _, _, _, _, _, _, _, _, _, _, _, _, _, _, _, _, _, _, _, _, _, _, _, _, _, rfl⟩, .inl ⟨rfl, rfl, ?_, HE.out⟩⟩
      · omega
      · omega
      · omega
      · simp only [List.length_append]; omega
  case p2 =>
    rintro n a w ⟨r, v, o, k, hk, hr, hW, ⟨u1, u2, u4, u5, u6, u7, u8, u9, u10, u11, u12, u13, u14, u15, u16, u17, u18, u19, u20, u21, u22, u23, u24, u25, u26, u27, u28, u29, u30, u31, u32, u33, u34, u35, u36, u37, u38, u39, u40, u41, u42, u43, u44, rfl⟩, hor⟩
    obtain ⟨hn, ho, hres⟩ : n = 2 * r.length + 2 ∧ o.length + 4 * r.length ≤ 200000 ∧ ((upToR [93, 93, 62] r).bind fun y => runR k (o ++ y.1) y.2) = res := by
      rcases hor with ⟨h0, -⟩ | ⟨h0, -⟩ | ⟨-, h1, h2, h3⟩ | ⟨h0, -⟩ | ⟨h0, -⟩
      · cases h0
      · cases h0
      · exact ⟨h1, h2, h3⟩
      · cases h0
      · cases h0
    clear hor
    have HW := Lib.hid hW
    have CP := Lib.hid (upTo_any hW.rd (HEN.out w hW.t) hr [93, 93, 62])
    obtain ⟨A0, c0, hv0⟩ := hW.form
    subst hv0
    clear hW
    cases he : upToR [93, 93, 62] r with
    | error e =>
      have HE : Hid (res = .error e) := by show res = _; rw [← hres, he]; rfl
      have HP := Lib.hid he
      clear he hres hn ho hk
      go_wp2_with fail
      refine CP.out.mono ?_
      intro en w1 ha
      obtain ⟨h1, ⟨r', h2⟩, rfl⟩ := ha.no HP.out
      have HW1 := Lib.hid (HW.out.next h1 h2)
      clear ha h1 h2 CP
      unfold gaveUp
      go_wp2_with fail
      exact ⟨rfl, Ate.mkNo HW1.out.t HW1.out.rd HE.out⟩
    | ok x =>
      obtain ⟨t, r1⟩ := x
      have hlen : t.length + r1.length ≤ r.length := upToR_both he
      have HE : Hid (runR k (o ++ t) r1 = res) := by show _ = res; rw [← hres, he]; rfl
      have HP := Lib.hid he
      clear he hres
      go_wp2_with fail
      refine CP.out.mono ?_
      intro en w1 ha
      obtain ⟨h1, h2, rfl⟩ := ha.ok HP.out
      have HW1 := Lib.hid (HW.out.next h1 h2)
      have hrow := HW1.out.row
      have hsz := HW1.out.size
      clear ha h1 h2 CP
      unfold sV
      go_wp2_with (at_builtin; refine Lib.wpList_append_own_stringF _ rfl _ _ 46 9 rfl w0.heap.size 5 i0 Tryz.underlying46 Tryz.underlying9 HI.out hz0 hz1 hz2 _ _ _ rfl hrow (mkS t) rfl ?c3 ?c4 ?c5 ?_)
      case c3 => rw [mkS_size]; unfold maxLen; omega
      case c4 => rw [mkS_size]; omega
      case c5 => exact hsz
      intro v' w2 hown' hgrow _
      have HW2 := Lib.hid (HW1.out.grown (s := t) hgrow hown')
      obtain ⟨A2, c2, hv2⟩ := HW2.out.form
      subst hv2
      clear hown' hgrow hrow
      go_wp2_with fail
      go_step3
      refine ⟨_, ?_, _, _, _, k, ?_, ?_, HW2.out, ⟨_, _, _, _, _, _, _, _, _, _, _, _, _, _, _, _, _, _, _, _, _, _, _, _, _, _, _, _, _, _, _, _, _, _, _, _, _, _, _, _, _, _, _, by rw [List.length_append]⟩, .inl ⟨rfl, rfl, ?_, HE.out⟩⟩
      · omega
      · omega
      · omega
      · simp only [List.length_append]; omega
  case p3 =>
    rintro n a w ⟨r, v, o, k, hk, hr, hW, ⟨u1, u2, u4, u5, u6, u7, u8, u9, u10, u11, u12, u13, u14, u15, u16, u17, u18, u19, u20, u21, u22, u23, u24, u25, u26, u27, u28, u29, u30, u31, u32, u33, u34, u35, u36, u37, u38, u39, u40, u41, u42, u43, u44, rfl⟩, hor⟩
    obtain ⟨hn, ho, hres⟩ : n = 2 * r.length + 2 ∧ o.length + 4 * r.length ≤ 200000 ∧ ((upToR [45, 45] r).bind fun y => (wantR [62] y.2).bind fun z => runR k o z.2) = res := by
      rcases hor with ⟨h0, -⟩ | ⟨h0, -⟩ | ⟨h0, -⟩ | ⟨-, h1, h2, h3⟩ | ⟨h0, -⟩
      · cases h0
      · cases h0
      · cases h0
      · exact ⟨h1, h2, h3⟩
      · cases h0
    clear hor
    have HW := Lib.hid hW
    have CP := Lib.hid (upTo_any hW.rd (HEN.out w hW.t) hr [45, 45])
    obtain ⟨A0, c0, hv0⟩ := hW.form
    subst hv0
    clear hW
    cases he : upToR [45, 45] r with
    | error e =>
      have HE : Hid (res = .error e) := by show res = _; rw [← hres, he]; rfl
      have HP := Lib.hid he
      clear he hres hn ho hk
      go_wp2_with fail
      refine CP.out.mono ?_
      intro en w1 ha
      obtain ⟨h1, ⟨r', h2⟩, rfl⟩ := ha.no HP.out
      have HW1 := Lib.hid (HW.out.next h1 h2)
      clear ha h1 h2 CP
      unfold gaveUp
      go_wp2_with fail
      exact ⟨rfl, Ate.mkNo HW1.out.t HW1.out.rd HE.out⟩
    | ok x =>
      obtain ⟨t, r1⟩ := x
      have hlen : r1.length ≤ r.length := upToR_len he
      have HP := Lib.hid he
      cases hw : wantR [62] r1 with
      | error e =>
        have HE : Hid (res = .error e) := by show res = _; rw [← hres, he]; show ((wantR [62] r1).bind _ : RR Bs) = _; rw [hw]; rfl
        have HQ := Lib.hid hw
        clear he hw hres hn ho hk
        go_wp2_with fail
        refine CP.out.mono ?_
        intro en w1 ha
        obtain ⟨h1, h2, rfl⟩ := ha.ok HP.out
        have HW1 := Lib.hid (HW.out.next h1 h2)
        have CW := Lib.hid (want_any h2 [62])
        clear ha h1 h2 CP
        unfold sV
        go_wp2_with fail
        refine CW.out.mono ?_
        intro en w2 ha
        obtain ⟨h1, ⟨r', h2⟩, rfl⟩ := ha.no HQ.out
        have HW2 := Lib.hid (HW1.out.next h1 h2)
        clear ha h1 h2 CW
        unfold gaveUp
        go_wp2_with fail
        exact ⟨rfl, Ate.mkNo HW2.out.t HW2.out.rd HE.out⟩
      | ok y =>
        obtain ⟨u, r2⟩ := y
        have hlen2 : r2.length ≤ r1.length := (wantR_len hw).1
        have HE : Hid (runR k o r2 = res) := by show _ = res; rw [← hres, he]; show _ = ((wantR [62] r1).bind _ : RR Bs); rw [hw]; rfl
        have HQ := Lib.hid hw
        clear he hw hres
        go_wp2_with fail
        refine CP.out.mono ?_
        intro en w1 ha
        obtain ⟨h1, h2, rfl⟩ := ha.ok HP.out
        have HW1 := Lib.hid (HW.out.next h1 h2)
        have CW := Lib.hid (want_any h2 [62])
        clear ha h1 h2 CP
        unfold sV
        go_wp2_with fail
        refine CW.out.mono ?_
        intro en w2 ha
        obtain ⟨h1, h2, rfl⟩ := ha.ok HQ.out
        have HW2 := Lib.hid (HW1.out.next h1 h2)
        clear ha h1 h2 CW
        unfold uV
        go_wp2_with fail
        go_step3
        refine ⟨_, ?_, _, _, _, k, ?_, ?_, HW2.out, ⟨_, _, _, _, _, _, _, _, _, _, _, _, _, _, _, _, _, _, _, _, _, _, _, _, _, _, _, _, _, _, _, _, _, _, _, _, _, _, _, _, _, _, _, rfl⟩, .inl ⟨rfl, rfl, ?_, HE.out⟩⟩
        · omega
        · omega
        · omega
        · omega
  case p4 =>
    rintro n a w ⟨r, v, o, k, hk, hr, hW, ⟨u1, u2, u4, u5, u6, u7, u8, u9, u10, u11, u12, u13, u14, u15, u16, u17, u18, u19, u20, u21, u22, u23, u24, u25, u26, u27, u28, u29, u30, u31, u32, u33, u34, u35, u36, u37, u38, u39, u40, u41, u42, u43, u44, rfl⟩, hor⟩
    obtain ⟨hn, ho, hres⟩ : n = 2 * r.length + 2 ∧ o.length + 4 * r.length ≤ 200000 ∧ ((nameR r).bind fun y => (upToR [63, 62] y.2).bind fun z => runR k o z.2) = res := by
      rcases hor with ⟨h0, -⟩ | ⟨h0, -⟩ | ⟨h0, -⟩ | ⟨h0, -⟩ | ⟨-, h1, h2, h3⟩
      · cases h0
      · cases h0
      · cases h0
      · cases h0
      · exact ⟨h1, h2, h3⟩
    clear hor
    have HW := Lib.hid hW
    have CP := Lib.hid (name_any hW.rd hr)
    obtain ⟨A0, c0, hv0⟩ := hW.form
    subst hv0
    clear hW
    cases he : nameR r with
    | error e =>
      have HE : Hid (res = .error e) := by show res = _; rw [← hres, he]; rfl
      have HP := Lib.hid he
      clear he hres hn ho hk
      go_wp2_with fail
      refine CP.out.mono ?_
      intro en w1 ha
      obtain ⟨h1, ⟨r', h2⟩, rfl⟩ := ha.no HP.out
      have HW1 := Lib.hid (HW.out.next h1 h2)
      clear ha h1 h2 CP
      unfold gaveUp
      go_wp2_with fail
      exact ⟨rfl, Ate.mkNo HW1.out.t HW1.out.rd HE.out⟩
    | ok x =>
      obtain ⟨t, r1⟩ := x
      have hlen : r1.length ≤ r.length := Nat.le_of_lt (nameR_len he)
      have HP := Lib.hid he
      cases hw : upToR [63, 62] r1 with
      | error e =>
        have HE : Hid (res = .error e) := by show res = _; rw [← hres, he]; show ((upToR [63, 62] r1).bind _ : RR Bs) = _; rw [hw]; rfl
        have HQ := Lib.hid hw
        clear he hw hres hn ho hk
        go_wp2_with fail
        refine CP.out.mono ?_
        intro en w1 ha
        obtain ⟨h1, h2, rfl⟩ := ha.ok HP.out
        have HW1 := Lib.hid (HW.out.next h1 h2)
        have CW := Lib.hid (upTo_any h2 (HEN.out w1 HW1.out.t) (show r1.length ≤ 40000 by omega) [63, 62])
        clear ha h1 h2 CP
        unfold sV
        go_wp2_with fail
        refine CW.out.mono ?_
        intro en w2 ha
        obtain ⟨h1, ⟨r', h2⟩, rfl⟩ := ha.no HQ.out
        have HW2 := Lib.hid (HW1.out.next h1 h2)
        clear ha h1 h2 CW
        unfold gaveUp
        go_wp2_with fail
        exact ⟨rfl, Ate.mkNo HW2.out.t HW2.out.rd HE.out⟩
      | ok y =>
        obtain ⟨u, r2⟩ := y
        have hlen2 : r2.length ≤ r1.length := upToR_len hw
        have HE : Hid (runR k o r2 = res) := by show _ = res; rw [← hres, he]; show _ = ((upToR [63, 62] r1).bind _ : RR Bs); rw [hw]; rfl
        have HQ := Lib.hid hw
        clear he hw hres
        go_wp2_with fail
        refine CP.out.mono ?_
        intro en w1 ha
        obtain ⟨h1, h2, rfl⟩ := ha.ok HP.out
        have HW1 := Lib.hid (HW.out.next h1 h2)
        have CW := Lib.hid (upTo_any h2 (HEN.out w1 HW1.out.t) (show r1.length ≤ 40000 by omega) [63, 62])
        clear ha h1 h2 CP
        unfold sV
        go_wp2_with fail
        refine CW.out.mono ?_
        intro en w2 ha
        obtain ⟨h1, h2, rfl⟩ := ha.ok HQ.out
        have HW2 := Lib.hid (HW1.out.next h1 h2)
        clear ha h1 h2 CW
        unfold sV
        go_wp2_with fail
        go_step3
        refine ⟨_, ?_, _, _, _, k, ?_, ?_, HW2.out, ⟨_, _, _, _, _, _, _, _, _, _, _, _, _, _, _, _, _, _, _, _, _, _, _, _, _, _, _, _, _, _, _, _, _, _, _, _, _, _, _, _, _, _, _, rfl⟩, .inl ⟨rfl, rfl, ?_, HE.out⟩⟩
        · omega
        · omega
        · omega
        · omega
end
end Go.Proofs.YtljldbdjkjllhaaGreatDoor

/- A list of attributes in memory; whether one of them has a name. -/
namespace Go.Proofs.YtljldbdjkjllhaaGreatDoor
set_option linter.unusedSimpArgs false
set_option linter.unusedVariables false
open Go.RowKit

abbrev Al := List (Bs × Bs)
/-- The cells of attributes; where they lie. -/
def alL (l : Al) : List Value := l.flatMap fun a => [.string (mkS a.1), .string (mkS a.2)]
theorem alL_app (a b : Al) : alL (a ++ b) = alL a ++ alL b := List.flatMap_append ..
theorem alL_at {l : Al} {k : Nat} {a : Bs × Bs} (h : l[k]? = some a) : (alL l)[k * 2]? = some (.string (mkS a.1)) ∧ (alL l)[k * 2 + 1]? = some (.string (mkS a.2)) := by
  induction l generalizing k with
  | nil => cases h
  | cons b r ih =>
    have hc : alL (b :: r) = .string (mkS b.1) :: .string (mkS b.2) :: alL r := rfl
    cases k with
    | zero => injection h with h; subst h; exact ⟨rfl, rfl⟩
    | succ k =>
      have := ih (k := k) (by simpa using h)
      rw [hc, show (k + 1) * 2 = k * 2 + 1 + 1 by omega, show k * 2 + 1 + 1 + 1 = (k * 2 + 1) + 1 + 1 by omega]
      simpa using this
def PairsAt (w : World) (b o : Nat) (l : Al) : Prop := ∀ k a, l[k]? = some a → w.cell? ⟨b, o + k * 2, none⟩ = some (.string (mkS a.1)) ∧ w.cell? ⟨b, o + k * 2 + 1, none⟩ = some (.string (mkS a.2))
/-- A slice of attributes: where there are any, they lie somewhere. -/
def AlAt (w : World) (B : Nat) (A : Option Addr) (l : Al) : Prop := 0 < l.length → ∃ b o, A = some ⟨b, o, none⟩ ∧ b < B ∧ PairsAt w b o l
theorem AlAt.below {w w' : World} {B B' : Nat} {A : Option Addr} {l : Al} (h : AlAt w B A l) (hb : Below B' w w') (hB : B ≤ B') : AlAt w' B A l := fun hl => by
  obtain ⟨b, o, rfl, hlt, hp⟩ := h hl
  refine ⟨b, o, rfl, hlt, fun k a hk => ?_⟩
  have e := hb.block b (Nat.lt_of_lt_of_le hlt hB)
  exact ⟨(World.cell?_of_block (a := ⟨b, o + k * 2, none⟩) e).trans (hp k a hk).1, (World.cell?_of_block (a := ⟨b, o + k * 2 + 1, none⟩) e).trans (hp k a hk).2⟩
def hasNm (nm : Bs) (a : Bs × Bs) : Bool := decide (a.1 = nm)
set_option maxHeartbeats 1000000 in
set_option maxRecDepth 100000 in
theorem same_any (nm : Bs) (a : Bs × Bs) (p : Nat) (w : World) (hc : w.cell? ⟨p, 0, none⟩ = some (.string (mkS nm))) :
    Calls Tryz.prog 214 #[.agg #[.string (mkS a.1), .string (mkS a.2)], .pointer (some ⟨p, 0, none⟩)] w fun e w' => e = .returned (.bool (hasNm nm a)) ∧ Below w.heap.size w w' := by
  have hlt := cell_lt hc
  have hb : Below w.heap.size w (w.alloc (.cells #[.string (mkS a.1), .string (mkS a.2)] 172)) := (Below.refl _ _).alloc (Nat.le_refl _) _
  have hc2 := (World.cell?_of_block (a := ⟨p, 0, none⟩) (hb.block p hlt)).trans hc
  have HB := Lib.hid hb
  have hp : ¬ p = w.heap.size := by have h : p < w.heap.size := hlt; omega
  have K := (Blk.new w 172 #[.string (mkS a.1), .string (mkS a.2)])
  have k0 := K.cell 0
  simp at k0
  clear hb K hlt
  by_cases h : a.1 = nm
  · have t1 : ((mkS a.1).toList == (mkS nm).toList) = true := by rw [h]; simp
    have HV : Hid (hasNm nm a = true) := decide_eq_true h
    clear h
    generalize mkS a.1 = s1 at *
    generalize mkS nm = s2 at *
    go_enter Tryz.func214, Tryz.ntmps214
    go_wp2_with fail
    go_ret
    exact ⟨by rw [HV.out]; rfl, HB.out⟩
  · have t1 : ((mkS a.1).toList == (mkS nm).toList) = false := str_ne (fun e => h (mkS_inj e))
    have HV : Hid (hasNm nm a = false) := decide_eq_false h
    clear h
    generalize mkS a.1 = s1 at *
    generalize mkS nm = s2 at *
    go_enter Tryz.func214, Tryz.ntmps214
    go_wp2_with fail
    go_ret
    exact ⟨by rw [HV.out]; rfl, HB.out⟩
end Go.Proofs.YtljldbdjkjllhaaGreatDoor

/- An attribute is taken. -/
namespace Go.Proofs.YtljldbdjkjllhaaGreatDoor
set_option linter.unusedSimpArgs false
set_option linter.unusedVariables false
open Go.RowKit

/-- While an attribute is taken: what it answers lies at p, its name at q. -/
structure AtS (w0 : World) (g p q : Nat) (nm : Bs) (v1 v2 v3 v4 : Value) (r : Bs) (w : World) : Prop where
  t : Turned [g] w0 w
  rd : RdB w g r v1 v2 v3 v4
  res : Blk w p 172 #[.string ⟨#[]⟩, .string ⟨#[]⟩]
  nam : Blk w q 9 #[.string (mkS nm)]
  ne : p ≠ g ∧ q ≠ g ∧ p ≠ q
  new : w0.heap.size ≤ p
theorem AtS.next {w0 w w' : World} {g p q : Nat} {nm : Bs} {v1 v2 v3 v4 : Value} {r r' : Bs} (h : AtS w0 g p q nm v1 v2 v3 v4 r w) (ht : Turned [g] w w') (hr : RdB w' g r' v1 v2 v3 v4) : AtS w0 g p q nm v1 v2 v3 v4 r' w' :=
  ⟨h.t.trans ht (frG _ _), hr, h.res.turned ht (by simpa using h.ne.1), h.nam.turned ht (by simpa using h.ne.2.1), h.ne, h.new⟩
theorem AtS.done {w0 w : World} {g p q : Nat} {nm vv : Bs} {v1 v2 v3 v4 : Value} {r : Bs} (h : AtS w0 g p q nm v1 v2 v3 v4 r w) :
    w.cell? ⟨q, 0, none⟩ = ((w.setCell ⟨p, 0, none⟩ (.string (mkS nm))).setCell ⟨p, 1, none⟩ (.string (mkS vv))).cell? ⟨q, 0, none⟩ ∧ Blk ((w.setCell ⟨p, 0, none⟩ (.string (mkS nm))).setCell ⟨p, 1, none⟩ (.string (mkS vv))) p 172 #[.string (mkS nm), .string (mkS vv)] ∧
    Turned [g] w0 ((w.setCell ⟨p, 0, none⟩ (.string (mkS nm))).setCell ⟨p, 1, none⟩ (.string (mkS vv))) ∧ RdB ((w.setCell ⟨p, 0, none⟩ (.string (mkS nm))).setCell ⟨p, 1, none⟩ (.string (mkS vv))) g r v1 v2 v3 v4 := by
  have h1 := h.ne.1
  have h2 := h.ne.2.2
  refine ⟨?_, (h.res.set_ 0 _).set_ 1 _, (h.t.setCell (.inr h.new) _).setCell (.inr h.new) _, Blk.far (Blk.far h.rd (Ne.symm h1) _) (Ne.symm h1) _⟩
  have n1 := (h.nam.far (p := ⟨p, 0, none⟩) (Ne.symm h2) (.string (mkS nm))).far (p := ⟨p, 1, none⟩) (Ne.symm h2) (.string (mkS vv))
  rw [n1.cell 0, h.nam.cell 0]
section
variable {w0 : World} {B g : Nat} {r : Bs} {v1 v2 v3 v4 : Value}
end
end Go.Proofs.YtljldbdjkjllhaaGreatDoor

/- A reader with what is open; an element ends. -/
namespace Go.Proofs.YtljldbdjkjllhaaGreatDoor
set_option linter.unusedSimpArgs false
set_option linter.unusedVariables false
open Go.RowKit

def strL (l : List Bs) : List Value := l.map fun n => .string (mkS n)
/-- The attributes of a piece lie in a block of their own kind. -/
def AlK (w : World) (A : Option Addr) (l : Al) : Prop := 0 < l.length → ∃ b cs, A = some ⟨b, 0, none⟩ ∧ Blk w b 172 cs ∧ PairsAt w b 0 l
theorem AlK.turned {w w' : World} {F : List Nat} {A : Option Addr} {l : Al} (h : AlK w A l) (ht : Turned F w w') (hF : ∀ k ∈ F, ∀ cs, ¬ Blk w k 172 cs) : AlK w' A l := fun hl => by
  obtain ⟨b, cs, rfl, hb, hp⟩ := h hl
  have hn : b ∉ F := fun hm => hF b hm cs hb
  have e := ht.block b hb.lt hn
  exact ⟨b, cs, rfl, hb.turned ht hn, fun k a hk => ⟨(World.cell?_of_block (a := ⟨b, 0 + k * 2, none⟩) e).trans (hp k a hk).1, (World.cell?_of_block (a := ⟨b, 0 + k * 2 + 1, none⟩) e).trans (hp k a hk).2⟩⟩
theorem AlK.nil {w : World} {A : Option Addr} : AlK w A [] := fun h => by simp at h
theorem own_alK {w : World} {base : Nat} {A : Option Addr} {m c : Nat} {l : Al} (h : w.ownsRow base 172 2 (.slice A m c) l.length (alL l)) : AlK w A l := fun hl => by
  rcases h.2 with ⟨_, h0⟩ | ⟨g, cap, cur, hv, hb, hg, h1, h2, h3, ht⟩
  · omega
  · injection hv with e1 e2 e3
    subst e1
    refine ⟨g, cur, rfl, hg, fun k a hk => ?_⟩
    obtain ⟨b', e, c1⟩ := own_ats h (alL_at hk).1
    obtain ⟨b'', e', c2⟩ := own_ats h (alL_at hk).2
    injection e with e; injection e with e; subst e
    injection e' with e'; injection e' with e'; subst e'
    rw [Nat.zero_add]
    exact ⟨c1, c2⟩
/-- A piece as a value. -/
def pcV (pc : Pc) (A : Option Addr) (c : Nat) : Value := .agg #[.int .i64 pc.kind, .string (mkS pc.name), .slice A pc.attrs.length c, .string (mkS pc.text)]
def PcV (w : World) (pc : Pc) (v : Value) : Prop := ∃ A c, v = pcV pc A c ∧ pc.attrs.length ≤ c ∧ c ≤ maxLen ∧ AlK w A pc.attrs
def fOf (g : Nat) (vo : Value) : List Nat := match vo.ownBlock with
  | some k => [g, k]
  | none => [g]
theorem fOf_mem {g : Nat} {vo : Value} {k : Nat} : k ∈ fOf g vo ↔ k = g ∨ vo.ownBlock = some k := by
  unfold fOf
  cases h : vo.ownBlock with
  | none => simp
  | some b => simp; constructor <;> (intro h; rcases h with h | h <;> simp [h])
/-- A reader in memory. -/
structure XRd (w : World) (base g : Nat) (vo : Value) (s : XS) (wr : Int) : Prop where
  blk : RdB w g s.rest vo (.bool s.begun) (.bool s.short) (.int .i64 wr)
  row : w.ownsRow base 9 1 vo s.opn.length (strL s.opn)
  far : base ≤ g
section
variable {w w' : World} {base g : Nat} {vo : Value} {s : XS} {wr : Int}
theorem XRd.drew (h : XRd w base g vo s wr) : XRd w.drew base g vo s wr := ⟨h.blk, h.row, h.far⟩
theorem XRd.vo_ne (h : XRd w base g vo s wr) : vo.ownBlock ≠ some g := own_kind h.row h.blk (by decide)
theorem XRd.not_kind (h : XRd w base g vo s wr) {k : Nat} (hk : k ∈ fOf g vo) {t : TypeId} {cs : Array Value} (h1 : t ≠ 98) (h2 : t ≠ 9) : ¬ Blk w k t cs := fun hb => by
  rcases fOf_mem.1 hk with rfl | hk
  · exact Blk.kind hb h.blk h1 rfl
  · exact own_kind h.row hb (Ne.symm h2) hk
theorem XRd.turned {F : List Nat} (h : XRd w base g vo s wr) (ht : Turned F w w') (hF : ∀ k ∈ F, k ∉ fOf g vo) : XRd w' base g vo s wr :=
  ⟨Blk.turned h.blk ht (fun hm => hF g hm (fOf_mem.2 (.inl rfl))), own_turned h.row ht (fun k hk hm => hF k hm (fOf_mem.2 (.inr hk))), h.far⟩
/-- What took from the rest alone. -/
theorem XRd.ate (h : XRd w base g vo s wr) (ht : Turned [g] w w') {r' : Bs} (hr : RdB w' g r' vo (.bool s.begun) (.bool s.short) (.int .i64 wr)) : XRd w' base g vo { s with rest := r' } wr :=
  ⟨hr, own_turned h.row ht (fun k hk hm => by simp at hm; subst hm; exact h.vo_ne hk), h.far⟩
theorem one_of {F : List Nat} {g : Nat} (hg : g ∈ F) (ht : Turned [g] w w') : Turned F w w' := ht.more fun k hk => by simp at hk; subst hk; exact hg
theorem g_mem (g : Nat) (vo : Value) : g ∈ fOf g vo := fOf_mem.2 (.inl rfl)
end
/-- A call told a piece, or gave up. -/
def Told (w : World) (base g : Nat) (vo : Value) (wr : Int) (res : Except Int (Pc × XS)) (e : Ending) (w' : World) : Prop :=
  Turned (fOf g vo) w w' ∧ ∃ vo' s', XRd w' base g vo' s' wr ∧ Fresh w (fOf g vo) (fOf g vo') ∧
    ((∃ pc v, res = .ok (pc, s') ∧ e = .returned v ∧ PcV w' pc v) ∨ ∃ k, res = .error k ∧ e = gaveUp k)
section
variable {w : World} {base g : Nat} {vo : Value} {s : XS} {wr : Int}
end
end Go.Proofs.YtljldbdjkjllhaaGreatDoor

/- A piece is stored whole. -/
namespace Go.Proofs.YtljldbdjkjllhaaGreatDoor
set_option linter.unusedSimpArgs false
set_option linter.unusedVariables false
open Go.RowKit

section
variable {w w' w0 : World} {base g : Nat} {vo : Value} {s : XS} {wr : Int}
end
end Go.Proofs.YtljldbdjkjllhaaGreatDoor

/- An end. -/
namespace Go.Proofs.YtljldbdjkjllhaaGreatDoor
set_option linter.unusedSimpArgs false
set_option linter.unusedVariables false
open Go.RowKit

section
variable {w w' : World} {base g : Nat} {vo : Value} {s : XS} {wr : Int}
theorem Told.mkNo {s' : XS} {res : Except Int (Pc × XS)} {k : Int} (ht : Turned (fOf g vo) w w') (h : XRd w' base g vo s' wr) (he : res = .error k) : Told w base g vo wr res (gaveUp k) w' :=
  ⟨ht, vo, s', h, fun _ hk => .inl hk, .inr ⟨k, he, rfl⟩⟩
/-- What is told behind what took from the rest alone, and new blocks. -/
theorem Told.behind {w1 : World} {res : Except Int (Pc × XS)} {e : Ending} (ht : Turned (fOf g vo) w w1) (h : Told w1 base g vo wr res e w') : Told w base g vo wr res e w' := by
  obtain ⟨h1, vo', s', h2, h3, h4⟩ := h
  refine ⟨ht.trans h1 (Fresh.refl _ _), vo', s', h2, fun k hk => ?_, h4⟩
  rcases h3 k hk with h | h
  · exact .inl h
  · have := ht.size
    exact .inr (by omega)
/-- While an end is taken: what is answered lies at p. -/
structure EnS (w0 : World) (base g p : Nat) (vo : Value) (s : XS) (wr : Int) (w : World) : Prop where
  t : Turned (fOf g vo) w0 w
  rd : XRd w base g vo s wr
  res : Blk w p 68 #[.int .i64 0, .string ⟨#[]⟩, .slice none 0 0, .string ⟨#[]⟩]
  new : w0.heap.size ≤ p
theorem EnS.ne {w0 : World} {p : Nat} (h : EnS w0 base g p vo s wr w) : p ∉ fOf g vo := fun hm => h.rd.not_kind hm (by decide) (by decide) h.res
theorem EnS.next {w0 : World} {p : Nat} (h : EnS w0 base g p vo s wr w) (ht : Turned [g] w w') {r' : Bs} (hr : RdB w' g r' vo (.bool s.begun) (.bool s.short) (.int .i64 wr)) : EnS w0 base g p vo { s with rest := r' } wr w' :=
  ⟨h.t.trans (one_of (g_mem _ _) ht) (Fresh.refl _ _), h.rd.ate ht hr, h.res.turned ht (fun hm => h.ne (by simp at hm; subst hm; exact g_mem _ _)), h.new⟩
theorem EnS.first (h : XRd w base g vo s wr) : EnS w base g w.heap.size vo s wr (w.alloc (.cells #[.int .i64 0, .string ⟨#[]⟩, .slice none 0 0, .string ⟨#[]⟩] 68)) :=
  ⟨(Turned.refl _ _).alloc _, h.turned ((Turned.refl [] w).alloc _) (fun k hk => by cases hk), Blk.new _ _ _, Nat.le_refl _⟩
end
end Go.Proofs.YtljldbdjkjllhaaGreatDoor

/- A start. -/
namespace Go.Proofs.YtljldbdjkjllhaaGreatDoor
set_option linter.unusedSimpArgs false
set_option linter.unusedVariables false
open Go.RowKit

theorem turned_grown {w w' : World} {row : Option Nat} (h : w.grownBy w' row) : Turned row.toList w w' := ⟨h.os, h.tape, h.output, h.size, fun k hk hn => h.block k hk (fun e => hn (by rw [← e]; simp))⟩
section
variable {w w' w0 : World} {base g p : Nat} {vo : Value} {s : XS} {wr : Int}
theorem XRd.set2 (h : XRd w base g vo s wr) : XRd (w.setCell ⟨g, 2, none⟩ (.bool true)) base g vo { s with begun := true } wr :=
  ⟨Blk.set_ h.blk 2 (.bool true), own_setCell (p := ⟨g, 2, none⟩) h.row h.vo_ne _, h.far⟩
theorem XRd.apart {b' n : Nat} {e : TypeId} {sz : Nat} {v : Value} {xs : List Value} (h : XRd w base g vo s wr) (ho : w.ownsRow b' e sz v n xs) (h1 : e ≠ 98) (h2 : e ≠ 9) : ∀ k ∈ v.ownBlock.toList, k ∉ fOf g vo := fun k hk hm => by
  have hk : v.ownBlock = some k := by simpa using hk
  rcases fOf_mem.1 hm with rfl | hm
  · exact own_kind ho h.blk h1 hk
  · exact own_kinds ho h.row h2 hk hm
/-- While a start is taken. -/
structure StS (w0 : World) (base g p : Nat) (vo : Value) (s : XS) (wr : Int) (al : Al) (v : Value) (w : World) : Prop where
  t : Turned (fOf g vo) w0 w
  rd : XRd w base g vo s wr
  res : Blk w p 68 #[.int .i64 0, .string ⟨#[]⟩, .slice none 0 0, .string ⟨#[]⟩]
  row : w.ownsRow w0.heap.size 172 2 v al.length (alL al)
  new : w0.heap.size ≤ p
theorem StS.ne {al : Al} {v : Value} (h : StS w0 base g p vo s wr al v w) : p ∉ fOf g vo := fun hm => h.rd.not_kind hm (by decide) (by decide) h.res
theorem StS.next {al : Al} {v : Value} (h : StS w0 base g p vo s wr al v w) (ht : Turned [g] w w') {r' : Bs} (hr : RdB w' g r' vo (.bool s.begun) (.bool s.short) (.int .i64 wr)) : StS w0 base g p vo { s with rest := r' } wr al v w' :=
  ⟨h.t.trans (one_of (g_mem _ _) ht) (Fresh.refl _ _), h.rd.ate ht hr, h.res.turned ht (fun hm => h.ne (by simp at hm; subst hm; exact g_mem _ _)), own_turned h.row ht (fun k hk hm => by simp at hm; subst hm; exact own_kind h.row h.rd.blk (by decide) hk), h.new⟩
theorem StS.put {al : Al} {v v' : Value} {a : Bs × Bs} {w1 : World} (h : StS w0 base g p vo s wr al v w) (hw1 : w1 = w.alloc (.cells #[.string (mkS a.1), .string (mkS a.2)] 172)) (hg : w1.grownBy w' v.ownBlock)
    (ho : w'.ownsRow w0.heap.size 172 2 v' (al.length + 1) (alL al ++ [.string (mkS a.1), .string (mkS a.2)])) : StS w0 base g p vo s wr (al ++ [a]) v' w' := by
  have h1 : Turned [] w w1 := by rw [hw1]; exact (Turned.refl _ _).alloc _
  have r1 : w1.ownsRow w0.heap.size 172 2 v al.length (alL al) := own_turned h.row h1 (fun k _ hk => by cases hk)
  have x1 := h.rd.turned h1 (fun k hk => by cases hk)
  have b1 := h.res.turned h1 (fun hk => by cases hk)
  refine ⟨?_, x1.turned (turned_grown hg) (x1.apart r1 (by decide) (by decide)), b1.grown hg (fun e => own_kind r1 b1 (by decide) e.symm), ?_, h.new⟩
  · exact (h.t.below_ (h1.of_nil)).grown hg fun k hk => .inr (r1.lt k hk).1
  · rw [List.length_append, alL_app]; exact ho
theorem StS.whole {al : Al} {v v7 : Value} {nm : Bs} {w7 : World} (h : StS w0 base g p vo s wr al v w)
    (hg : ((w.setCell ⟨g, 2, none⟩ (.bool true)).alloc (.cells #[.string (mkS nm)] 9)).grownBy w7 vo.ownBlock) (ho : w7.ownsRow base 9 1 v7 (s.opn.length + 1) (strL s.opn ++ [.string (mkS nm)]))
    (hat : v7.ownBlock = vo.ownBlock ∨ v7.ownBlock = some ((w.setCell ⟨g, 2, none⟩ (.bool true)).alloc (.cells #[.string (mkS nm)] 9)).heap.size) :
    Blk w7 g 98 #[.string (mkS s.rest), vo, .bool true, .bool s.short, .int .i64 wr] ∧ Turned (fOf g vo) w0 (w7.setCell ⟨g, 1, none⟩ v7) ∧ XRd (w7.setCell ⟨g, 1, none⟩ v7) base g v7 { s with opn := s.opn ++ [nm], begun := true } wr ∧
    Fresh w0 (fOf g vo) (fOf g v7) ∧ Blk (w7.setCell ⟨g, 1, none⟩ v7) p 68 #[.int .i64 0, .string ⟨#[]⟩, .slice none 0 0, .string ⟨#[]⟩] ∧ (∀ A c, v = .slice A al.length c → AlK (w7.setCell ⟨g, 1, none⟩ v7) A al) := by
  have x1 := h.rd.set2
  have t1 : Turned (fOf g vo) w (w.setCell ⟨g, 2, none⟩ (.bool true)) := (Turned.refl _ _).setCell (p := ⟨g, 2, none⟩) (.inl (g_mem _ _)) _
  generalize w.setCell ⟨g, 2, none⟩ (.bool true) = W1 at *
  have x2 := x1.turned ((Turned.refl [] W1).alloc (.cells #[.string (mkS nm)] 9)) (fun k hk => by cases hk)
  have t2 := t1.alloc (.cells #[.string (mkS nm)] 9)
  have hz := t2.size
  generalize W1.alloc (.cells #[.string (mkS nm)] 9) = W2 at *
  have b7 : Blk w7 g 98 #[.string (mkS s.rest), vo, .bool true, .bool s.short, .int .i64 wr] := Blk.grown x2.blk hg (fun e => x2.vo_ne e.symm)
  have t7 := t2.grown hg (fun k hk => .inl (fOf_mem.2 (.inr hk)))
  have t8 : Turned (fOf g vo) w (w7.setCell ⟨g, 1, none⟩ v7) := t7.setCell (p := ⟨g, 1, none⟩) (.inl (g_mem _ _)) _
  refine ⟨b7, h.t.trans t8 (Fresh.refl _ _), ⟨Blk.set_ b7 1 v7, ?_, h.rd.far⟩, fun k hk => ?_, h.res.turned t8 h.ne, fun A c hv => ?_⟩
  · show World.ownsRow _ base _ _ v7 (s.opn ++ [nm]).length (strL (s.opn ++ [nm]))
    rw [List.length_append, show strL (s.opn ++ [nm]) = strL s.opn ++ [.string (mkS nm)] from by unfold strL; rw [List.map_append]; rfl]
    exact own_setCell (p := ⟨g, 1, none⟩) ho (own_kind ho b7 (by decide)) _
  · rcases fOf_mem.1 hk with rfl | hk
    · exact .inl (g_mem _ _)
    · rcases hat with ha | ha
      · exact .inl (fOf_mem.2 (.inr (ha ▸ hk)))
      · rw [ha] at hk
        injection hk with hk
        have := h.t.size
        exact .inr (by omega)
  · subst hv
    exact (own_alK h.row).turned t8 (fun k hk cs => h.rd.not_kind hk (by decide) (by decide))
theorem info_str : ∃ i z, Tryz.prog.info? 9 = some i ∧ i.zero = some z ∧ z.cells.size = 1 ∧ i.size = 1 ∧ i.bytes = 16 := by
  have h : (Tryz.prog.info? 9).map (fun i => (i.zero.map fun z => z.cells.size, i.size, i.bytes)) = some (some 1, 1, 16) := by kernel_rfl
  obtain ⟨i, hi, h2⟩ := Option.map_eq_some_iff.1 h
  simp only [Prod.mk.injEq] at h2
  obtain ⟨z, hz, hz1⟩ := Option.map_eq_some_iff.1 h2.1
  exact ⟨i, z, hi, hz, hz1, h2.2.1, h2.2.2⟩
end
end Go.Proofs.YtljldbdjkjllhaaGreatDoor
