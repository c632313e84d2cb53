/- What a value stands for. -/
import Derived.Test.YtoifibnmincodaaGreatDoorXg
import Derived.Lib.RuneBytes
namespace Go.Proofs.YtoifibnmincodaaGreatDoor
set_option linter.unusedSimpArgs false
set_option linter.unusedVariables false
open Go.RowKit

def ActV (g : Nat) (q : Bs) (v : Value) (act : Act) : Prop := ∃ u2 u3 u4 u6 u7 u8 u9 u10 u11 u12 u13 u14 u15 u16 u17 u18 u19 u20 u21 u22 : Value, act = { tmps := #[.pointer (some ⟨g, 0, none⟩), .string (mkS q), u2, u3, u4, v, u6, u7, u8, u9, u10, u11, u12, u13, u14, u15, u16, u17, u18, u19, u20, u21, u22], defers := [] }
def JV (w0 : World) (g : Nat) (v1 v2 v3 v4 : Value) (q : Bs) (res : RR Bs) (l n : Nat) (act : Act) (w : World) : Prop :=
  ∃ r v o k, r.length < k ∧ r.length ≤ 40000 ∧ RunW w0 g v1 v2 v3 v4 r v o w ∧ ActV g q v act ∧
    ((l = 0 ∧ n = 2 * r.length + 1 ∧ o.length + 4 * r.length ≤ 200000 ∧ valueR q k o r = res) ∨
     (l = 1 ∧ n = 2 * r.length + 2 ∧ o.length + 4 * r.length + 4 ≤ 200000 ∧ ((entityR r).bind fun y => valueR q k (o ++ Lib.encodeRune (y.1 : Int)) y.2) = res))
theorem valueR_no {q o r : Bs} {k : Nat} {e : Int} (h : plainR ([60, 38] ++ q) r = .error e) : valueR q (k + 1) o r = .error e := by rw [valueR, h]; rfl
theorem valueR_amp {q o r : Bs} {k : Nat} {x : Bs × Bs} (h : plainR ([60, 38] ++ q) r = .ok x) (ha : Lib.hasPrefix x.2 [38] = true) :
    valueR q (k + 1) o r = (entityR (Lib.trimPrefix x.2 [38])).bind fun y => valueR q k (o ++ x.1 ++ Lib.encodeRune (y.1 : Int)) y.2 := by
  rw [valueR, h]
  show (if _ then _ else _) = _
  rw [if_pos ha]
theorem valueR_end {q o r : Bs} {k : Nat} {x : Bs × Bs} (h : plainR ([60, 38] ++ q) r = .ok x) (ha : Lib.hasPrefix x.2 [38] = false) :
    valueR q (k + 1) o r = (wantR q x.2).map fun y => (o ++ x.1, y.2) := by
  rw [valueR, h]
  show (if _ then _ else _) = _
  rw [ha]
  rfl
theorem trim_no {l p : Bs} (h : Lib.hasPrefix l p = false) : Lib.trimPrefix l p = l := by unfold Lib.trimPrefix; rw [h]; rfl
theorem takeR_both {n : Nat} {l : Bs} {x : Bs × Bs} (h : takeR n l = .ok x) : x.1.length + x.2.length = l.length := by
  obtain ⟨-, h1, h2⟩ := takeR_len h
  rw [h1, h2]; simp; omega
theorem numR_small {b m : Nat} {d : Bs} {n : Nat} (h : numR b m d = some n) : n < 16777216 ∨ n ≤ 1114111 := by
  rw [numR_eq] at h
  split at h
  · cases h
  · obtain ⟨x, -, hx⟩ := Option.bind_eq_some_iff.1 h
    unfold numE at hx
    split at hx
    · rename_i hs
      injection hx with hx
      subst hx
      unfold standsX Lib.validRune at hs
      simp at hs
      omega
    · cases hx
theorem charR_small {nm : Bs} {n : Nat} (h : charR nm = some n) : n < 16777216 := by
  rw [charR_find] at h
  have key : ∀ l : List (Bs × UInt8), findE nm l = some n → n < 16777216 := by
    intro l
    induction l with
    | nil =>
      intro h
      unfold findE charH at h
      split at h
      · rcases numR_small h with h | h <;> omega
      · split at h
        · rcases numR_small h with h | h <;> omega
        · cases h
    | cons e r ih =>
      intro h
      unfold findE at h
      split at h
      · injection h with h
        have := e.2.toNat_lt
        omega
      · exact ih h
  exact key _ h
theorem entityR_small {l : Bs} {x : Nat × Bs} (h : entityR l = .ok x) : x.1 < 16777216 := by
  rw [entityR_eq] at h
  split at h
  · split at h
    · rename_i c hc
      injection h with h
      subst h
      exact charR_small hc
    · cases h
  · cases h
theorem info_u8 : ∃ i, Tryz.prog.info? 5 = some i ∧ i.zero = some (.int .u8 0) ∧ i.size = 1 ∧ i.bytes = 1 := by
  have h : (Tryz.prog.info? 5).map (fun i => (i.zero, i.size, i.bytes)) = some (some (.int .u8 0), 1, 1) := by kernel_rfl
  obtain ⟨i, hi, h2⟩ := Option.map_eq_some_iff.1 h
  simp only [Prod.mk.injEq] at h2
  exact ⟨i, hi, h2.1, h2.2.1, h2.2.2⟩
theorem cat_q (q : Bs) : (⟨#[60, 38]⟩ : ByteArray) ++ mkS q = mkS ([60, 38] ++ q) := s_ext (by rw [bl_app]; rfl)
section
variable {w0 : World} {B g : Nat} {r0 : Bs} {v1 v2 v3 v4 : Value}
set_option maxHeartbeats 8000000 in
set_option maxRecDepth 1000000 in
theorem value_any (h : RdB w0 g r0 v1 v2 v3 v4) (hE : XEnv B w0) (hg : B ≤ g) (hr : r0.length ≤ 40000) {q : Bs} (hq : Seps ([60, 38] ++ q)) :
    Calls Tryz.prog 110 #[.pointer (some ⟨g, 0, none⟩), .string (mkS q)] w0 (Ate w0 g v1 v2 v3 v4 (valueQ q r0) sV) := by
  obtain ⟨i0, hi, hz0, hz1, hz2⟩ := info_u8
  have HI := Lib.hid hi
  have HEN : Hid (∀ w, Turned [g] w0 w → XEnv B w) := fun w ht => hE.one ht hg
  have HW0 : Hid (RunW w0 g v1 v2 v3 v4 r0 (.slice none 0 0) [] w0) := ⟨h, World.ownsRowF_nil _ _ _ _, Turned.refl _ _⟩
  have HR0 := Lib.hid hr
  have HQ := Lib.hid hq
  obtain ⟨res, hres⟩ : ∃ res, res = valueQ q r0 := ⟨_, rfl⟩
  have HRS : Hid (valueR q (r0.length + 1) [] r0 = res) := hres.symm
  rw [← hres]
  clear hres h hE hr hq hi
  have hcat := cat_q q
  have hqz : (mkS q).size ≤ 8 := by have := HQ.out.few; simp at this; rw [mkS_size]; omega
  go_enter Tryz.func110, Tryz.ntmps110
  go_wp2_with fail
  refine wp_scope_2 (JV w0 g v1 v2 v3 v4 q res) rfl rfl ?hJ ?p0 ?p1 ?first
  case hJ =>
    rintro l n a w ⟨r, v, o, k, -, -, -, -, ⟨rfl, -⟩ | ⟨rfl, -⟩⟩ <;> omega
  case first =>
    intro H
    have HH := Lib.hid H
    clear H
    go_wp2_with fail
    go_step3
    rename_i K hK
    refine hK _ _ (HH.out _ _ _ ⟨r0, .slice none 0 0, [], r0.length + 1, by omega, HR0.out, HW0.out, ⟨_, _, _, _, _, _, _, _, _, _, _, _, _, _, _, _, _, _, _, _, rfl⟩, .inl ⟨rfl, rfl, by have := HR0.out; simp; omega, HRS.out⟩⟩)
  case p0 =>
    rintro n a w ⟨r, v, o, k, hk, hr, hW, ⟨u2, u3, u4, u6, u7, u8, u9, u10, u11, u12, u13, u14, u15, u16, u17, u18, u19, u20, u21, u22, rfl⟩, hor⟩
    obtain ⟨hn, ho, hres⟩ : n = 2 * r.length + 1 ∧ o.length + 4 * r.length ≤ 200000 ∧ valueR q k o r = res := by
      rcases hor with ⟨-, h1, h2, h3⟩ | ⟨h0, -⟩
      · exact ⟨h1, h2, h3⟩
      · cases h0
    clear hor
    obtain ⟨k, rfl⟩ : ∃ k', k = k' + 1 := ⟨k - 1, by omega⟩
    have HW := Lib.hid hW
    have CP := Lib.hid (plain_any hW.rd hr HQ.out)
    rw [← hcat] at CP
    obtain ⟨A0, c0, hv0⟩ := hW.form
    subst hv0
    clear hW
    cases hp : plainR ([60, 38] ++ q) r with
    | error e =>
      have HE : Hid (res = .error e) := hres.symm.trans (valueR_no hp)
      have HP := Lib.hid hp
      clear hp hres hn ho hk
      go_wp2_with fail
      refine CP.out.mono ?_
      intro en w1 ha
      obtain ⟨h1, ⟨r', h2⟩, rfl⟩ := ha.no HP.out
      have HW1 := Lib.hid (HW.out.next h1 h2)
      clear ha h1 h2 CP
      unfold gaveUp
      go_wp2_with fail
      exact ⟨rfl, Ate.mkNo HW1.out.t HW1.out.rd HE.out⟩
    | ok x =>
      obtain ⟨t, r1⟩ := x
      have hlen : t.length + r1.length = r.length := takeR_both hp
      have HP := Lib.hid hp
      cases hpa : Lib.hasPrefix r1 [38] with
      | true =>
        have HE := Lib.hid ((valueR_amp (q := q) (o := o) (k := k) hp hpa).symm.trans hres)
        have htl := trim_lt hpa (by decide)
        have HPA := Lib.hid hpa
        clear hp hres hpa
        go_wp2_with fail
        refine CP.out.mono ?_
        intro en w1 ha
        obtain ⟨h1, h2, rfl⟩ := ha.ok HP.out
        have HW1 := Lib.hid (HW.out.next h1 h2)
        have hrow := HW1.out.row
        have hsz := HW1.out.size
        clear ha h1 h2 CP
        unfold sV
        go_wp2_with (at_builtin; refine Lib.wpList_append_own_stringF _ rfl _ _ 47 9 rfl w0.heap.size 5 i0 Tryz.underlying47 Tryz.underlying9 HI.out hz0 hz1 hz2 _ _ _ rfl hrow (mkS t) rfl ?c3 ?c4 ?c5 ?_)
        case c3 => rw [mkS_size]; unfold maxLen; omega
        case c4 => rw [mkS_size]; omega
        case c5 => exact hsz
        intro v' w2 hown' hgrow _
        have HW2 := Lib.hid (HW1.out.grown (s := t) hgrow hown')
        obtain ⟨A2, c2, hv2⟩ := HW2.out.form
        subst hv2
        have CA := Lib.hid (takes_any HW2.out.rd [38])
        rw [HPA.out] at CA
        clear hown' hgrow hrow
        go_wp2_with fail
        refine CA.out.mono ?_
        rintro e w3 ⟨rfl, h1, h2⟩
        have HW3 := Lib.hid (HW2.out.next h1 h2)
        clear h1 h2 CA
        go_wp2_with fail
        go_step3
        refine ⟨_, ?_, _, _, _, k, ?_, ?_, HW3.out, ⟨_, _, _, _, _, _, _, _, _, _, _, _, _, _, _, _, _, _, _, _, by rw [List.length_append]⟩, .inr ⟨rfl, rfl, ?_, HE.out⟩⟩
        · omega
        · omega
        · omega
        · simp only [List.length_append]; omega
      | false =>
        have HE := Lib.hid ((valueR_end (q := q) (o := o) (k := k) hp hpa).symm.trans hres)
        have htl := trim_no hpa
        have HPA := Lib.hid hpa
        clear hp hres hpa
        cases hw : wantR q r1 with
        | error e =>
          have HE2 : Hid (res = .error e) := by show res = _; rw [← HE.out]; show ((wantR q r1).map _ : RR Bs) = _; rw [hw]; rfl
          have HWN := Lib.hid hw
          clear hw HE
          go_wp2_with fail
          refine CP.out.mono ?_
          intro en w1 ha
          obtain ⟨h1, h2, rfl⟩ := ha.ok HP.out
          have HW1 := Lib.hid (HW.out.next h1 h2)
          have hrow := HW1.out.row
          have hsz := HW1.out.size
          clear ha h1 h2 CP
          unfold sV
          go_wp2_with (at_builtin; refine Lib.wpList_append_own_stringF _ rfl _ _ 47 9 rfl w0.heap.size 5 i0 Tryz.underlying47 Tryz.underlying9 HI.out hz0 hz1 hz2 _ _ _ rfl hrow (mkS t) rfl ?c3 ?c4 ?c5 ?_)
          case c3 => rw [mkS_size]; unfold maxLen; omega
          case c4 => rw [mkS_size]; omega
          case c5 => exact hsz
          intro v' w2 hown' hgrow _
          have HW2 := Lib.hid (HW1.out.grown (s := t) hgrow hown')
          obtain ⟨A2, c2, hv2⟩ := HW2.out.form
          subst hv2
          have CA := Lib.hid (takes_any HW2.out.rd [38])
          rw [HPA.out] at CA
          clear hown' hgrow hrow
          go_wp2_with fail
          refine CA.out.mono ?_
          rintro e w3 ⟨rfl, h1, h2⟩
          rw [htl] at h2
          have HW3 := Lib.hid (HW2.out.next h1 h2)
          have CW := Lib.hid (want_any h2 q)
          clear h1 h2 CA
          go_wp2_with fail
          refine CW.out.mono ?_
          intro e w4 ha
          obtain ⟨h1, ⟨r', h2⟩, rfl⟩ := ha.no HWN.out
          have HW4 := Lib.hid (HW3.out.next h1 h2)
          clear ha h1 h2 CW
          unfold gaveUp
          go_wp2_with fail
          exact ⟨rfl, Ate.mkNo HW4.out.t HW4.out.rd HE2.out⟩
        | ok y =>
          obtain ⟨u, r2⟩ := y
          have HE2 : Hid (res = .ok (o ++ t, r2)) := by show res = _; rw [← HE.out]; show ((wantR q r1).map _ : RR Bs) = _; rw [hw]; rfl
          have HWN := Lib.hid hw
          clear hw HE
          go_wp2_with fail
          refine CP.out.mono ?_
          intro en w1 ha
          obtain ⟨h1, h2, rfl⟩ := ha.ok HP.out
          have HW1 := Lib.hid (HW.out.next h1 h2)
          have hrow := HW1.out.row
          have hsz := HW1.out.size
          clear ha h1 h2 CP
          unfold sV
          go_wp2_with (at_builtin; refine Lib.wpList_append_own_stringF _ rfl _ _ 47 9 rfl w0.heap.size 5 i0 Tryz.underlying47 Tryz.underlying9 HI.out hz0 hz1 hz2 _ _ _ rfl hrow (mkS t) rfl ?c3 ?c4 ?c5 ?_)
          case c3 => rw [mkS_size]; unfold maxLen; omega
          case c4 => rw [mkS_size]; omega
          case c5 => exact hsz
          intro v' w2 hown' hgrow _
          have HW2 := Lib.hid (HW1.out.grown (s := t) hgrow hown')
          obtain ⟨A2, c2, hv2⟩ := HW2.out.form
          subst hv2
          have CA := Lib.hid (takes_any HW2.out.rd [38])
          rw [HPA.out] at CA
          clear hown' hgrow hrow
          go_wp2_with fail
          refine CA.out.mono ?_
          rintro e w3 ⟨rfl, h1, h2⟩
          rw [htl] at h2
          have HW3 := Lib.hid (HW2.out.next h1 h2)
          have CW := Lib.hid (want_any h2 q)
          clear h1 h2 CA
          go_wp2_with fail
          refine CW.out.mono ?_
          intro e w4 ha
          obtain ⟨h1, h2, rfl⟩ := ha.ok HWN.out
          have HW4 := Lib.hid (HW3.out.next h1 h2)
          have hcv := ownF_conv HW4.out.row
          simp only [List.length_append] at hcv
          clear ha h1 h2 CW
          unfold uV
          go_wp2_with fail
          try simp only [jumpM]
          go_ret
          exact Ate.mkOk HW4.out.t HW4.out.rd HE2.out
  case p1 =>
    rintro n a w ⟨r, v, o, k, hk, hr, hW, ⟨u2, u3, u4, u6, u7, u8, u9, u10, u11, u12, u13, u14, u15, u16, u17, u18, u19, u20, u21, u22, rfl⟩, hor⟩
    obtain ⟨hn, ho, hres⟩ : n = 2 * r.length + 2 ∧ o.length + 4 * r.length + 4 ≤ 200000 ∧ ((entityR r).bind fun y => valueR q k (o ++ Lib.encodeRune (y.1 : Int)) y.2) = res := by
      rcases hor with ⟨h0, -⟩ | ⟨-, h1, h2, h3⟩
      · cases h0
      · exact ⟨h1, h2, h3⟩
    clear hor
    have HW := Lib.hid hW
    have CE := Lib.hid (entity_any hW.rd (HEN.out w hW.t) hr)
    obtain ⟨A0, c0, hv0⟩ := hW.form
    subst hv0
    clear hW
    cases he : entityR r with
    | error e =>
      have HE : Hid (res = .error e) := by show res = _; rw [← hres, he]; rfl
      have HP := Lib.hid he
      clear he hres hn ho hk
      go_wp2_with fail
      refine CE.out.mono ?_
      intro en w1 ha
      obtain ⟨h1, ⟨r', h2⟩, rfl⟩ := ha.no HP.out
      have HW1 := Lib.hid (HW.out.next h1 h2)
      clear ha h1 h2 CE
      unfold gaveUp
      go_wp2_with fail
      exact ⟨rfl, Ate.mkNo HW1.out.t HW1.out.rd HE.out⟩
    | ok x =>
      obtain ⟨ch, r1⟩ := x
      have HE : Hid (valueR q k (o ++ Lib.encodeRune (ch : Int)) r1 = res) := by show _ = res; rw [← hres, he]; rfl
      have hlen := entityR_len he
      have hch : (ch : Int) ≤ 2147483647 := by
        have := entityR_small he
        omega
      have HP := Lib.hid he
      clear he hres
      have CR := Lib.hid (fun w v n xs h1 h2 h3 => Tryz.utf8_AppendRune_row w0.heap.size v n xs (ch : Int) (by omega) hch w h1 h2 h3)
      go_wp2_with fail
      refine CE.out.mono ?_
      intro en w1 ha
      obtain ⟨h1, h2, rfl⟩ := ha.ok HP.out
      have HW1 := Lib.hid (HW.out.next h1 h2)
      have CR1 := Lib.hid (CR.out w1 _ _ _ HW1.out.row (by omega) HW1.out.size)
      clear ha h1 h2 CE CR
      unfold rV
      go_wp2_with fail
      refine CR1.out.mono ?_
      rintro e w2 ⟨v', rfl, hown', ob, hgrow⟩
      have hl4 : (Lib.encodeRune (ch : Int)).length ≤ 4 := by have := (Lib.runeCells_le (ch : Int)).2; rw [Lib.runeCells_length] at this; exact this
      have HW2 : Hid (RunW w0 g v1 v2 v3 v4 r1 v' (o ++ Lib.encodeRune (ch : Int)) w2) := by
        refine RunW.grown (w := w1.alloc ob) ⟨Blk.alloc HW1.out.rd _, ownF_turned HW1.out.row ((Turned.refl [] w1).alloc ob) (fun k hk hm => by cases hm), HW1.out.t.alloc ob⟩ hgrow ?_
        rw [← Lib.runeCells_length]
        have : u8L (Lib.encodeRune (ch : Int)) = Lib.runeCells (ch : Int) := Lib.byteCells_encodeRune _
        rw [this]
        exact hown'
      clear hown' hgrow CR1
      go_wp2_with fail
      go_step3
      refine ⟨_, ?_, _, _, _, k, ?_, ?_, HW2.out, ⟨_, _, _, _, _, _, _, _, _, _, _, _, _, _, _, _, _, _, _, _, rfl⟩, .inl ⟨rfl, rfl, ?_, HE.out⟩⟩
      · omega
      · omega
      · omega
      · simp only [List.length_append]; omega
end
end Go.Proofs.YtoifibnmincodaaGreatDoor
