/- The walk of ArchRows. -/
import Derived.Test.YtahodhodkgdgnaaScores
import Derived.Test.YtahodhodkgdgnaaBulk
namespace Go.Proofs.Ytahodhodkgdgnaa
set_option linter.unusedSimpArgs false
set_option linter.unusedVariables false
open Go.RowKit Go.ChangeShapes Go.WideShapes

def nmOf (ss : List ByteArray) (i : Nat) : List UInt8 := match ss[i]? with | some s => s.data.toList | none => []
def gOf (zs : List Bool) (i : Nat) : Bool := match zs[i]? with | some b => b | none => false
theorem nmOf_at {ss : List ByteArray} {i : Nat} {s : ByteArray} (h : ss[i]? = some s) : nmOf ss i = s.data.toList := by unfold nmOf; rw [h]
theorem gOf_at {zs : List Bool} {i : Nat} {b : Bool} (h : zs[i]? = some b) : gOf zs i = b := by unfold gOf; rw [h]
theorem gOf_out {zs : List Bool} {i : Nat} (h : zs.length ≤ i) : gOf zs i = false := by unfold gOf; rw [List.getElem?_eq_none h]
theorem rows_len (ss : List ByteArray) (zs : List Bool) (k : Nat) (hk : k ≤ ss.length) : (rowsText (nmOf ss) (gOf zs) k).length ≤ total (ss.take k) := by
  induction k with
  | zero => simp [rowsText]
  | succ k ih =>
    obtain ⟨s, hs⟩ : ∃ s, ss[k]? = some s := ⟨_, List.getElem?_eq_getElem (by omega)⟩
    have := ih (by omega)
    rw [total_succ hs]
    cases k with
    | zero =>
      show (nmOf ss 0).length ≤ _
      rw [nmOf_at hs, size_len]; omega
    | succ k =>
      show (rowsText (nmOf ss) (gOf zs) (k + 1) ++ [if gOf zs k then 62 else 58] ++ nmOf ss (k + 1)).length ≤ _
      rw [List.length_append, List.length_append, nmOf_at hs, size_len]
      simp only [List.length_cons, List.length_nil]
      omega

theorem rows_score_le (g : Nat → Bool) (k : Nat) : rowsScore g k ≤ k + 2 := by
  induction k with
  | zero => exact Nat.le_refl _
  | succ k ih =>
    show (if g k then rowsScore g k + 1 else rowsScore g k) ≤ _
    split <;> omega
theorem rows_all {ss : List ByteArray} {zs : List Bool} {T : Tb} (hp : parseT (rowsText (nmOf ss) (gOf zs) ss.length) = some T) (h : ∀ i, i < ss.length → (nmOf ss i).all nosep = true) {k : Nat} {s : ByteArray} (hs : ss[k]? = some s) :
    scoreT T s.data.toList = rowsScore (gOf zs) k := by
  have hk := (List.getElem?_eq_some_iff.1 hs).1
  obtain ⟨n, hn⟩ : ∃ n, ss.length = n + 1 := ⟨ss.length - 1, by omega⟩
  rw [hn, rows_parse _ _ n (fun i hi => h i (by omega))] at hp
  have := (rows_found _ _ (n + 1) hp k (by omega)).1
  rwa [nmOf_at hs] at this

set_option maxHeartbeats 8000000 in
set_option maxRecDepth 1000000 in
theorem archRows_walk {H : Type} {enc : TypeId × Value → H} (W : World) {v0 v1 : Value} {d0 d1 : DataW H} (h0 : In enc Try.prog W 35 v0 d0) (h1 : In enc Try.prog W 36 v1 d1)
    (hk : Rows.uptoBulkAll [d0, d1] ≤ 1048576) :
    Calls Try.prog 7 #[v0, v1] W (TrueBelow W) := by
  obtain ⟨A, n, c, ss, rfl, hn, hnc, hcm, hR, hss, _, hd⟩ := h0.strings Try.underlying35 Try.underlying9 (by kernel_rfl)
  obtain ⟨A', m, c', zs, rfl, hm, hmc, hcm', hR', _⟩ := h1.bools Try.underlying36 Try.underlying4 (by kernel_rfl)
  have htot : total ss ≤ 1048576 := by
    rcases hd with ⟨_, rfl⟩ | ⟨b, rfl⟩
    · simp [total]
    · have h1 := bulk_part (d := DataW.slice (strs ss) b) (l := [DataW.slice (strs ss) b, d1]) (by simp)
      have h2 := bulk_elems (strs (H := H) ss) b
      rw [bulk_strs] at h2
      omega
  have hn2 : ss.length ≤ 1048576 := by
    have : ss.length ≤ total ss := by
      clear htot hd hR hss hn
      induction ss with
      | nil => simp
      | cons s r ih =>
        have e : total (s :: r) = s.size + 1 + total r := by simp [total]
        rw [e, List.length_cons]; omega
    omega
  unfold maxLen at hcm hcm'
  subst hn
  subst hm
  have HR := Lib.hid hR
  have HR' := Lib.hid hR'
  have HT := Lib.hid htot
  clear h0 h1 hk hd hR hR' htot hss
  go_enter Try.func7, Try.ntmps7
  go_wp2_with fail
  refine (awake_any _).mono ?_
  rintro e w1 ⟨rfl, hb1⟩
  have B1 := Lib.hid hb1
  have HR1 := Lib.hid (HR.out.below hb1 (Nat.le_refl _))
  have HR1' := Lib.hid (HR'.out.below hb1 (Nat.le_refl _))
  clear hb1
  go_wp2_with fail
  go_loop [6, 7] (fun v6 v7 => ∃ (k : Nat) (t : ByteArray), k ≤ ss.length ∧ v6 = .string t ∧ v7 = .int .i64 (k : Int) ∧ Hid (t.data.toList = rowsText (nmOf ss) (gOf zs) k)) (fun _ v7 => ss.length - (intOf v7).toNat)
  case atStart => exact ⟨0, _, Nat.zero_le _, rfl, rfl, show ([] : List UInt8) = _ from rfl⟩
  case round =>
    obtain ⟨k, t, hk, rfl, rfl, ht⟩ := hrel
    have hts : t.size ≤ 1048576 := by
      rw [← size_len, ht.out]
      have := rows_len ss zs k hk
      have := total_take ss k
      have := HT.out
      omega
    by_cases hlt : k < ss.length
    · obtain ⟨s, hs⟩ : ∃ s, ss[k]? = some s := ⟨_, List.getElem?_eq_getElem hlt⟩
      have hsz : s.size ≤ 1048576 := by
        have := total_mem (List.mem_of_getElem? hs)
        have := HT.out
        omega
      obtain ⟨b0, o0, rfl, hb0, hc0⟩ := HR1.out.at_ (k := k) (v := .string s) (by simp [hs])
      have hlt' : decide (k < ss.length) = true := by simpa using hlt
      have HS := Lib.hid hs
      clear hs hb0
      cases k with
      | zero =>
        have HN : Hid ((t ++ s).data.toList = rowsText (nmOf ss) (gOf zs) 1) := by
          show _ = nmOf ss 0
          rw [bl_app, ht.out, nmOf_at HS.out]; rfl
        have hpl : 0 < ss.length := hlt
        rw [Nat.add_zero] at hc0
        go_wp2_with fail
        go_round
        case rel => exact ⟨1, _, by omega, rfl, by go_num, HN.out⟩
        case measure => simp [intOf]; omega
      | succ j =>
        by_cases hj : j < zs.length
        · obtain ⟨z, hz⟩ : ∃ z, zs[j]? = some z := ⟨_, List.getElem?_eq_getElem hj⟩
          obtain ⟨b1, o1, rfl, hb1, hc1⟩ := HR1'.out.at_ (k := j) (v := .bool z) (by simp [hz])
          have hj' : decide (j < zs.length) = true := by simpa using hj
          have HG := Lib.hid (gOf_at hz)
          clear hz hb1
          cases z
          · have HN : Hid (((t ++ ⟨#[58]⟩) ++ s).data.toList = rowsText (nmOf ss) (gOf zs) (j + 2)) := by
              show _ = rowsText (nmOf ss) (gOf zs) (j + 1) ++ [if gOf zs j then 62 else 58] ++ nmOf ss (j + 1)
              rw [bl_app, bl_app, ht.out, HG.out, nmOf_at HS.out]; rfl
            go_wp2_with fail
            go_round
            case rel => exact ⟨j + 2, _, by omega, rfl, by go_num, HN.out⟩
            case measure => simp [intOf]; omega
          · have HN : Hid (((t ++ ⟨#[62]⟩) ++ s).data.toList = rowsText (nmOf ss) (gOf zs) (j + 2)) := by
              show _ = rowsText (nmOf ss) (gOf zs) (j + 1) ++ [if gOf zs j then 62 else 58] ++ nmOf ss (j + 1)
              rw [bl_app, bl_app, ht.out, HG.out, nmOf_at HS.out]; rfl
            go_wp2_with fail
            go_round
            case rel => exact ⟨j + 2, _, by omega, rfl, by go_num, HN.out⟩
            case measure => simp [intOf]; omega
        · have hj' : decide (j < zs.length) = false := by simpa using hj
          have HG := Lib.hid (gOf_out (zs := zs) (i := j) (by omega))
          have HN : Hid (((t ++ ⟨#[58]⟩) ++ s).data.toList = rowsText (nmOf ss) (gOf zs) (j + 2)) := by
            show _ = rowsText (nmOf ss) (gOf zs) (j + 1) ++ [if gOf zs j then 62 else 58] ++ nmOf ss (j + 1)
            rw [bl_app, bl_app, ht.out, HG.out, nmOf_at HS.out]; rfl
          go_wp2_with fail
          go_round
          case rel => exact ⟨j + 2, _, by omega, rfl, by go_num, HN.out⟩
          case measure => simp [intOf]; omega
    · obtain rfl : k = ss.length := by omega
      have hlt' : decide (ss.length < ss.length) = false := by simp
      have CP := Lib.hid (fun w => parse_any t (by unfold maxLen; omega) w)
      clear hlt
      cases hp : parseT t.data.toList with
      | none =>
        rw [hp] at CP
        clear hp
        go_wp2_with fail
        refine (CP.out _).mono ?_
        rintro e w2 ⟨hb2, ⟨_, rfl⟩ | ⟨T, bt, hT, _⟩⟩
        case inr => cases hT
        have B2 := Lib.hid (B1.out.trans (hb2.mono B1.out.size))
        clear hb2
        go_wp2_with fail
        go_ret
        exact ⟨rfl, B2.out⟩
      | some T =>
        rw [hp] at CP
        have HP := Lib.hid hp
        clear hp
        go_wp2_with fail
        refine (CP.out _).mono ?_
        rintro e w2 ⟨hb2, ⟨h, _⟩ | ⟨T', bt, hT, rfl, hTab⟩⟩
        · cases h
        injection hT with hT
        subst hT
        have B2 := Lib.hid (B1.out.trans (hb2.mono B1.out.size))
        have HR2 := Lib.hid (HR1.out.below hb2 B1.out.size)
        have HR2' := Lib.hid (HR1'.out.below hb2 B1.out.size)
        have HTab := Lib.hid hTab
        clear hb2 hTab CP HR1 HR1'
        rw [ht.out] at HP
        clear ht
        go_wp2_with fail
        go_loop [10] (fun v10 => ∃ k : Nat, k ≤ ss.length ∧ v10 = .int .i64 (k : Int) ∧ Hid (∀ i, i < k → (nmOf ss i).all nosep = true)) (fun v10 => ss.length - (intOf v10).toNat)
        case atStart => exact ⟨0, Nat.zero_le _, rfl, show ∀ i, i < 0 → _ from fun i hi => by omega⟩
        case round =>
          obtain ⟨k, hk, rfl, hall⟩ := hrel
          by_cases hlt : k < ss.length
          · obtain ⟨s, hs⟩ : ∃ s, ss[k]? = some s := ⟨_, List.getElem?_eq_getElem hlt⟩
            have hsz : s.size ≤ 1048576 := by
              have := total_mem (List.mem_of_getElem? hs)
              have := HT.out
              omega
            obtain ⟨b0, o0, rfl, hb0, hc0⟩ := HR2.out.at_ (k := k) (v := .string s) (by simp [hs])
            have hlt2 : decide (k < ss.length) = true := by simpa using hlt
            have HS := Lib.hid hs
            clear hs hb0
            go_wp2_with fail
            go_loop [11] (fun v11 => ∃ j : Nat, j ≤ s.size ∧ v11 = .int .i64 (j : Int) ∧ Hid ((s.data.toList.take j).all nosep = true)) (fun v11 => s.size - (intOf v11).toNat)
            case atStart => exact ⟨0, Nat.zero_le _, rfl, show (s.data.toList.take 0).all nosep = true from rfl⟩
            case round =>
              obtain ⟨j, hj, rfl, hpre⟩ := hrel
              by_cases hjl : j < s.size
              · have HX := Lib.hid (byte_at hjl)
                have hjl' : (j : Int) < (s.size : Int) := by omega
                cases hsep : isSep (s[j]'hjl)
                case false =>
                  have HN := Lib.hid (all_snoc hpre.out HX.out (show nosep s[j] = true by unfold nosep; rw [hsep]; rfl))
                  unfold isSep at hsep
                  simp only [Bool.or_eq_false_iff, beq_eq_false_iff_ne] at hsep
                  have t1 : (((s[j]'hjl).toNat : Int) == 62) = false := beq_eq_false_iff_ne.2 fun e => hsep.1 (UInt8.toNat_inj.1 (by show _ = 62; omega))
                  have t2 : (((s[j]'hjl).toNat : Int) == 58) = false := beq_eq_false_iff_ne.2 fun e => hsep.2 (UInt8.toNat_inj.1 (by show _ = 58; omega))
                  clear hsep
                  go_wp2_with fail
                  go_round
                  case rel => exact ⟨j + 1, by omega, by go_num, HN.out⟩
                  case measure => simp [intOf]; omega
                case true =>
                  unfold isSep at hsep
                  simp only [Bool.or_eq_true, beq_iff_eq] at hsep
                  rcases hsep with hc | hc
                  · have t1 : (((s[j]'hjl).toNat : Int) == 62) = true := by rw [hc]; rfl
                    clear hc
                    go_wp2_with fail
                    go_ret
                    exact ⟨rfl, B2.out⟩
                  · have t1 : (((s[j]'hjl).toNat : Int) == 62) = false := by rw [hc]; rfl
                    have t2 : (((s[j]'hjl).toNat : Int) == 58) = true := by rw [hc]; rfl
                    clear hc
                    go_wp2_with fail
                    go_ret
                    exact ⟨rfl, B2.out⟩
              · have HN : Hid (∀ i, i < k + 1 → (nmOf ss i).all nosep = true) := fun i hi => by
                  by_cases hik : i < k
                  · exact hall.out i hik
                  · have : i = k := by omega
                    subst this
                    rw [nmOf_at HS.out]
                    have := hpre.out
                    rwa [List.take_of_length_le (by rw [size_len]; omega)] at this
                have hjl' : ¬ (j : Int) < (s.size : Int) := by omega
                go_wp2_with fail
                go_round
                case rel => exact ⟨k + 1, by omega, by go_num, HN.out⟩
                case measure => simp [intOf]; omega
          · obtain rfl : k = ss.length := by omega
            have HSC := Lib.hid (fun (k : Nat) (s : ByteArray) (hs : ss[k]? = some s) => rows_all HP.out hall.out hs)
            clear hlt hall HP
            go_wp2_with fail
            go_loop [12, 13] (fun v12 v13 => ∃ k : Nat, k ≤ ss.length ∧ v12 = .int .i64 ((rowsScore (gOf zs) (k - 1) : Nat) : Int) ∧ v13 = .int .i64 (k : Int)) (fun _ v13 => ss.length - (intOf v13).toNat)
            case atStart => exact ⟨0, Nat.zero_le _, rfl, rfl⟩
            case round =>
              obtain ⟨k, hk, rfl, rfl⟩ := hrel
              by_cases hlt : k < ss.length
              · obtain ⟨s, hs⟩ : ∃ s, ss[k]? = some s := ⟨_, List.getElem?_eq_getElem hlt⟩
                have hsz : s.size ≤ 1048576 := by
                  have := total_mem (List.mem_of_getElem? hs)
                  have := HT.out
                  omega
                obtain ⟨b0, o0, rfl, hb0, hc0⟩ := HR2.out.at_ (k := k) (v := .string s) (by simp [hs])
                have hlt2 : decide (k < ss.length) = true := by simpa using hlt
                have CS := Lib.hid (score_any w2 bt T s (by unfold maxLen; omega) HTab.out)
                rw [HSC.out _ _ hs] at CS
                clear hs hb0
                cases k with
                | zero =>
                  rw [Nat.add_zero] at hc0
                  have hpl : 0 < ss.length := hlt
                  rw [show rowsScore (gOf zs) (0 - 1) = 2 from rfl]
                  rw [show rowsScore (gOf zs) 0 = 2 from rfl] at CS
                  go_wp2_with fail
                  refine CS.out.mono ?_
                  rintro e w3 ⟨rfl, rfl⟩
                  go_wp2_with fail
                  go_round
                  case rel => exact ⟨1, by omega, rfl, by go_num⟩
                  case measure => simp [intOf]; omega
                | succ j =>
                  have hle := rows_score_le (gOf zs) j
                  rw [show j + 1 - 1 = j by omega]
                  have HG0 := Lib.hid (show rowsScore (gOf zs) (j + 1) = if gOf zs j then rowsScore (gOf zs) j + 1 else rowsScore (gOf zs) j from rfl)
                  rw [HG0.out] at CS
                  have HNX := Lib.hid (show j + 2 - 1 = j + 1 by omega)
                  by_cases hj : j < zs.length
                  · obtain ⟨z, hz⟩ : ∃ z, zs[j]? = some z := ⟨_, List.getElem?_eq_getElem hj⟩
                    obtain ⟨b1, o1, rfl, hb1, hc1⟩ := HR2'.out.at_ (k := j) (v := .bool z) (by simp [hz])
                    have hj' : decide (j < zs.length) = true := by simpa using hj
                    have HG := Lib.hid (gOf_at hz)
                    clear hz hb1
                    rw [HG.out] at CS HG0
                    cases z
                    · rw [if_neg (by simp)] at CS HG0
                      generalize hx : rowsScore (gOf zs) j = x at *
                      have HX := Lib.hid hx
                      clear hx
                      go_wp2_with fail
                      refine CS.out.mono ?_
                      rintro e w3 ⟨rfl, rfl⟩
                      go_wp2_with fail
                      go_round
                      case rel => exact ⟨j + 2, by omega, by rw [HNX.out, HG0.out], by go_num⟩
                      case measure => simp [intOf]; omega
                    · rw [if_pos rfl] at CS HG0
                      generalize hx : rowsScore (gOf zs) j = x at *
                      have HX := Lib.hid hx
                      clear hx
                      go_wp2_with fail
                      refine CS.out.mono ?_
                      rintro e w3 ⟨rfl, rfl⟩
                      go_wp2_with fail
                      go_round
                      case rel => exact ⟨j + 2, by omega, by rw [HNX.out, HG0.out]; go_num, by go_num⟩
                      case measure => simp [intOf]; omega
                  · have hj' : decide (j < zs.length) = false := by simpa using hj
                    have HG := Lib.hid (gOf_out (zs := zs) (i := j) (by omega))
                    rw [HG.out] at CS HG0
                    rw [if_neg (by simp)] at CS HG0
                    generalize hx : rowsScore (gOf zs) j = x at *
                    have HX := Lib.hid hx
                    clear hx
                    go_wp2_with fail
                    refine CS.out.mono ?_
                    rintro e w3 ⟨rfl, rfl⟩
                    go_wp2_with fail
                    go_round
                    case rel => exact ⟨j + 2, by omega, by rw [HNX.out, HG0.out], by go_num⟩
                    case measure => simp [intOf]; omega
              · have hlt2 : decide (k < ss.length) = false := by simpa using hlt
                go_wp2_with fail
                go_ret
                exact ⟨rfl, B2.out⟩
end Go.Proofs.Ytahodhodkgdgnaa
