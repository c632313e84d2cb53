/- The document's answer: Meets. -/
import Derived.Test.YtbfpljlgjpmmmaaDoorRefI
namespace Go.Proofs.YtbfpljlgjpmmmaaDoor
set_option linter.unusedSimpArgs false
set_option linter.unusedVariables false
open Go.RowKit

set_option maxHeartbeats 4000000 in
set_option maxRecDepth 1000000 in
theorem refMeets_arg (kind op o : Int) (a b : ByteArray) (w0 : World) (h : (kindB kind && opB op && opB o) = false) :
    Calls Tryd.prog 17 #[.int .i64 kind, .int .i64 op, .string a, .int .i64 o, .string b] w0 fun e w' => e = .returned (.tuple #[.bool false, .int .i64 1]) ∧ w0 = w' := by
  by_cases hk : kind = 1 ∨ kind = 2
  · have hh : ¬ ((0 ≤ op ∧ op ≤ 7) ∧ (0 ≤ o ∧ o ≤ 7)) := fun hh => by
      unfold kindB opB at h
      rw [decide_eq_true hk, decide_eq_true hh.1, decide_eq_true hh.2] at h
      cases h
    clear h
    by_cases a1 : op < 0
    · clear hh
      rcases hk with rfl | rfl
      all_goals
        go_enter Tryd.func17, Tryd.ntmps17
        go_wp2_with fail
        go_ret2
        exact ⟨rfl, rfl⟩
    · by_cases a2 : 7 < op
      · clear hh
        rcases hk with rfl | rfl
        all_goals
          go_enter Tryd.func17, Tryd.ntmps17
          go_wp2_with fail
          go_ret2
          exact ⟨rfl, rfl⟩
      · by_cases a3 : o < 0
        · clear hh
          rcases hk with rfl | rfl
          all_goals
            go_enter Tryd.func17, Tryd.ntmps17
            go_wp2_with fail
            go_ret2
            exact ⟨rfl, rfl⟩
        · have a4 : 7 < o := by omega
          clear hh
          rcases hk with rfl | rfl
          all_goals
            go_enter Tryd.func17, Tryd.ntmps17
            go_wp2_with fail
            go_ret2
            exact ⟨rfl, rfl⟩
  · have k1 : (kind != 1) = true := by simp; omega
    have k2 : (kind != 2) = true := by simp; omega
    clear h hk
    go_enter Tryd.func17, Tryd.ntmps17
    go_wp2_with fail
    go_ret2
    exact ⟨rfl, rfl⟩

set_option maxHeartbeats 4000000 in
set_option maxRecDepth 1000000 in
theorem refMeets_zero (kind op o : Int) (a b : ByteArray) (w0 : World) (h : (kindB kind && opB op && opB o) = true) (hz : op = 0 ∨ o = 0) :
    Calls Tryd.prog 17 #[.int .i64 kind, .int .i64 op, .string a, .int .i64 o, .string b] w0 fun e w' => e = .returned (.tuple #[.bool true, .int .i64 0]) ∧ w0 = w' := by
  simp only [Bool.and_eq_true] at h
  obtain ⟨⟨h1, h2⟩, h3⟩ := h
  have h2 := opB_of h2
  have h3 := opB_of h3
  have hk : kind = 1 ∨ kind = 2 := of_decide_eq_true h1
  have a1 : ¬ op < 0 := by omega
  have a2 : ¬ 7 < op := by omega
  have a3 : ¬ o < 0 := by omega
  have a4 : ¬ 7 < o := by omega
  clear h1
  by_cases h0 : op = 0
  · subst h0
    clear hz h2 h3
    rcases hk with rfl | rfl
    all_goals
      go_enter Tryd.func17, Tryd.ntmps17
      go_wp2_with fail
      go_ret2
      exact ⟨rfl, rfl⟩
  · have t1 : (op == 0) = false := by simpa using h0
    obtain rfl : o = 0 := hz.resolve_left h0
    clear hz h0 h2 h3
    rcases hk with rfl | rfl
    all_goals
      go_enter Tryd.func17, Tryd.ntmps17
      go_wp2_with fail
      go_ret2
      exact ⟨rfl, rfl⟩

set_option maxHeartbeats 4000000 in
set_option maxRecDepth 1000000 in
theorem refMeets_form (kind op o : Int) (a b : ByteArray) (ha : a.size ≤ maxLen) (hb : b.size ≤ maxLen) (w0 : World) (h : MeetIn kind op o) (hz : bothErr kind (parse a.data.toList) (parse b.data.toList) ≠ 0) :
    Calls Tryd.prog 17 #[.int .i64 kind, .int .i64 op, .string a, .int .i64 o, .string b] w0 fun e w' => e = .returned (.tuple #[.bool false, .int .i64 (bothErr kind (parse a.data.toList) (parse b.data.toList))]) ∧ Below w0.heap.size w0 w' := by
  have C := Lib.hid (fun w => refBoth_bad kind a b ha hb hz w)
  unfold RBad at C
  have h2 := opB_of h.x
  have h3 := opB_of h.y
  have hk : kind = 1 ∨ kind = 2 := of_decide_eq_true h.k
  have a1 : ¬ op < 0 := by omega
  have a2 : ¬ 7 < op := by omega
  have a3 : ¬ o < 0 := by omega
  have a4 : ¬ 7 < o := by omega
  have t1 : (op == 0) = false := by simpa using h.op0
  have t2 : (o == 0) = false := by simpa using h.o0
  generalize bothErr kind (parse a.data.toList) (parse b.data.toList) = x at *
  have t3 : (x == 0) = false := by simpa using hz
  have t4 : (x != 0) = true := by simpa using hz
  clear hz h h2 h3 ha hb
  rcases hk with rfl | rfl
  all_goals
    go_enter Tryd.func17, Tryd.ntmps17
    go_wp2_with fail
    refine (C.out _).mono ?_
    rintro e' w1 ⟨⟨e1, v1, r1, e2, v2, r2, rfl⟩, hb1⟩
    have HB := Lib.hid hb1
    have hz := hb1.size
    clear hb1 C
    go_wp2_with fail
    go_ret2
    exact ⟨rfl, (HB.out.alloc hz _).alloc (by simp; omega) _⟩

set_option maxHeartbeats 16000000 in
set_option maxRecDepth 1000000 in
theorem refMeets_good (kind op o : Int) (a b : ByteArray) (ha : a.size ≤ maxLen) (hb : b.size ≤ maxLen) (w0 : World) (h : MeetIn kind op o) (p q : Parts) (hp : parse a.data.toList = some p) (hq : parse b.data.toList = some q) :
    Calls Tryd.prog 17 #[.int .i64 kind, .int .i64 op, .string a, .int .i64 o, .string b] w0 fun e w' => e = .returned (.tuple #[.bool (signB (meetC kind p q) op o), .int .i64 0]) ∧ Below w0.heap.size w0 w' := by
  have C := Lib.hid (fun w => refBoth_good kind a b ha hb h.k hp hq w)
  have h2 := opB_of h.x
  have h3 := opB_of h.y
  have hk : kind = 1 ∨ kind = 2 := of_decide_eq_true h.k
  have a1 : ¬ op < 0 := by omega
  have a2 : ¬ 7 < op := by omega
  have a3 : ¬ o < 0 := by omega
  have a4 : ¬ 7 < o := by omega
  have t1 : (op == 0) = false := by simpa using h.op0
  have t2 : (o == 0) = false := by simpa using h.o0
  have A1 := Lib.hid (fun w => refHas_any op 1 h2 (.inl rfl) w)
  have A2 := Lib.hid (fun w => refHas_any op 2 h2 (.inr (.inl rfl)) w)
  have A4 := Lib.hid (fun w => refHas_any op 4 h2 (.inr (.inr rfl)) w)
  have B1 := Lib.hid (fun w => refHas_any o 1 h3 (.inl rfl) w)
  have B2 := Lib.hid (fun w => refHas_any o 2 h3 (.inr (.inl rfl)) w)
  have B4 := Lib.hid (fun w => refHas_any o 4 h3 (.inr (.inr rfl)) w)
  have sp := parse_size hp
  have sq := parse_size hq
  obtain ⟨e1, he1⟩ : ∃ e, e = mkS p.e := ⟨_, rfl⟩
  obtain ⟨v1, hv1⟩ : ∃ e, e = mkS p.v := ⟨_, rfl⟩
  obtain ⟨r1, hr1⟩ : ∃ e, e = mkS p.r := ⟨_, rfl⟩
  obtain ⟨e2, he2⟩ : ∃ e, e = mkS q.e := ⟨_, rfl⟩
  obtain ⟨v2, hv2⟩ : ∃ e, e = mkS q.v := ⟨_, rfl⟩
  obtain ⟨r2, hr2⟩ : ∃ e, e = mkS q.r := ⟨_, rfl⟩
  rw [← he1, ← hv1, ← hr1, ← he2, ← hv2, ← hr2] at C
  have s1 : e1.size ≤ maxLen := by rw [he1, mkS_size]; unfold maxLen; omega
  have s2 : e2.size ≤ maxLen := by rw [he2, mkS_size]; unfold maxLen; omega
  have s3 : v1.size ≤ maxLen := by rw [hv1, mkS_size]; unfold maxLen; omega
  have s4 : v2.size ≤ maxLen := by rw [hv2, mkS_size]; unfold maxLen; omega
  have s5 : r1.size ≤ maxLen := by rw [hr1, mkS_size]; unfold maxLen; omega
  have s6 : r2.size ≤ maxLen := by rw [hr2, mkS_size]; unfold maxLen; omega
  have CP := Lib.hid (fun w => refParts_any h.k e1 v1 r1 e2 v2 r2 s1 s2 s3 s4 s5 s6 w)
  have HX : thenC (cmpNum e1.data.toList e2.data.toList) (cmpTxt kind v1.data.toList v2.data.toList) = cmpEV kind p q := by rw [he1, he2, hv1, hv2]; rfl
  have HY : cmpRel kind r1.data.toList r2.data.toList = cmpRel kind p.r q.r := by rw [hr1, hr2]; rfl
  have HR1 : r1.size = 0 ↔ p.r = [] := by rw [hr1, mkS_size]; exact List.length_eq_zero_iff
  have HR2 : r2.size = 0 ↔ q.r = [] := by rw [hr2, mkS_size]; exact List.length_eq_zero_iff
  rw [HX, HY] at CP
  have HM : meetC kind p q = if cmpEV kind p q = 0 ∧ r1.size ≠ 0 ∧ r2.size ≠ 0 then cmpRel kind p.r q.r else cmpEV kind p q := by
    unfold meetC
    simp only [ne_eq, HR1, HR2]
  have HMH := Lib.hid HM
  clear HM
  generalize meetC kind p q = mc at *
  generalize cmpEV kind p q = x at *
  generalize cmpRel kind p.r q.r = y at *
  have HSN : Hid (mc < 0 → signB mc op o = (hasB op 4 || hasB o 1)) := fun hh => by unfold signB; rw [if_pos hh]
  have HSP : Hid (0 < mc → signB mc op o = (hasB op 1 || hasB o 4)) := fun hh => by unfold signB; rw [if_neg (by omega), if_pos hh]
  have HSZ : Hid (mc = 0 → signB mc op o = (hasB op 2 && hasB o 2 || hasB op 1 && hasB o 1 || hasB op 4 && hasB o 4)) := fun hh => by unfold signB; rw [if_neg (by omega), if_neg (by omega)]
  generalize signB mc op o = sb at *
  generalize hasB op 1 = p1 at *
  generalize hasB op 2 = p2 at *
  generalize hasB op 4 = p4 at *
  generalize hasB o 1 = q1 at *
  generalize hasB o 2 = q2 at *
  generalize hasB o 4 = q4 at *
  clear h hp hq sp sq he1 hv1 hr1 he2 hv2 hr2 s1 s2 s3 s4 s5 s6 HX HY HR1 HR2 h2 h3 ha hb
  by_cases hx : x = 0
  · subst hx
    by_cases z1 : r1.size = 0
    · have HS : Hid (sb = (p2 && q2 || p1 && q1 || p4 && q4)) := HSZ.out (by rw [HMH.out, if_neg (fun h => h.2.1 z1)])
      obtain rfl := empty_of z1
      clear z1 HSN HSP HSZ HMH
      rcases hk with rfl | rfl
      · go_enter Tryd.func17, Tryd.ntmps17
        go_wp2_with fail
        refine (C.out _).mono ?_
        rintro e' w1 ⟨rfl, hb1⟩
        have HB := Lib.hid hb1
        have hz := hb1.size
        clear hb1 C
        go_wp2_with fail
        refine (CP.out _).mono ?_
        rintro e' w2 ⟨rfl, hb2⟩
        have HB2 : Hid (Below w0.heap.size w0 w2) := ((HB.out.alloc hz _).alloc (by simp; omega) _).trans (hb2.mono (by simp; omega))
        have K1 := Lib.hid (((Blk.new w1 24 #[Value.string e1, .string v1, .string ⟨#[]⟩]).alloc (.cells #[Value.string e2, .string v2, .string r2] 24)).below hb2 (by simp; omega))
        have K2 := Lib.hid ((Blk.new' (w := w1.alloc (.cells #[Value.string e1, .string v1, .string ⟨#[]⟩] 24)) (g := w1.heap.size + 1) (t := 24) (cs := #[Value.string e2, .string v2, .string r2]) (by simp)).below hb2 (by simp))
        have c1 : w2.cell? ⟨w1.heap.size, 2, none⟩ = some (.string ⟨#[]⟩) := K1.out.cell 2
        have c2 : w2.cell? ⟨w1.heap.size + 1, 2, none⟩ = some (.string r2) := K2.out.cell 2
        clear hb2 hz
        go_wp2_with fail
        cases p2
        · refine (A2.out _).mono ?_
          rintro e' w3 ⟨rfl, rfl⟩
          go_wp2_with fail
          cases p1
          · refine (A1.out _).mono ?_
            rintro e' w3 ⟨rfl, rfl⟩
            go_wp2_with fail
            cases p4
            · refine (A4.out _).mono ?_
              rintro e' w3 ⟨rfl, rfl⟩
              go_wp2_with fail
              go_ret2
              exact ⟨by rw [HS.out]; rfl, HB2.out⟩
            · refine (A4.out _).mono ?_
              rintro e' w3 ⟨rfl, rfl⟩
              go_wp2_with fail
              cases q4
              · refine (B4.out _).mono ?_
                rintro e' w3 ⟨rfl, rfl⟩
                go_wp2_with fail
                go_ret2
                exact ⟨by rw [HS.out]; rfl, HB2.out⟩
              · refine (B4.out _).mono ?_
                rintro e' w3 ⟨rfl, rfl⟩
                go_wp2_with fail
                go_ret2
                exact ⟨by rw [HS.out]; rfl, HB2.out⟩
          · refine (A1.out _).mono ?_
            rintro e' w3 ⟨rfl, rfl⟩
            go_wp2_with fail
            cases q1
            · refine (B1.out _).mono ?_
              rintro e' w3 ⟨rfl, rfl⟩
              go_wp2_with fail
              cases p4
              · refine (A4.out _).mono ?_
                rintro e' w3 ⟨rfl, rfl⟩
                go_wp2_with fail
                go_ret2
                exact ⟨by rw [HS.out]; rfl, HB2.out⟩
              · refine (A4.out _).mono ?_
                rintro e' w3 ⟨rfl, rfl⟩
                go_wp2_with fail
                cases q4
                · refine (B4.out _).mono ?_
                  rintro e' w3 ⟨rfl, rfl⟩
                  go_wp2_with fail
                  go_ret2
                  exact ⟨by rw [HS.out]; rfl, HB2.out⟩
                · refine (B4.out _).mono ?_
                  rintro e' w3 ⟨rfl, rfl⟩
                  go_wp2_with fail
                  go_ret2
                  exact ⟨by rw [HS.out]; rfl, HB2.out⟩
            · refine (B1.out _).mono ?_
              rintro e' w3 ⟨rfl, rfl⟩
              go_wp2_with fail
              go_ret2
              exact ⟨by rw [HS.out]; rfl, HB2.out⟩
        · refine (A2.out _).mono ?_
          rintro e' w3 ⟨rfl, rfl⟩
          go_wp2_with fail
          cases q2
          · refine (B2.out _).mono ?_
            rintro e' w3 ⟨rfl, rfl⟩
            go_wp2_with fail
            cases p1
            · refine (A1.out _).mono ?_
              rintro e' w3 ⟨rfl, rfl⟩
              go_wp2_with fail
              cases p4
              · refine (A4.out _).mono ?_
                rintro e' w3 ⟨rfl, rfl⟩
                go_wp2_with fail
                go_ret2
                exact ⟨by rw [HS.out]; rfl, HB2.out⟩
              · refine (A4.out _).mono ?_
                rintro e' w3 ⟨rfl, rfl⟩
                go_wp2_with fail
                cases q4
                · refine (B4.out _).mono ?_
                  rintro e' w3 ⟨rfl, rfl⟩
                  go_wp2_with fail
                  go_ret2
                  exact ⟨by rw [HS.out]; rfl, HB2.out⟩
                · refine (B4.out _).mono ?_
                  rintro e' w3 ⟨rfl, rfl⟩
                  go_wp2_with fail
                  go_ret2
                  exact ⟨by rw [HS.out]; rfl, HB2.out⟩
            · refine (A1.out _).mono ?_
              rintro e' w3 ⟨rfl, rfl⟩
              go_wp2_with fail
              cases q1
              · refine (B1.out _).mono ?_
                rintro e' w3 ⟨rfl, rfl⟩
                go_wp2_with fail
                cases p4
                · refine (A4.out _).mono ?_
                  rintro e' w3 ⟨rfl, rfl⟩
                  go_wp2_with fail
                  go_ret2
                  exact ⟨by rw [HS.out]; rfl, HB2.out⟩
                · refine (A4.out _).mono ?_
                  rintro e' w3 ⟨rfl, rfl⟩
                  go_wp2_with fail
                  cases q4
                  · refine (B4.out _).mono ?_
                    rintro e' w3 ⟨rfl, rfl⟩
                    go_wp2_with fail
                    go_ret2
                    exact ⟨by rw [HS.out]; rfl, HB2.out⟩
                  · refine (B4.out _).mono ?_
                    rintro e' w3 ⟨rfl, rfl⟩
                    go_wp2_with fail
                    go_ret2
                    exact ⟨by rw [HS.out]; rfl, HB2.out⟩
              · refine (B1.out _).mono ?_
                rintro e' w3 ⟨rfl, rfl⟩
                go_wp2_with fail
                go_ret2
                exact ⟨by rw [HS.out]; rfl, HB2.out⟩
          · refine (B2.out _).mono ?_
            rintro e' w3 ⟨rfl, rfl⟩
            go_wp2_with fail
            go_ret2
            exact ⟨by rw [HS.out]; rfl, HB2.out⟩
      · go_enter Tryd.func17, Tryd.ntmps17
        go_wp2_with fail
        refine (C.out _).mono ?_
        rintro e' w1 ⟨rfl, hb1⟩
        have HB := Lib.hid hb1
        have hz := hb1.size
        clear hb1 C
        go_wp2_with fail
        refine (CP.out _).mono ?_
        rintro e' w2 ⟨rfl, hb2⟩
        have HB2 : Hid (Below w0.heap.size w0 w2) := ((HB.out.alloc hz _).alloc (by simp; omega) _).trans (hb2.mono (by simp; omega))
        have K1 := Lib.hid (((Blk.new w1 24 #[Value.string e1, .string v1, .string ⟨#[]⟩]).alloc (.cells #[Value.string e2, .string v2, .string r2] 24)).below hb2 (by simp; omega))
        have K2 := Lib.hid ((Blk.new' (w := w1.alloc (.cells #[Value.string e1, .string v1, .string ⟨#[]⟩] 24)) (g := w1.heap.size + 1) (t := 24) (cs := #[Value.string e2, .string v2, .string r2]) (by simp)).below hb2 (by simp))
        have c1 : w2.cell? ⟨w1.heap.size, 2, none⟩ = some (.string ⟨#[]⟩) := K1.out.cell 2
        have c2 : w2.cell? ⟨w1.heap.size + 1, 2, none⟩ = some (.string r2) := K2.out.cell 2
        clear hb2 hz
        go_wp2_with fail
        cases p2
        · refine (A2.out _).mono ?_
          rintro e' w3 ⟨rfl, rfl⟩
          go_wp2_with fail
          cases p1
          · refine (A1.out _).mono ?_
            rintro e' w3 ⟨rfl, rfl⟩
            go_wp2_with fail
            cases p4
            · refine (A4.out _).mono ?_
              rintro e' w3 ⟨rfl, rfl⟩
              go_wp2_with fail
              go_ret2
              exact ⟨by rw [HS.out]; rfl, HB2.out⟩
            · refine (A4.out _).mono ?_
              rintro e' w3 ⟨rfl, rfl⟩
              go_wp2_with fail
              cases q4
              · refine (B4.out _).mono ?_
                rintro e' w3 ⟨rfl, rfl⟩
                go_wp2_with fail
                go_ret2
                exact ⟨by rw [HS.out]; rfl, HB2.out⟩
              · refine (B4.out _).mono ?_
                rintro e' w3 ⟨rfl, rfl⟩
                go_wp2_with fail
                go_ret2
                exact ⟨by rw [HS.out]; rfl, HB2.out⟩
          · refine (A1.out _).mono ?_
            rintro e' w3 ⟨rfl, rfl⟩
            go_wp2_with fail
            cases q1
            · refine (B1.out _).mono ?_
              rintro e' w3 ⟨rfl, rfl⟩
              go_wp2_with fail
              cases p4
              · refine (A4.out _).mono ?_
                rintro e' w3 ⟨rfl, rfl⟩
                go_wp2_with fail
                go_ret2
                exact ⟨by rw [HS.out]; rfl, HB2.out⟩
              · refine (A4.out _).mono ?_
                rintro e' w3 ⟨rfl, rfl⟩
                go_wp2_with fail
                cases q4
                · refine (B4.out _).mono ?_
                  rintro e' w3 ⟨rfl, rfl⟩
                  go_wp2_with fail
                  go_ret2
                  exact ⟨by rw [HS.out]; rfl, HB2.out⟩
                · refine (B4.out _).mono ?_
                  rintro e' w3 ⟨rfl, rfl⟩
                  go_wp2_with fail
                  go_ret2
                  exact ⟨by rw [HS.out]; rfl, HB2.out⟩
            · refine (B1.out _).mono ?_
              rintro e' w3 ⟨rfl, rfl⟩
              go_wp2_with fail
              go_ret2
              exact ⟨by rw [HS.out]; rfl, HB2.out⟩
        · refine (A2.out _).mono ?_
          rintro e' w3 ⟨rfl, rfl⟩
          go_wp2_with fail
          cases q2
          · refine (B2.out _).mono ?_
            rintro e' w3 ⟨rfl, rfl⟩
            go_wp2_with fail
            cases p1
            · refine (A1.out _).mono ?_
              rintro e' w3 ⟨rfl, rfl⟩
              go_wp2_with fail
              cases p4
              · refine (A4.out _).mono ?_
                rintro e' w3 ⟨rfl, rfl⟩
                go_wp2_with fail
                go_ret2
                exact ⟨by rw [HS.out]; rfl, HB2.out⟩
              · refine (A4.out _).mono ?_
                rintro e' w3 ⟨rfl, rfl⟩
                go_wp2_with fail
                cases q4
                · refine (B4.out _).mono ?_
                  rintro e' w3 ⟨rfl, rfl⟩
                  go_wp2_with fail
                  go_ret2
                  exact ⟨by rw [HS.out]; rfl, HB2.out⟩
                · refine (B4.out _).mono ?_
                  rintro e' w3 ⟨rfl, rfl⟩
                  go_wp2_with fail
                  go_ret2
                  exact ⟨by rw [HS.out]; rfl, HB2.out⟩
            · refine (A1.out _).mono ?_
              rintro e' w3 ⟨rfl, rfl⟩
              go_wp2_with fail
              cases q1
              · refine (B1.out _).mono ?_
                rintro e' w3 ⟨rfl, rfl⟩
                go_wp2_with fail
                cases p4
                · refine (A4.out _).mono ?_
                  rintro e' w3 ⟨rfl, rfl⟩
                  go_wp2_with fail
                  go_ret2
                  exact ⟨by rw [HS.out]; rfl, HB2.out⟩
                · refine (A4.out _).mono ?_
                  rintro e' w3 ⟨rfl, rfl⟩
                  go_wp2_with fail
                  cases q4
                  · refine (B4.out _).mono ?_
                    rintro e' w3 ⟨rfl, rfl⟩
                    go_wp2_with fail
                    go_ret2
                    exact ⟨by rw [HS.out]; rfl, HB2.out⟩
                  · refine (B4.out _).mono ?_
                    rintro e' w3 ⟨rfl, rfl⟩
                    go_wp2_with fail
                    go_ret2
                    exact ⟨by rw [HS.out]; rfl, HB2.out⟩
              · refine (B1.out _).mono ?_
                rintro e' w3 ⟨rfl, rfl⟩
                go_wp2_with fail
                go_ret2
                exact ⟨by rw [HS.out]; rfl, HB2.out⟩
          · refine (B2.out _).mono ?_
            rintro e' w3 ⟨rfl, rfl⟩
            go_wp2_with fail
            go_ret2
            exact ⟨by rw [HS.out]; rfl, HB2.out⟩
    · obtain ⟨y1a, y1b, y1c⟩ := blank_of z1
      clear y1c
      by_cases z2 : r2.size = 0
      · have HS : Hid (sb = (p2 && q2 || p1 && q1 || p4 && q4)) := HSZ.out (by rw [HMH.out, if_neg (fun h => h.2.2 z2)])
        obtain rfl := empty_of z2
        clear z1 z2 HSN HSP HSZ HMH
        rcases hk with rfl | rfl
        · go_enter Tryd.func17, Tryd.ntmps17
          go_wp2_with fail
          refine (C.out _).mono ?_
          rintro e' w1 ⟨rfl, hb1⟩
          have HB := Lib.hid hb1
          have hz := hb1.size
          clear hb1 C
          go_wp2_with fail
          refine (CP.out _).mono ?_
          rintro e' w2 ⟨rfl, hb2⟩
          have HB2 : Hid (Below w0.heap.size w0 w2) := ((HB.out.alloc hz _).alloc (by simp; omega) _).trans (hb2.mono (by simp; omega))
          have K1 := Lib.hid (((Blk.new w1 24 #[Value.string e1, .string v1, .string r1]).alloc (.cells #[Value.string e2, .string v2, .string ⟨#[]⟩] 24)).below hb2 (by simp; omega))
          have K2 := Lib.hid ((Blk.new' (w := w1.alloc (.cells #[Value.string e1, .string v1, .string r1] 24)) (g := w1.heap.size + 1) (t := 24) (cs := #[Value.string e2, .string v2, .string ⟨#[]⟩]) (by simp)).below hb2 (by simp))
          have c1 : w2.cell? ⟨w1.heap.size, 2, none⟩ = some (.string r1) := K1.out.cell 2
          have c2 : w2.cell? ⟨w1.heap.size + 1, 2, none⟩ = some (.string ⟨#[]⟩) := K2.out.cell 2
          clear hb2 hz
          go_wp2_with fail
          cases p2
          · refine (A2.out _).mono ?_
            rintro e' w3 ⟨rfl, rfl⟩
            go_wp2_with fail
            cases p1
            · refine (A1.out _).mono ?_
              rintro e' w3 ⟨rfl, rfl⟩
              go_wp2_with fail
              cases p4
              · refine (A4.out _).mono ?_
                rintro e' w3 ⟨rfl, rfl⟩
                go_wp2_with fail
                go_ret2
                exact ⟨by rw [HS.out]; rfl, HB2.out⟩
              · refine (A4.out _).mono ?_
                rintro e' w3 ⟨rfl, rfl⟩
                go_wp2_with fail
                cases q4
                · refine (B4.out _).mono ?_
                  rintro e' w3 ⟨rfl, rfl⟩
                  go_wp2_with fail
                  go_ret2
                  exact ⟨by rw [HS.out]; rfl, HB2.out⟩
                · refine (B4.out _).mono ?_
                  rintro e' w3 ⟨rfl, rfl⟩
                  go_wp2_with fail
                  go_ret2
                  exact ⟨by rw [HS.out]; rfl, HB2.out⟩
            · refine (A1.out _).mono ?_
              rintro e' w3 ⟨rfl, rfl⟩
              go_wp2_with fail
              cases q1
              · refine (B1.out _).mono ?_
                rintro e' w3 ⟨rfl, rfl⟩
                go_wp2_with fail
                cases p4
                · refine (A4.out _).mono ?_
                  rintro e' w3 ⟨rfl, rfl⟩
                  go_wp2_with fail
                  go_ret2
                  exact ⟨by rw [HS.out]; rfl, HB2.out⟩
                · refine (A4.out _).mono ?_
                  rintro e' w3 ⟨rfl, rfl⟩
                  go_wp2_with fail
                  cases q4
                  · refine (B4.out _).mono ?_
                    rintro e' w3 ⟨rfl, rfl⟩
                    go_wp2_with fail
                    go_ret2
                    exact ⟨by rw [HS.out]; rfl, HB2.out⟩
                  · refine (B4.out _).mono ?_
                    rintro e' w3 ⟨rfl, rfl⟩
                    go_wp2_with fail
                    go_ret2
                    exact ⟨by rw [HS.out]; rfl, HB2.out⟩
              · refine (B1.out _).mono ?_
                rintro e' w3 ⟨rfl, rfl⟩
                go_wp2_with fail
                go_ret2
                exact ⟨by rw [HS.out]; rfl, HB2.out⟩
          · refine (A2.out _).mono ?_
            rintro e' w3 ⟨rfl, rfl⟩
            go_wp2_with fail
            cases q2
            · refine (B2.out _).mono ?_
              rintro e' w3 ⟨rfl, rfl⟩
              go_wp2_with fail
              cases p1
              · refine (A1.out _).mono ?_
                rintro e' w3 ⟨rfl, rfl⟩
                go_wp2_with fail
                cases p4
                · refine (A4.out _).mono ?_
                  rintro e' w3 ⟨rfl, rfl⟩
                  go_wp2_with fail
                  go_ret2
                  exact ⟨by rw [HS.out]; rfl, HB2.out⟩
                · refine (A4.out _).mono ?_
                  rintro e' w3 ⟨rfl, rfl⟩
                  go_wp2_with fail
                  cases q4
                  · refine (B4.out _).mono ?_
                    rintro e' w3 ⟨rfl, rfl⟩
                    go_wp2_with fail
                    go_ret2
                    exact ⟨by rw [HS.out]; rfl, HB2.out⟩
                  · refine (B4.out _).mono ?_
                    rintro e' w3 ⟨rfl, rfl⟩
                    go_wp2_with fail
                    go_ret2
                    exact ⟨by rw [HS.out]; rfl, HB2.out⟩
              · refine (A1.out _).mono ?_
                rintro e' w3 ⟨rfl, rfl⟩
                go_wp2_with fail
                cases q1
                · refine (B1.out _).mono ?_
                  rintro e' w3 ⟨rfl, rfl⟩
                  go_wp2_with fail
                  cases p4
                  · refine (A4.out _).mono ?_
                    rintro e' w3 ⟨rfl, rfl⟩
                    go_wp2_with fail
                    go_ret2
                    exact ⟨by rw [HS.out]; rfl, HB2.out⟩
                  · refine (A4.out _).mono ?_
                    rintro e' w3 ⟨rfl, rfl⟩
                    go_wp2_with fail
                    cases q4
                    · refine (B4.out _).mono ?_
                      rintro e' w3 ⟨rfl, rfl⟩
                      go_wp2_with fail
                      go_ret2
                      exact ⟨by rw [HS.out]; rfl, HB2.out⟩
                    · refine (B4.out _).mono ?_
                      rintro e' w3 ⟨rfl, rfl⟩
                      go_wp2_with fail
                      go_ret2
                      exact ⟨by rw [HS.out]; rfl, HB2.out⟩
                · refine (B1.out _).mono ?_
                  rintro e' w3 ⟨rfl, rfl⟩
                  go_wp2_with fail
                  go_ret2
                  exact ⟨by rw [HS.out]; rfl, HB2.out⟩
            · refine (B2.out _).mono ?_
              rintro e' w3 ⟨rfl, rfl⟩
              go_wp2_with fail
              go_ret2
              exact ⟨by rw [HS.out]; rfl, HB2.out⟩
        · go_enter Tryd.func17, Tryd.ntmps17
          go_wp2_with fail
          refine (C.out _).mono ?_
          rintro e' w1 ⟨rfl, hb1⟩
          have HB := Lib.hid hb1
          have hz := hb1.size
          clear hb1 C
          go_wp2_with fail
          refine (CP.out _).mono ?_
          rintro e' w2 ⟨rfl, hb2⟩
          have HB2 : Hid (Below w0.heap.size w0 w2) := ((HB.out.alloc hz _).alloc (by simp; omega) _).trans (hb2.mono (by simp; omega))
          have K1 := Lib.hid (((Blk.new w1 24 #[Value.string e1, .string v1, .string r1]).alloc (.cells #[Value.string e2, .string v2, .string ⟨#[]⟩] 24)).below hb2 (by simp; omega))
          have K2 := Lib.hid ((Blk.new' (w := w1.alloc (.cells #[Value.string e1, .string v1, .string r1] 24)) (g := w1.heap.size + 1) (t := 24) (cs := #[Value.string e2, .string v2, .string ⟨#[]⟩]) (by simp)).below hb2 (by simp))
          have c1 : w2.cell? ⟨w1.heap.size, 2, none⟩ = some (.string r1) := K1.out.cell 2
          have c2 : w2.cell? ⟨w1.heap.size + 1, 2, none⟩ = some (.string ⟨#[]⟩) := K2.out.cell 2
          clear hb2 hz
          go_wp2_with fail
          cases p2
          · refine (A2.out _).mono ?_
            rintro e' w3 ⟨rfl, rfl⟩
            go_wp2_with fail
            cases p1
            · refine (A1.out _).mono ?_
              rintro e' w3 ⟨rfl, rfl⟩
              go_wp2_with fail
              cases p4
              · refine (A4.out _).mono ?_
                rintro e' w3 ⟨rfl, rfl⟩
                go_wp2_with fail
                go_ret2
                exact ⟨by rw [HS.out]; rfl, HB2.out⟩
              · refine (A4.out _).mono ?_
                rintro e' w3 ⟨rfl, rfl⟩
                go_wp2_with fail
                cases q4
                · refine (B4.out _).mono ?_
                  rintro e' w3 ⟨rfl, rfl⟩
                  go_wp2_with fail
                  go_ret2
                  exact ⟨by rw [HS.out]; rfl, HB2.out⟩
                · refine (B4.out _).mono ?_
                  rintro e' w3 ⟨rfl, rfl⟩
                  go_wp2_with fail
                  go_ret2
                  exact ⟨by rw [HS.out]; rfl, HB2.out⟩
            · refine (A1.out _).mono ?_
              rintro e' w3 ⟨rfl, rfl⟩
              go_wp2_with fail
              cases q1
              · refine (B1.out _).mono ?_
                rintro e' w3 ⟨rfl, rfl⟩
                go_wp2_with fail
                cases p4
                · refine (A4.out _).mono ?_
                  rintro e' w3 ⟨rfl, rfl⟩
                  go_wp2_with fail
                  go_ret2
                  exact ⟨by rw [HS.out]; rfl, HB2.out⟩
                · refine (A4.out _).mono ?_
                  rintro e' w3 ⟨rfl, rfl⟩
                  go_wp2_with fail
                  cases q4
                  · refine (B4.out _).mono ?_
                    rintro e' w3 ⟨rfl, rfl⟩
                    go_wp2_with fail
                    go_ret2
                    exact ⟨by rw [HS.out]; rfl, HB2.out⟩
                  · refine (B4.out _).mono ?_
                    rintro e' w3 ⟨rfl, rfl⟩
                    go_wp2_with fail
                    go_ret2
                    exact ⟨by rw [HS.out]; rfl, HB2.out⟩
              · refine (B1.out _).mono ?_
                rintro e' w3 ⟨rfl, rfl⟩
                go_wp2_with fail
                go_ret2
                exact ⟨by rw [HS.out]; rfl, HB2.out⟩
          · refine (A2.out _).mono ?_
            rintro e' w3 ⟨rfl, rfl⟩
            go_wp2_with fail
            cases q2
            · refine (B2.out _).mono ?_
              rintro e' w3 ⟨rfl, rfl⟩
              go_wp2_with fail
              cases p1
              · refine (A1.out _).mono ?_
                rintro e' w3 ⟨rfl, rfl⟩
                go_wp2_with fail
                cases p4
                · refine (A4.out _).mono ?_
                  rintro e' w3 ⟨rfl, rfl⟩
                  go_wp2_with fail
                  go_ret2
                  exact ⟨by rw [HS.out]; rfl, HB2.out⟩
                · refine (A4.out _).mono ?_
                  rintro e' w3 ⟨rfl, rfl⟩
                  go_wp2_with fail
                  cases q4
                  · refine (B4.out _).mono ?_
                    rintro e' w3 ⟨rfl, rfl⟩
                    go_wp2_with fail
                    go_ret2
                    exact ⟨by rw [HS.out]; rfl, HB2.out⟩
                  · refine (B4.out _).mono ?_
                    rintro e' w3 ⟨rfl, rfl⟩
                    go_wp2_with fail
                    go_ret2
                    exact ⟨by rw [HS.out]; rfl, HB2.out⟩
              · refine (A1.out _).mono ?_
                rintro e' w3 ⟨rfl, rfl⟩
                go_wp2_with fail
                cases q1
                · refine (B1.out _).mono ?_
                  rintro e' w3 ⟨rfl, rfl⟩
                  go_wp2_with fail
                  cases p4
                  · refine (A4.out _).mono ?_
                    rintro e' w3 ⟨rfl, rfl⟩
                    go_wp2_with fail
                    go_ret2
                    exact ⟨by rw [HS.out]; rfl, HB2.out⟩
                  · refine (A4.out _).mono ?_
                    rintro e' w3 ⟨rfl, rfl⟩
                    go_wp2_with fail
                    cases q4
                    · refine (B4.out _).mono ?_
                      rintro e' w3 ⟨rfl, rfl⟩
                      go_wp2_with fail
                      go_ret2
                      exact ⟨by rw [HS.out]; rfl, HB2.out⟩
                    · refine (B4.out _).mono ?_
                      rintro e' w3 ⟨rfl, rfl⟩
                      go_wp2_with fail
                      go_ret2
                      exact ⟨by rw [HS.out]; rfl, HB2.out⟩
                · refine (B1.out _).mono ?_
                  rintro e' w3 ⟨rfl, rfl⟩
                  go_wp2_with fail
                  go_ret2
                  exact ⟨by rw [HS.out]; rfl, HB2.out⟩
            · refine (B2.out _).mono ?_
              rintro e' w3 ⟨rfl, rfl⟩
              go_wp2_with fail
              go_ret2
              exact ⟨by rw [HS.out]; rfl, HB2.out⟩
      · obtain ⟨y2a, y2b, y2c⟩ := blank_of z2
        clear y2c
        obtain rfl : mc = y := by rw [HMH.out, if_pos ⟨rfl, z1, z2⟩]
        clear HMH z1 z2
        rcases Int.lt_trichotomy mc 0 with g | g | g
        · have HS := Lib.hid (HSN.out g)
          clear HSN HSP HSZ
          rcases hk with rfl | rfl
          · go_enter Tryd.func17, Tryd.ntmps17
            go_wp2_with fail
            refine (C.out _).mono ?_
            rintro e' w1 ⟨rfl, hb1⟩
            have HB := Lib.hid hb1
            have hz := hb1.size
            clear hb1 C
            go_wp2_with fail
            refine (CP.out _).mono ?_
            rintro e' w2 ⟨rfl, hb2⟩
            have HB2 : Hid (Below w0.heap.size w0 w2) := ((HB.out.alloc hz _).alloc (by simp; omega) _).trans (hb2.mono (by simp; omega))
            have K1 := Lib.hid (((Blk.new w1 24 #[Value.string e1, .string v1, .string r1]).alloc (.cells #[Value.string e2, .string v2, .string r2] 24)).below hb2 (by simp; omega))
            have K2 := Lib.hid ((Blk.new' (w := w1.alloc (.cells #[Value.string e1, .string v1, .string r1] 24)) (g := w1.heap.size + 1) (t := 24) (cs := #[Value.string e2, .string v2, .string r2]) (by simp)).below hb2 (by simp))
            have c1 : w2.cell? ⟨w1.heap.size, 2, none⟩ = some (.string r1) := K1.out.cell 2
            have c2 : w2.cell? ⟨w1.heap.size + 1, 2, none⟩ = some (.string r2) := K2.out.cell 2
            clear hb2 hz
            go_wp2_with fail
            cases p4
            · refine (A4.out _).mono ?_
              rintro e' w3 ⟨rfl, rfl⟩
              go_wp2_with fail
              cases q1
              · refine (B1.out _).mono ?_
                rintro e' w3 ⟨rfl, rfl⟩
                go_wp2_with fail
                go_ret2
                exact ⟨by rw [HS.out]; rfl, HB2.out⟩
              · refine (B1.out _).mono ?_
                rintro e' w3 ⟨rfl, rfl⟩
                go_wp2_with fail
                go_ret2
                exact ⟨by rw [HS.out]; rfl, HB2.out⟩
            · refine (A4.out _).mono ?_
              rintro e' w3 ⟨rfl, rfl⟩
              go_wp2_with fail
              go_ret2
              exact ⟨by rw [HS.out]; rfl, HB2.out⟩
          · go_enter Tryd.func17, Tryd.ntmps17
            go_wp2_with fail
            refine (C.out _).mono ?_
            rintro e' w1 ⟨rfl, hb1⟩
            have HB := Lib.hid hb1
            have hz := hb1.size
            clear hb1 C
            go_wp2_with fail
            refine (CP.out _).mono ?_
            rintro e' w2 ⟨rfl, hb2⟩
            have HB2 : Hid (Below w0.heap.size w0 w2) := ((HB.out.alloc hz _).alloc (by simp; omega) _).trans (hb2.mono (by simp; omega))
            have K1 := Lib.hid (((Blk.new w1 24 #[Value.string e1, .string v1, .string r1]).alloc (.cells #[Value.string e2, .string v2, .string r2] 24)).below hb2 (by simp; omega))
            have K2 := Lib.hid ((Blk.new' (w := w1.alloc (.cells #[Value.string e1, .string v1, .string r1] 24)) (g := w1.heap.size + 1) (t := 24) (cs := #[Value.string e2, .string v2, .string r2]) (by simp)).below hb2 (by simp))
            have c1 : w2.cell? ⟨w1.heap.size, 2, none⟩ = some (.string r1) := K1.out.cell 2
            have c2 : w2.cell? ⟨w1.heap.size + 1, 2, none⟩ = some (.string r2) := K2.out.cell 2
            clear hb2 hz
            go_wp2_with fail
            cases p4
            · refine (A4.out _).mono ?_
              rintro e' w3 ⟨rfl, rfl⟩
              go_wp2_with fail
              cases q1
              · refine (B1.out _).mono ?_
                rintro e' w3 ⟨rfl, rfl⟩
                go_wp2_with fail
                go_ret2
                exact ⟨by rw [HS.out]; rfl, HB2.out⟩
              · refine (B1.out _).mono ?_
                rintro e' w3 ⟨rfl, rfl⟩
                go_wp2_with fail
                go_ret2
                exact ⟨by rw [HS.out]; rfl, HB2.out⟩
            · refine (A4.out _).mono ?_
              rintro e' w3 ⟨rfl, rfl⟩
              go_wp2_with fail
              go_ret2
              exact ⟨by rw [HS.out]; rfl, HB2.out⟩
        · have HS := Lib.hid (HSZ.out g)
          subst g
          clear HSN HSP HSZ
          rcases hk with rfl | rfl
          · go_enter Tryd.func17, Tryd.ntmps17
            go_wp2_with fail
            refine (C.out _).mono ?_
            rintro e' w1 ⟨rfl, hb1⟩
            have HB := Lib.hid hb1
            have hz := hb1.size
            clear hb1 C
            go_wp2_with fail
            refine (CP.out _).mono ?_
            rintro e' w2 ⟨rfl, hb2⟩
            have HB2 : Hid (Below w0.heap.size w0 w2) := ((HB.out.alloc hz _).alloc (by simp; omega) _).trans (hb2.mono (by simp; omega))
            have K1 := Lib.hid (((Blk.new w1 24 #[Value.string e1, .string v1, .string r1]).alloc (.cells #[Value.string e2, .string v2, .string r2] 24)).below hb2 (by simp; omega))
            have K2 := Lib.hid ((Blk.new' (w := w1.alloc (.cells #[Value.string e1, .string v1, .string r1] 24)) (g := w1.heap.size + 1) (t := 24) (cs := #[Value.string e2, .string v2, .string r2]) (by simp)).below hb2 (by simp))
            have c1 : w2.cell? ⟨w1.heap.size, 2, none⟩ = some (.string r1) := K1.out.cell 2
            have c2 : w2.cell? ⟨w1.heap.size + 1, 2, none⟩ = some (.string r2) := K2.out.cell 2
            clear hb2 hz
            go_wp2_with fail
            cases p2
            · refine (A2.out _).mono ?_
              rintro e' w3 ⟨rfl, rfl⟩
              go_wp2_with fail
              cases p1
              · refine (A1.out _).mono ?_
                rintro e' w3 ⟨rfl, rfl⟩
                go_wp2_with fail
                cases p4
                · refine (A4.out _).mono ?_
                  rintro e' w3 ⟨rfl, rfl⟩
                  go_wp2_with fail
                  go_ret2
                  exact ⟨by rw [HS.out]; rfl, HB2.out⟩
                · refine (A4.out _).mono ?_
                  rintro e' w3 ⟨rfl, rfl⟩
                  go_wp2_with fail
                  cases q4
                  · refine (B4.out _).mono ?_
                    rintro e' w3 ⟨rfl, rfl⟩
                    go_wp2_with fail
                    go_ret2
                    exact ⟨by rw [HS.out]; rfl, HB2.out⟩
                  · refine (B4.out _).mono ?_
                    rintro e' w3 ⟨rfl, rfl⟩
                    go_wp2_with fail
                    go_ret2
                    exact ⟨by rw [HS.out]; rfl, HB2.out⟩
              · refine (A1.out _).mono ?_
                rintro e' w3 ⟨rfl, rfl⟩
                go_wp2_with fail
                cases q1
                · refine (B1.out _).mono ?_
                  rintro e' w3 ⟨rfl, rfl⟩
                  go_wp2_with fail
                  cases p4
                  · refine (A4.out _).mono ?_
                    rintro e' w3 ⟨rfl, rfl⟩
                    go_wp2_with fail
                    go_ret2
                    exact ⟨by rw [HS.out]; rfl, HB2.out⟩
                  · refine (A4.out _).mono ?_
                    rintro e' w3 ⟨rfl, rfl⟩
                    go_wp2_with fail
                    cases q4
                    · refine (B4.out _).mono ?_
                      rintro e' w3 ⟨rfl, rfl⟩
                      go_wp2_with fail
                      go_ret2
                      exact ⟨by rw [HS.out]; rfl, HB2.out⟩
                    · refine (B4.out _).mono ?_
                      rintro e' w3 ⟨rfl, rfl⟩
                      go_wp2_with fail
                      go_ret2
                      exact ⟨by rw [HS.out]; rfl, HB2.out⟩
                · refine (B1.out _).mono ?_
                  rintro e' w3 ⟨rfl, rfl⟩
                  go_wp2_with fail
                  go_ret2
                  exact ⟨by rw [HS.out]; rfl, HB2.out⟩
            · refine (A2.out _).mono ?_
              rintro e' w3 ⟨rfl, rfl⟩
              go_wp2_with fail
              cases q2
              · refine (B2.out _).mono ?_
                rintro e' w3 ⟨rfl, rfl⟩
                go_wp2_with fail
                cases p1
                · refine (A1.out _).mono ?_
                  rintro e' w3 ⟨rfl, rfl⟩
                  go_wp2_with fail
                  cases p4
                  · refine (A4.out _).mono ?_
                    rintro e' w3 ⟨rfl, rfl⟩
                    go_wp2_with fail
                    go_ret2
                    exact ⟨by rw [HS.out]; rfl, HB2.out⟩
                  · refine (A4.out _).mono ?_
                    rintro e' w3 ⟨rfl, rfl⟩
                    go_wp2_with fail
                    cases q4
                    · refine (B4.out _).mono ?_
                      rintro e' w3 ⟨rfl, rfl⟩
                      go_wp2_with fail
                      go_ret2
                      exact ⟨by rw [HS.out]; rfl, HB2.out⟩
                    · refine (B4.out _).mono ?_
                      rintro e' w3 ⟨rfl, rfl⟩
                      go_wp2_with fail
                      go_ret2
                      exact ⟨by rw [HS.out]; rfl, HB2.out⟩
                · refine (A1.out _).mono ?_
                  rintro e' w3 ⟨rfl, rfl⟩
                  go_wp2_with fail
                  cases q1
                  · refine (B1.out _).mono ?_
                    rintro e' w3 ⟨rfl, rfl⟩
                    go_wp2_with fail
                    cases p4
                    · refine (A4.out _).mono ?_
                      rintro e' w3 ⟨rfl, rfl⟩
                      go_wp2_with fail
                      go_ret2
                      exact ⟨by rw [HS.out]; rfl, HB2.out⟩
                    · refine (A4.out _).mono ?_
                      rintro e' w3 ⟨rfl, rfl⟩
                      go_wp2_with fail
                      cases q4
                      · refine (B4.out _).mono ?_
                        rintro e' w3 ⟨rfl, rfl⟩
                        go_wp2_with fail
                        go_ret2
                        exact ⟨by rw [HS.out]; rfl, HB2.out⟩
                      · refine (B4.out _).mono ?_
                        rintro e' w3 ⟨rfl, rfl⟩
                        go_wp2_with fail
                        go_ret2
                        exact ⟨by rw [HS.out]; rfl, HB2.out⟩
                  · refine (B1.out _).mono ?_
                    rintro e' w3 ⟨rfl, rfl⟩
                    go_wp2_with fail
                    go_ret2
                    exact ⟨by rw [HS.out]; rfl, HB2.out⟩
              · refine (B2.out _).mono ?_
                rintro e' w3 ⟨rfl, rfl⟩
                go_wp2_with fail
                go_ret2
                exact ⟨by rw [HS.out]; rfl, HB2.out⟩
          · go_enter Tryd.func17, Tryd.ntmps17
            go_wp2_with fail
            refine (C.out _).mono ?_
            rintro e' w1 ⟨rfl, hb1⟩
            have HB := Lib.hid hb1
            have hz := hb1.size
            clear hb1 C
            go_wp2_with fail
            refine (CP.out _).mono ?_
            rintro e' w2 ⟨rfl, hb2⟩
            have HB2 : Hid (Below w0.heap.size w0 w2) := ((HB.out.alloc hz _).alloc (by simp; omega) _).trans (hb2.mono (by simp; omega))
            have K1 := Lib.hid (((Blk.new w1 24 #[Value.string e1, .string v1, .string r1]).alloc (.cells #[Value.string e2, .string v2, .string r2] 24)).below hb2 (by simp; omega))
            have K2 := Lib.hid ((Blk.new' (w := w1.alloc (.cells #[Value.string e1, .string v1, .string r1] 24)) (g := w1.heap.size + 1) (t := 24) (cs := #[Value.string e2, .string v2, .string r2]) (by simp)).below hb2 (by simp))
            have c1 : w2.cell? ⟨w1.heap.size, 2, none⟩ = some (.string r1) := K1.out.cell 2
            have c2 : w2.cell? ⟨w1.heap.size + 1, 2, none⟩ = some (.string r2) := K2.out.cell 2
            clear hb2 hz
            go_wp2_with fail
            cases p2
            · refine (A2.out _).mono ?_
              rintro e' w3 ⟨rfl, rfl⟩
              go_wp2_with fail
              cases p1
              · refine (A1.out _).mono ?_
                rintro e' w3 ⟨rfl, rfl⟩
                go_wp2_with fail
                cases p4
                · refine (A4.out _).mono ?_
                  rintro e' w3 ⟨rfl, rfl⟩
                  go_wp2_with fail
                  go_ret2
                  exact ⟨by rw [HS.out]; rfl, HB2.out⟩
                · refine (A4.out _).mono ?_
                  rintro e' w3 ⟨rfl, rfl⟩
                  go_wp2_with fail
                  cases q4
                  · refine (B4.out _).mono ?_
                    rintro e' w3 ⟨rfl, rfl⟩
                    go_wp2_with fail
                    go_ret2
                    exact ⟨by rw [HS.out]; rfl, HB2.out⟩
                  · refine (B4.out _).mono ?_
                    rintro e' w3 ⟨rfl, rfl⟩
                    go_wp2_with fail
                    go_ret2
                    exact ⟨by rw [HS.out]; rfl, HB2.out⟩
              · refine (A1.out _).mono ?_
                rintro e' w3 ⟨rfl, rfl⟩
                go_wp2_with fail
                cases q1
                · refine (B1.out _).mono ?_
                  rintro e' w3 ⟨rfl, rfl⟩
                  go_wp2_with fail
                  cases p4
                  · refine (A4.out _).mono ?_
                    rintro e' w3 ⟨rfl, rfl⟩
                    go_wp2_with fail
                    go_ret2
                    exact ⟨by rw [HS.out]; rfl, HB2.out⟩
                  · refine (A4.out _).mono ?_
                    rintro e' w3 ⟨rfl, rfl⟩
                    go_wp2_with fail
                    cases q4
                    · refine (B4.out _).mono ?_
                      rintro e' w3 ⟨rfl, rfl⟩
                      go_wp2_with fail
                      go_ret2
                      exact ⟨by rw [HS.out]; rfl, HB2.out⟩
                    · refine (B4.out _).mono ?_
                      rintro e' w3 ⟨rfl, rfl⟩
                      go_wp2_with fail
                      go_ret2
                      exact ⟨by rw [HS.out]; rfl, HB2.out⟩
                · refine (B1.out _).mono ?_
                  rintro e' w3 ⟨rfl, rfl⟩
                  go_wp2_with fail
                  go_ret2
                  exact ⟨by rw [HS.out]; rfl, HB2.out⟩
            · refine (A2.out _).mono ?_
              rintro e' w3 ⟨rfl, rfl⟩
              go_wp2_with fail
              cases q2
              · refine (B2.out _).mono ?_
                rintro e' w3 ⟨rfl, rfl⟩
                go_wp2_with fail
                cases p1
                · refine (A1.out _).mono ?_
                  rintro e' w3 ⟨rfl, rfl⟩
                  go_wp2_with fail
                  cases p4
                  · refine (A4.out _).mono ?_
                    rintro e' w3 ⟨rfl, rfl⟩
                    go_wp2_with fail
                    go_ret2
                    exact ⟨by rw [HS.out]; rfl, HB2.out⟩
                  · refine (A4.out _).mono ?_
                    rintro e' w3 ⟨rfl, rfl⟩
                    go_wp2_with fail
                    cases q4
                    · refine (B4.out _).mono ?_
                      rintro e' w3 ⟨rfl, rfl⟩
                      go_wp2_with fail
                      go_ret2
                      exact ⟨by rw [HS.out]; rfl, HB2.out⟩
                    · refine (B4.out _).mono ?_
                      rintro e' w3 ⟨rfl, rfl⟩
                      go_wp2_with fail
                      go_ret2
                      exact ⟨by rw [HS.out]; rfl, HB2.out⟩
                · refine (A1.out _).mono ?_
                  rintro e' w3 ⟨rfl, rfl⟩
                  go_wp2_with fail
                  cases q1
                  · refine (B1.out _).mono ?_
                    rintro e' w3 ⟨rfl, rfl⟩
                    go_wp2_with fail
                    cases p4
                    · refine (A4.out _).mono ?_
                      rintro e' w3 ⟨rfl, rfl⟩
                      go_wp2_with fail
                      go_ret2
                      exact ⟨by rw [HS.out]; rfl, HB2.out⟩
                    · refine (A4.out _).mono ?_
                      rintro e' w3 ⟨rfl, rfl⟩
                      go_wp2_with fail
                      cases q4
                      · refine (B4.out _).mono ?_
                        rintro e' w3 ⟨rfl, rfl⟩
                        go_wp2_with fail
                        go_ret2
                        exact ⟨by rw [HS.out]; rfl, HB2.out⟩
                      · refine (B4.out _).mono ?_
                        rintro e' w3 ⟨rfl, rfl⟩
                        go_wp2_with fail
                        go_ret2
                        exact ⟨by rw [HS.out]; rfl, HB2.out⟩
                  · refine (B1.out _).mono ?_
                    rintro e' w3 ⟨rfl, rfl⟩
                    go_wp2_with fail
                    go_ret2
                    exact ⟨by rw [HS.out]; rfl, HB2.out⟩
              · refine (B2.out _).mono ?_
                rintro e' w3 ⟨rfl, rfl⟩
                go_wp2_with fail
                go_ret2
                exact ⟨by rw [HS.out]; rfl, HB2.out⟩
        · have HS := Lib.hid (HSP.out g)
          have g2 : ¬ mc < 0 := by omega
          clear HSN HSP HSZ
          rcases hk with rfl | rfl
          · go_enter Tryd.func17, Tryd.ntmps17
            go_wp2_with fail
            refine (C.out _).mono ?_
            rintro e' w1 ⟨rfl, hb1⟩
            have HB := Lib.hid hb1
            have hz := hb1.size
            clear hb1 C
            go_wp2_with fail
            refine (CP.out _).mono ?_
            rintro e' w2 ⟨rfl, hb2⟩
            have HB2 : Hid (Below w0.heap.size w0 w2) := ((HB.out.alloc hz _).alloc (by simp; omega) _).trans (hb2.mono (by simp; omega))
            have K1 := Lib.hid (((Blk.new w1 24 #[Value.string e1, .string v1, .string r1]).alloc (.cells #[Value.string e2, .string v2, .string r2] 24)).below hb2 (by simp; omega))
            have K2 := Lib.hid ((Blk.new' (w := w1.alloc (.cells #[Value.string e1, .string v1, .string r1] 24)) (g := w1.heap.size + 1) (t := 24) (cs := #[Value.string e2, .string v2, .string r2]) (by simp)).below hb2 (by simp))
            have c1 : w2.cell? ⟨w1.heap.size, 2, none⟩ = some (.string r1) := K1.out.cell 2
            have c2 : w2.cell? ⟨w1.heap.size + 1, 2, none⟩ = some (.string r2) := K2.out.cell 2
            clear hb2 hz
            go_wp2_with fail
            cases p1
            · refine (A1.out _).mono ?_
              rintro e' w3 ⟨rfl, rfl⟩
              go_wp2_with fail
              cases q4
              · refine (B4.out _).mono ?_
                rintro e' w3 ⟨rfl, rfl⟩
                go_wp2_with fail
                go_ret2
                exact ⟨by rw [HS.out]; rfl, HB2.out⟩
              · refine (B4.out _).mono ?_
                rintro e' w3 ⟨rfl, rfl⟩
                go_wp2_with fail
                go_ret2
                exact ⟨by rw [HS.out]; rfl, HB2.out⟩
            · refine (A1.out _).mono ?_
              rintro e' w3 ⟨rfl, rfl⟩
              go_wp2_with fail
              go_ret2
              exact ⟨by rw [HS.out]; rfl, HB2.out⟩
          · go_enter Tryd.func17, Tryd.ntmps17
            go_wp2_with fail
            refine (C.out _).mono ?_
            rintro e' w1 ⟨rfl, hb1⟩
            have HB := Lib.hid hb1
            have hz := hb1.size
            clear hb1 C
            go_wp2_with fail
            refine (CP.out _).mono ?_
            rintro e' w2 ⟨rfl, hb2⟩
            have HB2 : Hid (Below w0.heap.size w0 w2) := ((HB.out.alloc hz _).alloc (by simp; omega) _).trans (hb2.mono (by simp; omega))
            have K1 := Lib.hid (((Blk.new w1 24 #[Value.string e1, .string v1, .string r1]).alloc (.cells #[Value.string e2, .string v2, .string r2] 24)).below hb2 (by simp; omega))
            have K2 := Lib.hid ((Blk.new' (w := w1.alloc (.cells #[Value.string e1, .string v1, .string r1] 24)) (g := w1.heap.size + 1) (t := 24) (cs := #[Value.string e2, .string v2, .string r2]) (by simp)).below hb2 (by simp))
            have c1 : w2.cell? ⟨w1.heap.size, 2, none⟩ = some (.string r1) := K1.out.cell 2
            have c2 : w2.cell? ⟨w1.heap.size + 1, 2, none⟩ = some (.string r2) := K2.out.cell 2
            clear hb2 hz
            go_wp2_with fail
            cases p1
            · refine (A1.out _).mono ?_
              rintro e' w3 ⟨rfl, rfl⟩
              go_wp2_with fail
              cases q4
              · refine (B4.out _).mono ?_
                rintro e' w3 ⟨rfl, rfl⟩
                go_wp2_with fail
                go_ret2
                exact ⟨by rw [HS.out]; rfl, HB2.out⟩
              · refine (B4.out _).mono ?_
                rintro e' w3 ⟨rfl, rfl⟩
                go_wp2_with fail
                go_ret2
                exact ⟨by rw [HS.out]; rfl, HB2.out⟩
            · refine (A1.out _).mono ?_
              rintro e' w3 ⟨rfl, rfl⟩
              go_wp2_with fail
              go_ret2
              exact ⟨by rw [HS.out]; rfl, HB2.out⟩
  · obtain rfl : mc = x := by rw [HMH.out, if_neg (fun h => hx h.1)]
    have t5 : (mc == 0) = false := by simpa using hx
    have t6 : (mc != 0) = true := by simpa using hx
    clear HMH
    rcases Int.lt_trichotomy mc 0 with g | g | g
    · have HS := Lib.hid (HSN.out g)
      clear HSN HSP HSZ hx
      rcases hk with rfl | rfl
      · go_enter Tryd.func17, Tryd.ntmps17
        go_wp2_with fail
        refine (C.out _).mono ?_
        rintro e' w1 ⟨rfl, hb1⟩
        have HB := Lib.hid hb1
        have hz := hb1.size
        clear hb1 C
        go_wp2_with fail
        refine (CP.out _).mono ?_
        rintro e' w2 ⟨rfl, hb2⟩
        have HB2 : Hid (Below w0.heap.size w0 w2) := ((HB.out.alloc hz _).alloc (by simp; omega) _).trans (hb2.mono (by simp; omega))
        have K1 := Lib.hid (((Blk.new w1 24 #[Value.string e1, .string v1, .string r1]).alloc (.cells #[Value.string e2, .string v2, .string r2] 24)).below hb2 (by simp; omega))
        have K2 := Lib.hid ((Blk.new' (w := w1.alloc (.cells #[Value.string e1, .string v1, .string r1] 24)) (g := w1.heap.size + 1) (t := 24) (cs := #[Value.string e2, .string v2, .string r2]) (by simp)).below hb2 (by simp))
        have c1 : w2.cell? ⟨w1.heap.size, 2, none⟩ = some (.string r1) := K1.out.cell 2
        have c2 : w2.cell? ⟨w1.heap.size + 1, 2, none⟩ = some (.string r2) := K2.out.cell 2
        clear hb2 hz
        go_wp2_with fail
        cases p4
        · refine (A4.out _).mono ?_
          rintro e' w3 ⟨rfl, rfl⟩
          go_wp2_with fail
          cases q1
          · refine (B1.out _).mono ?_
            rintro e' w3 ⟨rfl, rfl⟩
            go_wp2_with fail
            go_ret2
            exact ⟨by rw [HS.out]; rfl, HB2.out⟩
          · refine (B1.out _).mono ?_
            rintro e' w3 ⟨rfl, rfl⟩
            go_wp2_with fail
            go_ret2
            exact ⟨by rw [HS.out]; rfl, HB2.out⟩
        · refine (A4.out _).mono ?_
          rintro e' w3 ⟨rfl, rfl⟩
          go_wp2_with fail
          go_ret2
          exact ⟨by rw [HS.out]; rfl, HB2.out⟩
      · go_enter Tryd.func17, Tryd.ntmps17
        go_wp2_with fail
        refine (C.out _).mono ?_
        rintro e' w1 ⟨rfl, hb1⟩
        have HB := Lib.hid hb1
        have hz := hb1.size
        clear hb1 C
        go_wp2_with fail
        refine (CP.out _).mono ?_
        rintro e' w2 ⟨rfl, hb2⟩
        have HB2 : Hid (Below w0.heap.size w0 w2) := ((HB.out.alloc hz _).alloc (by simp; omega) _).trans (hb2.mono (by simp; omega))
        have K1 := Lib.hid (((Blk.new w1 24 #[Value.string e1, .string v1, .string r1]).alloc (.cells #[Value.string e2, .string v2, .string r2] 24)).below hb2 (by simp; omega))
        have K2 := Lib.hid ((Blk.new' (w := w1.alloc (.cells #[Value.string e1, .string v1, .string r1] 24)) (g := w1.heap.size + 1) (t := 24) (cs := #[Value.string e2, .string v2, .string r2]) (by simp)).below hb2 (by simp))
        have c1 : w2.cell? ⟨w1.heap.size, 2, none⟩ = some (.string r1) := K1.out.cell 2
        have c2 : w2.cell? ⟨w1.heap.size + 1, 2, none⟩ = some (.string r2) := K2.out.cell 2
        clear hb2 hz
        go_wp2_with fail
        cases p4
        · refine (A4.out _).mono ?_
          rintro e' w3 ⟨rfl, rfl⟩
          go_wp2_with fail
          cases q1
          · refine (B1.out _).mono ?_
            rintro e' w3 ⟨rfl, rfl⟩
            go_wp2_with fail
            go_ret2
            exact ⟨by rw [HS.out]; rfl, HB2.out⟩
          · refine (B1.out _).mono ?_
            rintro e' w3 ⟨rfl, rfl⟩
            go_wp2_with fail
            go_ret2
            exact ⟨by rw [HS.out]; rfl, HB2.out⟩
        · refine (A4.out _).mono ?_
          rintro e' w3 ⟨rfl, rfl⟩
          go_wp2_with fail
          go_ret2
          exact ⟨by rw [HS.out]; rfl, HB2.out⟩
    · exact absurd g hx
    · have HS := Lib.hid (HSP.out g)
      have g2 : ¬ mc < 0 := by omega
      clear HSN HSP HSZ hx
      rcases hk with rfl | rfl
      · go_enter Tryd.func17, Tryd.ntmps17
        go_wp2_with fail
        refine (C.out _).mono ?_
        rintro e' w1 ⟨rfl, hb1⟩
        have HB := Lib.hid hb1
        have hz := hb1.size
        clear hb1 C
        go_wp2_with fail
        refine (CP.out _).mono ?_
        rintro e' w2 ⟨rfl, hb2⟩
        have HB2 : Hid (Below w0.heap.size w0 w2) := ((HB.out.alloc hz _).alloc (by simp; omega) _).trans (hb2.mono (by simp; omega))
        have K1 := Lib.hid (((Blk.new w1 24 #[Value.string e1, .string v1, .string r1]).alloc (.cells #[Value.string e2, .string v2, .string r2] 24)).below hb2 (by simp; omega))
        have K2 := Lib.hid ((Blk.new' (w := w1.alloc (.cells #[Value.string e1, .string v1, .string r1] 24)) (g := w1.heap.size + 1) (t := 24) (cs := #[Value.string e2, .string v2, .string r2]) (by simp)).below hb2 (by simp))
        have c1 : w2.cell? ⟨w1.heap.size, 2, none⟩ = some (.string r1) := K1.out.cell 2
        have c2 : w2.cell? ⟨w1.heap.size + 1, 2, none⟩ = some (.string r2) := K2.out.cell 2
        clear hb2 hz
        go_wp2_with fail
        cases p1
        · refine (A1.out _).mono ?_
          rintro e' w3 ⟨rfl, rfl⟩
          go_wp2_with fail
          cases q4
          · refine (B4.out _).mono ?_
            rintro e' w3 ⟨rfl, rfl⟩
            go_wp2_with fail
            go_ret2
            exact ⟨by rw [HS.out]; rfl, HB2.out⟩
          · refine (B4.out _).mono ?_
            rintro e' w3 ⟨rfl, rfl⟩
            go_wp2_with fail
            go_ret2
            exact ⟨by rw [HS.out]; rfl, HB2.out⟩
        · refine (A1.out _).mono ?_
          rintro e' w3 ⟨rfl, rfl⟩
          go_wp2_with fail
          go_ret2
          exact ⟨by rw [HS.out]; rfl, HB2.out⟩
      · go_enter Tryd.func17, Tryd.ntmps17
        go_wp2_with fail
        refine (C.out _).mono ?_
        rintro e' w1 ⟨rfl, hb1⟩
        have HB := Lib.hid hb1
        have hz := hb1.size
        clear hb1 C
        go_wp2_with fail
        refine (CP.out _).mono ?_
        rintro e' w2 ⟨rfl, hb2⟩
        have HB2 : Hid (Below w0.heap.size w0 w2) := ((HB.out.alloc hz _).alloc (by simp; omega) _).trans (hb2.mono (by simp; omega))
        have K1 := Lib.hid (((Blk.new w1 24 #[Value.string e1, .string v1, .string r1]).alloc (.cells #[Value.string e2, .string v2, .string r2] 24)).below hb2 (by simp; omega))
        have K2 := Lib.hid ((Blk.new' (w := w1.alloc (.cells #[Value.string e1, .string v1, .string r1] 24)) (g := w1.heap.size + 1) (t := 24) (cs := #[Value.string e2, .string v2, .string r2]) (by simp)).below hb2 (by simp))
        have c1 : w2.cell? ⟨w1.heap.size, 2, none⟩ = some (.string r1) := K1.out.cell 2
        have c2 : w2.cell? ⟨w1.heap.size + 1, 2, none⟩ = some (.string r2) := K2.out.cell 2
        clear hb2 hz
        go_wp2_with fail
        cases p1
        · refine (A1.out _).mono ?_
          rintro e' w3 ⟨rfl, rfl⟩
          go_wp2_with fail
          cases q4
          · refine (B4.out _).mono ?_
            rintro e' w3 ⟨rfl, rfl⟩
            go_wp2_with fail
            go_ret2
            exact ⟨by rw [HS.out]; rfl, HB2.out⟩
          · refine (B4.out _).mono ?_
            rintro e' w3 ⟨rfl, rfl⟩
            go_wp2_with fail
            go_ret2
            exact ⟨by rw [HS.out]; rfl, HB2.out⟩
        · refine (A1.out _).mono ?_
          rintro e' w3 ⟨rfl, rfl⟩
          go_wp2_with fail
          go_ret2
          exact ⟨by rw [HS.out]; rfl, HB2.out⟩

set_option maxRecDepth 100000 in
theorem refMeets_any (kind op o : Int) (a b : ByteArray) (ha : a.size ≤ maxLen) (hb0 : b.size ≤ maxLen) (w0 : World) :
    Calls Tryd.prog 17 #[.int .i64 kind, .int .i64 op, .string a, .int .i64 o, .string b] w0 fun e w' => e = .returned (.tuple #[.bool (meetB kind op o (parse a.data.toList) (parse b.data.toList)), .int .i64 (meetE kind op o (parse a.data.toList) (parse b.data.toList))]) ∧ Below w0.heap.size w0 w' := by
  cases h : kindB kind && opB op && opB o with
  | false =>
    have e1 : meetB kind op o (parse a.data.toList) (parse b.data.toList) = false := by unfold meetB; rw [h]; rfl
    have e2 : meetE kind op o (parse a.data.toList) (parse b.data.toList) = 1 := by unfold meetE; rw [h]; rfl
    rw [e1, e2]
    exact (refMeets_arg kind op o a b w0 h).mono fun _ _ ⟨h1, h2⟩ => ⟨h1, by rw [← h2]; exact Below.refl _ _⟩
  | true =>
    by_cases hz : op = 0 ∨ o = 0
    · have e1 : meetB kind op o (parse a.data.toList) (parse b.data.toList) = true := by unfold meetB; rw [h, if_pos rfl, if_pos hz]
      have e2 : meetE kind op o (parse a.data.toList) (parse b.data.toList) = 0 := by unfold meetE; rw [h, if_pos rfl, if_pos hz]
      rw [e1, e2]
      exact (refMeets_zero kind op o a b w0 h hz).mono fun _ _ ⟨h1, h2⟩ => ⟨h1, by rw [← h2]; exact Below.refl _ _⟩
    · have hh := h
      simp only [Bool.and_eq_true] at hh
      have hi : MeetIn kind op o := ⟨hh.1.1, hh.1.2, hh.2, fun e => hz (.inl e), fun e => hz (.inr e)⟩
      have e2 : meetE kind op o (parse a.data.toList) (parse b.data.toList) = bothErr kind (parse a.data.toList) (parse b.data.toList) := by unfold meetE; rw [h, if_pos rfl, if_neg hz]
      by_cases hb : bothErr kind (parse a.data.toList) (parse b.data.toList) = 0
      · obtain ⟨_, p, q, hp, hq⟩ := both_zero hb
        have e1 : meetB kind op o (parse a.data.toList) (parse b.data.toList) = signB (meetC kind p q) op o := by unfold meetB; rw [h, if_pos rfl, if_neg hz, hp, hq]
        rw [e1, e2, hb]
        exact refMeets_good kind op o a b ha hb0 w0 hi p q hp hq
      · have e1 : meetB kind op o (parse a.data.toList) (parse b.data.toList) = false := by
          unfold meetB
          rw [h, if_pos rfl, if_neg hz]
          split
          · rename_i p q hp hq
            exact absurd (by unfold bothErr; rw [if_pos hh.1.1, hp, hq]; rfl) hb
          · rfl
        rw [e1, e2]
        exact refMeets_form kind op o a b ha hb0 w0 hi hb
end Go.Proofs.YtbfpljlgjpmmmaaDoor
