/- Do two comparisons meet? Meets. -/
import Derived.Test.YtbfpljlgjpmmmaaDoorCmp
import Derived.BigGuardPart
namespace Go.Proofs.YtbfpljlgjpmmmaaDoor
set_option linter.unusedSimpArgs false
set_option linter.unusedVariables false
open Go.RowKit

def hasB (op bit : Int) : Bool := op / bit % 2 == 1
/-- How two versions compare where one of them may have no release. -/
def meetC (kind : Int) (p q : Parts) : Int := if cmpEV kind p q = 0 ∧ p.r ≠ [] ∧ q.r ≠ [] then cmpRel kind p.r q.r else cmpEV kind p q
def signB (c op o : Int) : Bool :=
  if c < 0 then hasB op 4 || hasB o 1 else if 0 < c then hasB op 1 || hasB o 4 else hasB op 2 && hasB o 2 || hasB op 1 && hasB o 1 || hasB op 4 && hasB o 4
def meetB (kind op o : Int) (A B : Option Parts) : Bool :=
  if kindB kind && opB op && opB o then
    (if op = 0 ∨ o = 0 then true else match A, B with
      | some p, some q => signB (meetC kind p q) op o
      | _, _ => false)
  else false
def meetE (kind op o : Int) (A B : Option Parts) : Int :=
  if kindB kind && opB op && opB o then (if op = 0 ∨ o = 0 then 0 else bothErr kind A B) else 1

theorem opB_of {op : Int} (h : opB op = true) : 0 ≤ op ∧ op ≤ 7 := by unfold opB at h; simpa using h

theorem and_pos {op bit : Int} (h : 0 ≤ op ∧ op ≤ 7) (hb : bit = 1 ∨ bit = 2 ∨ bit = 4) : (bits .and .i64 op bit ≠ 0) ↔ hasB op bit = true := by
  obtain ⟨n, rfl⟩ : ∃ n : Nat, op = (n : Int) := ⟨op.toNat, by omega⟩
  have hn : n < 8 := by omega
  have : ∀ m : Fin 8, ∀ b : Fin 3, (bits .and .i64 ((m.val : Nat) : Int) (([1, 2, 4] : List Int).getD b.val 0) ≠ 0) ↔ hasB ((m.val : Nat) : Int) (([1, 2, 4] : List Int).getD b.val 0) = true := by decide +kernel
  rcases hb with rfl | rfl | rfl
  · exact this ⟨n, hn⟩ 0
  · exact this ⟨n, hn⟩ 1
  · exact this ⟨n, hn⟩ 2
theorem and_both {op o : Int} (h : 0 ≤ op ∧ op ≤ 7) (k : 0 ≤ o ∧ o ≤ 7) : (bits .and .i64 op o ≠ 0) ↔ (hasB op 2 && hasB o 2 || hasB op 1 && hasB o 1 || hasB op 4 && hasB o 4) = true := by
  obtain ⟨n, rfl⟩ : ∃ n : Nat, op = (n : Int) := ⟨op.toNat, by omega⟩
  obtain ⟨m, rfl⟩ : ∃ m : Nat, o = (m : Int) := ⟨o.toNat, by omega⟩
  have hn : n < 8 := by omega
  have hm : m < 8 := by omega
  have : ∀ a b : Fin 8, (bits .and .i64 ((a.val : Nat) : Int) ((b.val : Nat) : Int) ≠ 0) ↔ (hasB ((a.val : Nat) : Int) 2 && hasB ((b.val : Nat) : Int) 2 || hasB ((a.val : Nat) : Int) 1 && hasB ((b.val : Nat) : Int) 1 || hasB ((a.val : Nat) : Int) 4 && hasB ((b.val : Nat) : Int) 4) = true := by decide +kernel
  exact this ⟨n, hn⟩ ⟨m, hm⟩

set_option maxHeartbeats 2000000 in
set_option maxRecDepth 100000 in
theorem meets_arg (kind op o : Int) (a b : ByteArray) (w0 : World) (h : (kindB kind && opB op && opB o) = false) :
    Calls Tryd.prog 16 #[.int .i64 kind, .int .i64 op, .string a, .int .i64 o, .string b] w0 fun e w' => e = .returned (.tuple #[.bool false, .int .i64 1]) ∧ w0 = w' := by
  have CK := Lib.hid (fun w => isKind_any kind w)
  have CO := Lib.hid (fun w => isOp_any op w)
  have CP := Lib.hid (fun w => isOp_any o w)
  generalize kindB kind = k at *
  generalize opB op = x at *
  generalize opB o = y at *
  cases k <;> cases x <;> cases y
  all_goals
    first
    | (exact absurd h (by decide))
    | (clear h
       go_enter Tryd.func16, Tryd.ntmps16
       go_wp2_with fail
       refine (CK.out _).mono ?_
       rintro e' w1 ⟨rfl, rfl⟩
       go_wp2_with fail
       try
         refine (CO.out _).mono ?_
         rintro e' w1 ⟨rfl, rfl⟩
         go_wp2_with fail
       try
         refine (CP.out _).mono ?_
         rintro e' w1 ⟨rfl, rfl⟩
         go_wp2_with fail
       go_ret2
       exact ⟨rfl, rfl⟩)

set_option maxHeartbeats 2000000 in
set_option maxRecDepth 100000 in
theorem meets_zero (kind op o : Int) (a b : ByteArray) (w0 : World) (h : (kindB kind && opB op && opB o) = true) (hz : op = 0 ∨ o = 0) :
    Calls Tryd.prog 16 #[.int .i64 kind, .int .i64 op, .string a, .int .i64 o, .string b] w0 fun e w' => e = .returned (.tuple #[.bool true, .int .i64 0]) ∧ w0 = w' := by
  simp only [Bool.and_eq_true] at h
  obtain ⟨⟨hk, hx⟩, hy⟩ := h
  have CK := Lib.hid (fun w => isKind_any kind w)
  have CO := Lib.hid (fun w => isOp_any op w)
  have CP := Lib.hid (fun w => isOp_any o w)
  rw [hk] at CK
  rw [hx] at CO
  rw [hy] at CP
  clear hk hx hy
  by_cases h0 : op = 0
  · subst h0
    clear hz
    go_enter Tryd.func16, Tryd.ntmps16
    go_wp2_with fail
    refine (CK.out _).mono ?_
    rintro e' w1 ⟨rfl, rfl⟩
    go_wp2_with fail
    refine (CO.out _).mono ?_
    rintro e' w1 ⟨rfl, rfl⟩
    go_wp2_with fail
    refine (CP.out _).mono ?_
    rintro e' w1 ⟨rfl, rfl⟩
    go_wp2_with fail
    go_ret2
    exact ⟨rfl, rfl⟩
  · have t1 : (op == 0) = false := by simpa using h0
    obtain rfl : o = 0 := hz.resolve_left h0
    clear hz h0
    go_enter Tryd.func16, Tryd.ntmps16
    go_wp2_with fail
    refine (CK.out _).mono ?_
    rintro e' w1 ⟨rfl, rfl⟩
    go_wp2_with fail
    refine (CO.out _).mono ?_
    rintro e' w1 ⟨rfl, rfl⟩
    go_wp2_with fail
    refine (CP.out _).mono ?_
    rintro e' w1 ⟨rfl, rfl⟩
    go_wp2_with fail
    go_ret2
    exact ⟨rfl, rfl⟩

/-- The tests ahead, where the comparisons are not nought. -/
structure MeetIn (kind op o : Int) : Prop where
  k : kindB kind = true
  x : opB op = true
  y : opB o = true
  op0 : op ≠ 0
  o0 : o ≠ 0

set_option maxHeartbeats 2000000 in
set_option maxRecDepth 100000 in
theorem meets_form (kind op o : Int) (a b : ByteArray) (w0 : World) (h : MeetIn kind op o) (hz : bothErr kind (parse a.data.toList) (parse b.data.toList) ≠ 0) :
    Calls Tryd.prog 16 #[.int .i64 kind, .int .i64 op, .string a, .int .i64 o, .string b] w0 fun e w' => e = .returned (.tuple #[.bool false, .int .i64 (bothErr kind (parse a.data.toList) (parse b.data.toList))]) ∧ Below w0.heap.size w0 w' := by
  have CK := Lib.hid (fun w => isKind_any kind w)
  have CO := Lib.hid (fun w => isOp_any op w)
  have CP := Lib.hid (fun w => isOp_any o w)
  have C := Lib.hid (fun w => both_any kind a b w)
  rw [h.k] at CK
  rw [h.x] at CO
  rw [h.y] at CP
  have t1 : (op == 0) = false := by simpa using h.op0
  have t2 : (o == 0) = false := by simpa using h.o0
  unfold BothPost at C
  generalize bothErr kind (parse a.data.toList) (parse b.data.toList) = x at *
  rw [if_neg hz, if_neg hz] at C
  have t3 : (x == 0) = false := by simpa using hz
  have t4 : (x != 0) = true := by simpa using hz
  clear hz h
  unfold evrV at C
  go_enter Tryd.func16, Tryd.ntmps16
  go_wp2_with fail
  refine (CK.out _).mono ?_
  rintro e' w1 ⟨rfl, rfl⟩
  go_wp2_with fail
  refine (CO.out _).mono ?_
  rintro e' w1 ⟨rfl, rfl⟩
  go_wp2_with fail
  refine (CP.out _).mono ?_
  rintro e' w1 ⟨rfl, rfl⟩
  go_wp2_with fail
  refine (C.out _).mono ?_
  rintro e' w1 ⟨rfl, hb1⟩
  have HB := Lib.hid hb1
  have hz := hb1.size
  clear hb1 C
  go_wp2_with fail
  go_ret2
  exact ⟨rfl, (HB.out.alloc hz _).alloc (by simp; omega) _⟩

set_option maxHeartbeats 8000000 in
set_option maxRecDepth 100000 in
theorem meets_good (kind op o : Int) (a b : ByteArray) (w0 : World) (h : MeetIn kind op o) (p q : Parts) (hp : parse a.data.toList = some p) (hq : parse b.data.toList = some q) :
    Calls Tryd.prog 16 #[.int .i64 kind, .int .i64 op, .string a, .int .i64 o, .string b] w0 fun e w' => e = .returned (.tuple #[.bool (signB (meetC kind p q) op o), .int .i64 0]) ∧ Below w0.heap.size w0 w' := by
  have CK := Lib.hid (fun w => isKind_any kind w)
  have CO := Lib.hid (fun w => isOp_any op w)
  have CP := Lib.hid (fun w => isOp_any o w)
  have C := Lib.hid (fun w => both_any kind a b w)
  rw [h.k] at CK
  rw [h.x] at CO
  rw [h.y] at CP
  have t1 : (op == 0) = false := by simpa using h.op0
  have t2 : (o == 0) = false := by simpa using h.o0
  obtain ⟨x0, x7⟩ := opB_of h.x
  obtain ⟨y0, y7⟩ := opB_of h.y
  have sp := parse_size hp
  have sq := parse_size hq
  rw [hp, hq] at C
  unfold BothPost at C
  rw [show bothErr kind (some p) (some q) = 0 by unfold bothErr; rw [if_pos h.k]; rfl, if_pos rfl, if_pos rfl] at C
  obtain ⟨e1, he1⟩ : ∃ e, e = mkS p.e := ⟨_, rfl⟩
  obtain ⟨v1, hv1⟩ : ∃ e, e = mkS p.v := ⟨_, rfl⟩
  obtain ⟨r1, hr1⟩ : ∃ e, e = mkS p.r := ⟨_, rfl⟩
  obtain ⟨e2, he2⟩ : ∃ e, e = mkS q.e := ⟨_, rfl⟩
  obtain ⟨v2, hv2⟩ : ∃ e, e = mkS q.v := ⟨_, rfl⟩
  obtain ⟨r2, hr2⟩ : ∃ e, e = mkS q.r := ⟨_, rfl⟩
  have E1 : evrV (some p) = .agg #[.string e1, .string v1, .string r1] := by rw [he1, hv1, hr1]; rfl
  have E2 : evrV (some q) = .agg #[.string e2, .string v2, .string r2] := by rw [he2, hv2, hr2]; rfl
  rw [E1, E2] at C
  have s1 : e1.size ≤ maxLen := by rw [he1, mkS_size]; unfold maxLen; omega
  have s2 : e2.size ≤ maxLen := by rw [he2, mkS_size]; unfold maxLen; omega
  have s3 : v1.size ≤ maxLen := by rw [hv1, mkS_size]; unfold maxLen; omega
  have s4 : v2.size ≤ maxLen := by rw [hv2, mkS_size]; unfold maxLen; omega
  have s5 : r1.size ≤ maxLen := by rw [hr1, mkS_size]; unfold maxLen; omega
  have s6 : r2.size ≤ maxLen := by rw [hr2, mkS_size]; unfold maxLen; omega
  have CV := Lib.hid (fun w => versions_any kind e1 v1 r1 e2 v2 r2 s1 s2 s3 s4 w)
  have CR := Lib.hid (fun w => releases_any kind r1 r2 s5 s6 w)
  have HX : thenC (cmpNum e1.data.toList e2.data.toList) (cmpTxt kind v1.data.toList v2.data.toList) = cmpEV kind p q := by rw [he1, he2, hv1, hv2]; rfl
  have HY : cmpRel kind r1.data.toList r2.data.toList = cmpRel kind p.r q.r := by rw [hr1, hr2]; rfl
  have HR1 : r1.size = 0 ↔ p.r = [] := by rw [hr1, mkS_size]; exact List.length_eq_zero_iff
  have HR2 : r2.size = 0 ↔ q.r = [] := by rw [hr2, mkS_size]; exact List.length_eq_zero_iff
  rw [HX] at CV
  rw [HY] at CR
  have HM : meetC kind p q = if cmpEV kind p q = 0 ∧ r1.size ≠ 0 ∧ r2.size ≠ 0 then cmpRel kind p.r q.r else cmpEV kind p q := by
    unfold meetC
    simp only [ne_eq, HR1, HR2]
  have HMH := Lib.hid HM
  clear HM
  generalize meetC kind p q = mc at *
  generalize cmpEV kind p q = x at *
  generalize cmpRel kind p.r q.r = y at *
  clear h hp hq sp sq he1 hv1 hr1 he2 hv2 hr2 E1 E2 s1 s2 s3 s4 s5 s6 HX HY HR1 HR2
  by_cases hx : x = 0
  · subst hx
    by_cases z1 : r1.size = 0
    · obtain rfl : mc = 0 := by rw [HMH.out, if_neg (fun h => h.2.1 z1)]
      obtain rfl := empty_of z1
      have H4 : Hid ((hasB op 2 && hasB o 2 || hasB op 1 && hasB o 1 || hasB op 4 && hasB o 4) = (bits .and .i64 op o != 0)) := by
        show (_ : Bool) = _
        rw [Bool.eq_iff_iff, ← and_both ⟨x0, x7⟩ ⟨y0, y7⟩, bne_iff_ne]
      have HS : Hid (signB 0 op o = (bits .and .i64 op o != 0)) := by show signB _ _ _ = _; unfold signB; rw [if_neg (by omega), if_neg (by omega)]; exact H4.out
      clear x0 x7 y0 y7 H4
      clear z1 HMH
      go_enter Tryd.func16, Tryd.ntmps16
      go_wp2_with fail
      refine (CK.out _).mono ?_
      rintro e' w1 ⟨rfl, rfl⟩
      go_wp2_with fail
      refine (CO.out _).mono ?_
      rintro e' w1 ⟨rfl, rfl⟩
      go_wp2_with fail
      refine (CP.out _).mono ?_
      rintro e' w1 ⟨rfl, rfl⟩
      go_wp2_with fail
      refine (C.out _).mono ?_
      rintro e' w1 ⟨rfl, hb1⟩
      have HB := Lib.hid hb1
      have hz := hb1.size
      clear hb1 C
      go_wp2_with fail
      refine (CV.out _).mono ?_
      rintro e' w2 ⟨rfl, hb2⟩
      have HB2 : Hid (Below w0.heap.size w0 w2) := ((HB.out.alloc hz _).alloc (by simp; omega) _).trans (hb2.mono (by simp; omega))
      have K1 := Lib.hid (((Blk.new w1 24 #[Value.string e1, .string v1, .string ⟨#[]⟩]).alloc (.cells #[Value.string e2, .string v2, .string r2] 24)).below hb2 (by simp; omega))
      have K2 := Lib.hid ((Blk.new' (w := w1.alloc (.cells #[Value.string e1, .string v1, .string ⟨#[]⟩] 24)) (g := w1.heap.size + 1) (t := 24) (cs := #[Value.string e2, .string v2, .string r2]) (by simp)).below hb2 (by simp))
      have c1 : w2.cell? ⟨w1.heap.size, 2, none⟩ = some (.string ⟨#[]⟩) := K1.out.cell 2
      have c2 : w2.cell? ⟨w1.heap.size + 1, 2, none⟩ = some (.string r2) := K2.out.cell 2
      have hz2 := HB2.out.size
      clear hb2 hz
      go_wp2_with fail
      all_goals
        go_ret2
        refine ⟨?_, HB2.out⟩
        rw [HS.out]
        first | rfl | (simp [*]; done)
    · have he := toList_cons (s := r1) (by omega)
      have he2 : r1.toList ≠ [] := by intro h; rw [h] at he; cases he
      by_cases z2 : r2.size = 0
      · obtain rfl : mc = 0 := by rw [HMH.out, if_neg (fun h => h.2.2 z2)]
        obtain rfl := empty_of z2
        have H4 : Hid ((hasB op 2 && hasB o 2 || hasB op 1 && hasB o 1 || hasB op 4 && hasB o 4) = (bits .and .i64 op o != 0)) := by
          show (_ : Bool) = _
          rw [Bool.eq_iff_iff, ← and_both ⟨x0, x7⟩ ⟨y0, y7⟩, bne_iff_ne]
        have HS : Hid (signB 0 op o = (bits .and .i64 op o != 0)) := by show signB _ _ _ = _; unfold signB; rw [if_neg (by omega), if_neg (by omega)]; exact H4.out
        clear x0 x7 y0 y7 H4
        clear z1 z2 HMH
        go_enter Tryd.func16, Tryd.ntmps16
        go_wp2_with fail
        refine (CK.out _).mono ?_
        rintro e' w1 ⟨rfl, rfl⟩
        go_wp2_with fail
        refine (CO.out _).mono ?_
        rintro e' w1 ⟨rfl, rfl⟩
        go_wp2_with fail
        refine (CP.out _).mono ?_
        rintro e' w1 ⟨rfl, rfl⟩
        go_wp2_with fail
        refine (C.out _).mono ?_
        rintro e' w1 ⟨rfl, hb1⟩
        have HB := Lib.hid hb1
        have hz := hb1.size
        clear hb1 C
        go_wp2_with fail
        refine (CV.out _).mono ?_
        rintro e' w2 ⟨rfl, hb2⟩
        have HB2 : Hid (Below w0.heap.size w0 w2) := ((HB.out.alloc hz _).alloc (by simp; omega) _).trans (hb2.mono (by simp; omega))
        have K1 := Lib.hid (((Blk.new w1 24 #[Value.string e1, .string v1, .string r1]).alloc (.cells #[Value.string e2, .string v2, .string ⟨#[]⟩] 24)).below hb2 (by simp; omega))
        have K2 := Lib.hid ((Blk.new' (w := w1.alloc (.cells #[Value.string e1, .string v1, .string r1] 24)) (g := w1.heap.size + 1) (t := 24) (cs := #[Value.string e2, .string v2, .string ⟨#[]⟩]) (by simp)).below hb2 (by simp))
        have c1 : w2.cell? ⟨w1.heap.size, 2, none⟩ = some (.string r1) := K1.out.cell 2
        have c2 : w2.cell? ⟨w1.heap.size + 1, 2, none⟩ = some (.string ⟨#[]⟩) := K2.out.cell 2
        have hz2 := HB2.out.size
        clear hb2 hz
        go_wp2_with fail
        all_goals
          go_ret2
          refine ⟨?_, HB2.out⟩
          rw [HS.out]
          first | rfl | (simp [*]; done)
      · have ge := toList_cons (s := r2) (by omega)
        have ge2 : r2.toList ≠ [] := by intro h; rw [h] at ge; cases ge
        obtain rfl : mc = y := by rw [HMH.out, if_pos ⟨rfl, z1, z2⟩]
        clear z1 z2 HMH
        by_cases hn : mc < 0
        · skip
          have H4 : Hid (hasB op 4 = (bits .and .i64 op 4 != 0)) := by
            show (_ : Bool) = _
            rw [Bool.eq_iff_iff, ← and_pos ⟨x0, x7⟩ (by simp), bne_iff_ne]
          have H1 : Hid (hasB o 1 = (bits .and .i64 o 1 != 0)) := by
            show (_ : Bool) = _
            rw [Bool.eq_iff_iff, ← and_pos ⟨y0, y7⟩ (by simp), bne_iff_ne]
          have HS0 : signB mc op o = (hasB op 4 || hasB o 1) := by unfold signB; rw [if_pos hn]
          rw [H4.out, H1.out] at HS0
          have HS := Lib.hid HS0
          clear HS0 x0 x7 y0 y7 H4 H1
          go_enter Tryd.func16, Tryd.ntmps16
          go_wp2_with fail
          refine (CK.out _).mono ?_
          rintro e' w1 ⟨rfl, rfl⟩
          go_wp2_with fail
          refine (CO.out _).mono ?_
          rintro e' w1 ⟨rfl, rfl⟩
          go_wp2_with fail
          refine (CP.out _).mono ?_
          rintro e' w1 ⟨rfl, rfl⟩
          go_wp2_with fail
          refine (C.out _).mono ?_
          rintro e' w1 ⟨rfl, hb1⟩
          have HB := Lib.hid hb1
          have hz := hb1.size
          clear hb1 C
          go_wp2_with fail
          refine (CV.out _).mono ?_
          rintro e' w2 ⟨rfl, hb2⟩
          have HB2 : Hid (Below w0.heap.size w0 w2) := ((HB.out.alloc hz _).alloc (by simp; omega) _).trans (hb2.mono (by simp; omega))
          have K1 := Lib.hid (((Blk.new w1 24 #[Value.string e1, .string v1, .string r1]).alloc (.cells #[Value.string e2, .string v2, .string r2] 24)).below hb2 (by simp; omega))
          have K2 := Lib.hid ((Blk.new' (w := w1.alloc (.cells #[Value.string e1, .string v1, .string r1] 24)) (g := w1.heap.size + 1) (t := 24) (cs := #[Value.string e2, .string v2, .string r2]) (by simp)).below hb2 (by simp))
          have c1 : w2.cell? ⟨w1.heap.size, 2, none⟩ = some (.string r1) := K1.out.cell 2
          have c2 : w2.cell? ⟨w1.heap.size + 1, 2, none⟩ = some (.string r2) := K2.out.cell 2
          have hz2 := HB2.out.size
          clear hb2 hz
          go_wp2_with fail
          refine (CR.out _).mono ?_
          rintro e' w3 ⟨rfl, hb3⟩
          have HB3 : Hid (Below w0.heap.size w0 w3) := HB2.out.trans (hb3.mono hz2)
          clear hb3
          go_wp2_with fail
          all_goals
            go_ret2
            refine ⟨?_, HB3.out⟩
            rw [HS.out]
            first | rfl | (simp [*]; done)
        · by_cases hp : 0 < mc
          · skip
            have H4 : Hid (hasB op 1 = (bits .and .i64 op 1 != 0)) := by
              show (_ : Bool) = _
              rw [Bool.eq_iff_iff, ← and_pos ⟨x0, x7⟩ (by simp), bne_iff_ne]
            have H1 : Hid (hasB o 4 = (bits .and .i64 o 4 != 0)) := by
              show (_ : Bool) = _
              rw [Bool.eq_iff_iff, ← and_pos ⟨y0, y7⟩ (by simp), bne_iff_ne]
            have HS0 : signB mc op o = (hasB op 1 || hasB o 4) := by unfold signB; rw [if_neg (by omega), if_pos hp]
            rw [H4.out, H1.out] at HS0
            have HS := Lib.hid HS0
            clear HS0 x0 x7 y0 y7 H4 H1
            go_enter Tryd.func16, Tryd.ntmps16
            go_wp2_with fail
            refine (CK.out _).mono ?_
            rintro e' w1 ⟨rfl, rfl⟩
            go_wp2_with fail
            refine (CO.out _).mono ?_
            rintro e' w1 ⟨rfl, rfl⟩
            go_wp2_with fail
            refine (CP.out _).mono ?_
            rintro e' w1 ⟨rfl, rfl⟩
            go_wp2_with fail
            refine (C.out _).mono ?_
            rintro e' w1 ⟨rfl, hb1⟩
            have HB := Lib.hid hb1
            have hz := hb1.size
            clear hb1 C
            go_wp2_with fail
            refine (CV.out _).mono ?_
            rintro e' w2 ⟨rfl, hb2⟩
            have HB2 : Hid (Below w0.heap.size w0 w2) := ((HB.out.alloc hz _).alloc (by simp; omega) _).trans (hb2.mono (by simp; omega))
            have K1 := Lib.hid (((Blk.new w1 24 #[Value.string e1, .string v1, .string r1]).alloc (.cells #[Value.string e2, .string v2, .string r2] 24)).below hb2 (by simp; omega))
            have K2 := Lib.hid ((Blk.new' (w := w1.alloc (.cells #[Value.string e1, .string v1, .string r1] 24)) (g := w1.heap.size + 1) (t := 24) (cs := #[Value.string e2, .string v2, .string r2]) (by simp)).below hb2 (by simp))
            have c1 : w2.cell? ⟨w1.heap.size, 2, none⟩ = some (.string r1) := K1.out.cell 2
            have c2 : w2.cell? ⟨w1.heap.size + 1, 2, none⟩ = some (.string r2) := K2.out.cell 2
            have hz2 := HB2.out.size
            clear hb2 hz
            go_wp2_with fail
            refine (CR.out _).mono ?_
            rintro e' w3 ⟨rfl, hb3⟩
            have HB3 : Hid (Below w0.heap.size w0 w3) := HB2.out.trans (hb3.mono hz2)
            clear hb3
            go_wp2_with fail
            all_goals
              go_ret2
              refine ⟨?_, HB3.out⟩
              rw [HS.out]
              first | rfl | (simp [*]; done)
          · obtain rfl : mc = 0 := by omega
            have H4 : Hid ((hasB op 2 && hasB o 2 || hasB op 1 && hasB o 1 || hasB op 4 && hasB o 4) = (bits .and .i64 op o != 0)) := by
              show (_ : Bool) = _
              rw [Bool.eq_iff_iff, ← and_both ⟨x0, x7⟩ ⟨y0, y7⟩, bne_iff_ne]
            have HS : Hid (signB 0 op o = (bits .and .i64 op o != 0)) := by show signB _ _ _ = _; unfold signB; rw [if_neg (by omega), if_neg (by omega)]; exact H4.out
            clear x0 x7 y0 y7 H4
            clear hn hp
            go_enter Tryd.func16, Tryd.ntmps16
            go_wp2_with fail
            refine (CK.out _).mono ?_
            rintro e' w1 ⟨rfl, rfl⟩
            go_wp2_with fail
            refine (CO.out _).mono ?_
            rintro e' w1 ⟨rfl, rfl⟩
            go_wp2_with fail
            refine (CP.out _).mono ?_
            rintro e' w1 ⟨rfl, rfl⟩
            go_wp2_with fail
            refine (C.out _).mono ?_
            rintro e' w1 ⟨rfl, hb1⟩
            have HB := Lib.hid hb1
            have hz := hb1.size
            clear hb1 C
            go_wp2_with fail
            refine (CV.out _).mono ?_
            rintro e' w2 ⟨rfl, hb2⟩
            have HB2 : Hid (Below w0.heap.size w0 w2) := ((HB.out.alloc hz _).alloc (by simp; omega) _).trans (hb2.mono (by simp; omega))
            have K1 := Lib.hid (((Blk.new w1 24 #[Value.string e1, .string v1, .string r1]).alloc (.cells #[Value.string e2, .string v2, .string r2] 24)).below hb2 (by simp; omega))
            have K2 := Lib.hid ((Blk.new' (w := w1.alloc (.cells #[Value.string e1, .string v1, .string r1] 24)) (g := w1.heap.size + 1) (t := 24) (cs := #[Value.string e2, .string v2, .string r2]) (by simp)).below hb2 (by simp))
            have c1 : w2.cell? ⟨w1.heap.size, 2, none⟩ = some (.string r1) := K1.out.cell 2
            have c2 : w2.cell? ⟨w1.heap.size + 1, 2, none⟩ = some (.string r2) := K2.out.cell 2
            have hz2 := HB2.out.size
            clear hb2 hz
            go_wp2_with fail
            refine (CR.out _).mono ?_
            rintro e' w3 ⟨rfl, hb3⟩
            have HB3 : Hid (Below w0.heap.size w0 w3) := HB2.out.trans (hb3.mono hz2)
            clear hb3
            go_wp2_with fail
            all_goals
              go_ret2
              refine ⟨?_, HB3.out⟩
              rw [HS.out]
              first | rfl | (simp [*]; done)
  · obtain rfl : mc = x := by rw [HMH.out, if_neg (fun h => hx h.1)]
    have u1 : (mc == 0) = false := by simpa using hx
    clear HMH
    by_cases hn : mc < 0
    · skip
      have H4 : Hid (hasB op 4 = (bits .and .i64 op 4 != 0)) := by
        show (_ : Bool) = _
        rw [Bool.eq_iff_iff, ← and_pos ⟨x0, x7⟩ (by simp), bne_iff_ne]
      have H1 : Hid (hasB o 1 = (bits .and .i64 o 1 != 0)) := by
        show (_ : Bool) = _
        rw [Bool.eq_iff_iff, ← and_pos ⟨y0, y7⟩ (by simp), bne_iff_ne]
      have HS0 : signB mc op o = (hasB op 4 || hasB o 1) := by unfold signB; rw [if_pos hn]
      rw [H4.out, H1.out] at HS0
      have HS := Lib.hid HS0
      clear HS0 x0 x7 y0 y7 H4 H1
      clear hx
      go_enter Tryd.func16, Tryd.ntmps16
      go_wp2_with fail
      refine (CK.out _).mono ?_
      rintro e' w1 ⟨rfl, rfl⟩
      go_wp2_with fail
      refine (CO.out _).mono ?_
      rintro e' w1 ⟨rfl, rfl⟩
      go_wp2_with fail
      refine (CP.out _).mono ?_
      rintro e' w1 ⟨rfl, rfl⟩
      go_wp2_with fail
      refine (C.out _).mono ?_
      rintro e' w1 ⟨rfl, hb1⟩
      have HB := Lib.hid hb1
      have hz := hb1.size
      clear hb1 C
      go_wp2_with fail
      refine (CV.out _).mono ?_
      rintro e' w2 ⟨rfl, hb2⟩
      have HB2 : Hid (Below w0.heap.size w0 w2) := ((HB.out.alloc hz _).alloc (by simp; omega) _).trans (hb2.mono (by simp; omega))
      have K1 := Lib.hid (((Blk.new w1 24 #[Value.string e1, .string v1, .string r1]).alloc (.cells #[Value.string e2, .string v2, .string r2] 24)).below hb2 (by simp; omega))
      have K2 := Lib.hid ((Blk.new' (w := w1.alloc (.cells #[Value.string e1, .string v1, .string r1] 24)) (g := w1.heap.size + 1) (t := 24) (cs := #[Value.string e2, .string v2, .string r2]) (by simp)).below hb2 (by simp))
      have c1 : w2.cell? ⟨w1.heap.size, 2, none⟩ = some (.string r1) := K1.out.cell 2
      have c2 : w2.cell? ⟨w1.heap.size + 1, 2, none⟩ = some (.string r2) := K2.out.cell 2
      have hz2 := HB2.out.size
      clear hb2 hz
      go_wp2_with fail
      all_goals
        go_ret2
        refine ⟨?_, HB2.out⟩
        rw [HS.out]
        first | rfl | (simp [*]; done)
    · have hn2 : 0 < mc := by omega
      have H4 : Hid (hasB op 1 = (bits .and .i64 op 1 != 0)) := by
        show (_ : Bool) = _
        rw [Bool.eq_iff_iff, ← and_pos ⟨x0, x7⟩ (by simp), bne_iff_ne]
      have H1 : Hid (hasB o 4 = (bits .and .i64 o 4 != 0)) := by
        show (_ : Bool) = _
        rw [Bool.eq_iff_iff, ← and_pos ⟨y0, y7⟩ (by simp), bne_iff_ne]
      have HS0 : signB mc op o = (hasB op 1 || hasB o 4) := by unfold signB; rw [if_neg (by omega), if_pos hn2]
      rw [H4.out, H1.out] at HS0
      have HS := Lib.hid HS0
      clear HS0 x0 x7 y0 y7 H4 H1
      clear hx
      go_enter Tryd.func16, Tryd.ntmps16
      go_wp2_with fail
      refine (CK.out _).mono ?_
      rintro e' w1 ⟨rfl, rfl⟩
      go_wp2_with fail
      refine (CO.out _).mono ?_
      rintro e' w1 ⟨rfl, rfl⟩
      go_wp2_with fail
      refine (CP.out _).mono ?_
      rintro e' w1 ⟨rfl, rfl⟩
      go_wp2_with fail
      refine (C.out _).mono ?_
      rintro e' w1 ⟨rfl, hb1⟩
      have HB := Lib.hid hb1
      have hz := hb1.size
      clear hb1 C
      go_wp2_with fail
      refine (CV.out _).mono ?_
      rintro e' w2 ⟨rfl, hb2⟩
      have HB2 : Hid (Below w0.heap.size w0 w2) := ((HB.out.alloc hz _).alloc (by simp; omega) _).trans (hb2.mono (by simp; omega))
      have K1 := Lib.hid (((Blk.new w1 24 #[Value.string e1, .string v1, .string r1]).alloc (.cells #[Value.string e2, .string v2, .string r2] 24)).below hb2 (by simp; omega))
      have K2 := Lib.hid ((Blk.new' (w := w1.alloc (.cells #[Value.string e1, .string v1, .string r1] 24)) (g := w1.heap.size + 1) (t := 24) (cs := #[Value.string e2, .string v2, .string r2]) (by simp)).below hb2 (by simp))
      have c1 : w2.cell? ⟨w1.heap.size, 2, none⟩ = some (.string r1) := K1.out.cell 2
      have c2 : w2.cell? ⟨w1.heap.size + 1, 2, none⟩ = some (.string r2) := K2.out.cell 2
      have hz2 := HB2.out.size
      clear hb2 hz
      go_wp2_with fail
      all_goals
        go_ret2
        refine ⟨?_, HB2.out⟩
        rw [HS.out]
        first | rfl | (simp [*]; done)

set_option maxRecDepth 100000 in
theorem meets_any (kind op o : Int) (a b : ByteArray) (w0 : World) :
    Calls Tryd.prog 16 #[.int .i64 kind, .int .i64 op, .string a, .int .i64 o, .string b] w0 fun e w' => e = .returned (.tuple #[.bool (meetB kind op o (parse a.data.toList) (parse b.data.toList)), .int .i64 (meetE kind op o (parse a.data.toList) (parse b.data.toList))]) ∧ Below w0.heap.size w0 w' := by
  cases h : kindB kind && opB op && opB o with
  | false =>
    have e1 : meetB kind op o (parse a.data.toList) (parse b.data.toList) = false := by unfold meetB; rw [h]; rfl
    have e2 : meetE kind op o (parse a.data.toList) (parse b.data.toList) = 1 := by unfold meetE; rw [h]; rfl
    rw [e1, e2]
    exact (meets_arg kind op o a b w0 h).mono fun _ _ ⟨h1, h2⟩ => ⟨h1, by rw [← h2]; exact Below.refl _ _⟩
  | true =>
    by_cases hz : op = 0 ∨ o = 0
    · have e1 : meetB kind op o (parse a.data.toList) (parse b.data.toList) = true := by unfold meetB; rw [h, if_pos rfl, if_pos hz]
      have e2 : meetE kind op o (parse a.data.toList) (parse b.data.toList) = 0 := by unfold meetE; rw [h, if_pos rfl, if_pos hz]
      rw [e1, e2]
      exact (meets_zero kind op o a b w0 h hz).mono fun _ _ ⟨h1, h2⟩ => ⟨h1, by rw [← h2]; exact Below.refl _ _⟩
    · have hh := h
      simp only [Bool.and_eq_true] at hh
      have hi : MeetIn kind op o := ⟨hh.1.1, hh.1.2, hh.2, fun e => hz (.inl e), fun e => hz (.inr e)⟩
      have e2 : meetE kind op o (parse a.data.toList) (parse b.data.toList) = bothErr kind (parse a.data.toList) (parse b.data.toList) := by unfold meetE; rw [h, if_pos rfl, if_neg hz]
      by_cases hb : bothErr kind (parse a.data.toList) (parse b.data.toList) = 0
      · obtain ⟨_, p, q, hp, hq⟩ := both_zero hb
        have e1 : meetB kind op o (parse a.data.toList) (parse b.data.toList) = signB (meetC kind p q) op o := by unfold meetB; rw [h, if_pos rfl, if_neg hz, hp, hq]
        rw [e1, e2, hb]
        exact meets_good kind op o a b w0 hi p q hp hq
      · have e1 : meetB kind op o (parse a.data.toList) (parse b.data.toList) = false := by
          unfold meetB
          rw [h, if_pos rfl, if_neg hz]
          split
          · rename_i p q hp hq
            exact absurd (by unfold bothErr; rw [if_pos hh.1.1, hp, hq]; rfl) hb
          · rfl
        rw [e1, e2]
        exact meets_form kind op o a b w0 hi hb
end Go.Proofs.YtbfpljlgjpmmmaaDoor
