/- Do two comparisons meet? Meets. Whether an offer of a name is what is asked for; the tests made of it. Tests of a package's number, as values; the tests that the index makes of a name. The test that the index makes of a name: offering. Whether a package meets by itself what has no arguments. -/
import Derived.Test.YtpmfmkpfjomgnaaGreatDoorZbb
import Derived.BigGuardPart
import Derived.Test.YtpmfmkpfjomgnaaGreatDoorZba
import Derived.Laws.OwnMore
/- Do two comparisons meet? Meets. -/
namespace Go.Proofs.YtpmfmkpfjomgnaaGreatDoor
set_option linter.unusedSimpArgs false
set_option linter.unusedVariables false
open Go.RowKit

def hasB (op bit : Int) : Bool := op / bit % 2 == 1
/-- How two versions compare where one of them may have no release. -/
def meetC (kind : Int) (p q : Parts) : Int := if cmpEV kind p q = 0 ∧ p.r ≠ [] ∧ q.r ≠ [] then cmpRel kind p.r q.r else cmpEV kind p q
def signB (c op o : Int) : Bool :=
  if c < 0 then hasB op 4 || hasB o 1 else if 0 < c then hasB op 1 || hasB o 4 else hasB op 2 && hasB o 2 || hasB op 1 && hasB o 1 || hasB op 4 && hasB o 4
def meetB (kind op o : Int) (A B : Option Parts) : Bool :=
  if kindV kind && opB op && opB o then
    (if op = 0 ∨ o = 0 then true else match A, B with
      | some p, some q => signB (meetC kind p q) op o
      | _, _ => false)
  else false
def meetE (kind op o : Int) (A B : Option Parts) : Int :=
  if kindV kind && opB op && opB o then (if op = 0 ∨ o = 0 then 0 else bothErr kind A B) else 1

theorem opB_of {op : Int} (h : opB op = true) : 0 ≤ op ∧ op ≤ 7 := by unfold opB at h; simpa using h

theorem and_pos {op bit : Int} (h : 0 ≤ op ∧ op ≤ 7) (hb : bit = 1 ∨ bit = 2 ∨ bit = 4) : (bits .and .i64 op bit ≠ 0) ↔ hasB op bit = true := by
  obtain ⟨n, rfl⟩ : ∃ n : Nat, op = (n : Int) := ⟨op.toNat, by omega⟩
  have hn : n < 8 := by omega
  have : ∀ m : Fin 8, ∀ b : Fin 3, (bits .and .i64 ((m.val : Nat) : Int) (([1, 2, 4] : List Int).getD b.val 0) ≠ 0) ↔ hasB ((m.val : Nat) : Int) (([1, 2, 4] : List Int).getD b.val 0) = true := by decide +kernel
  rcases hb with rfl | rfl | rfl
  · exact this ⟨n, hn⟩ 0
  · exact this ⟨n, hn⟩ 1
  · exact this ⟨n, hn⟩ 2
theorem and_both {op o : Int} (h : 0 ≤ op ∧ op ≤ 7) (k : 0 ≤ o ∧ o ≤ 7) : (bits .and .i64 op o ≠ 0) ↔ (hasB op 2 && hasB o 2 || hasB op 1 && hasB o 1 || hasB op 4 && hasB o 4) = true := by
  obtain ⟨n, rfl⟩ : ∃ n : Nat, op = (n : Int) := ⟨op.toNat, by omega⟩
  obtain ⟨m, rfl⟩ : ∃ m : Nat, o = (m : Int) := ⟨o.toNat, by omega⟩
  have hn : n < 8 := by omega
  have hm : m < 8 := by omega
  have : ∀ a b : Fin 8, (bits .and .i64 ((a.val : Nat) : Int) ((b.val : Nat) : Int) ≠ 0) ↔ (hasB ((a.val : Nat) : Int) 2 && hasB ((b.val : Nat) : Int) 2 || hasB ((a.val : Nat) : Int) 1 && hasB ((b.val : Nat) : Int) 1 || hasB ((a.val : Nat) : Int) 4 && hasB ((b.val : Nat) : Int) 4) = true := by decide +kernel
  exact this ⟨n, hn⟩ ⟨m, hm⟩

set_option maxHeartbeats 2000000 in
set_option maxRecDepth 100000 in
theorem meets_arg (kind op o : Int) (a b : ByteArray) (w0 : World) (h : (kindV kind && opB op && opB o) = false) :
    Calls Tryz.prog 116 #[.int .i64 kind, .int .i64 op, .string a, .int .i64 o, .string b] w0 fun e w' => e = .returned (.tuple #[.bool false, .int .i64 1]) ∧ w0 = w' := by
  have CK := Lib.hid (fun w => isKind_any kind w)
  have CO := Lib.hid (fun w => isOp_any op w)
  have CP := Lib.hid (fun w => isOp_any o w)
  generalize kindV kind = k at *
  generalize opB op = x at *
  generalize opB o = y at *
  cases k <;> cases x <;> cases y
  all_goals
    first
    | (exact absurd h (by decide))
    | (clear h
       go_enter Tryz.func116, Tryz.ntmps116
       go_wp2_with fail
       refine (CK.out _).mono ?_
       rintro e' w1 ⟨rfl, rfl⟩
       go_wp2_with fail
       try
         refine (CO.out _).mono ?_
         rintro e' w1 ⟨rfl, rfl⟩
         go_wp2_with fail
       try
         refine (CP.out _).mono ?_
         rintro e' w1 ⟨rfl, rfl⟩
         go_wp2_with fail
       go_ret2
       exact ⟨rfl, rfl⟩)

set_option maxHeartbeats 2000000 in
set_option maxRecDepth 100000 in
theorem meets_zero (kind op o : Int) (a b : ByteArray) (w0 : World) (h : (kindV kind && opB op && opB o) = true) (hz : op = 0 ∨ o = 0) :
    Calls Tryz.prog 116 #[.int .i64 kind, .int .i64 op, .string a, .int .i64 o, .string b] w0 fun e w' => e = .returned (.tuple #[.bool true, .int .i64 0]) ∧ w0 = w' := by
  simp only [Bool.and_eq_true] at h
  obtain ⟨⟨hk, hx⟩, hy⟩ := h
  have CK := Lib.hid (fun w => isKind_any kind w)
  have CO := Lib.hid (fun w => isOp_any op w)
  have CP := Lib.hid (fun w => isOp_any o w)
  rw [hk] at CK
  rw [hx] at CO
  rw [hy] at CP
  clear hk hx hy
  by_cases h0 : op = 0
  · subst h0
    clear hz
    go_enter Tryz.func116, Tryz.ntmps116
    go_wp2_with fail
    refine (CK.out _).mono ?_
    rintro e' w1 ⟨rfl, rfl⟩
    go_wp2_with fail
    refine (CO.out _).mono ?_
    rintro e' w1 ⟨rfl, rfl⟩
    go_wp2_with fail
    refine (CP.out _).mono ?_
    rintro e' w1 ⟨rfl, rfl⟩
    go_wp2_with fail
    go_ret2
    exact ⟨rfl, rfl⟩
  · have t1 : (op == 0) = false := by simpa using h0
    obtain rfl : o = 0 := hz.resolve_left h0
    clear hz h0
    go_enter Tryz.func116, Tryz.ntmps116
    go_wp2_with fail
    refine (CK.out _).mono ?_
    rintro e' w1 ⟨rfl, rfl⟩
    go_wp2_with fail
    refine (CO.out _).mono ?_
    rintro e' w1 ⟨rfl, rfl⟩
    go_wp2_with fail
    refine (CP.out _).mono ?_
    rintro e' w1 ⟨rfl, rfl⟩
    go_wp2_with fail
    go_ret2
    exact ⟨rfl, rfl⟩

/-- The tests ahead, where the comparisons are not nought. -/
structure MeetIn (kind op o : Int) : Prop where
  k : kindV kind = true
  x : opB op = true
  y : opB o = true
  op0 : op ≠ 0
  o0 : o ≠ 0

set_option maxHeartbeats 2000000 in
set_option maxRecDepth 100000 in
theorem meets_form (kind op o : Int) (a b : ByteArray) (w0 : World) (h : MeetIn kind op o) (hz : bothErr kind (parse a.data.toList) (parse b.data.toList) ≠ 0) :
    Calls Tryz.prog 116 #[.int .i64 kind, .int .i64 op, .string a, .int .i64 o, .string b] w0 fun e w' => e = .returned (.tuple #[.bool false, .int .i64 (bothErr kind (parse a.data.toList) (parse b.data.toList))]) ∧ Below w0.heap.size w0 w' := by
  have CK := Lib.hid (fun w => isKind_any kind w)
  have CO := Lib.hid (fun w => isOp_any op w)
  have CP := Lib.hid (fun w => isOp_any o w)
  have C := Lib.hid (fun w => both_any kind a b w)
  rw [h.k] at CK
  rw [h.x] at CO
  rw [h.y] at CP
  have t1 : (op == 0) = false := by simpa using h.op0
  have t2 : (o == 0) = false := by simpa using h.o0
  unfold BothPost at C
  generalize bothErr kind (parse a.data.toList) (parse b.data.toList) = x at *
  rw [if_neg hz, if_neg hz] at C
  have t3 : (x == 0) = false := by simpa using hz
  have t4 : (x != 0) = true := by simpa using hz
  clear hz h
  unfold evrV at C
  go_enter Tryz.func116, Tryz.ntmps116
  go_wp2_with fail
  refine (CK.out _).mono ?_
  rintro e' w1 ⟨rfl, rfl⟩
  go_wp2_with fail
  refine (CO.out _).mono ?_
  rintro e' w1 ⟨rfl, rfl⟩
  go_wp2_with fail
  refine (CP.out _).mono ?_
  rintro e' w1 ⟨rfl, rfl⟩
  go_wp2_with fail
  refine (C.out _).mono ?_
  rintro e' w1 ⟨rfl, hb1⟩
  have HB := Lib.hid hb1
  have hz := hb1.size
  clear hb1 C
  go_wp2_with fail
  go_ret2
  exact ⟨rfl, (HB.out.alloc hz _).alloc (by simp; omega) _⟩

set_option maxHeartbeats 8000000 in
set_option maxRecDepth 100000 in
theorem meets_good (kind op o : Int) (a b : ByteArray) (w0 : World) (h : MeetIn kind op o) (p q : Parts) (hp : parse a.data.toList = some p) (hq : parse b.data.toList = some q) :
    Calls Tryz.prog 116 #[.int .i64 kind, .int .i64 op, .string a, .int .i64 o, .string b] w0 fun e w' => e = .returned (.tuple #[.bool (signB (meetC kind p q) op o), .int .i64 0]) ∧ Below w0.heap.size w0 w' := by
  have CK := Lib.hid (fun w => isKind_any kind w)
  have CO := Lib.hid (fun w => isOp_any op w)
  have CP := Lib.hid (fun w => isOp_any o w)
  have C := Lib.hid (fun w => both_any kind a b w)
  rw [h.k] at CK
  rw [h.x] at CO
  rw [h.y] at CP
  have t1 : (op == 0) = false := by simpa using h.op0
  have t2 : (o == 0) = false := by simpa using h.o0
  obtain ⟨x0, x7⟩ := opB_of h.x
  obtain ⟨y0, y7⟩ := opB_of h.y
  have sp := parse_size hp
  have sq := parse_size hq
  rw [hp, hq] at C
  unfold BothPost at C
  rw [show bothErr kind (some p) (some q) = 0 by unfold bothErr; rw [if_pos h.k]; rfl, if_pos rfl, if_pos rfl] at C
  obtain ⟨e1, he1⟩ : ∃ e, e = mkS p.e := ⟨_, rfl⟩
  obtain ⟨v1, hv1⟩ : ∃ e, e = mkS p.v := ⟨_, rfl⟩
  obtain ⟨r1, hr1⟩ : ∃ e, e = mkS p.r := ⟨_, rfl⟩
  obtain ⟨e2, he2⟩ : ∃ e, e = mkS q.e := ⟨_, rfl⟩
  obtain ⟨v2, hv2⟩ : ∃ e, e = mkS q.v := ⟨_, rfl⟩
  obtain ⟨r2, hr2⟩ : ∃ e, e = mkS q.r := ⟨_, rfl⟩
  have E1 : evrV (some p) = .agg #[.string e1, .string v1, .string r1] := by rw [he1, hv1, hr1]; rfl
  have E2 : evrV (some q) = .agg #[.string e2, .string v2, .string r2] := by rw [he2, hv2, hr2]; rfl
  rw [E1, E2] at C
  have s1 : e1.size ≤ maxLen := by rw [he1, mkS_size]; unfold maxLen; omega
  have s2 : e2.size ≤ maxLen := by rw [he2, mkS_size]; unfold maxLen; omega
  have s3 : v1.size ≤ maxLen := by rw [hv1, mkS_size]; unfold maxLen; omega
  have s4 : v2.size ≤ maxLen := by rw [hv2, mkS_size]; unfold maxLen; omega
  have s5 : r1.size ≤ maxLen := by rw [hr1, mkS_size]; unfold maxLen; omega
  have s6 : r2.size ≤ maxLen := by rw [hr2, mkS_size]; unfold maxLen; omega
  have CV := Lib.hid (fun w => versions_any kind e1 v1 r1 e2 v2 r2 s1 s2 s3 s4 w)
  have CR := Lib.hid (fun w => releases_any kind r1 r2 s5 s6 w)
  have HX : thenC (cmpNum e1.data.toList e2.data.toList) (cmpTxt kind v1.data.toList v2.data.toList) = cmpEV kind p q := by rw [he1, he2, hv1, hv2]; rfl
  have HY : cmpRel kind r1.data.toList r2.data.toList = cmpRel kind p.r q.r := by rw [hr1, hr2]; rfl
  have HR1 : r1.size = 0 ↔ p.r = [] := by rw [hr1, mkS_size]; exact List.length_eq_zero_iff
  have HR2 : r2.size = 0 ↔ q.r = [] := by rw [hr2, mkS_size]; exact List.length_eq_zero_iff
  rw [HX] at CV
  rw [HY] at CR
  have HM : meetC kind p q = if cmpEV kind p q = 0 ∧ r1.size ≠ 0 ∧ r2.size ≠ 0 then cmpRel kind p.r q.r else cmpEV kind p q := by
    unfold meetC
    simp only [ne_eq, HR1, HR2]
  have HMH := Lib.hid HM
  clear HM
  generalize meetC kind p q = mc at *
  generalize cmpEV kind p q = x at *
  generalize cmpRel kind p.r q.r = y at *
  clear h hp hq sp sq he1 hv1 hr1 he2 hv2 hr2 E1 E2 s1 s2 s3 s4 s5 s6 HX HY HR1 HR2
  by_cases hx : x = 0
  · subst hx
    by_cases z1 : r1.size = 0
    · obtain rfl : mc = 0 := by rw [HMH.out, if_neg (fun h => h.2.1 z1)]
      obtain rfl := empty_of z1
      have H4 : Hid ((hasB op 2 && hasB o 2 || hasB op 1 && hasB o 1 || hasB op 4 && hasB o 4) = (bits .and .i64 op o != 0)) := by
        show (_ : Bool) = _
        rw [Bool.eq_iff_iff, ← and_both ⟨x0, x7⟩ ⟨y0, y7⟩, bne_iff_ne]
      have HS : Hid (signB 0 op o = (bits .and .i64 op o != 0)) := by show signB _ _ _ = _; unfold signB; rw [if_neg (by omega), if_neg (by omega)]; exact H4.out
      clear x0 x7 y0 y7 H4
      clear z1 HMH
      go_enter Tryz.func116, Tryz.ntmps116
      go_wp2_with fail
      refine (CK.out _).mono ?_
      rintro e' w1 ⟨rfl, rfl⟩
      go_wp2_with fail
      refine (CO.out _).mono ?_
      rintro e' w1 ⟨rfl, rfl⟩
      go_wp2_with fail
      refine (CP.out _).mono ?_
      rintro e' w1 ⟨rfl, rfl⟩
      go_wp2_with fail
      refine (C.out _).mono ?_
      rintro e' w1 ⟨rfl, hb1⟩
      have HB := Lib.hid hb1
      have hz := hb1.size
      clear hb1 C
      go_wp2_with fail
      refine (CV.out _).mono ?_
      rintro e' w2 ⟨rfl, hb2⟩
      have HB2 : Hid (Below w0.heap.size w0 w2) := ((HB.out.alloc hz _).alloc (by simp; omega) _).trans (hb2.mono (by simp; omega))
      have K1 := Lib.hid (((Blk.new w1 143 #[Value.string e1, .string v1, .string ⟨#[]⟩]).alloc (.cells #[Value.string e2, .string v2, .string r2] 143)).below hb2 (by simp; omega))
      have K2 := Lib.hid ((Blk.new' (w := w1.alloc (.cells #[Value.string e1, .string v1, .string ⟨#[]⟩] 143)) (g := w1.heap.size + 1) (t := 143) (cs := #[Value.string e2, .string v2, .string r2]) (by simp)).below hb2 (by simp))
      have c1 : w2.cell? ⟨w1.heap.size, 2, none⟩ = some (.string ⟨#[]⟩) := K1.out.cell 2
      have c2 : w2.cell? ⟨w1.heap.size + 1, 2, none⟩ = some (.string r2) := K2.out.cell 2
      have hz2 := HB2.out.size
      clear hb2 hz
      go_wp2_with fail
      all_goals
        go_ret2
        refine ⟨?_, HB2.out⟩
        rw [HS.out]
        first | rfl | (simp [*]; done)
    · have he := toList_cons (s := r1) (by omega)
      have he2 : r1.toList ≠ [] := by intro h; rw [h] at he; cases he
      by_cases z2 : r2.size = 0
      · obtain rfl : mc = 0 := by rw [HMH.out, if_neg (fun h => h.2.2 z2)]
        obtain rfl := empty_of z2
        have H4 : Hid ((hasB op 2 && hasB o 2 || hasB op 1 && hasB o 1 || hasB op 4 && hasB o 4) = (bits .and .i64 op o != 0)) := by
          show (_ : Bool) = _
          rw [Bool.eq_iff_iff, ← and_both ⟨x0, x7⟩ ⟨y0, y7⟩, bne_iff_ne]
        have HS : Hid (signB 0 op o = (bits .and .i64 op o != 0)) := by show signB _ _ _ = _; unfold signB; rw [if_neg (by omega), if_neg (by omega)]; exact H4.out
        clear x0 x7 y0 y7 H4
        clear z1 z2 HMH
        go_enter Tryz.func116, Tryz.ntmps116
        go_wp2_with fail
        refine (CK.out _).mono ?_
        rintro e' w1 ⟨rfl, rfl⟩
        go_wp2_with fail
        refine (CO.out _).mono ?_
        rintro e' w1 ⟨rfl, rfl⟩
        go_wp2_with fail
        refine (CP.out _).mono ?_
        rintro e' w1 ⟨rfl, rfl⟩
        go_wp2_with fail
        refine (C.out _).mono ?_
        rintro e' w1 ⟨rfl, hb1⟩
        have HB := Lib.hid hb1
        have hz := hb1.size
        clear hb1 C
        go_wp2_with fail
        refine (CV.out _).mono ?_
        rintro e' w2 ⟨rfl, hb2⟩
        have HB2 : Hid (Below w0.heap.size w0 w2) := ((HB.out.alloc hz _).alloc (by simp; omega) _).trans (hb2.mono (by simp; omega))
        have K1 := Lib.hid (((Blk.new w1 143 #[Value.string e1, .string v1, .string r1]).alloc (.cells #[Value.string e2, .string v2, .string ⟨#[]⟩] 143)).below hb2 (by simp; omega))
        have K2 := Lib.hid ((Blk.new' (w := w1.alloc (.cells #[Value.string e1, .string v1, .string r1] 143)) (g := w1.heap.size + 1) (t := 143) (cs := #[Value.string e2, .string v2, .string ⟨#[]⟩]) (by simp)).below hb2 (by simp))
        have c1 : w2.cell? ⟨w1.heap.size, 2, none⟩ = some (.string r1) := K1.out.cell 2
        have c2 : w2.cell? ⟨w1.heap.size + 1, 2, none⟩ = some (.string ⟨#[]⟩) := K2.out.cell 2
        have hz2 := HB2.out.size
        clear hb2 hz
        go_wp2_with fail
        all_goals
          go_ret2
          refine ⟨?_, HB2.out⟩
          rw [HS.out]
          first | rfl | (simp [*]; done)
      · have ge := toList_cons (s := r2) (by omega)
        have ge2 : r2.toList ≠ [] := by intro h; rw [h] at ge; cases ge
        obtain rfl : mc = y := by rw [HMH.out, if_pos ⟨rfl, z1, z2⟩]
        clear z1 z2 HMH
        by_cases hn : mc < 0
        · skip
          have H4 : Hid (hasB op 4 = (bits .and .i64 op 4 != 0)) := by
            show (_ : Bool) = _
            rw [Bool.eq_iff_iff, ← and_pos ⟨x0, x7⟩ (by simp), bne_iff_ne]
          have H1 : Hid (hasB o 1 = (bits .and .i64 o 1 != 0)) := by
            show (_ : Bool) = _
            rw [Bool.eq_iff_iff, ← and_pos ⟨y0, y7⟩ (by simp), bne_iff_ne]
          have HS0 : signB mc op o = (hasB op 4 || hasB o 1) := by unfold signB; rw [if_pos hn]
          rw [H4.out, H1.out] at HS0
          have HS := Lib.hid HS0
          clear HS0 x0 x7 y0 y7 H4 H1
          go_enter Tryz.func116, Tryz.ntmps116
          go_wp2_with fail
          refine (CK.out _).mono ?_
          rintro e' w1 ⟨rfl, rfl⟩
          go_wp2_with fail
          refine (CO.out _).mono ?_
          rintro e' w1 ⟨rfl, rfl⟩
          go_wp2_with fail
          refine (CP.out _).mono ?_
          rintro e' w1 ⟨rfl, rfl⟩
          go_wp2_with fail
          refine (C.out _).mono ?_
          rintro e' w1 ⟨rfl, hb1⟩
          have HB := Lib.hid hb1
          have hz := hb1.size
          clear hb1 C
          go_wp2_with fail
          refine (CV.out _).mono ?_
          rintro e' w2 ⟨rfl, hb2⟩
          have HB2 : Hid (Below w0.heap.size w0 w2) := ((HB.out.alloc hz _).alloc (by simp; omega) _).trans (hb2.mono (by simp; omega))
          have K1 := Lib.hid (((Blk.new w1 143 #[Value.string e1, .string v1, .string r1]).alloc (.cells #[Value.string e2, .string v2, .string r2] 143)).below hb2 (by simp; omega))
          have K2 := Lib.hid ((Blk.new' (w := w1.alloc (.cells #[Value.string e1, .string v1, .string r1] 143)) (g := w1.heap.size + 1) (t := 143) (cs := #[Value.string e2, .string v2, .string r2]) (by simp)).below hb2 (by simp))
          have c1 : w2.cell? ⟨w1.heap.size, 2, none⟩ = some (.string r1) := K1.out.cell 2
          have c2 : w2.cell? ⟨w1.heap.size + 1, 2, none⟩ = some (.string r2) := K2.out.cell 2
          have hz2 := HB2.out.size
          clear hb2 hz
          go_wp2_with fail
          refine (CR.out _).mono ?_
          rintro e' w3 ⟨rfl, hb3⟩
          have HB3 : Hid (Below w0.heap.size w0 w3) := HB2.out.trans (hb3.mono hz2)
          clear hb3
          go_wp2_with fail
          all_goals
            go_ret2
            refine ⟨?_, HB3.out⟩
            rw [HS.out]
            first | rfl | (simp [*]; done)
        · by_cases hp : 0 < mc
          · skip
            have H4 : Hid (hasB op 1 = (bits .and .i64 op 1 != 0)) := by
              show (_ : Bool) = _
              rw [Bool.eq_iff_iff, ← and_pos ⟨x0, x7⟩ (by simp), bne_iff_ne]
            have H1 : Hid (hasB o 4 = (bits .and .i64 o 4 != 0)) := by
              show (_ : Bool) = _
              rw [Bool.eq_iff_iff, ← and_pos ⟨y0, y7⟩ (by simp), bne_iff_ne]
            have HS0 : signB mc op o = (hasB op 1 || hasB o 4) := by unfold signB; rw [if_neg (by omega), if_pos hp]
            rw [H4.out, H1.out] at HS0
            have HS := Lib.hid HS0
            clear HS0 x0 x7 y0 y7 H4 H1
            go_enter Tryz.func116, Tryz.ntmps116
            go_wp2_with fail
            refine (CK.out _).mono ?_
            rintro e' w1 ⟨rfl, rfl⟩
            go_wp2_with fail
            refine (CO.out _).mono ?_
            rintro e' w1 ⟨rfl, rfl⟩
            go_wp2_with fail
            refine (CP.out _).mono ?_
            rintro e' w1 ⟨rfl, rfl⟩
            go_wp2_with fail
            refine (C.out _).mono ?_
            rintro e' w1 ⟨rfl, hb1⟩
            have HB := Lib.hid hb1
            have hz := hb1.size
            clear hb1 C
            go_wp2_with fail
            refine (CV.out _).mono ?_
            rintro e' w2 ⟨rfl, hb2⟩
            have HB2 : Hid (Below w0.heap.size w0 w2) := ((HB.out.alloc hz _).alloc (by simp; omega) _).trans (hb2.mono (by simp; omega))
            have K1 := Lib.hid (((Blk.new w1 143 #[Value.string e1, .string v1, .string r1]).alloc (.cells #[Value.string e2, .string v2, .string r2] 143)).below hb2 (by simp; omega))
            have K2 := Lib.hid ((Blk.new' (w := w1.alloc (.cells #[Value.string e1, .string v1, .string r1] 143)) (g := w1.heap.size + 1) (t := 143) (cs := #[Value.string e2, .string v2, .string r2]) (by simp)).below hb2 (by simp))
            have c1 : w2.cell? ⟨w1.heap.size, 2, none⟩ = some (.string r1) := K1.out.cell 2
            have c2 : w2.cell? ⟨w1.heap.size + 1, 2, none⟩ = some (.string r2) := K2.out.cell 2
            have hz2 := HB2.out.size
            clear hb2 hz
            go_wp2_with fail
            refine (CR.out _).mono ?_
            rintro e' w3 ⟨rfl, hb3⟩
            have HB3 : Hid (Below w0.heap.size w0 w3) := HB2.out.trans (hb3.mono hz2)
            clear hb3
            go_wp2_with fail
            all_goals
              go_ret2
              refine ⟨?_, HB3.out⟩
              rw [HS.out]
              first | rfl | (simp [*]; done)
          · obtain rfl : mc = 0 := by omega
            have H4 : Hid ((hasB op 2 && hasB o 2 || hasB op 1 && hasB o 1 || hasB op 4 && hasB o 4) = (bits .and .i64 op o != 0)) := by
              show (_ : Bool) = _
              rw [Bool.eq_iff_iff, ← and_both ⟨x0, x7⟩ ⟨y0, y7⟩, bne_iff_ne]
            have HS : Hid (signB 0 op o = (bits .and .i64 op o != 0)) := by show signB _ _ _ = _; unfold signB; rw [if_neg (by omega), if_neg (by omega)]; exact H4.out
            clear x0 x7 y0 y7 H4
            clear hn hp
            go_enter Tryz.func116, Tryz.ntmps116
            go_wp2_with fail
            refine (CK.out _).mono ?_
            rintro e' w1 ⟨rfl, rfl⟩
            go_wp2_with fail
            refine (CO.out _).mono ?_
            rintro e' w1 ⟨rfl, rfl⟩
            go_wp2_with fail
            refine (CP.out _).mono ?_
            rintro e' w1 ⟨rfl, rfl⟩
            go_wp2_with fail
            refine (C.out _).mono ?_
            rintro e' w1 ⟨rfl, hb1⟩
            have HB := Lib.hid hb1
            have hz := hb1.size
            clear hb1 C
            go_wp2_with fail
            refine (CV.out _).mono ?_
            rintro e' w2 ⟨rfl, hb2⟩
            have HB2 : Hid (Below w0.heap.size w0 w2) := ((HB.out.alloc hz _).alloc (by simp; omega) _).trans (hb2.mono (by simp; omega))
            have K1 := Lib.hid (((Blk.new w1 143 #[Value.string e1, .string v1, .string r1]).alloc (.cells #[Value.string e2, .string v2, .string r2] 143)).below hb2 (by simp; omega))
            have K2 := Lib.hid ((Blk.new' (w := w1.alloc (.cells #[Value.string e1, .string v1, .string r1] 143)) (g := w1.heap.size + 1) (t := 143) (cs := #[Value.string e2, .string v2, .string r2]) (by simp)).below hb2 (by simp))
            have c1 : w2.cell? ⟨w1.heap.size, 2, none⟩ = some (.string r1) := K1.out.cell 2
            have c2 : w2.cell? ⟨w1.heap.size + 1, 2, none⟩ = some (.string r2) := K2.out.cell 2
            have hz2 := HB2.out.size
            clear hb2 hz
            go_wp2_with fail
            refine (CR.out _).mono ?_
            rintro e' w3 ⟨rfl, hb3⟩
            have HB3 : Hid (Below w0.heap.size w0 w3) := HB2.out.trans (hb3.mono hz2)
            clear hb3
            go_wp2_with fail
            all_goals
              go_ret2
              refine ⟨?_, HB3.out⟩
              rw [HS.out]
              first | rfl | (simp [*]; done)
  · obtain rfl : mc = x := by rw [HMH.out, if_neg (fun h => hx h.1)]
    have u1 : (mc == 0) = false := by simpa using hx
    clear HMH
    by_cases hn : mc < 0
    · skip
      have H4 : Hid (hasB op 4 = (bits .and .i64 op 4 != 0)) := by
        show (_ : Bool) = _
        rw [Bool.eq_iff_iff, ← and_pos ⟨x0, x7⟩ (by simp), bne_iff_ne]
      have H1 : Hid (hasB o 1 = (bits .and .i64 o 1 != 0)) := by
        show (_ : Bool) = _
        rw [Bool.eq_iff_iff, ← and_pos ⟨y0, y7⟩ (by simp), bne_iff_ne]
      have HS0 : signB mc op o = (hasB op 4 || hasB o 1) := by unfold signB; rw [if_pos hn]
      rw [H4.out, H1.out] at HS0
      have HS := Lib.hid HS0
      clear HS0 x0 x7 y0 y7 H4 H1
      clear hx
      go_enter Tryz.func116, Tryz.ntmps116
      go_wp2_with fail
      refine (CK.out _).mono ?_
      rintro e' w1 ⟨rfl, rfl⟩
      go_wp2_with fail
      refine (CO.out _).mono ?_
      rintro e' w1 ⟨rfl, rfl⟩
      go_wp2_with fail
      refine (CP.out _).mono ?_
      rintro e' w1 ⟨rfl, rfl⟩
      go_wp2_with fail
      refine (C.out _).mono ?_
      rintro e' w1 ⟨rfl, hb1⟩
      have HB := Lib.hid hb1
      have hz := hb1.size
      clear hb1 C
      go_wp2_with fail
      refine (CV.out _).mono ?_
      rintro e' w2 ⟨rfl, hb2⟩
      have HB2 : Hid (Below w0.heap.size w0 w2) := ((HB.out.alloc hz _).alloc (by simp; omega) _).trans (hb2.mono (by simp; omega))
      have K1 := Lib.hid (((Blk.new w1 143 #[Value.string e1, .string v1, .string r1]).alloc (.cells #[Value.string e2, .string v2, .string r2] 143)).below hb2 (by simp; omega))
      have K2 := Lib.hid ((Blk.new' (w := w1.alloc (.cells #[Value.string e1, .string v1, .string r1] 143)) (g := w1.heap.size + 1) (t := 143) (cs := #[Value.string e2, .string v2, .string r2]) (by simp)).below hb2 (by simp))
      have c1 : w2.cell? ⟨w1.heap.size, 2, none⟩ = some (.string r1) := K1.out.cell 2
      have c2 : w2.cell? ⟨w1.heap.size + 1, 2, none⟩ = some (.string r2) := K2.out.cell 2
      have hz2 := HB2.out.size
      clear hb2 hz
      go_wp2_with fail
      all_goals
        go_ret2
        refine ⟨?_, HB2.out⟩
        rw [HS.out]
        first | rfl | (simp [*]; done)
    · have hn2 : 0 < mc := by omega
      have H4 : Hid (hasB op 1 = (bits .and .i64 op 1 != 0)) := by
        show (_ : Bool) = _
        rw [Bool.eq_iff_iff, ← and_pos ⟨x0, x7⟩ (by simp), bne_iff_ne]
      have H1 : Hid (hasB o 4 = (bits .and .i64 o 4 != 0)) := by
        show (_ : Bool) = _
        rw [Bool.eq_iff_iff, ← and_pos ⟨y0, y7⟩ (by simp), bne_iff_ne]
      have HS0 : signB mc op o = (hasB op 1 || hasB o 4) := by unfold signB; rw [if_neg (by omega), if_pos hn2]
      rw [H4.out, H1.out] at HS0
      have HS := Lib.hid HS0
      clear HS0 x0 x7 y0 y7 H4 H1
      clear hx
      go_enter Tryz.func116, Tryz.ntmps116
      go_wp2_with fail
      refine (CK.out _).mono ?_
      rintro e' w1 ⟨rfl, rfl⟩
      go_wp2_with fail
      refine (CO.out _).mono ?_
      rintro e' w1 ⟨rfl, rfl⟩
      go_wp2_with fail
      refine (CP.out _).mono ?_
      rintro e' w1 ⟨rfl, rfl⟩
      go_wp2_with fail
      refine (C.out _).mono ?_
      rintro e' w1 ⟨rfl, hb1⟩
      have HB := Lib.hid hb1
      have hz := hb1.size
      clear hb1 C
      go_wp2_with fail
      refine (CV.out _).mono ?_
      rintro e' w2 ⟨rfl, hb2⟩
      have HB2 : Hid (Below w0.heap.size w0 w2) := ((HB.out.alloc hz _).alloc (by simp; omega) _).trans (hb2.mono (by simp; omega))
      have K1 := Lib.hid (((Blk.new w1 143 #[Value.string e1, .string v1, .string r1]).alloc (.cells #[Value.string e2, .string v2, .string r2] 143)).below hb2 (by simp; omega))
      have K2 := Lib.hid ((Blk.new' (w := w1.alloc (.cells #[Value.string e1, .string v1, .string r1] 143)) (g := w1.heap.size + 1) (t := 143) (cs := #[Value.string e2, .string v2, .string r2]) (by simp)).below hb2 (by simp))
      have c1 : w2.cell? ⟨w1.heap.size, 2, none⟩ = some (.string r1) := K1.out.cell 2
      have c2 : w2.cell? ⟨w1.heap.size + 1, 2, none⟩ = some (.string r2) := K2.out.cell 2
      have hz2 := HB2.out.size
      clear hb2 hz
      go_wp2_with fail
      all_goals
        go_ret2
        refine ⟨?_, HB2.out⟩
        rw [HS.out]
        first | rfl | (simp [*]; done)

set_option maxRecDepth 100000 in
theorem meets_any (kind op o : Int) (a b : ByteArray) (w0 : World) :
    Calls Tryz.prog 116 #[.int .i64 kind, .int .i64 op, .string a, .int .i64 o, .string b] w0 fun e w' => e = .returned (.tuple #[.bool (meetB kind op o (parse a.data.toList) (parse b.data.toList)), .int .i64 (meetE kind op o (parse a.data.toList) (parse b.data.toList))]) ∧ Below w0.heap.size w0 w' := by
  cases h : kindV kind && opB op && opB o with
  | false =>
    have e1 : meetB kind op o (parse a.data.toList) (parse b.data.toList) = false := by unfold meetB; rw [h]; rfl
    have e2 : meetE kind op o (parse a.data.toList) (parse b.data.toList) = 1 := by unfold meetE; rw [h]; rfl
    rw [e1, e2]
    exact (meets_arg kind op o a b w0 h).mono fun _ _ ⟨h1, h2⟩ => ⟨h1, by rw [← h2]; exact Below.refl _ _⟩
  | true =>
    by_cases hz : op = 0 ∨ o = 0
    · have e1 : meetB kind op o (parse a.data.toList) (parse b.data.toList) = true := by unfold meetB; rw [h, if_pos rfl, if_pos hz]
      have e2 : meetE kind op o (parse a.data.toList) (parse b.data.toList) = 0 := by unfold meetE; rw [h, if_pos rfl, if_pos hz]
      rw [e1, e2]
      exact (meets_zero kind op o a b w0 h hz).mono fun _ _ ⟨h1, h2⟩ => ⟨h1, by rw [← h2]; exact Below.refl _ _⟩
    · have hh := h
      simp only [Bool.and_eq_true] at hh
      have hi : MeetIn kind op o := ⟨hh.1.1, hh.1.2, hh.2, fun e => hz (.inl e), fun e => hz (.inr e)⟩
      have e2 : meetE kind op o (parse a.data.toList) (parse b.data.toList) = bothErr kind (parse a.data.toList) (parse b.data.toList) := by unfold meetE; rw [h, if_pos rfl, if_neg hz]
      by_cases hb : bothErr kind (parse a.data.toList) (parse b.data.toList) = 0
      · obtain ⟨_, p, q, hp, hq⟩ := both_zero hb
        have e1 : meetB kind op o (parse a.data.toList) (parse b.data.toList) = signB (meetC kind p q) op o := by unfold meetB; rw [h, if_pos rfl, if_neg hz, hp, hq]
        rw [e1, e2, hb]
        exact meets_good kind op o a b w0 hi p q hp hq
      · have e1 : meetB kind op o (parse a.data.toList) (parse b.data.toList) = false := by
          unfold meetB
          rw [h, if_pos rfl, if_neg hz]
          split
          · rename_i p q hp hq
            exact absurd (by unfold bothErr; rw [if_pos hh.1.1, hp, hq]; rfl) hb
          · rfl
        rw [e1, e2]
        exact meets_form kind op o a b w0 hi hb
end Go.Proofs.YtpmfmkpfjomgnaaGreatDoor

/- Whether an offer of a name is what is asked for; the tests made of it. -/
namespace Go.Proofs.YtpmfmkpfjomgnaaGreatDoor
set_option linter.unusedSimpArgs false
set_option linter.unusedVariables false
open Go.RowKit

/-- Does an offer meet what is asked? -/
def meetsO (kind : Int) (o : Offer) (d : Dep) : Bool := if d.op = 0 ∨ o.op = 0 then decide (d.op = 0) else meetB kind d.op o.op (parse d.evr.data.toList) (parse o.evr.data.toList)
/-- Nothing that was there has turned. -/
def SB (w1 : World) (_ : Array Bool) (w' : World) : Prop := Below w1.heap.size w1 w'
theorem SB.io {w1 : World} {i : Nat} (h : i ≠ 100) (l : Array Bool) (w : World) : SB w1 (l.setIfInBounds i true) w ↔ SB w1 l w := Iff.rfl
/-- The index, as those who ask find it. -/
def IdxNow (w : World) (x : Nat) (kind size : Int) (os : List (ByteArray × Offer)) : Prop := ∃ base O bm f, IdxSt w base x O kind size os bm f
theorem IdxNow.below {w w' : World} {x : Nat} {kind size : Int} {os : List (ByteArray × Offer)} (h : IdxNow w x kind size os) (hb : Below w.heap.size w w') : IdxNow w' x kind size os := by
  obtain ⟨base, O, bm, f, h⟩ := h
  exact ⟨base, O, bm, f, h.below hb⟩
set_option maxHeartbeats 4000000 in
set_option maxRecDepth 100000 in
theorem meetsO_any {w : World} {x : Nat} {kind size : Int} {os : List (ByteArray × Offer)} (h : IdxNow w x kind size os) (o : Offer) (d : Dep) (A : Option Addr) (n c : Nat) :
    Calls Tryz.prog 67 #[.pointer (some ⟨x, 0, none⟩), .agg (rowO o), .agg (rowD d (.slice A n c))] w fun e w' => e = .returned (.bool (meetsO kind o d)) ∧ Below w.heap.size w w' := by
  obtain ⟨w1, hw1⟩ : ∃ w1, w1 = (w.alloc (.cells (rowO o) 104)).alloc (.cells (rowD d (.slice A n c)) 50) := ⟨_, rfl⟩
  have hb1 : Below w.heap.size w w1 := by rw [hw1]; exact ((Below.refl _ _).alloc (Nat.le_refl _) _).alloc (by simp) _
  have KO : Blk w1 w.heap.size 104 (rowO o) := by rw [hw1]; exact (Blk.new _ _ _).alloc _
  have KD : Blk w1 (w.heap.size + 1) 50 (rowD d (.slice A n c)) := by rw [hw1]; exact Blk.new' (by simp)
  obtain ⟨base, O, bm, f, hI⟩ := h.below hb1
  have HF : Hid (∀ wx, Below w1.heap.size w1 wx → wx.cell? ⟨x, 0, none⟩ = some (.int .i64 kind) ∧ wx.cell? ⟨w.heap.size + 1, 2, none⟩ = some (.int .i64 d.op) ∧ wx.cell? ⟨w.heap.size + 1, 3, none⟩ = some (.string d.evr) ∧ wx.cell? ⟨w.heap.size, 2, none⟩ = some (.int .i64 o.op) ∧ wx.cell? ⟨w.heap.size, 3, none⟩ = some (.string o.evr)) := fun wx hb =>
    ⟨(hI.blk.below hb hI.blk.lt).cell 0, (KD.below hb KD.lt).cell 2, (KD.below hb KD.lt).cell 3, (KO.below hb KO.lt).cell 2, (KO.below hb KO.lt).cell 3⟩
  have HB1 := Lib.hid hb1
  obtain ⟨y, hy⟩ : ∃ y, y = meetsO kind o d := ⟨_, rfl⟩
  rw [← hy]
  have HX := Lib.hid hy
  have CM := Lib.hid (meets_any kind d.op o.op d.evr o.evr w1.drew)
  generalize meetE kind d.op o.op (parse d.evr.data.toList) (parse o.evr.data.toList) = er at CM
  obtain ⟨mb, hmb⟩ : ∃ mb, mb = meetB kind d.op o.op (parse d.evr.data.toList) (parse o.evr.data.toList) := ⟨_, rfl⟩
  rw [← hmb] at CM
  have HMB := Lib.hid hmb
  clear hy hmb KO KD hI h hb1
  obtain ⟨x0, d2, d3, o2, o3⟩ := HF.out w1 (Below.refl _ _)
  unfold rowO rowD at hw1 ⊢
  by_cases hd : d.op = 0
  · have HV : Hid (y = true) := by show y = _; rw [HX.out]; unfold meetsO; rw [if_pos (.inl hd), decide_eq_true hd]
    have t1 : (d.op == 0) = true := by rw [hd]; rfl
    clear hd HX HMB CM HF
    go_enter Tryz.func67, Tryz.ntmps67
    go_upto_region 1 with fail
    rw [← hw1]
    clear hw1
    go_wp2_with fail
    go_ret
    exact ⟨ret_bool HV.out.symm, HB1.out⟩
  have t1 : (d.op == 0) = false := beq_eq_false_iff_ne.2 hd
  by_cases ho : o.op = 0
  · have HV : Hid (y = false) := by show y = _; rw [HX.out]; unfold meetsO; rw [if_pos (.inr ho), decide_eq_false hd]
    have t2 : (o.op == 0) = true := by rw [ho]; rfl
    clear hd ho HX HMB CM HF
    go_enter Tryz.func67, Tryz.ntmps67
    go_upto_region 1 with fail
    rw [← hw1]
    clear hw1
    go_wp2_with fail
    go_ret
    exact ⟨ret_bool HV.out.symm, HB1.out⟩
  have t2 : (o.op == 0) = false := beq_eq_false_iff_ne.2 ho
  have HV : Hid (mb = y) := by
    show mb = y
    rw [HX.out, HMB.out]
    unfold meetsO
    rw [if_neg (by rintro (h | h); exact hd h; exact ho h)]
  clear hd ho HX HMB
  go_enter Tryz.func67, Tryz.ntmps67
  go_upto_region 1 with fail
  rw [← hw1]
  clear hw1
  go_upto_region 3 with fail
  clear x0 d2 d3 o2 o3 t1 t2
  rename_i K hK
  refine wp_region_S (SB w1) (by kernel_rfl) (show SB w1 _ _ from (Below.refl _ _).drew) (fun hS => ?_)
  refine wpAnyS_take (i := 0) (fun w' => True) (v := .pointer (some ⟨x, 0, none⟩)) rfl (by kernel_rfl) (by kernel_rfl) (by kernel_rfl) (fun _ _ _ h => h) (fun _ _ _ _ => trivial) (SB.io (by decide)) (by kernel_rfl) hS (fun w' hSw => ?_) (by rfl) (fun hS => ?_)
  · go_simp
  try simp only [List.getElem_toArray, List.getElem_cons_zero, List.getElem_cons_succ, Act.put, List.setIfInBounds_toArray, List.set_cons_zero, List.set_cons_succ]
  refine wpAnyS_take (i := 1) (fun w' => True) (v := .pointer (some ⟨x, 0, none⟩)) rfl (by kernel_rfl) (by kernel_rfl) (by kernel_rfl) (fun _ _ _ h => h) (fun _ _ _ _ => trivial) (SB.io (by decide)) (by kernel_rfl) hS (fun w' hSw => ?_) (by rfl) (fun hS => ?_)
  · go_simp
  try simp only [List.getElem_toArray, List.getElem_cons_zero, List.getElem_cons_succ, Act.put, List.setIfInBounds_toArray, List.set_cons_zero, List.set_cons_succ]
  refine wpAnyS_take (i := 2) (fun w' => True) (v := .pointer (some ⟨x, 0, none⟩)) rfl (by kernel_rfl) (by kernel_rfl) (by kernel_rfl) (fun _ _ _ h => h) (fun _ _ _ _ => trivial) (SB.io (by decide)) (by kernel_rfl) hS (fun w' hSw => ?_) (by rfl) (fun hS => ?_)
  · go_simp
  try simp only [List.getElem_toArray, List.getElem_cons_zero, List.getElem_cons_succ, Act.put, List.setIfInBounds_toArray, List.set_cons_zero, List.set_cons_succ]
  refine wpAnyS_take (i := 3) (fun w' => Below w1.heap.size w1 w') (v := .int .i64 kind) rfl (by kernel_rfl) (by kernel_rfl) (by kernel_rfl) (fun _ _ _ h => h) (fun l w hw hS => hS) (SB.io (by decide)) (by kernel_rfl) hS (fun w' hSw => ?_) (by rfl) (fun hS => ?_)
  · obtain ⟨x0, d2, d3, o2, o3⟩ := HF.out w' hSw
    clear hSw
    go_simp
  try simp only [List.getElem_toArray, List.getElem_cons_zero, List.getElem_cons_succ, Act.put, List.setIfInBounds_toArray, List.set_cons_zero, List.set_cons_succ]
  refine wpAnyS_take (i := 4) (fun w' => True) (v := .pointer (some ⟨w.heap.size + 1, 2, none⟩)) rfl (by kernel_rfl) (by kernel_rfl) (by kernel_rfl) (fun _ _ _ h => h) (fun _ _ _ _ => trivial) (SB.io (by decide)) (by kernel_rfl) hS (fun w' hSw => ?_) (by rfl) (fun hS => ?_)
  · go_simp
  try simp only [List.getElem_toArray, List.getElem_cons_zero, List.getElem_cons_succ, Act.put, List.setIfInBounds_toArray, List.set_cons_zero, List.set_cons_succ]
  refine wpAnyS_take (i := 5) (fun w' => Below w1.heap.size w1 w') (v := .int .i64 d.op) rfl (by kernel_rfl) (by kernel_rfl) (by kernel_rfl) (fun _ _ _ h => h) (fun l w hw hS => hS) (SB.io (by decide)) (by kernel_rfl) hS (fun w' hSw => ?_) (by rfl) (fun hS => ?_)
  · obtain ⟨x0, d2, d3, o2, o3⟩ := HF.out w' hSw
    clear hSw
    go_simp
  try simp only [List.getElem_toArray, List.getElem_cons_zero, List.getElem_cons_succ, Act.put, List.setIfInBounds_toArray, List.set_cons_zero, List.set_cons_succ]
  refine wpAnyS_take (i := 6) (fun w' => True) (v := .pointer (some ⟨w.heap.size + 1, 3, none⟩)) rfl (by kernel_rfl) (by kernel_rfl) (by kernel_rfl) (fun _ _ _ h => h) (fun _ _ _ _ => trivial) (SB.io (by decide)) (by kernel_rfl) hS (fun w' hSw => ?_) (by rfl) (fun hS => ?_)
  · go_simp
  try simp only [List.getElem_toArray, List.getElem_cons_zero, List.getElem_cons_succ, Act.put, List.setIfInBounds_toArray, List.set_cons_zero, List.set_cons_succ]
  refine wpAnyS_take (i := 7) (fun w' => Below w1.heap.size w1 w') (v := .string d.evr) rfl (by kernel_rfl) (by kernel_rfl) (by kernel_rfl) (fun _ _ _ h => h) (fun l w hw hS => hS) (SB.io (by decide)) (by kernel_rfl) hS (fun w' hSw => ?_) (by rfl) (fun hS => ?_)
  · obtain ⟨x0, d2, d3, o2, o3⟩ := HF.out w' hSw
    clear hSw
    go_simp
  try simp only [List.getElem_toArray, List.getElem_cons_zero, List.getElem_cons_succ, Act.put, List.setIfInBounds_toArray, List.set_cons_zero, List.set_cons_succ]
  refine wpAnyS_take (i := 8) (fun w' => True) (v := .pointer (some ⟨w.heap.size, 2, none⟩)) rfl (by kernel_rfl) (by kernel_rfl) (by kernel_rfl) (fun _ _ _ h => h) (fun _ _ _ _ => trivial) (SB.io (by decide)) (by kernel_rfl) hS (fun w' hSw => ?_) (by rfl) (fun hS => ?_)
  · go_simp
  try simp only [List.getElem_toArray, List.getElem_cons_zero, List.getElem_cons_succ, Act.put, List.setIfInBounds_toArray, List.set_cons_zero, List.set_cons_succ]
  refine wpAnyS_take (i := 9) (fun w' => Below w1.heap.size w1 w') (v := .int .i64 o.op) rfl (by kernel_rfl) (by kernel_rfl) (by kernel_rfl) (fun _ _ _ h => h) (fun l w hw hS => hS) (SB.io (by decide)) (by kernel_rfl) hS (fun w' hSw => ?_) (by rfl) (fun hS => ?_)
  · obtain ⟨x0, d2, d3, o2, o3⟩ := HF.out w' hSw
    clear hSw
    go_simp
  try simp only [List.getElem_toArray, List.getElem_cons_zero, List.getElem_cons_succ, Act.put, List.setIfInBounds_toArray, List.set_cons_zero, List.set_cons_succ]
  refine wpAnyS_take (i := 10) (fun w' => True) (v := .pointer (some ⟨w.heap.size, 3, none⟩)) rfl (by kernel_rfl) (by kernel_rfl) (by kernel_rfl) (fun _ _ _ h => h) (fun _ _ _ _ => trivial) (SB.io (by decide)) (by kernel_rfl) hS (fun w' hSw => ?_) (by rfl) (fun hS => ?_)
  · go_simp
  try simp only [List.getElem_toArray, List.getElem_cons_zero, List.getElem_cons_succ, Act.put, List.setIfInBounds_toArray, List.set_cons_zero, List.set_cons_succ]
  refine wpAnyS_take (i := 11) (fun w' => Below w1.heap.size w1 w') (v := .string o.evr) rfl (by kernel_rfl) (by kernel_rfl) (by kernel_rfl) (fun _ _ _ h => h) (fun l w hw hS => hS) (SB.io (by decide)) (by kernel_rfl) hS (fun w' hSw => ?_) (by rfl) (fun hS => ?_)
  · obtain ⟨x0, d2, d3, o2, o3⟩ := HF.out w' hSw
    clear hSw
    go_simp
  try simp only [List.getElem_toArray, List.getElem_cons_zero, List.getElem_cons_succ, Act.put, List.setIfInBounds_toArray, List.set_cons_zero, List.set_cons_succ]
  refine wpAnyS_one (i := 12) (by kernel_rfl) rfl (fun K7 hK7 => ?_)
  go_simp
  refine CM.out.mono ?_
  rintro e w2 ⟨rfl, hb2⟩
  have HB2 : Hid (Below w1.heap.size w1 w2) := (Below.refl _ _).drew.trans hb2
  refine hK7.out _ _ HB2.out (fun hS => ?_)
  clear hK7 K7 hb2 CM
  try simp only [List.getElem_toArray, List.getElem_cons_zero, List.getElem_cons_succ, Act.put, List.setIfInBounds_toArray, List.set_cons_zero, List.set_cons_succ]
  refine wpAnyS_take (i := 13) (fun w' => True) (v := .tuple #[.bool mb, .int .i64 er]) rfl (by kernel_rfl) (by kernel_rfl) (by kernel_rfl) (fun _ _ _ h => h) (fun _ _ _ _ => trivial) (SB.io (by decide)) (by kernel_rfl) hS (fun w' hSw => ?_) (by rfl) (fun hS => ?_)
  · go_simp
  try simp only [List.getElem_toArray, List.getElem_cons_zero, List.getElem_cons_succ, Act.put, List.setIfInBounds_toArray, List.set_cons_zero, List.set_cons_succ]
  refine wpAnyS_take (i := 14) (fun w' => True) (v := .bool mb) rfl (by kernel_rfl) (by kernel_rfl) (by kernel_rfl) (fun _ _ _ h => h) (fun _ _ _ _ => trivial) (SB.io (by decide)) (by kernel_rfl) hS (fun w' hSw => ?_) (by rfl) (fun hS => ?_)
  · go_simp
  try simp only [List.getElem_toArray, List.getElem_cons_zero, List.getElem_cons_succ, Act.put, List.setIfInBounds_toArray, List.set_cons_zero, List.set_cons_succ]
  refine wpAnyS_take (i := 15) (fun w' => True) (v := .int .i64 er) rfl (by kernel_rfl) (by kernel_rfl) (by kernel_rfl) (fun _ _ _ h => h) (fun _ _ _ _ => trivial) (SB.io (by decide)) (by kernel_rfl) hS (fun w' hSw => ?_) (by rfl) (fun hS => ?_)
  · go_simp
  try simp only [List.getElem_toArray, List.getElem_cons_zero, List.getElem_cons_succ, Act.put, List.setIfInBounds_toArray, List.set_cons_zero, List.set_cons_succ]
  refine wpAnyS_take (i := 16) (fun w' => True) (v := .bool mb) rfl (by kernel_rfl) (by kernel_rfl) (by kernel_rfl) (fun _ _ _ h => h) (fun _ _ _ _ => trivial) (SB.io (by decide)) (by kernel_rfl) hS (fun w' hSw => ?_) (by rfl) (fun hS => ?_)
  · go_simp
  try simp only [List.getElem_toArray, List.getElem_cons_zero, List.getElem_cons_succ, Act.put, List.setIfInBounds_toArray, List.set_cons_zero, List.set_cons_succ]
  refine wpAnyS_take (i := 17) (fun w' => True) (v := .int .i64 er) rfl (by kernel_rfl) (by kernel_rfl) (by kernel_rfl) (fun _ _ _ h => h) (fun _ _ _ _ => trivial) (SB.io (by decide)) (by kernel_rfl) hS (fun w' hSw => ?_) (by rfl) (fun hS => ?_)
  · go_simp
  try simp only [List.getElem_toArray, List.getElem_cons_zero, List.getElem_cons_succ, Act.put, List.setIfInBounds_toArray, List.set_cons_zero, List.set_cons_succ]
  refine wpAnyS_done (by kernel_rfl) ?_ _
  clear hS
  refine hK _ _ ?_
  clear hK K
  have HBw : Hid (Below w.heap.size w w2) := HB1.out.trans (HB2.out.mono HB1.out.size)
  go_wp2_with fail
  go_ret
  exact ⟨ret_bool HV.out, HBw.out⟩
end Go.Proofs.YtpmfmkpfjomgnaaGreatDoor

/- Tests of a package's number, as values; the tests that the index makes of a name. -/
namespace Go.Proofs.YtpmfmkpfjomgnaaGreatDoor
set_option linter.unusedSimpArgs false
set_option linter.unusedVariables false
open Go.RowKit

/-- fv is a test of numbers below N that tells p, as long as the blocks D stay. -/
def TestI (w : World) (D : Nat → Prop) (N : Nat) (fv : Value) (p : Nat → Bool) : Prop :=
  ∃ f cap, fv = .func (.func f) #[] cap ∧ (∀ args w, (callFunc f args).run Tryz.prog w = .ok (.enter f args) w) ∧ (∀ b, D b → b < w.heap.size) ∧
    ∀ (w' : World) (id : Nat), w.heap.size ≤ w'.heap.size → StayS D w w' → id < N → Calls Tryz.prog f (#[.int .i64 ((id : Nat) : Int)] ++ cap) w' fun e w2 => e = .returned (.bool (p id)) ∧ Below w'.heap.size w' w2
theorem TestI.later {w w' : World} {D : Nat → Prop} {N : Nat} {fv : Value} {p : Nat → Bool} (h : TestI w D N fv p) (hz : w.heap.size ≤ w'.heap.size) (hb : StayS D w w') : TestI w' D N fv p := by
  obtain ⟨f, cap, h1, h2, h3, h4⟩ := h
  exact ⟨f, cap, h1, h2, fun b hd => Nat.lt_of_lt_of_le (h3 b hd) hz, fun w2 id hz2 hb2 hid => h4 w2 id (Nat.le_trans hz hz2) (fun b hd hl => (hb2 b hd (Nat.lt_of_lt_of_le hl hz)).trans (hb b hd hl)) hid⟩
/-- What is asked of an offer. -/
def AskO (w : World) (f : FuncId) (cap : Array Value) (q : Offer → Bool) : Prop :=
  ∀ (o : Offer) (w' : World), Below w.heap.size w w' → Calls Tryz.prog f (#[.agg (rowO o)] ++ cap) w' fun e w2 => e = .returned (.bool (q o)) ∧ Below w'.heap.size w' w2
set_option maxHeartbeats 1000000 in
set_option maxRecDepth 100000 in
/-- .. that it meets a dependency. -/
theorem askMeets {w : World} {x bx bd : Nat} {kind size : Int} {os : List (ByteArray × Offer)} (h : IdxNow w x kind size os) (d : Dep) (A : Option Addr) (n c : Nat) (tx : TypeId) (hx : Blk w bx tx #[.pointer (some ⟨x, 0, none⟩)]) (hd : Blk w bd 50 (rowD d (.slice A n c))) :
    AskO w 108 #[.pointer (some ⟨bx, 0, none⟩), .pointer (some ⟨bd, 0, none⟩)] (fun o => meetsO kind o d) := by
  intro o w' hb
  obtain ⟨w1, hw1⟩ : ∃ w1, w1 = w'.alloc (.cells (rowO o) 104) := ⟨_, rfl⟩
  have hb1 : Below w'.heap.size w' w1 := by rw [hw1]; exact (Below.refl _ _).alloc (Nat.le_refl _) _
  have h01 := hb.trans (hb1.mono hb.size)
  have KO : Blk w1 w'.heap.size 104 (rowO o) := by rw [hw1]; exact Blk.new _ _ _
  have CM := Lib.hid (meetsO_any (h.below h01) o d A n c)
  have x0 := (hx.below h01 hx.lt).cell 0
  have d0 := (hd.below h01 hd.lt).cell 0
  have d1 := (hd.below h01 hd.lt).cell 1
  have d2 := (hd.below h01 hd.lt).cell 2
  have d3 := (hd.below h01 hd.lt).cell 3
  have d4 := (hd.below h01 hd.lt).cell 4
  have o0 := KO.cell 0
  have o1 := KO.cell 1
  have o2 := KO.cell 2
  have o3 := KO.cell 3
  unfold rowD at d0 d1 d2 d3 d4
  unfold rowO at o0 o1 o2 o3
  simp at x0 d0 d1 d2 d3 d4 o0 o1 o2 o3
  have HB1 := Lib.hid hb1
  clear KO hx hd h hb h01 hb1
  unfold rowO rowD at CM
  unfold rowO at hw1 ⊢
  show Calls Tryz.prog _ #[.agg #[.int .i64 (o.id : Int), .bool o.own, .int .i64 o.op, .string o.evr], .pointer (some ⟨bx, 0, none⟩), .pointer (some ⟨bd, 0, none⟩)] w' fun e w2 => e = .returned (.bool (meetsO kind o d)) ∧ Below w'.heap.size w' w2
  generalize meetsO kind o d = y at *
  go_enter Tryz.func108, Tryz.ntmps108
  go_upto_region 1 with fail
  rw [← hw1]
  clear hw1
  go_wp2_with fail
  refine CM.out.mono ?_
  rintro e w2 ⟨rfl, hb2⟩
  have HB2 : Hid (Below w'.heap.size w' w2) := HB1.out.trans (hb2.mono HB1.out.size)
  clear hb2 CM x0 d0 d1 d2 d3 d4 o0 o1 o2 o3
  go_wp2_with fail
  go_ret
  exact ⟨rfl, HB2.out⟩
/-- What has been marked: a row of Booleans. -/
def marks (N : Nat) (p : Nat → Bool) : Array Value := ((List.range N).map fun i => Value.bool (p i)).toArray
theorem marks_at {N : Nat} {p : Nat → Bool} {i : Nat} (hi : i < N) : (marks N p)[i]? = some (.bool (p i)) := by
  unfold marks
  simp [hi]
set_option maxHeartbeats 1000000 in
set_option maxRecDepth 100000 in
/-- A marked row, asked. -/
theorem marked_test {w : World} {N hs hb : Nat} {p : Nat → Bool} {ts tb : TypeId} (h1 : Blk w hs ts #[.slice (some ⟨hb, 0, none⟩) N N]) (h2 : Blk w hb tb (marks N p)) (hN : N ≤ 1000000) :
    TestI w (fun b => b = hs ∨ b = hb) N (.func (.func 115) #[] #[.pointer (some ⟨hs, 0, none⟩)]) p := by
  refine ⟨_, _, rfl, enters_of Tryz.func115 (by kernel_rfl) rfl, (fun b hd => by rcases hd with rfl | rfl; exact h1.lt; exact h2.lt), fun w' id _ hbw hid => ?_⟩
  have h1' : Blk w' hs ts #[.slice (some ⟨hb, 0, none⟩) N N] := (hbw hs (.inl rfl) h1.lt).trans h1
  have h2' : Blk w' hb tb (marks N p) := (hbw hb (.inr rfl) h2.lt).trans h2
  have c0 := h1'.cell 0
  have c1 := (h2'.cell id).trans (marks_at hid)
  simp at c0
  clear h1 h2 h1' h2' hbw
  show Calls Tryz.prog _ #[.int .i64 ((id : Nat) : Int), .pointer (some ⟨hs, 0, none⟩)] w' fun e w2 => e = .returned (.bool (p id)) ∧ Below w'.heap.size w' w2
  generalize p id = y at *
  go_enter Tryz.func115, Tryz.ntmps115
  go_wp2_with fail
  go_ret
  exact ⟨rfl, Below.refl _ _⟩
end Go.Proofs.YtpmfmkpfjomgnaaGreatDoor

/- The test that the index makes of a name: offering. -/
namespace Go.Proofs.YtpmfmkpfjomgnaaGreatDoor
set_option linter.unusedSimpArgs false
set_option linter.unusedVariables false
open Go.RowKit

theorem made_marks (N : Nat) : madeCells #[.bool false] N = marks N fun _ => false := by
  apply Array.toList_inj.1
  rw [toList_madeCells_one]
  unfold marks
  simp only [List.map_const', List.length_range]
theorem marks_size (N : Nat) (p : Nat → Bool) : (marks N p).size = N := by simp [marks]
theorem marks_set {N : Nat} {p : Nat → Bool} (i : Nat) (b : Bool) : (marks N p).setIfInBounds i (.bool b) = marks N fun j => if j = i then b else p j := by
  apply Array.ext_getElem?
  intro j
  by_cases hj : j < N
  · rw [marks_at hj, Array.getElem?_setIfInBounds, marks_size, marks_at hj]
    by_cases h : i = j
    · subst h
      simp [hj]
    · rw [if_neg h, if_neg (fun e => h (Eq.symm e))]
  · rw [Array.getElem?_eq_none (by rw [Array.size_setIfInBounds, marks_size]; omega), Array.getElem?_eq_none (by rw [marks_size]; omega)]
theorem makeBools (N : Nat) (hN : N ≤ 1000000) (w : World) : (Instr.makeSlice 161 (.int .i64 (N : Int)) (.int .i64 (N : Int))).run Tryz.prog w = .ok (.slice (some ⟨w.heap.size, 0, none⟩) N N) (w.alloc (.cells (marks N fun _ => false) 4)) := by
  have hi : ∃ i, Tryz.prog.info? 4 = some i ∧ i.zero = some (.bool false) ∧ i.size = 1 ∧ i.bytes = 1 := by
    have h : (Tryz.prog.info? 4).map (fun i => (i.zero, i.size, i.bytes)) = some (some (.bool false), 1, 1) := by kernel_rfl
    obtain ⟨i, hi, h2⟩ := Option.map_eq_some_iff.1 h
    simp only [Prod.mk.injEq] at h2
    exact ⟨i, hi, h2.1, h2.2.1, h2.2.2⟩
  obtain ⟨i, hi, hz, hs, hb⟩ := hi
  have hm' : (N : Int) ≤ 9223372036854775807 := by omega
  have hb' : (i.bytes : Int) * (N : Int) ≤ 281474976710656 := by rw [hb]; omega
  have := _root_.Go.run_make (w := w) 161 4 i (.bool false) Tryz.underlying161 hi hz .i64 .i64 (N : Int) (N : Int) (by omega) (Int.le_refl _) hb' hm'
  rw [Int.toNat_natCast, hs, Nat.mul_one] at this
  rw [this]
  show Result.ok _ (w.alloc (.cells (madeCells #[.bool false] N) 4)) = _
  rw [made_marks]
/-- A test that was made. -/
def MadeI (w : World) (N : Nat) (p : Nat → Bool) (e : Ending) (w' : World) : Prop := ∃ fv D, e = .returned fv ∧ Below w.heap.size w w' ∧ TestI w' D N fv p ∧ ∀ b, D b → w.heap.size ≤ b
def offB (nm : ByteArray) (os : List (ByteArray × Offer)) (q : Offer → Bool) (id : Nat) : Bool := (offs nm os).any fun o => decide (o.id = id) && q o
theorem cellsO_at {l : List Offer} {k : Nat} {x : Offer} (h : l[k]? = some x) : (cellsO l)[k * 4]? = some (.int .i64 (x.id : Int)) ∧ (cellsO l)[k * 4 + 1]? = some (.bool x.own) ∧ (cellsO l)[k * 4 + 2]? = some (.int .i64 x.op) ∧ (cellsO l)[k * 4 + 3]? = some (.string x.evr) := by
  induction l generalizing k with
  | nil => cases h
  | cons y r ih =>
    cases k with
    | zero => injection h with h; subst h; exact ⟨rfl, rfl, rfl, rfl⟩
    | succ k =>
      have := ih (k := k) (by simpa using h)
      have e : ∀ i, (cellsO (y :: r))[(k + 1) * 4 + i]? = (cellsO r)[k * 4 + i]? := fun i => by
        show ([_, _, _, _] ++ cellsO r)[(k + 1) * 4 + i]? = _
        rw [List.getElem?_append_right (by simp; omega)]
        congr 1
        simp; omega
      have e0 := e 0
      simp only [Nat.add_zero] at e0
      rw [e0, e 1, e 2, e 3]
      exact this
/-- While a name's offers are marked. -/
structure Mk (w wx : World) (N : Nat) (p : Nat → Bool) : Prop where
  below : Below w.heap.size w wx
  row : Blk wx w.heap.size 4 (marks N p)
  room : Blk wx (w.heap.size + 1) 161 #[.slice (some ⟨w.heap.size, 0, none⟩) N N]
theorem Mk.later {w wx w' : World} {N : Nat} {p : Nat → Bool} (h : Mk w wx N p) (hb : Below wx.heap.size wx w') : Mk w w' N p :=
  ⟨h.below.trans (hb.mono h.below.size), h.row.below hb h.row.lt, h.room.below hb h.room.lt⟩
theorem Mk.mark {w wx : World} {N : Nat} {p p' : Nat → Bool} (h : Mk w wx N p) (i : Nat) (b : Bool) (hp : ∀ j, p' j = if j = i then b else p j) : Mk w (wx.setCell ⟨w.heap.size, i, none⟩ (.bool b)) N p' := by
  have e : p' = fun j => if j = i then b else p j := funext hp
  refine ⟨h.below.setCell (Nat.le_refl _) _, ?_, h.room.far (by simp) _⟩
  have := h.row.set_ i (.bool b)
  rwa [marks_set, ← e] at this
/-- While one offer is marked: till the store the row stands, and the box always. -/
def SM (w wr : World) (N : Nat) (p : Nat → Bool) (row : Array Value) (l : Array Bool) (w' : World) : Prop := (l.getD 14 true = false → Mk w w' N p) ∧ Blk w' wr.heap.size 104 row
theorem SM.io {w wr : World} {N i : Nat} {p : Nat → Bool} {row : Array Value} (h : i ≠ 14) (l : Array Bool) (w' : World) : SM w wr N p row (l.setIfInBounds i true) w' ↔ SM w wr N p row l w' := by
  unfold SM
  rw [getD_set_ne true h]
set_option maxHeartbeats 8000000 in
set_option maxRecDepth 100000 in
theorem offering_any {w : World} {x N : Nat} {kind : Int} {os : List (ByteArray × Offer)} (h : IdxNow w x kind (N : Int) os) (nm : ByteArray) (hsz : nm.size ≤ maxLen) (f : FuncId) (cap : Array Value) (q : Offer → Bool) (ef : ∀ args w, (callFunc f args).run Tryz.prog w = .ok (.enter f args) w)
    (hq : AskO w f cap q) (hid : ∀ o ∈ offs nm os, o.id < N) (hN : N ≤ 1000000) :
    Calls Tryz.prog 65 #[.pointer (some ⟨x, 0, none⟩), .string nm, .func (.func f) #[] cap] w (MadeI w N (offB nm os q)) := by
  obtain ⟨base, O, bm, fm, hI⟩ := h
  have c1 := hI.blk.cell 1
  simp at c1
  have hmk := makeBools N hN w
  obtain ⟨w2, hw2⟩ : ∃ w2, w2 = (w.alloc (.cells (marks N fun _ => false) 4)).alloc (.cells #[.slice (some ⟨w.heap.size, 0, none⟩) N N] 161) := ⟨_, rfl⟩
  have hb2 : Below w.heap.size w w2 := by rw [hw2]; exact ((Below.refl _ _).alloc (Nat.le_refl _) _).alloc (by simp) _
  have H2 : Hid (Mk w w2 N (fun id => ((offs nm os).take 0).any fun o => decide (o.id = id) && q o)) := ⟨hb2, by rw [hw2]; exact (Blk.new _ _ _).alloc _, by rw [hw2]; exact Blk.new' (by simp)⟩
  have hI2 := hI.below hb2
  obtain ⟨Am, cm, hfm, hm1, hm2⟩ := own_form' (hI.map.rows nm)
  have hlk := hI2.map.look Tryz.underlying99 (zero_offers w2) hsz
  rw [hfm] at hlk
  have c2 := hI2.blk.cell 2
  simp at c2
  have HR : Hid (∀ wx, Below w.heap.size w wx → wx.ownsRow base 104 4 (.slice Am (offs nm os).length cm) (offs nm os).length (cellsO (offs nm os))) := fun wx hb => by
    have := (hI.below hb).map.rows nm
    rwa [hfm] at this
  unfold maxLen at hm2
  have HQ := Lib.hid hq
  have HD := Lib.hid hid
  have HX : Hid (∀ id, offB nm os q id = (offs nm os).any fun o => decide (o.id = id) && q o) := fun _ => rfl
  have HEF := Lib.hid ef
  generalize offB nm os q = pB at HX ⊢
  generalize offs nm os = l at *
  clear hq hid hI hI2 hfm hb2 ef
  go_enter Tryz.func65, Tryz.ntmps65
  go_upto_region 2 with fail
  rw [← hw2]
  clear hw2 hmk c1
  go_wp2_with fail
  clear hlk c2
  go_loopw [22] (fun v wx => ∃ k : Nat, k ≤ l.length ∧ v = .int .i64 (k : Int) ∧ Hid (Mk w wx N (fun id => (l.take k).any fun o => decide (o.id = id) && q o))) (fun v _ => l.length - (intOf v).toNat)
  case atStart => exact ⟨0, Nat.zero_le _, rfl, H2⟩
  case round =>
    clear H2
    obtain ⟨k, hk, rfl, HM⟩ := hrel
    by_cases hlt : k < l.length
    · obtain ⟨o, ho⟩ : ∃ o, l[k]? = some o := ⟨_, List.getElem?_eq_getElem hlt⟩
      obtain ⟨q0, q1, q2, q3⟩ := cellsO_at ho
      have hrow := HR.out wr HM.out.below
      obtain ⟨b, rfl, k0⟩ := own_ats hrow q0
      obtain ⟨_, e1, k1⟩ := own_ats hrow q1
      obtain ⟨_, e2, k2⟩ := own_ats hrow q2
      obtain ⟨_, e3, k3⟩ := own_ats hrow q3
      injection e1 with e1; injection e1 with e1; subst e1
      injection e2 with e2; injection e2 with e2; subst e2
      injection e3 with e3; injection e3 with e3; subst e3
      have hidN := HD.out o (List.mem_of_getElem? ho)
      obtain ⟨wA, hwA⟩ : ∃ wA, wA = wr.alloc (.cells (rowO o) 104) := ⟨_, rfl⟩
      have hbA : Below wr.heap.size wr wA := by rw [hwA]; exact (Below.refl _ _).alloc (Nat.le_refl _) _
      have KA : Blk wA wr.heap.size 104 (rowO o) := by rw [hwA]; exact Blk.new _ _ _
      have hMA := HM.out.later hbA
      have HMA0 := Lib.hid hMA
      have m0 := (hMA.row.cell o.id).trans (marks_at hidN)
      have mf := hMA.row.free o.id
      have r0 := hMA.room.cell 0
      have a0 := KA.cell 0
      have a1 := KA.cell 1
      have a2 := KA.cell 2
      have a3 := KA.cell 3
      have HMA : Hid (Mk w wA N (fun id => (l.take k).any fun o => decide (o.id = id) && q o) ∧ Blk wA wr.heap.size 104 #[.int .i64 (o.id : Int), .bool o.own, .int .i64 o.op, .string o.evr]) := ⟨hMA, KA⟩
      have HLT : Hid (w.heap.size < wr.heap.size) := HM.out.row.lt
      unfold rowO at a0 a1 a2 a3 hwA
      simp at a0 a1 a2 a3 r0
      have HT := Lib.hid (List.take_add_one (l := l) (i := k))
      rw [ho] at HT
      obtain ⟨p0, hp0⟩ : ∃ p0 : Nat → Bool, p0 = fun id => (l.take k).any fun o => decide (o.id = id) && q o := ⟨_, rfl⟩
      rw [← hp0] at HMA
      have HAny : Hid (∀ id, ((l.take (k + 1)).any fun o => decide (o.id = id) && q o) = (((l.take k).any fun o => decide (o.id = id) && q o) || (decide (o.id = id) && q o))) := fun id => by
        rw [HT.out, List.any_append]; simp
      obtain ⟨bk, hbk⟩ : ∃ bk, bk = ((l.take k).any fun y => decide (y.id = o.id) && q y) := ⟨_, rfl⟩
      rw [← hbk] at m0
      have HBK := Lib.hid hbk
      have HPP := Lib.hid hp0
      clear hp0
      have HKA : Hid (∀ w3, Below wA.drew.heap.size wA.drew w3 → w3.cell? ⟨wr.heap.size, 0, none⟩ = some (.int .i64 (o.id : Int))) := fun w3 hb3 => (KA.below ((Below.refl _ _).drew.trans hb3) KA.lt).cell 0
      clear hrow q0 q1 q2 q3 ho hbA KA hMA HT HM hbk
      go_upto_region 5 with fail
      rw [← hwA]
      clear k0 k1 k2 k3 hwA
      have HMx : Hid (∀ wx b, Mk w wx N (fun id => (l.take k).any fun o => decide (o.id = id) && q o) → (b = (bk || q o)) → Mk w (wx.setCell ⟨w.heap.size, o.id, none⟩ (.bool b)) N (fun id => (l.take (k + 1)).any fun o => decide (o.id = id) && q o)) := fun wx b hm hb => hm.mark o.id b fun j => by
        rw [HAny.out]
        by_cases hj : j = o.id
        · subst hj
          rw [if_pos rfl, hb, HBK.out]; simp
        · rw [if_neg hj, decide_eq_false (fun e => hj e.symm)]; simp
      cases bk with
      | true =>
        have HN : Hid (Mk w (wA.drew.setCell ⟨w.heap.size, o.id, none⟩ (.bool true)) N (fun id => (l.take (k + 1)).any fun o => decide (o.id = id) && q o)) := HMx.out _ _ (HMA0.out.later (Below.refl _ _).drew) rfl
        clear HMx HMA HMA0 HBK HAny
        go_region
        go_wp2_with fail
        go_roundw
        case rel => exact ⟨k + 1, by omega, by go_num, HN⟩
        case measure => simp [intOf]; omega
      | false =>
        have CQ := Lib.hid (HQ.out o wA.drew (HMA0.out.below.trans ((Below.refl wA.heap.size wA).drew.mono HMA0.out.below.size)))
        have HN : Hid (∀ w3, Below wA.drew.heap.size wA.drew w3 → Mk w w3 N p0) := fun w3 hb3 => HMA.out.1.later ((Below.refl _ _).drew.trans hb3)
        have HN2 : Hid (∀ w3, Below wA.drew.heap.size wA.drew w3 → Mk w (w3.setCell ⟨w.heap.size, o.id, none⟩ (.bool (q o))) N (fun id => (l.take (k + 1)).any fun o => decide (o.id = id) && q o)) := fun w3 hb3 => HMx.out _ _ (HMA0.out.later ((Below.refl _ _).drew.trans hb3)) rfl
        unfold rowO at CQ
        clear HMx HAny
        generalize q o = qo at CQ HN2
        have ef := HEF.out
        have HP0 : Hid (p0 o.id = false) := by
          show p0 o.id = false
          rw [HPP.out]; exact HBK.out.symm
        clear HBK
        rename_i K hK
        refine wp_region_S (SM w wr N p0 #[.int .i64 (o.id : Int), .bool o.own, .int .i64 o.op, .string o.evr]) (by kernel_rfl) ⟨fun _ => HMA.out.1.later (Below.refl _ _).drew, HMA.out.2⟩ (fun hS => ?_)
        refine wpAnyS_take (i := 0) (fun w' => w'.cell? ⟨w.heap.size + 1, 0, none⟩ = some (.slice (some ⟨w.heap.size, 0, none⟩) N N)) (v := .slice (some ⟨w.heap.size, 0, none⟩) N N) rfl (by kernel_rfl) (by kernel_rfl) (by kernel_rfl) (fun _ _ _ h => h) (fun l w hw hS => (hS.1 (hw 14 (by kernel_rfl))).room.cell 0) (SM.io (by decide)) (by kernel_rfl) hS (fun w' hSw => ?_) (by kernel_rfl) (fun hS => ?_)
        · go_simp
        try simp only [List.getElem_toArray, List.getElem_cons_zero, List.getElem_cons_succ, Act.put, List.setIfInBounds_toArray, List.set_cons_zero, List.set_cons_succ]
        refine wpAnyS_take (i := 1) (fun w' => True) (v := .pointer (some ⟨wr.heap.size, 0, none⟩)) rfl (by kernel_rfl) (by kernel_rfl) (by kernel_rfl) (fun _ _ _ h => h) (fun _ _ _ _ => trivial) (SM.io (by decide)) (by kernel_rfl) hS (fun w' hSw => ?_) (by kernel_rfl) (fun hS => ?_)
        · go_simp
        try simp only [List.getElem_toArray, List.getElem_cons_zero, List.getElem_cons_succ, Act.put, List.setIfInBounds_toArray, List.set_cons_zero, List.set_cons_succ]
        refine wpAnyS_take (i := 2) (fun w' => w'.cell? ⟨wr.heap.size, 0, none⟩ = some (.int .i64 (o.id : Int))) (v := .int .i64 (o.id : Int)) rfl (by kernel_rfl) (by kernel_rfl) (by kernel_rfl) (fun _ _ _ h => h) (fun l w hw hS => hS.2.cell 0) (SM.io (by decide)) (by kernel_rfl) hS (fun w' hSw => ?_) (by kernel_rfl) (fun hS => ?_)
        · go_simp
        try simp only [List.getElem_toArray, List.getElem_cons_zero, List.getElem_cons_succ, Act.put, List.setIfInBounds_toArray, List.set_cons_zero, List.set_cons_succ]
        refine wpAnyS_take (i := 3) (fun w' => w'.cell? ⟨w.heap.size + 1, 0, none⟩ = some (.slice (some ⟨w.heap.size, 0, none⟩) N N)) (v := .slice (some ⟨w.heap.size, 0, none⟩) N N) rfl (by kernel_rfl) (by kernel_rfl) (by kernel_rfl) (fun _ _ _ h => h) (fun l w hw hS => (hS.1 (hw 14 (by kernel_rfl))).room.cell 0) (SM.io (by decide)) (by kernel_rfl) hS (fun w' hSw => ?_) (by kernel_rfl) (fun hS => ?_)
        · go_simp
        try simp only [List.getElem_toArray, List.getElem_cons_zero, List.getElem_cons_succ, Act.put, List.setIfInBounds_toArray, List.set_cons_zero, List.set_cons_succ]
        refine wpAnyS_take (i := 4) (fun w' => True) (v := .pointer (some ⟨wr.heap.size, 0, none⟩)) rfl (by kernel_rfl) (by kernel_rfl) (by kernel_rfl) (fun _ _ _ h => h) (fun _ _ _ _ => trivial) (SM.io (by decide)) (by kernel_rfl) hS (fun w' hSw => ?_) (by kernel_rfl) (fun hS => ?_)
        · go_simp
        try simp only [List.getElem_toArray, List.getElem_cons_zero, List.getElem_cons_succ, Act.put, List.setIfInBounds_toArray, List.set_cons_zero, List.set_cons_succ]
        refine wpAnyS_take (i := 5) (fun w' => w'.cell? ⟨wr.heap.size, 0, none⟩ = some (.int .i64 (o.id : Int))) (v := .int .i64 (o.id : Int)) rfl (by kernel_rfl) (by kernel_rfl) (by kernel_rfl) (fun _ _ _ h => h) (fun l w hw hS => hS.2.cell 0) (SM.io (by decide)) (by kernel_rfl) hS (fun w' hSw => ?_) (by kernel_rfl) (fun hS => ?_)
        · go_simp
        try simp only [List.getElem_toArray, List.getElem_cons_zero, List.getElem_cons_succ, Act.put, List.setIfInBounds_toArray, List.set_cons_zero, List.set_cons_succ]
        refine wpAnyS_take (i := 6) (fun w' => True) (v := .pointer (some ⟨w.heap.size, o.id, none⟩)) rfl (by kernel_rfl) (by kernel_rfl) (by kernel_rfl) (fun _ _ _ h => h) (fun _ _ _ _ => trivial) (SM.io (by decide)) (by kernel_rfl) hS (fun w' hSw => ?_) (by kernel_rfl) (fun hS => ?_)
        · go_simp
        try simp only [List.getElem_toArray, List.getElem_cons_zero, List.getElem_cons_succ, Act.put, List.setIfInBounds_toArray, List.set_cons_zero, List.set_cons_succ]
        refine wpAnyS_take (i := 7) (fun w' => w'.cell? ⟨w.heap.size, o.id, none⟩ = some (.bool false)) (v := .bool false) rfl (by kernel_rfl) (by kernel_rfl) (by kernel_rfl) (fun _ _ _ h => h) (fun l w hw hS => ((hS.1 (hw 14 (by kernel_rfl))).row.cell o.id).trans ((marks_at hidN).trans (by rw [HP0.out]))) (SM.io (by decide)) (by kernel_rfl) hS (fun w' hSw => ?_) (by kernel_rfl) (fun hS => ?_)
        · go_simp
        try simp only [List.getElem_toArray, List.getElem_cons_zero, List.getElem_cons_succ, Act.put, List.setIfInBounds_toArray, List.set_cons_zero, List.set_cons_succ]
        refine wpAnyS_take (i := 8) (fun w' => True) (v := .bool false) rfl (by kernel_rfl) (by kernel_rfl) (by kernel_rfl) (fun _ _ _ h => h) (fun _ _ _ _ => trivial) (SM.io (by decide)) (by kernel_rfl) hS (fun w' hSw => ?_) (by kernel_rfl) (fun hS => ?_)
        · go_simp
        try simp only [List.getElem_toArray, List.getElem_cons_zero, List.getElem_cons_succ, Act.put, List.setIfInBounds_toArray, List.set_cons_zero, List.set_cons_succ]
        refine wpAnyS_take (i := 9) (fun w' => True) (v := .func (.func f) #[] cap) rfl (by kernel_rfl) (by kernel_rfl) (by kernel_rfl) (fun _ _ _ h => h) (fun _ _ _ _ => trivial) (SM.io (by decide)) (by kernel_rfl) hS (fun w' hSw => ?_) (by kernel_rfl) (fun hS => ?_)
        · go_simp
        try simp only [List.getElem_toArray, List.getElem_cons_zero, List.getElem_cons_succ, Act.put, List.setIfInBounds_toArray, List.set_cons_zero, List.set_cons_succ]
        refine wpAnyS_take (i := 10) (fun w' => Blk w' wr.heap.size 104 #[.int .i64 (o.id : Int), .bool o.own, .int .i64 o.op, .string o.evr]) (v := .agg #[.int .i64 (o.id : Int), .bool o.own, .int .i64 o.op, .string o.evr]) rfl (by kernel_rfl) (by kernel_rfl) (by kernel_rfl) (fun _ _ _ h => h) (fun l w hw hS => hS.2) (SM.io (by decide)) (by kernel_rfl) hS (fun w' hSw => ?_) (by kernel_rfl) (fun hS => ?_)
        · have q0 := hSw.cell 0
          have q1 := hSw.cell 1
          have q2 := hSw.cell 2
          have q3 := hSw.cell 3
          simp at q0 q1 q2 q3
          clear hSw
          go_simp
        try simp only [List.getElem_toArray, List.getElem_cons_zero, List.getElem_cons_succ, Act.put, List.setIfInBounds_toArray, List.set_cons_zero, List.set_cons_succ]
        refine wpAnyS_one (i := 11) (by kernel_rfl) rfl (fun K7 hK7 => ?_)
        go_simp
        refine CQ.out.mono ?_
        rintro e w3 ⟨rfl, hb3⟩
        have hM3 := HN.out w3 hb3
        have HM3 := Lib.hid (HN2.out w3 hb3)
        have hK3 := HMA.out.2.below ((Below.refl _ _).drew.trans hb3) HMA.out.2.lt
        have m3 := (hM3.row.cell o.id).trans (marks_at hidN)
        have f3 := hM3.row.free o.id
        have hne : wr.heap.size ≠ w.heap.size := by have := HLT.out; omega
        refine hK7.out _ _ ⟨fun _ => hM3, hK3⟩ (fun hS => ?_)
        clear hK7 K7 hb3 CQ HN HN2
        try simp only [List.getElem_toArray, List.getElem_cons_zero, List.getElem_cons_succ, Act.put, List.setIfInBounds_toArray, List.set_cons_zero, List.set_cons_succ]
        refine wpAnyS_take (i := 12) (fun w' => True) (v := .bool qo) rfl (by kernel_rfl) (by kernel_rfl) (by kernel_rfl) (fun _ _ _ h => h) (fun _ _ _ _ => trivial) (SM.io (by decide)) (by kernel_rfl) hS (fun w' hSw => ?_) (by kernel_rfl) (fun hS => ?_)
        · go_simp
        try simp only [List.getElem_toArray, List.getElem_cons_zero, List.getElem_cons_succ, Act.put, List.setIfInBounds_toArray, List.set_cons_zero, List.set_cons_succ]
        refine wpAnyS_take (i := 13) (fun w' => True) (v := .pointer (some ⟨w.heap.size, o.id, none⟩)) rfl (by kernel_rfl) (by kernel_rfl) (by kernel_rfl) (fun _ _ _ h => h) (fun _ _ _ _ => trivial) (SM.io (by decide)) (by kernel_rfl) hS (fun w' hSw => ?_) (by kernel_rfl) (fun hS => ?_)
        · go_simp
        try simp only [List.getElem_toArray, List.getElem_cons_zero, List.getElem_cons_succ, Act.put, List.setIfInBounds_toArray, List.set_cons_zero, List.set_cons_succ]
        refine wpAnyS_one (i := 14) (by kernel_rfl) rfl (fun K7 hK7 => ?_)
        go_simp
        refine hK7.out _ _ ⟨(fun h => by cases h), hK3.far (p := ⟨w.heap.size, o.id, none⟩) hne _⟩ (fun hS => ?_)
        clear hK7 K7
        try simp only [List.getElem_toArray, List.getElem_cons_zero, List.getElem_cons_succ, Act.put, List.setIfInBounds_toArray, List.set_cons_zero, List.set_cons_succ]
        refine wpAnyS_done (by kernel_rfl) ?_ _
        clear hS
        refine hK _ _ ?_
        clear hK K m3 f3 hM3 hK3
        generalize w3.setCell ⟨w.heap.size, o.id, none⟩ (.bool qo) = w9 at HM3 ⊢
        go_wp2_with fail
        go_roundw
        case rel => exact ⟨k + 1, by omega, by go_num, HM3⟩
        case measure => simp [intOf]; omega
    · have HV : Hid (MadeI w N pB (.returned (.func (.func 115) #[] #[.pointer (some ⟨w.heap.size + 1, 0, none⟩)])) wr) := by
        refine ⟨_, (fun b => b = w.heap.size + 1 ∨ b = w.heap.size), rfl, HM.out.below, ?_, fun b hd => hd.elim (fun e => by omega) (fun e => by omega)⟩
        have := marked_test HM.out.room HM.out.row hN
        have e : pB = fun id => (l.take k).any fun o => decide (o.id = id) && q o := by
          funext id
          rw [HX.out, List.take_of_length_le (by omega)]
        rw [e]
        exact this
      clear HM HR HQ HD HX HEF
      go_wp2_with fail
      go_ret
      exact HV.out
end Go.Proofs.YtpmfmkpfjomgnaaGreatDoor

/- Whether a package meets by itself what has no arguments. -/
namespace Go.Proofs.YtpmfmkpfjomgnaaGreatDoor
set_option linter.unusedSimpArgs false
set_option linter.unusedVariables false
open Go.RowKit

set_option maxRecDepth 100000 in
theorem eachI_nil (A : Option Addr) (c : Nat) (fv : Value) (w : World) : Calls Tryz.prog 105 #[.slice A 0 c, fv] w fun e w' => e = .returned (.slice none 0 0) ∧ w = w' := by
  go_enter Tryz.func105, Tryz.ntmps105
  go_wp2_with fail
  go_loopw [5, 10] (fun v5 v wx => v5 = .slice none 0 0 ∧ v = .int .i64 0 ∧ wx = w) (fun _ _ _ => 0)
  case atStart => exact ⟨rfl, rfl, rfl⟩
  case round =>
    obtain ⟨rfl, rfl, rfl⟩ := hrel
    go_wp2_with fail
    go_ret
    exact ⟨rfl, rfl⟩
def aloneB (kind : Int) (os : List (ByteArray × Offer)) (d : Dep) : Nat → Bool := offB d.name os fun o => meetsO kind o d
set_option maxHeartbeats 4000000 in
set_option maxRecDepth 100000 in
theorem alone_leaf {w : World} {x N : Nat} {kind : Int} {os : List (ByteArray × Offer)} (h : IdxNow w x kind (N : Int) os) (d : Dep) (h5 : d.kind ≠ 5) (h6 : d.kind ≠ 6) (A : Option Addr) (c : Nat) (hsz : d.name.size ≤ maxLen) (hid : ∀ o ∈ offs d.name os, o.id < N) (hN : N ≤ 1000000) :
    Calls Tryz.prog 61 #[.pointer (some ⟨x, 0, none⟩), .agg (rowD d (.slice A 0 c))] w (MadeI w N (aloneB kind os d)) := by
  have hmf : ∀ (fn : Fn) (first cap : Array Value) (w : World), (Instr.makeFunc fn first cap).run Tryz.prog w = .ok (.func fn first cap) w := fun _ _ _ _ => rfl
  obtain ⟨w1, hw1⟩ : ∃ w1, w1 = (w.alloc (.cells #[.pointer (some ⟨x, 0, none⟩)] 51)).alloc (.cells (rowD d (.slice A 0 c)) 50) := ⟨_, rfl⟩
  have hb1 : Below w.heap.size w w1 := by rw [hw1]; exact ((Below.refl _ _).alloc (Nat.le_refl _) _).alloc (by simp) _
  have KX : Blk w1 w.heap.size 51 #[.pointer (some ⟨x, 0, none⟩)] := by rw [hw1]; exact (Blk.new _ _ _).alloc _
  have KD : Blk w1 (w.heap.size + 1) 50 (rowD d (.slice A 0 c)) := by rw [hw1]; exact Blk.new' (by simp)
  obtain ⟨w2, hw2⟩ : ∃ w2, w2 = w1.alloc (.cells #[.slice none 0 0] 154) := ⟨_, rfl⟩
  have hb2 : Below w1.heap.size w1 w2 := by rw [hw2]; exact (Below.refl _ _).alloc (Nat.le_refl _) _
  have h12 : Below w.heap.size w w2 := hb1.trans (hb2.mono hb1.size)
  have CE := Lib.hid (fun fv => eachI_nil A c fv w1)
  have CO := Lib.hid (offering_any (h.below h12) d.name hsz 108 #[.pointer (some ⟨w.heap.size, 0, none⟩), .pointer (some ⟨w.heap.size + 1, 0, none⟩)] (fun o => meetsO kind o d) (enters_of Tryz.func108 (by kernel_rfl) rfl)
    (askMeets (h.below h12) d A 0 c _ (KX.below hb2 KX.lt) (KD.below hb2 KD.lt)) hid hN)
  have HB := Lib.hid h12
  have x0 := KX.cell 0
  have d4 := KD.cell 4
  unfold rowD at d4
  simp at x0 d4
  have HC2 : Hid (w2.cell? ⟨w.heap.size, 0, none⟩ = some (.pointer (some ⟨x, 0, none⟩)) ∧ w2.cell? ⟨w.heap.size + 1, 0, none⟩ = some (.int .i64 d.kind) ∧ w2.cell? ⟨w.heap.size + 1, 1, none⟩ = some (.string d.name)) := ⟨(KX.below hb2 KX.lt).cell 0, (KD.below hb2 KD.lt).cell 0, (KD.below hb2 KD.lt).cell 1⟩
  have t5 : (d.kind == 5) = false := beq_eq_false_iff_ne.2 h5
  have t6 : (d.kind == 6) = false := beq_eq_false_iff_ne.2 h6
  clear KX KD h hb1 hb2 h12 hid h5 h6
  unfold rowD at hw1 ⊢
  go_enter Tryz.func61, Tryz.ntmps61
  go_upto_region 1 with fail
  rw [← hw1]
  clear hw1
  go_wp2_with fail
  refine (CE.out _).mono ?_
  rintro e w1x ⟨rfl, rfl⟩
  clear CE x0 d4
  go_upto_region 2 with fail
  rw [← hw2]
  clear hw2
  obtain ⟨x0, d0, d1⟩ := HC2.out
  go_wp2_with fail
  refine CO.out.mono ?_
  rintro e w3 ⟨fv, D, rfl, hb3, ht, hD⟩
  have HV : Hid (MadeI w N (aloneB kind os d) (.returned fv) w3) := ⟨fv, D, rfl, HB.out.trans (hb3.mono HB.out.size), ht, fun b hd => Nat.le_trans HB.out.size (hD b hd)⟩
  clear hb3 ht hD CO x0 d0 d1 HC2
  go_wp2_with fail
  go_ret
  exact HV.out
end Go.Proofs.YtpmfmkpfjomgnaaGreatDoor
