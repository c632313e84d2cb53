/- The reference's glob, prefix by prefix. -/
import Derived.Test.YthgagobdkcikiaaDoorGlobM
import Derived.Test.YthgagobdkcikiaaDoorText
import Derived.StillTailTactics
import Derived.Test.YthgagobdkcikiaaDoorPhase4
namespace Go.Proofs.YthgagobdkcikiaaDoor
set_option linter.unusedSimpArgs false
set_option linter.unusedVariables false
open Go.RowKit

/-- A row of Booleans. -/
def marks (N : Nat) (p : Nat → Bool) : Array Value := ((List.range N).map fun i => Value.bool (p i)).toArray
theorem marks_at {N : Nat} {p : Nat → Bool} {i : Nat} (hi : i < N) : (marks N p)[i]? = some (.bool (p i)) := by
  unfold marks
  simp [hi]
theorem made_marks (N : Nat) : madeCells #[.bool false] N = marks N fun _ => false := by
  apply Array.toList_inj.1
  rw [toList_madeCells_one]
  unfold marks
  simp only [List.map_const', List.length_range]
theorem marks_size (N : Nat) (p : Nat → Bool) : (marks N p).size = N := by simp [marks]
theorem marks_congr {N : Nat} {p q : Nat → Bool} (h : ∀ j, j < N → p j = q j) : marks N p = marks N q := by
  unfold marks
  congr 1
  apply List.map_congr_left
  intro j hj
  rw [h j (List.mem_range.1 hj)]
theorem marks_set {N : Nat} {p : Nat → Bool} (i : Nat) (b : Bool) : (marks N p).setIfInBounds i (.bool b) = marks N fun j => if j = i then b else p j := by
  apply Array.ext_getElem?
  intro j
  by_cases hj : j < N
  · rw [marks_at hj, Array.getElem?_setIfInBounds, marks_size, marks_at hj]
    by_cases h : i = j
    · subst h
      simp [hj]
    · rw [if_neg h, if_neg (fun e => h (Eq.symm e))]
  · rw [Array.getElem?_eq_none (by rw [Array.size_setIfInBounds, marks_size]; omega), Array.getElem?_eq_none (by rw [marks_size]; omega)]
theorem makeBools (n : Nat) (hN : n ≤ 1048576) (w : World) : (Instr.makeSlice 75 (.int .i64 ((n : Int) + 1)) (.int .i64 ((n : Int) + 1))).run Tryd.prog w = .ok (.slice (some ⟨w.heap.size, 0, none⟩) (n + 1) (n + 1)) (w.alloc (.cells (marks (n + 1) fun _ => false) 4)) := by
  have hi : ∃ i, Tryd.prog.info? 4 = some i ∧ i.zero = some (.bool false) ∧ i.size = 1 ∧ i.bytes = 1 := by
    have h : (Tryd.prog.info? 4).map (fun i => (i.zero, i.size, i.bytes)) = some (some (.bool false), 1, 1) := by kernel_rfl
    obtain ⟨i, hi, h2⟩ := Option.map_eq_some_iff.1 h
    simp only [Prod.mk.injEq] at h2
    exact ⟨i, hi, h2.1, h2.2.1, h2.2.2⟩
  obtain ⟨i, hi, hz, hs, hb⟩ := hi
  obtain ⟨N, hNN⟩ : ∃ N : Nat, n + 1 = N := ⟨_, rfl⟩
  have e : (n : Int) + 1 = (N : Int) := by omega
  rw [e, hNN]
  have hm' : (N : Int) ≤ 9223372036854775807 := by omega
  have hb' : (i.bytes : Int) * (N : Int) ≤ 281474976710656 := by rw [hb]; omega
  have := _root_.Go.run_make (w := w) 75 4 i (.bool false) Tryd.underlying75 hi hz .i64 .i64 (N : Int) (N : Int) (by omega) (Int.le_refl _) hb' hm'
  rw [Int.toNat_natCast, hs, Nat.mul_one] at this
  rw [this]
  show Result.ok _ (w.alloc (.cells (madeCells #[.bool false] N) 4)) = _
  rw [made_marks]

theorem wrap_small (n : Nat) (h : n < 9223372036854775808) : IntKind.i64.wrap (n : Int) = (n : Int) := by
  simp [IntKind.wrap, IntKind.bits, IntKind.signed]; omega
/-- Of a pattern so far: which beginnings of the text fit. -/
structure GSt (w wx : World) (c n : Nat) (q s : List UInt8) : Prop where
  below : Below w.heap.size w wx
  ge : w.heap.size ≤ c
  row : Blk wx c 4 (marks (n + 1) fun k => gm q (s.take k))
/-- .. while the next row is made. -/
structure GNext (w wx : World) (c d n k : Nat) (q q' s : List UInt8) : Prop where
  below : Below w.heap.size w wx
  gec : w.heap.size ≤ c
  ged : w.heap.size ≤ d
  ne : c ≠ d
  row : Blk wx c 4 (marks (n + 1) fun k => gm q (s.take k))
  next : Blk wx d 4 (marks (n + 1) fun j => decide (j < k) && gm q' (s.take j))
theorem GNext.step {w wx : World} {c d n k : Nat} {q q' s : List UInt8} (h : GNext w wx c d n k q q' s) (b : Bool) (hb : b = gm q' (s.take k)) : GNext w (wx.setCell ⟨d, k, none⟩ (.bool b)) c d n (k + 1) q q' s := by
  refine ⟨h.below.setCell (by have := h.ged; simpa using this) _, h.gec, h.ged, h.ne, h.row.far h.ne _, ?_⟩
  have := h.next.set_ k (.bool b)
  rw [marks_set] at this
  rwa [marks_congr (q := fun j => decide (j < k + 1) && gm q' (s.take j))] at this
  intro j _
  by_cases hj : j = k
  · subst hj; simp [hb]
  · rw [if_neg hj]
    congr 1
    by_cases h1 : j < k
    · simp [h1, Nat.lt_succ_of_lt h1]
    · have : ¬ j < k + 1 := by omega
      simp [h1, this]
theorem GNext.drew {w wx : World} {c d n k : Nat} {q q' s : List UInt8} (h : GNext w wx c d n k q q' s) : GNext w wx.drew c d n k q q' s := ⟨h.below.drew, h.gec, h.ged, h.ne, h.row, h.next⟩
theorem GNext.full {w wx : World} {c d n : Nat} {q q' s : List UInt8} (h : GNext w wx c d n (n + 1) q q' s) : GSt w wx d n q' s := by
  refine ⟨h.below, h.ged, ?_⟩
  have := h.next
  rwa [marks_congr (q := fun k => gm q' (s.take k))] at this
  intro j hj
  simp [hj]
theorem GSt.start {w wx : World} {c n : Nat} {q s : List UInt8} (h : GSt w wx c n q s) (hlt : c < wx.heap.size) (q' : List UInt8) : GNext w (wx.alloc (.cells (marks (n + 1) fun _ => false) 4)) c wx.heap.size n 0 q q' s := by
  refine ⟨h.below.alloc h.below.size _, h.ge, h.below.size, by omega, h.row.alloc _, ?_⟩
  have := Blk.new wx 4 (marks (n + 1) fun _ => false)
  rwa [marks_congr (q := fun j => decide (j < 0) && gm q' (s.take j))] at this
  intro j _
  simp
set_option maxHeartbeats 40000000 in
set_option maxRecDepth 100000 in
theorem refGlob_any (p s : ByteArray) (hp : p.size ≤ 1048576) (hs : s.size ≤ 1048576) (w : World) :
    Calls Tryd.prog 22 #[.string p, .string s] w fun e w' => e = .returned (.bool (gm p.data.toList s.data.toList)) ∧ Below w.heap.size w w' := by
  have hmk := makeBools s.size hs
  obtain ⟨wa, hwa⟩ : ∃ wa, wa = w.alloc (.cells (marks (s.size + 1) fun _ => false) 4) := ⟨_, rfl⟩
  have K0 : Blk wa w.heap.size 4 (marks (s.size + 1) fun _ => false) := by rw [hwa]; exact Blk.new _ _ _
  have z0 : wa.cell? ⟨w.heap.size, 0, none⟩ = some (.bool false) := by rw [K0.cell, marks_at (by omega)]
  have f0 := K0.free 0
  have HG0 : Hid (GSt w (wa.setCell ⟨w.heap.size, 0, none⟩ (.bool true)) w.heap.size s.size [] s.data.toList) := by
    refine ⟨?_, Nat.le_refl _, ?_⟩
    · rw [hwa]; exact ((Below.refl _ _).alloc (Nat.le_refl _) _).setCell (Nat.le_refl _) _
    · have := K0.set_ 0 (.bool true)
      rw [marks_set] at this
      rwa [marks_congr (q := fun k => gm [] (s.data.toList.take k))] at this
      intro j hj
      rw [gm_dp_zero (by rw [size_len]; omega)]
      by_cases h0 : j = 0 <;> simp [h0]
  obtain ⟨ans, hans⟩ : ∃ ans, ans = gm p.data.toList s.data.toList := ⟨_, rfl⟩
  rw [← hans]
  have HANS := Lib.hid hans
  clear hans K0
  go_enter Tryd.func22, Tryd.ntmps22
  go_upto_region 2 with fail
  rw [← hwa]
  clear hwa
  go_wp2_with fail
  clear z0 f0
  generalize wa.setCell ⟨w.heap.size, 0, none⟩ (.bool true) = wb at *
  go_loopw [5, 6] (fun v5 v6 wx => ∃ (i c : Nat), v5 = .slice (some ⟨c, 0, none⟩) (s.size + 1) (s.size + 1) ∧ v6 = .int .i64 (i : Int) ∧ i ≤ p.size ∧ Hid (GSt w wx c s.size (p.data.toList.take i) s.data.toList)) (fun _ v6 _ => p.size - (intOf v6).toNat)
  case atStart => exact ⟨0, w.heap.size, rfl, rfl, Nat.zero_le _, HG0⟩
  case round =>
    clear HG0
    obtain ⟨i, c, rfl, rfl, hi, HG⟩ := hrel
    by_cases hlt : i < p.size
    · have hii : (i : Int) < (p.size : Int) := by omega
      have HCH := Lib.hid (byte_at hlt)
      have HQ : Hid (p.data.toList.take (i + 1) = p.data.toList.take i ++ [p[i]]) := by
        show _ = _
        rw [List.take_add_one, HCH.out]; rfl
      have hmr := hmk wr
      have HN0 := Lib.hid (HG.out.start HG.out.row.lt (p.data.toList.take i ++ [p[i]]))
      clear HG
      go_upto_region 7 with fail
      clear hmr
      generalize wr.alloc (.cells (marks (s.size + 1) fun _ => false) 4) = w2 at *
      generalize wr.heap.size = d at *
      go_wp2_with fail
      go_loopw [8] (fun v8 wx => ∃ k : Nat, v8 = .int .i64 (k : Int) ∧ k ≤ s.size + 1 ∧ Hid (GNext w wx c d s.size k (p.data.toList.take i) (p.data.toList.take i ++ [p[i]]) s.data.toList)) (fun v8 _ => s.size + 1 - (intOf v8).toNat)
      case atStart => exact ⟨0, rfl, Nat.zero_le _, HN0⟩
      case round =>
        clear HN0
        obtain ⟨k, rfl, hk, HN⟩ := hrel
        by_cases hks : k ≤ s.size
        · have hkk : (k : Int) ≤ (s.size : Int) := by omega
          have hkl : k ≤ s.data.toList.length := by rw [size_len]; exact hks
          have HQN := Lib.hid HN
          have hc : wr.cell? ⟨c, k, none⟩ = some (.bool (gm (p.data.toList.take i) (s.data.toList.take k))) := by rw [HN.out.row.cell, marks_at (by omega)]
          have hd : wr.cell? ⟨d, k, none⟩ = some (.bool false) := by rw [HN.out.next.cell, marks_at (by omega)]; simp
          have fd := HN.out.next.free k
          have hcd : c ≠ d := HN.out.ne
          by_cases h42 : p[i] = 42
          · have e42 : ((p[i].toNat : Int) == 42) = true := by rw [h42]; rfl
            have HV : Hid (gm (p.data.toList.take i ++ [p[i]]) (s.data.toList.take k) = (gm (p.data.toList.take i) (s.data.toList.take k) || (decide (0 < k) && gm (p.data.toList.take i ++ [p[i]]) (s.data.toList.take (k - 1))))) := by
              rw [h42]; exact gm_dp_star hkl
            by_cases hk0 : k = 0
            · subst hk0
              generalize hX : gm (p.data.toList.take i) (s.data.toList.take 0) = X at *
              have HNX : Hid (GNext w (wr.setCell ⟨d, 0, none⟩ (.bool X)) c d s.size (0 + 1) (p.data.toList.take i) (p.data.toList.take i ++ [p[i]]) s.data.toList) := HN.out.step X (by rw [HV.out]; simp)
              clear HV HN HQN hX h42
              cases X
              all_goals
                go_wp2_with fail
                go_roundw
                case rel => exact ⟨1, by go_num, by omega, HNX⟩
                case measure => simp [intOf]
            · obtain ⟨m, hm⟩ : ∃ m, k = m + 1 := ⟨k - 1, by omega⟩
              have hkm : (k : Int) - 1 = (m : Int) := by omega
              have hk1 : (0 : Int) < (k : Int) := by omega
              have hms : m < s.size + 1 := by omega
              have hmi : (m : Int) < ((s.size + 1 : Nat) : Int) := by omega
              have hd1 : wr.cell? ⟨d, m, none⟩ = some (.bool (gm (p.data.toList.take i ++ [p[i]]) (s.data.toList.take m))) := by rw [HN.out.next.cell, marks_at (by omega)]; simp [hm]
              have HV2 : Hid (gm (p.data.toList.take i ++ [p[i]]) (s.data.toList.take k) = (gm (p.data.toList.take i) (s.data.toList.take k) || gm (p.data.toList.take i ++ [p[i]]) (s.data.toList.take m))) := HV.out.trans (by rw [decide_eq_true (by omega), Bool.true_and, show k - 1 = m by omega])
              generalize hX : gm (p.data.toList.take i) (s.data.toList.take k) = X at *
              generalize hY : gm (p.data.toList.take i ++ [p[i]]) (s.data.toList.take m) = Y at *
              have HNX : Hid (GNext w (wr.setCell ⟨d, k, none⟩ (.bool (X || Y))) c d s.size (k + 1) (p.data.toList.take i) (p.data.toList.take i ++ [p[i]]) s.data.toList) := HN.out.step (X || Y) HV2.out.symm
              have HMK := Lib.hid hm
              clear HV HV2 HN HQN hX hY h42 hm hk0
              cases X <;> cases Y
              all_goals
                simp only [Bool.or_false, Bool.or_true, Bool.false_or, Bool.true_or] at HNX
                go_wp2_with fail
                go_roundw
                case rel => exact ⟨k + 1, by go_num, by omega, HNX⟩
                case measure => simp [intOf]; omega
          · have e42 : ((p[i].toNat : Int) == 42) = false := by
              rw [beq_eq_false_iff_ne]
              intro e
              exact h42 (UInt8.toNat_inj.1 (by show _ = 42; omega))
            have HV : Hid (gm (p.data.toList.take i ++ [p[i]]) (s.data.toList.take k) = (decide (0 < k) && gm (p.data.toList.take i) (s.data.toList.take (k - 1)) && (p[i] == 63 || decide (s.data.toList[k - 1]? = some p[i])))) := gm_dp_one h42 hkl
            by_cases hk0 : k = 0
            · subst hk0
              have HNX : Hid (GNext w (wr.drew.setCell ⟨d, 0, none⟩ (.bool false)) c d s.size (0 + 1) (p.data.toList.take i) (p.data.toList.take i ++ [p[i]]) s.data.toList) := HN.out.drew.step false (by rw [HV.out]; simp)
              generalize gm (p.data.toList.take i) (s.data.toList.take 0) = X at *
              have hd' : wr.drew.cell? ⟨d, 0, none⟩ = some (.bool false) := hd
              have fd' : wr.drew.frozen? ⟨d, 0, none⟩ = false := fd
              have hwm : True := trivial
              clear HV HN HQN h42
              go_upto_region 12 with fail
              rename_i K hK
              refine wp_region_S (TillN 28 wr.drew) (by kernel_rfl) (fun _ => rfl) (fun hS => ?_)
              refine wpAnyS_take (i := 0) (fun w' => w' = wr.drew) (v := .slice (some ⟨d, 0, none⟩) (s.size + 1) (s.size + 1)) rfl (by kernel_rfl) (by kernel_rfl) (by kernel_rfl) (fun _ _ _ h => h) (fun l w hw hS => hS (hw 28 (by kernel_rfl))) (TillN.io (by decide)) (by kernel_rfl) hS (fun w' hSw => ?_) (by rfl) (fun hS => ?_)
              · subst hSw
                go_simp
                all_goals first | omega | exact hwm | (intro hh; exact absurd hh (by omega))
              try simp only [List.getElem_toArray, List.getElem_cons_zero, List.getElem_cons_succ, Act.put, List.setIfInBounds_toArray, List.set_cons_zero, List.set_cons_succ]
              refine wpAnyS_take (i := 1) (fun w' => w' = wr.drew) (v := .int .i64 0) rfl (by kernel_rfl) (by kernel_rfl) (by kernel_rfl) (fun _ _ _ h => h) (fun l w hw hS => hS (hw 28 (by kernel_rfl))) (TillN.io (by decide)) (by kernel_rfl) hS (fun w' hSw => ?_) (by rfl) (fun hS => ?_)
              · subst hSw
                go_simp
                all_goals first | omega | exact hwm | (intro hh; exact absurd hh (by omega))
              try simp only [List.getElem_toArray, List.getElem_cons_zero, List.getElem_cons_succ, Act.put, List.setIfInBounds_toArray, List.set_cons_zero, List.set_cons_succ]
              refine wpAnyS_take (i := 2) (fun w' => w' = wr.drew) (v := .int .i64 0) rfl (by kernel_rfl) (by kernel_rfl) (by kernel_rfl) (fun _ _ _ h => h) (fun l w hw hS => hS (hw 28 (by kernel_rfl))) (TillN.io (by decide)) (by kernel_rfl) hS (fun w' hSw => ?_) (by rfl) (fun hS => ?_)
              · subst hSw
                go_simp
                all_goals first | omega | exact hwm | (intro hh; exact absurd hh (by omega))
              try simp only [List.getElem_toArray, List.getElem_cons_zero, List.getElem_cons_succ, Act.put, List.setIfInBounds_toArray, List.set_cons_zero, List.set_cons_succ]
              refine wpAnyS_take (i := 3) (fun w' => w' = wr.drew) (v := .bool false) rfl (by kernel_rfl) (by kernel_rfl) (by kernel_rfl) (fun _ _ _ h => h) (fun l w hw hS => hS (hw 28 (by kernel_rfl))) (TillN.io (by decide)) (by kernel_rfl) hS (fun w' hSw => ?_) (by rfl) (fun hS => ?_)
              · subst hSw
                go_simp
                all_goals first | omega | exact hwm | (intro hh; exact absurd hh (by omega))
              try simp only [List.getElem_toArray, List.getElem_cons_zero, List.getElem_cons_succ, Act.put, List.setIfInBounds_toArray, List.set_cons_zero, List.set_cons_succ]
              refine wpAnyS_take (i := 4) (fun w' => w' = wr.drew) (v := .bool false) rfl (by kernel_rfl) (by kernel_rfl) (by kernel_rfl) (fun _ _ _ h => h) (fun l w hw hS => hS (hw 28 (by kernel_rfl))) (TillN.io (by decide)) (by kernel_rfl) hS (fun w' hSw => ?_) (by rfl) (fun hS => ?_)
              · subst hSw
                go_simp
                all_goals first | omega | exact hwm | (intro hh; exact absurd hh (by omega))
              try simp only [List.getElem_toArray, List.getElem_cons_zero, List.getElem_cons_succ, Act.put, List.setIfInBounds_toArray, List.set_cons_zero, List.set_cons_succ]
              refine wpAnyS_skip (i := 5) rfl (by kernel_rfl) (by kernel_rfl) (by kernel_rfl) (fun _ _ _ h => h) (TillN.io (by decide)) (by kernel_rfl) hS (by rfl) (fun hS => ?_)
              try simp only [List.getElem_toArray, List.getElem_cons_zero, List.getElem_cons_succ, Act.put, List.setIfInBounds_toArray, List.set_cons_zero, List.set_cons_succ]
              refine wpAnyS_skip (i := 6) rfl (by kernel_rfl) (by kernel_rfl) (by kernel_rfl) (fun _ _ _ h => h) (TillN.io (by decide)) (by kernel_rfl) hS (by rfl) (fun hS => ?_)
              try simp only [List.getElem_toArray, List.getElem_cons_zero, List.getElem_cons_succ, Act.put, List.setIfInBounds_toArray, List.set_cons_zero, List.set_cons_succ]
              refine wpAnyS_skip (i := 7) rfl (by kernel_rfl) (by kernel_rfl) (by kernel_rfl) (fun _ _ _ h => h) (TillN.io (by decide)) (by kernel_rfl) hS (by rfl) (fun hS => ?_)
              try simp only [List.getElem_toArray, List.getElem_cons_zero, List.getElem_cons_succ, Act.put, List.setIfInBounds_toArray, List.set_cons_zero, List.set_cons_succ]
              refine wpAnyS_skip (i := 8) rfl (by kernel_rfl) (by kernel_rfl) (by kernel_rfl) (fun _ _ _ h => h) (TillN.io (by decide)) (by kernel_rfl) hS (by rfl) (fun hS => ?_)
              try simp only [List.getElem_toArray, List.getElem_cons_zero, List.getElem_cons_succ, Act.put, List.setIfInBounds_toArray, List.set_cons_zero, List.set_cons_succ]
              refine wpAnyS_skip (i := 9) rfl (by kernel_rfl) (by kernel_rfl) (by kernel_rfl) (fun _ _ _ h => h) (TillN.io (by decide)) (by kernel_rfl) hS (by rfl) (fun hS => ?_)
              try simp only [List.getElem_toArray, List.getElem_cons_zero, List.getElem_cons_succ, Act.put, List.setIfInBounds_toArray, List.set_cons_zero, List.set_cons_succ]
              refine wpAnyS_take (i := 10) (fun w' => w' = wr.drew) (v := .bool false) rfl (by kernel_rfl) (by kernel_rfl) (by kernel_rfl) (fun _ _ _ h => h) (fun l w hw hS => hS (hw 28 (by kernel_rfl))) (TillN.io (by decide)) (by kernel_rfl) hS (fun w' hSw => ?_) (by rfl) (fun hS => ?_)
              · subst hSw
                go_simp
                all_goals first | omega | exact hwm | (intro hh; exact absurd hh (by omega))
              try simp only [List.getElem_toArray, List.getElem_cons_zero, List.getElem_cons_succ, Act.put, List.setIfInBounds_toArray, List.set_cons_zero, List.set_cons_succ]
              refine wpAnyS_take (i := 11) (fun w' => w' = wr.drew) (v := .bool false) rfl (by kernel_rfl) (by kernel_rfl) (by kernel_rfl) (fun _ _ _ h => h) (fun l w hw hS => hS (hw 28 (by kernel_rfl))) (TillN.io (by decide)) (by kernel_rfl) hS (fun w' hSw => ?_) (by rfl) (fun hS => ?_)
              · subst hSw
                go_simp
                all_goals first | omega | exact hwm | (intro hh; exact absurd hh (by omega))
              try simp only [List.getElem_toArray, List.getElem_cons_zero, List.getElem_cons_succ, Act.put, List.setIfInBounds_toArray, List.set_cons_zero, List.set_cons_succ]
              refine wpAnyS_skip (i := 12) rfl (by kernel_rfl) (by kernel_rfl) (by kernel_rfl) (fun _ _ _ h => h) (TillN.io (by decide)) (by kernel_rfl) hS (by rfl) (fun hS => ?_)
              try simp only [List.getElem_toArray, List.getElem_cons_zero, List.getElem_cons_succ, Act.put, List.setIfInBounds_toArray, List.set_cons_zero, List.set_cons_succ]
              refine wpAnyS_skip (i := 13) rfl (by kernel_rfl) (by kernel_rfl) (by kernel_rfl) (fun _ _ _ h => h) (TillN.io (by decide)) (by kernel_rfl) hS (by rfl) (fun hS => ?_)
              try simp only [List.getElem_toArray, List.getElem_cons_zero, List.getElem_cons_succ, Act.put, List.setIfInBounds_toArray, List.set_cons_zero, List.set_cons_succ]
              refine wpAnyS_skip (i := 14) rfl (by kernel_rfl) (by kernel_rfl) (by kernel_rfl) (fun _ _ _ h => h) (TillN.io (by decide)) (by kernel_rfl) hS (by rfl) (fun hS => ?_)
              try simp only [List.getElem_toArray, List.getElem_cons_zero, List.getElem_cons_succ, Act.put, List.setIfInBounds_toArray, List.set_cons_zero, List.set_cons_succ]
              refine wpAnyS_skip (i := 15) rfl (by kernel_rfl) (by kernel_rfl) (by kernel_rfl) (fun _ _ _ h => h) (TillN.io (by decide)) (by kernel_rfl) hS (by rfl) (fun hS => ?_)
              try simp only [List.getElem_toArray, List.getElem_cons_zero, List.getElem_cons_succ, Act.put, List.setIfInBounds_toArray, List.set_cons_zero, List.set_cons_succ]
              refine wpAnyS_skip (i := 16) rfl (by kernel_rfl) (by kernel_rfl) (by kernel_rfl) (fun _ _ _ h => h) (TillN.io (by decide)) (by kernel_rfl) hS (by rfl) (fun hS => ?_)
              try simp only [List.getElem_toArray, List.getElem_cons_zero, List.getElem_cons_succ, Act.put, List.setIfInBounds_toArray, List.set_cons_zero, List.set_cons_succ]
              refine wpAnyS_skip (i := 17) rfl (by kernel_rfl) (by kernel_rfl) (by kernel_rfl) (fun _ _ _ h => h) (TillN.io (by decide)) (by kernel_rfl) hS (by rfl) (fun hS => ?_)
              try simp only [List.getElem_toArray, List.getElem_cons_zero, List.getElem_cons_succ, Act.put, List.setIfInBounds_toArray, List.set_cons_zero, List.set_cons_succ]
              refine wpAnyS_skip (i := 18) rfl (by kernel_rfl) (by kernel_rfl) (by kernel_rfl) (fun _ _ _ h => h) (TillN.io (by decide)) (by kernel_rfl) hS (by rfl) (fun hS => ?_)
              try simp only [List.getElem_toArray, List.getElem_cons_zero, List.getElem_cons_succ, Act.put, List.setIfInBounds_toArray, List.set_cons_zero, List.set_cons_succ]
              refine wpAnyS_skip (i := 19) rfl (by kernel_rfl) (by kernel_rfl) (by kernel_rfl) (fun _ _ _ h => h) (TillN.io (by decide)) (by kernel_rfl) hS (by rfl) (fun hS => ?_)
              try simp only [List.getElem_toArray, List.getElem_cons_zero, List.getElem_cons_succ, Act.put, List.setIfInBounds_toArray, List.set_cons_zero, List.set_cons_succ]
              refine wpAnyS_skip (i := 20) rfl (by kernel_rfl) (by kernel_rfl) (by kernel_rfl) (fun _ _ _ h => h) (TillN.io (by decide)) (by kernel_rfl) hS (by rfl) (fun hS => ?_)
              try simp only [List.getElem_toArray, List.getElem_cons_zero, List.getElem_cons_succ, Act.put, List.setIfInBounds_toArray, List.set_cons_zero, List.set_cons_succ]
              refine wpAnyS_skip (i := 21) rfl (by kernel_rfl) (by kernel_rfl) (by kernel_rfl) (fun _ _ _ h => h) (TillN.io (by decide)) (by kernel_rfl) hS (by rfl) (fun hS => ?_)
              try simp only [List.getElem_toArray, List.getElem_cons_zero, List.getElem_cons_succ, Act.put, List.setIfInBounds_toArray, List.set_cons_zero, List.set_cons_succ]
              refine wpAnyS_skip (i := 22) rfl (by kernel_rfl) (by kernel_rfl) (by kernel_rfl) (fun _ _ _ h => h) (TillN.io (by decide)) (by kernel_rfl) hS (by rfl) (fun hS => ?_)
              try simp only [List.getElem_toArray, List.getElem_cons_zero, List.getElem_cons_succ, Act.put, List.setIfInBounds_toArray, List.set_cons_zero, List.set_cons_succ]
              refine wpAnyS_skip (i := 23) rfl (by kernel_rfl) (by kernel_rfl) (by kernel_rfl) (fun _ _ _ h => h) (TillN.io (by decide)) (by kernel_rfl) hS (by rfl) (fun hS => ?_)
              try simp only [List.getElem_toArray, List.getElem_cons_zero, List.getElem_cons_succ, Act.put, List.setIfInBounds_toArray, List.set_cons_zero, List.set_cons_succ]
              refine wpAnyS_skip (i := 24) rfl (by kernel_rfl) (by kernel_rfl) (by kernel_rfl) (fun _ _ _ h => h) (TillN.io (by decide)) (by kernel_rfl) hS (by rfl) (fun hS => ?_)
              try simp only [List.getElem_toArray, List.getElem_cons_zero, List.getElem_cons_succ, Act.put, List.setIfInBounds_toArray, List.set_cons_zero, List.set_cons_succ]
              refine wpAnyS_skip (i := 25) rfl (by kernel_rfl) (by kernel_rfl) (by kernel_rfl) (fun _ _ _ h => h) (TillN.io (by decide)) (by kernel_rfl) hS (by rfl) (fun hS => ?_)
              try simp only [List.getElem_toArray, List.getElem_cons_zero, List.getElem_cons_succ, Act.put, List.setIfInBounds_toArray, List.set_cons_zero, List.set_cons_succ]
              refine wpAnyS_take (i := 26) (fun w' => w' = wr.drew) (v := .bool false) rfl (by kernel_rfl) (by kernel_rfl) (by kernel_rfl) (fun _ _ _ h => h) (fun l w hw hS => hS (hw 28 (by kernel_rfl))) (TillN.io (by decide)) (by kernel_rfl) hS (fun w' hSw => ?_) (by rfl) (fun hS => ?_)
              · subst hSw
                go_simp
                all_goals first | omega | exact hwm | (intro hh; exact absurd hh (by omega))
              try simp only [List.getElem_toArray, List.getElem_cons_zero, List.getElem_cons_succ, Act.put, List.setIfInBounds_toArray, List.set_cons_zero, List.set_cons_succ]
              refine wpAnyS_take (i := 27) (fun w' => w' = wr.drew) (v := .pointer (some ⟨d, 0, none⟩)) rfl (by kernel_rfl) (by kernel_rfl) (by kernel_rfl) (fun _ _ _ h => h) (fun l w hw hS => hS (hw 28 (by kernel_rfl))) (TillN.io (by decide)) (by kernel_rfl) hS (fun w' hSw => ?_) (by rfl) (fun hS => ?_)
              · subst hSw
                go_simp
                all_goals first | omega | exact hwm | (intro hh; exact absurd hh (by omega))
              try simp only [List.getElem_toArray, List.getElem_cons_zero, List.getElem_cons_succ, Act.put, List.setIfInBounds_toArray, List.set_cons_zero, List.set_cons_succ]
              refine wpAnyS_one (i := 28) (by kernel_rfl) rfl (fun K9 hK9 => ?_)
              go_simp
              refine hK9.out _ _ (fun h => by cases h) (fun hS => ?_)
              clear hK9 K9 hS
              try simp only [List.getElem_toArray, List.getElem_cons_zero, List.getElem_cons_succ, Act.put, List.setIfInBounds_toArray, List.set_cons_zero, List.set_cons_succ]
              refine wpAnyS_done (by kernel_rfl) ?_ _
              refine hK _ _ ?_
              clear hK K
              go_wp2_with fail
              go_roundw
              case rel => exact ⟨1, by go_num, by omega, HNX⟩
              case measure => simp [intOf]
            · obtain ⟨m, hm⟩ : ∃ m, k = m + 1 := ⟨k - 1, by omega⟩
              have hkm : (k : Int) - 1 = (m : Int) := by omega
              have hk1 : (0 : Int) < (k : Int) := by omega
              have hms : m < s.size + 1 := by omega
              have hms2 : m < s.size := by omega
              have hmi : (m : Int) < ((s.size + 1 : Nat) : Int) := by omega
              have hmi2 : (m : Int) < (s.size : Int) := by omega
              have hwm : IntKind.i64.wrap (m : Int) = (m : Int) := wrap_small m (by omega)
              have hd' : wr.drew.cell? ⟨d, k, none⟩ = some (.bool false) := hd
              have fd' : wr.drew.frozen? ⟨d, k, none⟩ = false := fd
              have hc' : wr.drew.cell? ⟨c, m, none⟩ = some (.bool (gm (p.data.toList.take i) (s.data.toList.take m))) := by
                show wr.cell? _ = _
                rw [HN.out.row.cell, marks_at (by omega)]
              have HV2 : Hid (gm (p.data.toList.take i ++ [p[i]]) (s.data.toList.take k) = (gm (p.data.toList.take i) (s.data.toList.take m) && (p[i] == 63 || decide (s.data.toList[m]? = some p[i])))) := HV.out.trans (by rw [decide_eq_true (by omega), Bool.true_and, show k - 1 = m by omega])
              have HSM := Lib.hid (byte_at hms2)
              clear HV HQN
              generalize gm (p.data.toList.take i) (s.data.toList.take k) = X0 at *
              generalize hX : gm (p.data.toList.take i) (s.data.toList.take m) = X at *
              have HMK := Lib.hid hm
              clear hX hm hk0 hd fd
              cases X with
              | false =>
                have HNX : Hid (GNext w (wr.drew.setCell ⟨d, k, none⟩ (.bool false)) c d s.size (k + 1) (p.data.toList.take i) (p.data.toList.take i ++ [p[i]]) s.data.toList) := HN.out.drew.step false (by rw [HV2.out]; simp)
                clear HV2 HN h42 HSM
                go_upto_region 12 with fail
                rename_i K hK
                refine wp_region_S (TillN 28 wr.drew) (by kernel_rfl) (fun _ => rfl) (fun hS => ?_)
                refine wpAnyS_take (i := 0) (fun w' => w' = wr.drew) (v := .slice (some ⟨d, 0, none⟩) (s.size + 1) (s.size + 1)) rfl (by kernel_rfl) (by kernel_rfl) (by kernel_rfl) (fun _ _ _ h => h) (fun l w hw hS => hS (hw 28 (by kernel_rfl))) (TillN.io (by decide)) (by kernel_rfl) hS (fun w' hSw => ?_) (by rfl) (fun hS => ?_)
                · subst hSw
                  go_simp
                  all_goals first | omega | exact hwm | (intro hh; exact absurd hh (by omega))
                try simp only [List.getElem_toArray, List.getElem_cons_zero, List.getElem_cons_succ, Act.put, List.setIfInBounds_toArray, List.set_cons_zero, List.set_cons_succ]
                refine wpAnyS_take (i := 1) (fun w' => w' = wr.drew) (v := .int .i64 (k : Int)) rfl (by kernel_rfl) (by kernel_rfl) (by kernel_rfl) (fun _ _ _ h => h) (fun l w hw hS => hS (hw 28 (by kernel_rfl))) (TillN.io (by decide)) (by kernel_rfl) hS (fun w' hSw => ?_) (by rfl) (fun hS => ?_)
                · subst hSw
                  go_simp
                  all_goals first | omega | exact hwm | (intro hh; exact absurd hh (by omega))
                try simp only [List.getElem_toArray, List.getElem_cons_zero, List.getElem_cons_succ, Act.put, List.setIfInBounds_toArray, List.set_cons_zero, List.set_cons_succ]
                refine wpAnyS_take (i := 2) (fun w' => w' = wr.drew) (v := .int .i64 (k : Int)) rfl (by kernel_rfl) (by kernel_rfl) (by kernel_rfl) (fun _ _ _ h => h) (fun l w hw hS => hS (hw 28 (by kernel_rfl))) (TillN.io (by decide)) (by kernel_rfl) hS (fun w' hSw => ?_) (by rfl) (fun hS => ?_)
                · subst hSw
                  go_simp
                  all_goals first | omega | exact hwm | (intro hh; exact absurd hh (by omega))
                try simp only [List.getElem_toArray, List.getElem_cons_zero, List.getElem_cons_succ, Act.put, List.setIfInBounds_toArray, List.set_cons_zero, List.set_cons_succ]
                refine wpAnyS_take (i := 3) (fun w' => w' = wr.drew) (v := .bool true) rfl (by kernel_rfl) (by kernel_rfl) (by kernel_rfl) (fun _ _ _ h => h) (fun l w hw hS => hS (hw 28 (by kernel_rfl))) (TillN.io (by decide)) (by kernel_rfl) hS (fun w' hSw => ?_) (by rfl) (fun hS => ?_)
                · subst hSw
                  go_simp
                  all_goals first | omega | exact hwm | (intro hh; exact absurd hh (by omega))
                try simp only [List.getElem_toArray, List.getElem_cons_zero, List.getElem_cons_succ, Act.put, List.setIfInBounds_toArray, List.set_cons_zero, List.set_cons_succ]
                refine wpAnyS_take (i := 4) (fun w' => w' = wr.drew) (v := .bool true) rfl (by kernel_rfl) (by kernel_rfl) (by kernel_rfl) (fun _ _ _ h => h) (fun l w hw hS => hS (hw 28 (by kernel_rfl))) (TillN.io (by decide)) (by kernel_rfl) hS (fun w' hSw => ?_) (by rfl) (fun hS => ?_)
                · subst hSw
                  go_simp
                  all_goals first | omega | exact hwm | (intro hh; exact absurd hh (by omega))
                try simp only [List.getElem_toArray, List.getElem_cons_zero, List.getElem_cons_succ, Act.put, List.setIfInBounds_toArray, List.set_cons_zero, List.set_cons_succ]
                refine wpAnyS_take (i := 5) (fun w' => w' = wr.drew) (v := .slice (some ⟨c, 0, none⟩) (s.size + 1) (s.size + 1)) rfl (by kernel_rfl) (by kernel_rfl) (by kernel_rfl) (fun _ _ _ h => h) (fun l w hw hS => hS (hw 28 (by kernel_rfl))) (TillN.io (by decide)) (by kernel_rfl) hS (fun w' hSw => ?_) (by rfl) (fun hS => ?_)
                · subst hSw
                  go_simp
                  all_goals first | omega | exact hwm | (intro hh; exact absurd hh (by omega))
                try simp only [List.getElem_toArray, List.getElem_cons_zero, List.getElem_cons_succ, Act.put, List.setIfInBounds_toArray, List.set_cons_zero, List.set_cons_succ]
                refine wpAnyS_take (i := 6) (fun w' => w' = wr.drew) (v := .int .i64 (k : Int)) rfl (by kernel_rfl) (by kernel_rfl) (by kernel_rfl) (fun _ _ _ h => h) (fun l w hw hS => hS (hw 28 (by kernel_rfl))) (TillN.io (by decide)) (by kernel_rfl) hS (fun w' hSw => ?_) (by rfl) (fun hS => ?_)
                · subst hSw
                  go_simp
                  all_goals first | omega | exact hwm | (intro hh; exact absurd hh (by omega))
                try simp only [List.getElem_toArray, List.getElem_cons_zero, List.getElem_cons_succ, Act.put, List.setIfInBounds_toArray, List.set_cons_zero, List.set_cons_succ]
                refine wpAnyS_take (i := 7) (fun w' => w' = wr.drew) (v := .int .i64 (m : Int)) rfl (by kernel_rfl) (by kernel_rfl) (by kernel_rfl) (fun _ _ _ h => h) (fun l w hw hS => hS (hw 28 (by kernel_rfl))) (TillN.io (by decide)) (by kernel_rfl) hS (fun w' hSw => ?_) (by rfl) (fun hS => ?_)
                · subst hSw
                  go_simp
                  all_goals first | omega | exact hwm | (intro hh; exact absurd hh (by omega))
                try simp only [List.getElem_toArray, List.getElem_cons_zero, List.getElem_cons_succ, Act.put, List.setIfInBounds_toArray, List.set_cons_zero, List.set_cons_succ]
                refine wpAnyS_take (i := 8) (fun w' => w' = wr.drew) (v := .pointer (some ⟨c, m, none⟩)) rfl (by kernel_rfl) (by kernel_rfl) (by kernel_rfl) (fun _ _ _ h => h) (fun l w hw hS => hS (hw 28 (by kernel_rfl))) (TillN.io (by decide)) (by kernel_rfl) hS (fun w' hSw => ?_) (by rfl) (fun hS => ?_)
                · subst hSw
                  go_simp
                  all_goals first | omega | exact hwm | (intro hh; exact absurd hh (by omega))
                try simp only [List.getElem_toArray, List.getElem_cons_zero, List.getElem_cons_succ, Act.put, List.setIfInBounds_toArray, List.set_cons_zero, List.set_cons_succ]
                refine wpAnyS_take (i := 9) (fun w' => w' = wr.drew) (v := .bool false) rfl (by kernel_rfl) (by kernel_rfl) (by kernel_rfl) (fun _ _ _ h => h) (fun l w hw hS => hS (hw 28 (by kernel_rfl))) (TillN.io (by decide)) (by kernel_rfl) hS (fun w' hSw => ?_) (by rfl) (fun hS => ?_)
                · subst hSw
                  go_simp
                  all_goals first | omega | exact hwm | (intro hh; exact absurd hh (by omega))
                try simp only [List.getElem_toArray, List.getElem_cons_zero, List.getElem_cons_succ, Act.put, List.setIfInBounds_toArray, List.set_cons_zero, List.set_cons_succ]
                refine wpAnyS_take (i := 10) (fun w' => w' = wr.drew) (v := .bool false) rfl (by kernel_rfl) (by kernel_rfl) (by kernel_rfl) (fun _ _ _ h => h) (fun l w hw hS => hS (hw 28 (by kernel_rfl))) (TillN.io (by decide)) (by kernel_rfl) hS (fun w' hSw => ?_) (by rfl) (fun hS => ?_)
                · subst hSw
                  go_simp
                  all_goals first | omega | exact hwm | (intro hh; exact absurd hh (by omega))
                try simp only [List.getElem_toArray, List.getElem_cons_zero, List.getElem_cons_succ, Act.put, List.setIfInBounds_toArray, List.set_cons_zero, List.set_cons_succ]
                refine wpAnyS_take (i := 11) (fun w' => w' = wr.drew) (v := .bool false) rfl (by kernel_rfl) (by kernel_rfl) (by kernel_rfl) (fun _ _ _ h => h) (fun l w hw hS => hS (hw 28 (by kernel_rfl))) (TillN.io (by decide)) (by kernel_rfl) hS (fun w' hSw => ?_) (by rfl) (fun hS => ?_)
                · subst hSw
                  go_simp
                  all_goals first | omega | exact hwm | (intro hh; exact absurd hh (by omega))
                try simp only [List.getElem_toArray, List.getElem_cons_zero, List.getElem_cons_succ, Act.put, List.setIfInBounds_toArray, List.set_cons_zero, List.set_cons_succ]
                refine wpAnyS_skip (i := 12) rfl (by kernel_rfl) (by kernel_rfl) (by kernel_rfl) (fun _ _ _ h => h) (TillN.io (by decide)) (by kernel_rfl) hS (by rfl) (fun hS => ?_)
                try simp only [List.getElem_toArray, List.getElem_cons_zero, List.getElem_cons_succ, Act.put, List.setIfInBounds_toArray, List.set_cons_zero, List.set_cons_succ]
                refine wpAnyS_skip (i := 13) rfl (by kernel_rfl) (by kernel_rfl) (by kernel_rfl) (fun _ _ _ h => h) (TillN.io (by decide)) (by kernel_rfl) hS (by rfl) (fun hS => ?_)
                try simp only [List.getElem_toArray, List.getElem_cons_zero, List.getElem_cons_succ, Act.put, List.setIfInBounds_toArray, List.set_cons_zero, List.set_cons_succ]
                refine wpAnyS_skip (i := 14) rfl (by kernel_rfl) (by kernel_rfl) (by kernel_rfl) (fun _ _ _ h => h) (TillN.io (by decide)) (by kernel_rfl) hS (by rfl) (fun hS => ?_)
                try simp only [List.getElem_toArray, List.getElem_cons_zero, List.getElem_cons_succ, Act.put, List.setIfInBounds_toArray, List.set_cons_zero, List.set_cons_succ]
                refine wpAnyS_skip (i := 15) rfl (by kernel_rfl) (by kernel_rfl) (by kernel_rfl) (fun _ _ _ h => h) (TillN.io (by decide)) (by kernel_rfl) hS (by rfl) (fun hS => ?_)
                try simp only [List.getElem_toArray, List.getElem_cons_zero, List.getElem_cons_succ, Act.put, List.setIfInBounds_toArray, List.set_cons_zero, List.set_cons_succ]
                refine wpAnyS_skip (i := 16) rfl (by kernel_rfl) (by kernel_rfl) (by kernel_rfl) (fun _ _ _ h => h) (TillN.io (by decide)) (by kernel_rfl) hS (by rfl) (fun hS => ?_)
                try simp only [List.getElem_toArray, List.getElem_cons_zero, List.getElem_cons_succ, Act.put, List.setIfInBounds_toArray, List.set_cons_zero, List.set_cons_succ]
                refine wpAnyS_skip (i := 17) rfl (by kernel_rfl) (by kernel_rfl) (by kernel_rfl) (fun _ _ _ h => h) (TillN.io (by decide)) (by kernel_rfl) hS (by rfl) (fun hS => ?_)
                try simp only [List.getElem_toArray, List.getElem_cons_zero, List.getElem_cons_succ, Act.put, List.setIfInBounds_toArray, List.set_cons_zero, List.set_cons_succ]
                refine wpAnyS_skip (i := 18) rfl (by kernel_rfl) (by kernel_rfl) (by kernel_rfl) (fun _ _ _ h => h) (TillN.io (by decide)) (by kernel_rfl) hS (by rfl) (fun hS => ?_)
                try simp only [List.getElem_toArray, List.getElem_cons_zero, List.getElem_cons_succ, Act.put, List.setIfInBounds_toArray, List.set_cons_zero, List.set_cons_succ]
                refine wpAnyS_skip (i := 19) rfl (by kernel_rfl) (by kernel_rfl) (by kernel_rfl) (fun _ _ _ h => h) (TillN.io (by decide)) (by kernel_rfl) hS (by rfl) (fun hS => ?_)
                try simp only [List.getElem_toArray, List.getElem_cons_zero, List.getElem_cons_succ, Act.put, List.setIfInBounds_toArray, List.set_cons_zero, List.set_cons_succ]
                refine wpAnyS_skip (i := 20) rfl (by kernel_rfl) (by kernel_rfl) (by kernel_rfl) (fun _ _ _ h => h) (TillN.io (by decide)) (by kernel_rfl) hS (by rfl) (fun hS => ?_)
                try simp only [List.getElem_toArray, List.getElem_cons_zero, List.getElem_cons_succ, Act.put, List.setIfInBounds_toArray, List.set_cons_zero, List.set_cons_succ]
                refine wpAnyS_skip (i := 21) rfl (by kernel_rfl) (by kernel_rfl) (by kernel_rfl) (fun _ _ _ h => h) (TillN.io (by decide)) (by kernel_rfl) hS (by rfl) (fun hS => ?_)
                try simp only [List.getElem_toArray, List.getElem_cons_zero, List.getElem_cons_succ, Act.put, List.setIfInBounds_toArray, List.set_cons_zero, List.set_cons_succ]
                refine wpAnyS_skip (i := 22) rfl (by kernel_rfl) (by kernel_rfl) (by kernel_rfl) (fun _ _ _ h => h) (TillN.io (by decide)) (by kernel_rfl) hS (by rfl) (fun hS => ?_)
                try simp only [List.getElem_toArray, List.getElem_cons_zero, List.getElem_cons_succ, Act.put, List.setIfInBounds_toArray, List.set_cons_zero, List.set_cons_succ]
                refine wpAnyS_skip (i := 23) rfl (by kernel_rfl) (by kernel_rfl) (by kernel_rfl) (fun _ _ _ h => h) (TillN.io (by decide)) (by kernel_rfl) hS (by rfl) (fun hS => ?_)
                try simp only [List.getElem_toArray, List.getElem_cons_zero, List.getElem_cons_succ, Act.put, List.setIfInBounds_toArray, List.set_cons_zero, List.set_cons_succ]
                refine wpAnyS_skip (i := 24) rfl (by kernel_rfl) (by kernel_rfl) (by kernel_rfl) (fun _ _ _ h => h) (TillN.io (by decide)) (by kernel_rfl) hS (by rfl) (fun hS => ?_)
                try simp only [List.getElem_toArray, List.getElem_cons_zero, List.getElem_cons_succ, Act.put, List.setIfInBounds_toArray, List.set_cons_zero, List.set_cons_succ]
                refine wpAnyS_skip (i := 25) rfl (by kernel_rfl) (by kernel_rfl) (by kernel_rfl) (fun _ _ _ h => h) (TillN.io (by decide)) (by kernel_rfl) hS (by rfl) (fun hS => ?_)
                try simp only [List.getElem_toArray, List.getElem_cons_zero, List.getElem_cons_succ, Act.put, List.setIfInBounds_toArray, List.set_cons_zero, List.set_cons_succ]
                refine wpAnyS_take (i := 26) (fun w' => w' = wr.drew) (v := .bool false) rfl (by kernel_rfl) (by kernel_rfl) (by kernel_rfl) (fun _ _ _ h => h) (fun l w hw hS => hS (hw 28 (by kernel_rfl))) (TillN.io (by decide)) (by kernel_rfl) hS (fun w' hSw => ?_) (by rfl) (fun hS => ?_)
                · subst hSw
                  go_simp
                  all_goals first | omega | exact hwm | (intro hh; exact absurd hh (by omega))
                try simp only [List.getElem_toArray, List.getElem_cons_zero, List.getElem_cons_succ, Act.put, List.setIfInBounds_toArray, List.set_cons_zero, List.set_cons_succ]
                refine wpAnyS_take (i := 27) (fun w' => w' = wr.drew) (v := .pointer (some ⟨d, k, none⟩)) rfl (by kernel_rfl) (by kernel_rfl) (by kernel_rfl) (fun _ _ _ h => h) (fun l w hw hS => hS (hw 28 (by kernel_rfl))) (TillN.io (by decide)) (by kernel_rfl) hS (fun w' hSw => ?_) (by rfl) (fun hS => ?_)
                · subst hSw
                  go_simp
                  all_goals first | omega | exact hwm | (intro hh; exact absurd hh (by omega))
                try simp only [List.getElem_toArray, List.getElem_cons_zero, List.getElem_cons_succ, Act.put, List.setIfInBounds_toArray, List.set_cons_zero, List.set_cons_succ]
                refine wpAnyS_one (i := 28) (by kernel_rfl) rfl (fun K9 hK9 => ?_)
                go_simp
                refine hK9.out _ _ (fun h => by cases h) (fun hS => ?_)
                clear hK9 K9 hS
                try simp only [List.getElem_toArray, List.getElem_cons_zero, List.getElem_cons_succ, Act.put, List.setIfInBounds_toArray, List.set_cons_zero, List.set_cons_succ]
                refine wpAnyS_done (by kernel_rfl) ?_ _
                refine hK _ _ ?_
                clear hK K
                go_wp2_with fail
                go_roundw
                case rel => exact ⟨k + 1, by go_num, by omega, HNX⟩
                case measure => simp [intOf]; omega
              | true =>
                by_cases h63 : p[i] = 63
                · have e63 : ((p[i].toNat : Int) == 63) = true := by rw [h63]; rfl
                  have HNX : Hid (GNext w (wr.drew.setCell ⟨d, k, none⟩ (.bool true)) c d s.size (k + 1) (p.data.toList.take i) (p.data.toList.take i ++ [p[i]]) s.data.toList) := HN.out.drew.step true (by rw [HV2.out, h63]; simp)
                  clear HV2 HN h42 HSM h63
                  go_upto_region 12 with fail
                  rename_i K hK
                  refine wp_region_S (TillN 28 wr.drew) (by kernel_rfl) (fun _ => rfl) (fun hS => ?_)
                  refine wpAnyS_take (i := 0) (fun w' => w' = wr.drew) (v := .slice (some ⟨d, 0, none⟩) (s.size + 1) (s.size + 1)) rfl (by kernel_rfl) (by kernel_rfl) (by kernel_rfl) (fun _ _ _ h => h) (fun l w hw hS => hS (hw 28 (by kernel_rfl))) (TillN.io (by decide)) (by kernel_rfl) hS (fun w' hSw => ?_) (by rfl) (fun hS => ?_)
                  · subst hSw
                    go_simp
                    all_goals first | omega | exact hwm | (intro hh; exact absurd hh (by omega))
                  try simp only [List.getElem_toArray, List.getElem_cons_zero, List.getElem_cons_succ, Act.put, List.setIfInBounds_toArray, List.set_cons_zero, List.set_cons_succ]
                  refine wpAnyS_take (i := 1) (fun w' => w' = wr.drew) (v := .int .i64 (k : Int)) rfl (by kernel_rfl) (by kernel_rfl) (by kernel_rfl) (fun _ _ _ h => h) (fun l w hw hS => hS (hw 28 (by kernel_rfl))) (TillN.io (by decide)) (by kernel_rfl) hS (fun w' hSw => ?_) (by rfl) (fun hS => ?_)
                  · subst hSw
                    go_simp
                    all_goals first | omega | exact hwm | (intro hh; exact absurd hh (by omega))
                  try simp only [List.getElem_toArray, List.getElem_cons_zero, List.getElem_cons_succ, Act.put, List.setIfInBounds_toArray, List.set_cons_zero, List.set_cons_succ]
                  refine wpAnyS_take (i := 2) (fun w' => w' = wr.drew) (v := .int .i64 (k : Int)) rfl (by kernel_rfl) (by kernel_rfl) (by kernel_rfl) (fun _ _ _ h => h) (fun l w hw hS => hS (hw 28 (by kernel_rfl))) (TillN.io (by decide)) (by kernel_rfl) hS (fun w' hSw => ?_) (by rfl) (fun hS => ?_)
                  · subst hSw
                    go_simp
                    all_goals first | omega | exact hwm | (intro hh; exact absurd hh (by omega))
                  try simp only [List.getElem_toArray, List.getElem_cons_zero, List.getElem_cons_succ, Act.put, List.setIfInBounds_toArray, List.set_cons_zero, List.set_cons_succ]
                  refine wpAnyS_take (i := 3) (fun w' => w' = wr.drew) (v := .bool true) rfl (by kernel_rfl) (by kernel_rfl) (by kernel_rfl) (fun _ _ _ h => h) (fun l w hw hS => hS (hw 28 (by kernel_rfl))) (TillN.io (by decide)) (by kernel_rfl) hS (fun w' hSw => ?_) (by rfl) (fun hS => ?_)
                  · subst hSw
                    go_simp
                    all_goals first | omega | exact hwm | (intro hh; exact absurd hh (by omega))
                  try simp only [List.getElem_toArray, List.getElem_cons_zero, List.getElem_cons_succ, Act.put, List.setIfInBounds_toArray, List.set_cons_zero, List.set_cons_succ]
                  refine wpAnyS_take (i := 4) (fun w' => w' = wr.drew) (v := .bool true) rfl (by kernel_rfl) (by kernel_rfl) (by kernel_rfl) (fun _ _ _ h => h) (fun l w hw hS => hS (hw 28 (by kernel_rfl))) (TillN.io (by decide)) (by kernel_rfl) hS (fun w' hSw => ?_) (by rfl) (fun hS => ?_)
                  · subst hSw
                    go_simp
                    all_goals first | omega | exact hwm | (intro hh; exact absurd hh (by omega))
                  try simp only [List.getElem_toArray, List.getElem_cons_zero, List.getElem_cons_succ, Act.put, List.setIfInBounds_toArray, List.set_cons_zero, List.set_cons_succ]
                  refine wpAnyS_take (i := 5) (fun w' => w' = wr.drew) (v := .slice (some ⟨c, 0, none⟩) (s.size + 1) (s.size + 1)) rfl (by kernel_rfl) (by kernel_rfl) (by kernel_rfl) (fun _ _ _ h => h) (fun l w hw hS => hS (hw 28 (by kernel_rfl))) (TillN.io (by decide)) (by kernel_rfl) hS (fun w' hSw => ?_) (by rfl) (fun hS => ?_)
                  · subst hSw
                    go_simp
                    all_goals first | omega | exact hwm | (intro hh; exact absurd hh (by omega))
                  try simp only [List.getElem_toArray, List.getElem_cons_zero, List.getElem_cons_succ, Act.put, List.setIfInBounds_toArray, List.set_cons_zero, List.set_cons_succ]
                  refine wpAnyS_take (i := 6) (fun w' => w' = wr.drew) (v := .int .i64 (k : Int)) rfl (by kernel_rfl) (by kernel_rfl) (by kernel_rfl) (fun _ _ _ h => h) (fun l w hw hS => hS (hw 28 (by kernel_rfl))) (TillN.io (by decide)) (by kernel_rfl) hS (fun w' hSw => ?_) (by rfl) (fun hS => ?_)
                  · subst hSw
                    go_simp
                    all_goals first | omega | exact hwm | (intro hh; exact absurd hh (by omega))
                  try simp only [List.getElem_toArray, List.getElem_cons_zero, List.getElem_cons_succ, Act.put, List.setIfInBounds_toArray, List.set_cons_zero, List.set_cons_succ]
                  refine wpAnyS_take (i := 7) (fun w' => w' = wr.drew) (v := .int .i64 (m : Int)) rfl (by kernel_rfl) (by kernel_rfl) (by kernel_rfl) (fun _ _ _ h => h) (fun l w hw hS => hS (hw 28 (by kernel_rfl))) (TillN.io (by decide)) (by kernel_rfl) hS (fun w' hSw => ?_) (by rfl) (fun hS => ?_)
                  · subst hSw
                    go_simp
                    all_goals first | omega | exact hwm | (intro hh; exact absurd hh (by omega))
                  try simp only [List.getElem_toArray, List.getElem_cons_zero, List.getElem_cons_succ, Act.put, List.setIfInBounds_toArray, List.set_cons_zero, List.set_cons_succ]
                  refine wpAnyS_take (i := 8) (fun w' => w' = wr.drew) (v := .pointer (some ⟨c, m, none⟩)) rfl (by kernel_rfl) (by kernel_rfl) (by kernel_rfl) (fun _ _ _ h => h) (fun l w hw hS => hS (hw 28 (by kernel_rfl))) (TillN.io (by decide)) (by kernel_rfl) hS (fun w' hSw => ?_) (by rfl) (fun hS => ?_)
                  · subst hSw
                    go_simp
                    all_goals first | omega | exact hwm | (intro hh; exact absurd hh (by omega))
                  try simp only [List.getElem_toArray, List.getElem_cons_zero, List.getElem_cons_succ, Act.put, List.setIfInBounds_toArray, List.set_cons_zero, List.set_cons_succ]
                  refine wpAnyS_take (i := 9) (fun w' => w' = wr.drew) (v := .bool true) rfl (by kernel_rfl) (by kernel_rfl) (by kernel_rfl) (fun _ _ _ h => h) (fun l w hw hS => hS (hw 28 (by kernel_rfl))) (TillN.io (by decide)) (by kernel_rfl) hS (fun w' hSw => ?_) (by rfl) (fun hS => ?_)
                  · subst hSw
                    go_simp
                    all_goals first | omega | exact hwm | (intro hh; exact absurd hh (by omega))
                  try simp only [List.getElem_toArray, List.getElem_cons_zero, List.getElem_cons_succ, Act.put, List.setIfInBounds_toArray, List.set_cons_zero, List.set_cons_succ]
                  refine wpAnyS_take (i := 10) (fun w' => w' = wr.drew) (v := .bool true) rfl (by kernel_rfl) (by kernel_rfl) (by kernel_rfl) (fun _ _ _ h => h) (fun l w hw hS => hS (hw 28 (by kernel_rfl))) (TillN.io (by decide)) (by kernel_rfl) hS (fun w' hSw => ?_) (by rfl) (fun hS => ?_)
                  · subst hSw
                    go_simp
                    all_goals first | omega | exact hwm | (intro hh; exact absurd hh (by omega))
                  try simp only [List.getElem_toArray, List.getElem_cons_zero, List.getElem_cons_succ, Act.put, List.setIfInBounds_toArray, List.set_cons_zero, List.set_cons_succ]
                  refine wpAnyS_take (i := 11) (fun w' => w' = wr.drew) (v := .bool true) rfl (by kernel_rfl) (by kernel_rfl) (by kernel_rfl) (fun _ _ _ h => h) (fun l w hw hS => hS (hw 28 (by kernel_rfl))) (TillN.io (by decide)) (by kernel_rfl) hS (fun w' hSw => ?_) (by rfl) (fun hS => ?_)
                  · subst hSw
                    go_simp
                    all_goals first | omega | exact hwm | (intro hh; exact absurd hh (by omega))
                  try simp only [List.getElem_toArray, List.getElem_cons_zero, List.getElem_cons_succ, Act.put, List.setIfInBounds_toArray, List.set_cons_zero, List.set_cons_succ]
                  refine wpAnyS_take (i := 12) (fun w' => w' = wr.drew) (v := .string p) rfl (by kernel_rfl) (by kernel_rfl) (by kernel_rfl) (fun _ _ _ h => h) (fun l w hw hS => hS (hw 28 (by kernel_rfl))) (TillN.io (by decide)) (by kernel_rfl) hS (fun w' hSw => ?_) (by rfl) (fun hS => ?_)
                  · subst hSw
                    go_simp
                    all_goals first | omega | exact hwm | (intro hh; exact absurd hh (by omega))
                  try simp only [List.getElem_toArray, List.getElem_cons_zero, List.getElem_cons_succ, Act.put, List.setIfInBounds_toArray, List.set_cons_zero, List.set_cons_succ]
                  refine wpAnyS_take (i := 13) (fun w' => w' = wr.drew) (v := .int .i64 (i : Int)) rfl (by kernel_rfl) (by kernel_rfl) (by kernel_rfl) (fun _ _ _ h => h) (fun l w hw hS => hS (hw 28 (by kernel_rfl))) (TillN.io (by decide)) (by kernel_rfl) hS (fun w' hSw => ?_) (by rfl) (fun hS => ?_)
                  · subst hSw
                    go_simp
                    all_goals first | omega | exact hwm | (intro hh; exact absurd hh (by omega))
                  try simp only [List.getElem_toArray, List.getElem_cons_zero, List.getElem_cons_succ, Act.put, List.setIfInBounds_toArray, List.set_cons_zero, List.set_cons_succ]
                  refine wpAnyS_take (i := 14) (fun w' => w' = wr.drew) (v := .int .u8 (p[i].toNat : Int)) rfl (by kernel_rfl) (by kernel_rfl) (by kernel_rfl) (fun _ _ _ h => h) (fun l w hw hS => hS (hw 28 (by kernel_rfl))) (TillN.io (by decide)) (by kernel_rfl) hS (fun w' hSw => ?_) (by rfl) (fun hS => ?_)
                  · subst hSw
                    go_simp
                    all_goals first | omega | exact hwm | (intro hh; exact absurd hh (by omega))
                  try simp only [List.getElem_toArray, List.getElem_cons_zero, List.getElem_cons_succ, Act.put, List.setIfInBounds_toArray, List.set_cons_zero, List.set_cons_succ]
                  refine wpAnyS_take (i := 15) (fun w' => w' = wr.drew) (v := .bool true) rfl (by kernel_rfl) (by kernel_rfl) (by kernel_rfl) (fun _ _ _ h => h) (fun l w hw hS => hS (hw 28 (by kernel_rfl))) (TillN.io (by decide)) (by kernel_rfl) hS (fun w' hSw => ?_) (by rfl) (fun hS => ?_)
                  · subst hSw
                    go_simp
                    all_goals first | omega | exact hwm | (intro hh; exact absurd hh (by omega))
                  try simp only [List.getElem_toArray, List.getElem_cons_zero, List.getElem_cons_succ, Act.put, List.setIfInBounds_toArray, List.set_cons_zero, List.set_cons_succ]
                  refine wpAnyS_take (i := 16) (fun w' => w' = wr.drew) (v := .bool true) rfl (by kernel_rfl) (by kernel_rfl) (by kernel_rfl) (fun _ _ _ h => h) (fun l w hw hS => hS (hw 28 (by kernel_rfl))) (TillN.io (by decide)) (by kernel_rfl) hS (fun w' hSw => ?_) (by rfl) (fun hS => ?_)
                  · subst hSw
                    go_simp
                    all_goals first | omega | exact hwm | (intro hh; exact absurd hh (by omega))
                  try simp only [List.getElem_toArray, List.getElem_cons_zero, List.getElem_cons_succ, Act.put, List.setIfInBounds_toArray, List.set_cons_zero, List.set_cons_succ]
                  refine wpAnyS_skip (i := 17) rfl (by kernel_rfl) (by kernel_rfl) (by kernel_rfl) (fun _ _ _ h => h) (TillN.io (by decide)) (by kernel_rfl) hS (by rfl) (fun hS => ?_)
                  try simp only [List.getElem_toArray, List.getElem_cons_zero, List.getElem_cons_succ, Act.put, List.setIfInBounds_toArray, List.set_cons_zero, List.set_cons_succ]
                  refine wpAnyS_skip (i := 18) rfl (by kernel_rfl) (by kernel_rfl) (by kernel_rfl) (fun _ _ _ h => h) (TillN.io (by decide)) (by kernel_rfl) hS (by rfl) (fun hS => ?_)
                  try simp only [List.getElem_toArray, List.getElem_cons_zero, List.getElem_cons_succ, Act.put, List.setIfInBounds_toArray, List.set_cons_zero, List.set_cons_succ]
                  refine wpAnyS_skip (i := 19) rfl (by kernel_rfl) (by kernel_rfl) (by kernel_rfl) (fun _ _ _ h => h) (TillN.io (by decide)) (by kernel_rfl) hS (by rfl) (fun hS => ?_)
                  try simp only [List.getElem_toArray, List.getElem_cons_zero, List.getElem_cons_succ, Act.put, List.setIfInBounds_toArray, List.set_cons_zero, List.set_cons_succ]
                  refine wpAnyS_skip (i := 20) rfl (by kernel_rfl) (by kernel_rfl) (by kernel_rfl) (fun _ _ _ h => h) (TillN.io (by decide)) (by kernel_rfl) hS (by rfl) (fun hS => ?_)
                  try simp only [List.getElem_toArray, List.getElem_cons_zero, List.getElem_cons_succ, Act.put, List.setIfInBounds_toArray, List.set_cons_zero, List.set_cons_succ]
                  refine wpAnyS_skip (i := 21) rfl (by kernel_rfl) (by kernel_rfl) (by kernel_rfl) (fun _ _ _ h => h) (TillN.io (by decide)) (by kernel_rfl) hS (by rfl) (fun hS => ?_)
                  try simp only [List.getElem_toArray, List.getElem_cons_zero, List.getElem_cons_succ, Act.put, List.setIfInBounds_toArray, List.set_cons_zero, List.set_cons_succ]
                  refine wpAnyS_skip (i := 22) rfl (by kernel_rfl) (by kernel_rfl) (by kernel_rfl) (fun _ _ _ h => h) (TillN.io (by decide)) (by kernel_rfl) hS (by rfl) (fun hS => ?_)
                  try simp only [List.getElem_toArray, List.getElem_cons_zero, List.getElem_cons_succ, Act.put, List.setIfInBounds_toArray, List.set_cons_zero, List.set_cons_succ]
                  refine wpAnyS_skip (i := 23) rfl (by kernel_rfl) (by kernel_rfl) (by kernel_rfl) (fun _ _ _ h => h) (TillN.io (by decide)) (by kernel_rfl) hS (by rfl) (fun hS => ?_)
                  try simp only [List.getElem_toArray, List.getElem_cons_zero, List.getElem_cons_succ, Act.put, List.setIfInBounds_toArray, List.set_cons_zero, List.set_cons_succ]
                  refine wpAnyS_skip (i := 24) rfl (by kernel_rfl) (by kernel_rfl) (by kernel_rfl) (fun _ _ _ h => h) (TillN.io (by decide)) (by kernel_rfl) hS (by rfl) (fun hS => ?_)
                  try simp only [List.getElem_toArray, List.getElem_cons_zero, List.getElem_cons_succ, Act.put, List.setIfInBounds_toArray, List.set_cons_zero, List.set_cons_succ]
                  refine wpAnyS_take (i := 25) (fun w' => w' = wr.drew) (v := .bool true) rfl (by kernel_rfl) (by kernel_rfl) (by kernel_rfl) (fun _ _ _ h => h) (fun l w hw hS => hS (hw 28 (by kernel_rfl))) (TillN.io (by decide)) (by kernel_rfl) hS (fun w' hSw => ?_) (by rfl) (fun hS => ?_)
                  · subst hSw
                    go_simp
                    all_goals first | omega | exact hwm | (intro hh; exact absurd hh (by omega))
                  try simp only [List.getElem_toArray, List.getElem_cons_zero, List.getElem_cons_succ, Act.put, List.setIfInBounds_toArray, List.set_cons_zero, List.set_cons_succ]
                  refine wpAnyS_take (i := 26) (fun w' => w' = wr.drew) (v := .bool true) rfl (by kernel_rfl) (by kernel_rfl) (by kernel_rfl) (fun _ _ _ h => h) (fun l w hw hS => hS (hw 28 (by kernel_rfl))) (TillN.io (by decide)) (by kernel_rfl) hS (fun w' hSw => ?_) (by rfl) (fun hS => ?_)
                  · subst hSw
                    go_simp
                    all_goals first | omega | exact hwm | (intro hh; exact absurd hh (by omega))
                  try simp only [List.getElem_toArray, List.getElem_cons_zero, List.getElem_cons_succ, Act.put, List.setIfInBounds_toArray, List.set_cons_zero, List.set_cons_succ]
                  refine wpAnyS_take (i := 27) (fun w' => w' = wr.drew) (v := .pointer (some ⟨d, k, none⟩)) rfl (by kernel_rfl) (by kernel_rfl) (by kernel_rfl) (fun _ _ _ h => h) (fun l w hw hS => hS (hw 28 (by kernel_rfl))) (TillN.io (by decide)) (by kernel_rfl) hS (fun w' hSw => ?_) (by rfl) (fun hS => ?_)
                  · subst hSw
                    go_simp
                    all_goals first | omega | exact hwm | (intro hh; exact absurd hh (by omega))
                  try simp only [List.getElem_toArray, List.getElem_cons_zero, List.getElem_cons_succ, Act.put, List.setIfInBounds_toArray, List.set_cons_zero, List.set_cons_succ]
                  refine wpAnyS_one (i := 28) (by kernel_rfl) rfl (fun K9 hK9 => ?_)
                  go_simp
                  refine hK9.out _ _ (fun h => by cases h) (fun hS => ?_)
                  clear hK9 K9 hS
                  try simp only [List.getElem_toArray, List.getElem_cons_zero, List.getElem_cons_succ, Act.put, List.setIfInBounds_toArray, List.set_cons_zero, List.set_cons_succ]
                  refine wpAnyS_done (by kernel_rfl) ?_ _
                  refine hK _ _ ?_
                  clear hK K
                  go_wp2_with fail
                  go_roundw
                  case rel => exact ⟨k + 1, by go_num, by omega, HNX⟩
                  case measure => simp [intOf]; omega
                · have e63 : ((p[i].toNat : Int) == 63) = false := by
                    rw [beq_eq_false_iff_ne]
                    intro e
                    exact h63 (UInt8.toNat_inj.1 (by show _ = 63; omega))
                  obtain ⟨Z, hZ⟩ : ∃ Z, ((p[i].toNat : Int) == (s[m].toNat : Int)) = Z := ⟨_, rfl⟩
                  have HNX : Hid (GNext w (wr.drew.setCell ⟨d, k, none⟩ (.bool Z)) c d s.size (k + 1) (p.data.toList.take i) (p.data.toList.take i ++ [p[i]]) s.data.toList) := HN.out.drew.step Z (by
                    rw [HV2.out, HSM.out, ← hZ, u8_eq]
                    have h64 : (p[i] == 63) = false := by simpa using h63
                    rw [h64, Bool.true_and, Bool.false_or]
                    by_cases he : p[i] = s[m]
                    · simp [he]
                    · have he' : ¬ s[m] = p[i] := fun e => he e.symm
                      simp [he, he'])
                  clear HV2 HN h42 HSM h63
                  go_upto_region 12 with fail
                  rename_i K hK
                  refine wp_region_S (TillN 28 wr.drew) (by kernel_rfl) (fun _ => rfl) (fun hS => ?_)
                  refine wpAnyS_take (i := 0) (fun w' => w' = wr.drew) (v := .slice (some ⟨d, 0, none⟩) (s.size + 1) (s.size + 1)) rfl (by kernel_rfl) (by kernel_rfl) (by kernel_rfl) (fun _ _ _ h => h) (fun l w hw hS => hS (hw 28 (by kernel_rfl))) (TillN.io (by decide)) (by kernel_rfl) hS (fun w' hSw => ?_) (by rfl) (fun hS => ?_)
                  · subst hSw
                    go_simp
                    all_goals first | omega | exact hwm | (intro hh; exact absurd hh (by omega))
                  try simp only [List.getElem_toArray, List.getElem_cons_zero, List.getElem_cons_succ, Act.put, List.setIfInBounds_toArray, List.set_cons_zero, List.set_cons_succ]
                  refine wpAnyS_take (i := 1) (fun w' => w' = wr.drew) (v := .int .i64 (k : Int)) rfl (by kernel_rfl) (by kernel_rfl) (by kernel_rfl) (fun _ _ _ h => h) (fun l w hw hS => hS (hw 28 (by kernel_rfl))) (TillN.io (by decide)) (by kernel_rfl) hS (fun w' hSw => ?_) (by rfl) (fun hS => ?_)
                  · subst hSw
                    go_simp
                    all_goals first | omega | exact hwm | (intro hh; exact absurd hh (by omega))
                  try simp only [List.getElem_toArray, List.getElem_cons_zero, List.getElem_cons_succ, Act.put, List.setIfInBounds_toArray, List.set_cons_zero, List.set_cons_succ]
                  refine wpAnyS_take (i := 2) (fun w' => w' = wr.drew) (v := .int .i64 (k : Int)) rfl (by kernel_rfl) (by kernel_rfl) (by kernel_rfl) (fun _ _ _ h => h) (fun l w hw hS => hS (hw 28 (by kernel_rfl))) (TillN.io (by decide)) (by kernel_rfl) hS (fun w' hSw => ?_) (by rfl) (fun hS => ?_)
                  · subst hSw
                    go_simp
                    all_goals first | omega | exact hwm | (intro hh; exact absurd hh (by omega))
                  try simp only [List.getElem_toArray, List.getElem_cons_zero, List.getElem_cons_succ, Act.put, List.setIfInBounds_toArray, List.set_cons_zero, List.set_cons_succ]
                  refine wpAnyS_take (i := 3) (fun w' => w' = wr.drew) (v := .bool true) rfl (by kernel_rfl) (by kernel_rfl) (by kernel_rfl) (fun _ _ _ h => h) (fun l w hw hS => hS (hw 28 (by kernel_rfl))) (TillN.io (by decide)) (by kernel_rfl) hS (fun w' hSw => ?_) (by rfl) (fun hS => ?_)
                  · subst hSw
                    go_simp
                    all_goals first | omega | exact hwm | (intro hh; exact absurd hh (by omega))
                  try simp only [List.getElem_toArray, List.getElem_cons_zero, List.getElem_cons_succ, Act.put, List.setIfInBounds_toArray, List.set_cons_zero, List.set_cons_succ]
                  refine wpAnyS_take (i := 4) (fun w' => w' = wr.drew) (v := .bool true) rfl (by kernel_rfl) (by kernel_rfl) (by kernel_rfl) (fun _ _ _ h => h) (fun l w hw hS => hS (hw 28 (by kernel_rfl))) (TillN.io (by decide)) (by kernel_rfl) hS (fun w' hSw => ?_) (by rfl) (fun hS => ?_)
                  · subst hSw
                    go_simp
                    all_goals first | omega | exact hwm | (intro hh; exact absurd hh (by omega))
                  try simp only [List.getElem_toArray, List.getElem_cons_zero, List.getElem_cons_succ, Act.put, List.setIfInBounds_toArray, List.set_cons_zero, List.set_cons_succ]
                  refine wpAnyS_take (i := 5) (fun w' => w' = wr.drew) (v := .slice (some ⟨c, 0, none⟩) (s.size + 1) (s.size + 1)) rfl (by kernel_rfl) (by kernel_rfl) (by kernel_rfl) (fun _ _ _ h => h) (fun l w hw hS => hS (hw 28 (by kernel_rfl))) (TillN.io (by decide)) (by kernel_rfl) hS (fun w' hSw => ?_) (by rfl) (fun hS => ?_)
                  · subst hSw
                    go_simp
                    all_goals first | omega | exact hwm | (intro hh; exact absurd hh (by omega))
                  try simp only [List.getElem_toArray, List.getElem_cons_zero, List.getElem_cons_succ, Act.put, List.setIfInBounds_toArray, List.set_cons_zero, List.set_cons_succ]
                  refine wpAnyS_take (i := 6) (fun w' => w' = wr.drew) (v := .int .i64 (k : Int)) rfl (by kernel_rfl) (by kernel_rfl) (by kernel_rfl) (fun _ _ _ h => h) (fun l w hw hS => hS (hw 28 (by kernel_rfl))) (TillN.io (by decide)) (by kernel_rfl) hS (fun w' hSw => ?_) (by rfl) (fun hS => ?_)
                  · subst hSw
                    go_simp
                    all_goals first | omega | exact hwm | (intro hh; exact absurd hh (by omega))
                  try simp only [List.getElem_toArray, List.getElem_cons_zero, List.getElem_cons_succ, Act.put, List.setIfInBounds_toArray, List.set_cons_zero, List.set_cons_succ]
                  refine wpAnyS_take (i := 7) (fun w' => w' = wr.drew) (v := .int .i64 (m : Int)) rfl (by kernel_rfl) (by kernel_rfl) (by kernel_rfl) (fun _ _ _ h => h) (fun l w hw hS => hS (hw 28 (by kernel_rfl))) (TillN.io (by decide)) (by kernel_rfl) hS (fun w' hSw => ?_) (by rfl) (fun hS => ?_)
                  · subst hSw
                    go_simp
                    all_goals first | omega | exact hwm | (intro hh; exact absurd hh (by omega))
                  try simp only [List.getElem_toArray, List.getElem_cons_zero, List.getElem_cons_succ, Act.put, List.setIfInBounds_toArray, List.set_cons_zero, List.set_cons_succ]
                  refine wpAnyS_take (i := 8) (fun w' => w' = wr.drew) (v := .pointer (some ⟨c, m, none⟩)) rfl (by kernel_rfl) (by kernel_rfl) (by kernel_rfl) (fun _ _ _ h => h) (fun l w hw hS => hS (hw 28 (by kernel_rfl))) (TillN.io (by decide)) (by kernel_rfl) hS (fun w' hSw => ?_) (by rfl) (fun hS => ?_)
                  · subst hSw
                    go_simp
                    all_goals first | omega | exact hwm | (intro hh; exact absurd hh (by omega))
                  try simp only [List.getElem_toArray, List.getElem_cons_zero, List.getElem_cons_succ, Act.put, List.setIfInBounds_toArray, List.set_cons_zero, List.set_cons_succ]
                  refine wpAnyS_take (i := 9) (fun w' => w' = wr.drew) (v := .bool true) rfl (by kernel_rfl) (by kernel_rfl) (by kernel_rfl) (fun _ _ _ h => h) (fun l w hw hS => hS (hw 28 (by kernel_rfl))) (TillN.io (by decide)) (by kernel_rfl) hS (fun w' hSw => ?_) (by rfl) (fun hS => ?_)
                  · subst hSw
                    go_simp
                    all_goals first | omega | exact hwm | (intro hh; exact absurd hh (by omega))
                  try simp only [List.getElem_toArray, List.getElem_cons_zero, List.getElem_cons_succ, Act.put, List.setIfInBounds_toArray, List.set_cons_zero, List.set_cons_succ]
                  refine wpAnyS_take (i := 10) (fun w' => w' = wr.drew) (v := .bool true) rfl (by kernel_rfl) (by kernel_rfl) (by kernel_rfl) (fun _ _ _ h => h) (fun l w hw hS => hS (hw 28 (by kernel_rfl))) (TillN.io (by decide)) (by kernel_rfl) hS (fun w' hSw => ?_) (by rfl) (fun hS => ?_)
                  · subst hSw
                    go_simp
                    all_goals first | omega | exact hwm | (intro hh; exact absurd hh (by omega))
                  try simp only [List.getElem_toArray, List.getElem_cons_zero, List.getElem_cons_succ, Act.put, List.setIfInBounds_toArray, List.set_cons_zero, List.set_cons_succ]
                  refine wpAnyS_take (i := 11) (fun w' => w' = wr.drew) (v := .bool true) rfl (by kernel_rfl) (by kernel_rfl) (by kernel_rfl) (fun _ _ _ h => h) (fun l w hw hS => hS (hw 28 (by kernel_rfl))) (TillN.io (by decide)) (by kernel_rfl) hS (fun w' hSw => ?_) (by rfl) (fun hS => ?_)
                  · subst hSw
                    go_simp
                    all_goals first | omega | exact hwm | (intro hh; exact absurd hh (by omega))
                  try simp only [List.getElem_toArray, List.getElem_cons_zero, List.getElem_cons_succ, Act.put, List.setIfInBounds_toArray, List.set_cons_zero, List.set_cons_succ]
                  refine wpAnyS_take (i := 12) (fun w' => w' = wr.drew) (v := .string p) rfl (by kernel_rfl) (by kernel_rfl) (by kernel_rfl) (fun _ _ _ h => h) (fun l w hw hS => hS (hw 28 (by kernel_rfl))) (TillN.io (by decide)) (by kernel_rfl) hS (fun w' hSw => ?_) (by rfl) (fun hS => ?_)
                  · subst hSw
                    go_simp
                    all_goals first | omega | exact hwm | (intro hh; exact absurd hh (by omega))
                  try simp only [List.getElem_toArray, List.getElem_cons_zero, List.getElem_cons_succ, Act.put, List.setIfInBounds_toArray, List.set_cons_zero, List.set_cons_succ]
                  refine wpAnyS_take (i := 13) (fun w' => w' = wr.drew) (v := .int .i64 (i : Int)) rfl (by kernel_rfl) (by kernel_rfl) (by kernel_rfl) (fun _ _ _ h => h) (fun l w hw hS => hS (hw 28 (by kernel_rfl))) (TillN.io (by decide)) (by kernel_rfl) hS (fun w' hSw => ?_) (by rfl) (fun hS => ?_)
                  · subst hSw
                    go_simp
                    all_goals first | omega | exact hwm | (intro hh; exact absurd hh (by omega))
                  try simp only [List.getElem_toArray, List.getElem_cons_zero, List.getElem_cons_succ, Act.put, List.setIfInBounds_toArray, List.set_cons_zero, List.set_cons_succ]
                  refine wpAnyS_take (i := 14) (fun w' => w' = wr.drew) (v := .int .u8 (p[i].toNat : Int)) rfl (by kernel_rfl) (by kernel_rfl) (by kernel_rfl) (fun _ _ _ h => h) (fun l w hw hS => hS (hw 28 (by kernel_rfl))) (TillN.io (by decide)) (by kernel_rfl) hS (fun w' hSw => ?_) (by rfl) (fun hS => ?_)
                  · subst hSw
                    go_simp
                    all_goals first | omega | exact hwm | (intro hh; exact absurd hh (by omega))
                  try simp only [List.getElem_toArray, List.getElem_cons_zero, List.getElem_cons_succ, Act.put, List.setIfInBounds_toArray, List.set_cons_zero, List.set_cons_succ]
                  refine wpAnyS_take (i := 15) (fun w' => w' = wr.drew) (v := .bool false) rfl (by kernel_rfl) (by kernel_rfl) (by kernel_rfl) (fun _ _ _ h => h) (fun l w hw hS => hS (hw 28 (by kernel_rfl))) (TillN.io (by decide)) (by kernel_rfl) hS (fun w' hSw => ?_) (by rfl) (fun hS => ?_)
                  · subst hSw
                    go_simp
                    all_goals first | omega | exact hwm | (intro hh; exact absurd hh (by omega))
                  try simp only [List.getElem_toArray, List.getElem_cons_zero, List.getElem_cons_succ, Act.put, List.setIfInBounds_toArray, List.set_cons_zero, List.set_cons_succ]
                  refine wpAnyS_take (i := 16) (fun w' => w' = wr.drew) (v := .bool false) rfl (by kernel_rfl) (by kernel_rfl) (by kernel_rfl) (fun _ _ _ h => h) (fun l w hw hS => hS (hw 28 (by kernel_rfl))) (TillN.io (by decide)) (by kernel_rfl) hS (fun w' hSw => ?_) (by rfl) (fun hS => ?_)
                  · subst hSw
                    go_simp
                    all_goals first | omega | exact hwm | (intro hh; exact absurd hh (by omega))
                  try simp only [List.getElem_toArray, List.getElem_cons_zero, List.getElem_cons_succ, Act.put, List.setIfInBounds_toArray, List.set_cons_zero, List.set_cons_succ]
                  refine wpAnyS_take (i := 17) (fun w' => w' = wr.drew) (v := .string p) rfl (by kernel_rfl) (by kernel_rfl) (by kernel_rfl) (fun _ _ _ h => h) (fun l w hw hS => hS (hw 28 (by kernel_rfl))) (TillN.io (by decide)) (by kernel_rfl) hS (fun w' hSw => ?_) (by rfl) (fun hS => ?_)
                  · subst hSw
                    go_simp
                    all_goals first | omega | exact hwm | (intro hh; exact absurd hh (by omega))
                  try simp only [List.getElem_toArray, List.getElem_cons_zero, List.getElem_cons_succ, Act.put, List.setIfInBounds_toArray, List.set_cons_zero, List.set_cons_succ]
                  refine wpAnyS_take (i := 18) (fun w' => w' = wr.drew) (v := .int .i64 (i : Int)) rfl (by kernel_rfl) (by kernel_rfl) (by kernel_rfl) (fun _ _ _ h => h) (fun l w hw hS => hS (hw 28 (by kernel_rfl))) (TillN.io (by decide)) (by kernel_rfl) hS (fun w' hSw => ?_) (by rfl) (fun hS => ?_)
                  · subst hSw
                    go_simp
                    all_goals first | omega | exact hwm | (intro hh; exact absurd hh (by omega))
                  try simp only [List.getElem_toArray, List.getElem_cons_zero, List.getElem_cons_succ, Act.put, List.setIfInBounds_toArray, List.set_cons_zero, List.set_cons_succ]
                  refine wpAnyS_take (i := 19) (fun w' => w' = wr.drew) (v := .int .u8 (p[i].toNat : Int)) rfl (by kernel_rfl) (by kernel_rfl) (by kernel_rfl) (fun _ _ _ h => h) (fun l w hw hS => hS (hw 28 (by kernel_rfl))) (TillN.io (by decide)) (by kernel_rfl) hS (fun w' hSw => ?_) (by rfl) (fun hS => ?_)
                  · subst hSw
                    go_simp
                    all_goals first | omega | exact hwm | (intro hh; exact absurd hh (by omega))
                  try simp only [List.getElem_toArray, List.getElem_cons_zero, List.getElem_cons_succ, Act.put, List.setIfInBounds_toArray, List.set_cons_zero, List.set_cons_succ]
                  refine wpAnyS_take (i := 20) (fun w' => w' = wr.drew) (v := .string s) rfl (by kernel_rfl) (by kernel_rfl) (by kernel_rfl) (fun _ _ _ h => h) (fun l w hw hS => hS (hw 28 (by kernel_rfl))) (TillN.io (by decide)) (by kernel_rfl) hS (fun w' hSw => ?_) (by rfl) (fun hS => ?_)
                  · subst hSw
                    go_simp
                    all_goals first | omega | exact hwm | (intro hh; exact absurd hh (by omega))
                  try simp only [List.getElem_toArray, List.getElem_cons_zero, List.getElem_cons_succ, Act.put, List.setIfInBounds_toArray, List.set_cons_zero, List.set_cons_succ]
                  refine wpAnyS_take (i := 21) (fun w' => w' = wr.drew) (v := .int .i64 (k : Int)) rfl (by kernel_rfl) (by kernel_rfl) (by kernel_rfl) (fun _ _ _ h => h) (fun l w hw hS => hS (hw 28 (by kernel_rfl))) (TillN.io (by decide)) (by kernel_rfl) hS (fun w' hSw => ?_) (by rfl) (fun hS => ?_)
                  · subst hSw
                    go_simp
                    all_goals first | omega | exact hwm | (intro hh; exact absurd hh (by omega))
                  try simp only [List.getElem_toArray, List.getElem_cons_zero, List.getElem_cons_succ, Act.put, List.setIfInBounds_toArray, List.set_cons_zero, List.set_cons_succ]
                  refine wpAnyS_take (i := 22) (fun w' => w' = wr.drew) (v := .int .i64 (m : Int)) rfl (by kernel_rfl) (by kernel_rfl) (by kernel_rfl) (fun _ _ _ h => h) (fun l w hw hS => hS (hw 28 (by kernel_rfl))) (TillN.io (by decide)) (by kernel_rfl) hS (fun w' hSw => ?_) (by rfl) (fun hS => ?_)
                  · subst hSw
                    go_simp
                    all_goals first | omega | exact hwm | (intro hh; exact absurd hh (by omega))
                  try simp only [List.getElem_toArray, List.getElem_cons_zero, List.getElem_cons_succ, Act.put, List.setIfInBounds_toArray, List.set_cons_zero, List.set_cons_succ]
                  refine wpAnyS_take (i := 23) (fun w' => w' = wr.drew) (v := .int .u8 (s[m].toNat : Int)) rfl (by kernel_rfl) (by kernel_rfl) (by kernel_rfl) (fun _ _ _ h => h) (fun l w hw hS => hS (hw 28 (by kernel_rfl))) (TillN.io (by decide)) (by kernel_rfl) hS (fun w' hSw => ?_) (by rfl) (fun hS => ?_)
                  · subst hSw
                    go_simp
                    all_goals first | omega | exact hwm | (intro hh; exact absurd hh (by omega))
                  try simp only [List.getElem_toArray, List.getElem_cons_zero, List.getElem_cons_succ, Act.put, List.setIfInBounds_toArray, List.set_cons_zero, List.set_cons_succ]
                  refine wpAnyS_take (i := 24) (fun w' => w' = wr.drew) (v := .bool Z) rfl (by kernel_rfl) (by kernel_rfl) (by kernel_rfl) (fun _ _ _ h => h) (fun l w hw hS => hS (hw 28 (by kernel_rfl))) (TillN.io (by decide)) (by kernel_rfl) hS (fun w' hSw => ?_) (by rfl) (fun hS => ?_)
                  · subst hSw
                    go_simp
                    all_goals first | omega | exact hwm | (intro hh; exact absurd hh (by omega))
                  try simp only [List.getElem_toArray, List.getElem_cons_zero, List.getElem_cons_succ, Act.put, List.setIfInBounds_toArray, List.set_cons_zero, List.set_cons_succ]
                  refine wpAnyS_take (i := 25) (fun w' => w' = wr.drew) (v := .bool Z) rfl (by kernel_rfl) (by kernel_rfl) (by kernel_rfl) (fun _ _ _ h => h) (fun l w hw hS => hS (hw 28 (by kernel_rfl))) (TillN.io (by decide)) (by kernel_rfl) hS (fun w' hSw => ?_) (by rfl) (fun hS => ?_)
                  · subst hSw
                    go_simp
                    all_goals first | omega | exact hwm | (intro hh; exact absurd hh (by omega))
                  try simp only [List.getElem_toArray, List.getElem_cons_zero, List.getElem_cons_succ, Act.put, List.setIfInBounds_toArray, List.set_cons_zero, List.set_cons_succ]
                  refine wpAnyS_take (i := 26) (fun w' => w' = wr.drew) (v := .bool Z) rfl (by kernel_rfl) (by kernel_rfl) (by kernel_rfl) (fun _ _ _ h => h) (fun l w hw hS => hS (hw 28 (by kernel_rfl))) (TillN.io (by decide)) (by kernel_rfl) hS (fun w' hSw => ?_) (by rfl) (fun hS => ?_)
                  · subst hSw
                    go_simp
                    all_goals first | omega | exact hwm | (intro hh; exact absurd hh (by omega))
                  try simp only [List.getElem_toArray, List.getElem_cons_zero, List.getElem_cons_succ, Act.put, List.setIfInBounds_toArray, List.set_cons_zero, List.set_cons_succ]
                  refine wpAnyS_take (i := 27) (fun w' => w' = wr.drew) (v := .pointer (some ⟨d, k, none⟩)) rfl (by kernel_rfl) (by kernel_rfl) (by kernel_rfl) (fun _ _ _ h => h) (fun l w hw hS => hS (hw 28 (by kernel_rfl))) (TillN.io (by decide)) (by kernel_rfl) hS (fun w' hSw => ?_) (by rfl) (fun hS => ?_)
                  · subst hSw
                    go_simp
                    all_goals first | omega | exact hwm | (intro hh; exact absurd hh (by omega))
                  try simp only [List.getElem_toArray, List.getElem_cons_zero, List.getElem_cons_succ, Act.put, List.setIfInBounds_toArray, List.set_cons_zero, List.set_cons_succ]
                  refine wpAnyS_one (i := 28) (by kernel_rfl) rfl (fun K9 hK9 => ?_)
                  go_simp
                  refine hK9.out _ _ (fun h => by cases h) (fun hS => ?_)
                  clear hK9 K9 hS
                  try simp only [List.getElem_toArray, List.getElem_cons_zero, List.getElem_cons_succ, Act.put, List.setIfInBounds_toArray, List.set_cons_zero, List.set_cons_succ]
                  refine wpAnyS_done (by kernel_rfl) ?_ _
                  refine hK _ _ ?_
                  clear hK K
                  go_wp2_with fail
                  go_roundw
                  case rel => exact ⟨k + 1, by go_num, by omega, HNX⟩
                  case measure => simp [intOf]; omega
        · have hkk : ¬ (k : Int) ≤ (s.size : Int) := by omega
          obtain rfl : k = s.size + 1 := by omega
          have HGN : Hid (GSt w wr d s.size (p.data.toList.take (i + 1)) s.data.toList) := by rw [HQ.out]; exact HN.out.full
          clear HN
          go_wp2_with fail
          go_roundw
          case rel => exact ⟨i + 1, d, rfl, by go_num, by omega, HGN⟩
          case measure => simp [intOf]; omega
    · have hii : ¬ (i : Int) < (p.size : Int) := by omega
      obtain rfl : i = p.size := by omega
      have hc : wr.cell? ⟨c, s.size, none⟩ = some (.bool (gm p.data.toList s.data.toList)) := by
        rw [HG.out.row.cell, marks_at (by omega), List.take_of_length_le (by rw [size_len]; omega), List.take_of_length_le (by rw [size_len]; omega)]
      have HB := Lib.hid HG.out.below
      clear HG
      generalize gm p.data.toList s.data.toList = X at *
      go_wp2_with fail
      go_ret
      exact ⟨by rw [HANS.out]; rfl, HB.out⟩
end Go.Proofs.YthgagobdkcikiaaDoor
