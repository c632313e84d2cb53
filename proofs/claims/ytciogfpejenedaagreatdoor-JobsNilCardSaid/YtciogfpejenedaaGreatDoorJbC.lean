/- The dependency of a text, and how it is printed, if a single package may meet it. -/
import Derived.Test.YtciogfpejenedaaGreatDoorJbB
namespace Go.Proofs.YtciogfpejenedaaGreatDoor
set_option linter.unusedSimpArgs false
set_option linter.unusedVariables false
open Go.RowKit

def OnePost (s : ByteArray) (w0 : World) (e : Ending) (w' : World) : Prop := Below w0.heap.size w0 w' ∧ ∃ k n o ev A l c, e = .returned (.tuple #[.agg #[.int .i64 k, .string n, .int .i64 o, .string ev, .slice A l c], .string (oneX s)])
theorem load_row {w : World} {g : Nat} {x0 x1 x2 x3 x4 : Value} (h : Blk w g 47 #[x0, x1, x2, x3, x4]) : (loadVar 47 ⟨g, 0, none⟩).run Tryz.prog w = .ok (.agg #[x0, x1, x2, x3, x4]) w := by
  have b0 := h.cell 0
  have b1 := h.cell 1
  have b2 := h.cell 2
  have b3 := h.cell 3
  have b4 := h.cell 4
  simp at b0 b1 b2 b3 b4
  clear h
  go_simp
set_option maxHeartbeats 4000000 in
set_option maxRecDepth 100000 in
theorem ofOne_any (s : ByteArray) (hs : s.size ≤ 4194304) (w0 : World) (hT : Tabs w0) : Calls Tryz.prog 13 #[.string s] w0 (OnePost s w0) := by
  obtain ⟨X, hX⟩ : ∃ X, X = oneX s := ⟨_, rfl⟩
  obtain ⟨wa, hwa⟩ : ∃ wa, wa = w0.alloc (.cells zeroRow 47) := ⟨_, rfl⟩
  have hBa : Below w0.heap.size w0 wa := by rw [hwa]; exact (Below.refl _ _).alloc (Nat.le_refl _) _
  have kr : Blk wa w0.heap.size 47 zeroRow := by rw [hwa]; exact Blk.new _ _ _
  have hTa := hT.below hBa hT.two
  have CP := Lib.hid (depParse_any s hs wa hTa)
  have HBA := Lib.hid hBa
  have HKR := Lib.hid kr
  have HTA := Lib.hid hTa
  have HX := Lib.hid hX
  clear hBa kr hTa hT hX
  unfold zeroRow at hwa
  unfold OnePost
  rw [← HX.out]
  go_enter Tryz.func13, Tryz.ntmps13
  go_upto_region 1 with fail
  rw [← hwa]
  clear hwa
  go_wp2_with fail
  refine CP.out.mono ?_
  rintro e w1 ⟨hb1, h⟩
  have HB1 := Lib.hid (HBA.out.trans (hb1.mono HBA.out.size))
  have hr : Blk w1 w0.heap.size 47 zeroRow := Blk.below HKR.out hb1 HKR.out.lt
  have HR := Lib.hid hr
  have hlt : w0.heap.size < w1.heap.size := hr.lt
  have k0 := hr.free 0
  have k1 := hr.free 1
  have k2 := hr.free 2
  have k3 := hr.free 3
  have k4 := hr.free 4
  have d0 := hr.cell 0
  have d1 := hr.cell 1
  have d2 := hr.cell 2
  have d3 := hr.cell 3
  have d4 := hr.cell 4
  unfold zeroRow at d0 d1 d2 d3 d4
  simp at d0 d1 d2 d3 d4
  have HT1 := Lib.hid (HTA.out.below hb1 HTA.out.two)
  clear hb1 CP HKR HTA HBA
  rcases h with ⟨d, t, ht, rfl⟩ | ⟨n, hn, rfl⟩
  rotate_left
  · have hne := parse_err hn
    have hq : (n != 0) = true := by simp [hne]
    have HE : Hid (X = ⟨#[]⟩) := by
      show X = _
      rw [HX.out]
      unfold oneX
      rw [hn]
    have HP : Hid (Below w0.heap.size w0 ((five w1 w0.heap.size zeroD (.slice none 0 0)).alloc (.cells zeroRow 47))) := by
      have h5 := five_turned w1 w0.heap.size zeroD (.slice none 0 0)
      have h6 := HB1.out.trans (h5.below (fun k hk => by simp at hk; omega) HB1.out.size)
      exact h6.alloc h6.size _
    have HL : Hid _ := load_row (((five_blk HR.out zeroD (.slice none 0 0))).alloc (.cells zeroRow 47))
    clear hn hne HX HB1 HR hr
    unfold five zeroD zeroRow at HP HL
    dsimp only [Dep.kind, Dep.name, Dep.op, Dep.evr] at HP HL
    unfold zeroRow
    go_wp2_with fail
    refine bodyPost_ret (v := .tuple #[.agg #[.int .i64 0, .string ⟨#[]⟩, .int .i64 0, .string ⟨#[]⟩, .slice none 0 0], .string ⟨#[]⟩]) ?_ rfl ⟨HP.out, 0, ⟨#[]⟩, 0, ⟨#[]⟩, none, 0, 0, by rw [HE.out]⟩
    exact results_cell2 rfl _ rfl rfl HL.out
  · obtain ⟨h1, S, hL, hC, hS, hN⟩ := ht
    obtain ⟨A, c, rfl, _, _⟩ := hL.form_
    have HE1 : Hid (d.kind = 1 ∨ d.kind = 5 ∨ d.kind = 6 → X = printS d) := fun h => by
      rw [HX.out]
      unfold oneX
      rw [h1]
      exact if_pos h
    have HE2 : Hid (¬ (d.kind = 1 ∨ d.kind = 5 ∨ d.kind = 6) → X = ⟨#[]⟩) := fun h => by
      rw [HX.out]
      unfold oneX
      rw [h1]
      exact if_neg h
    obtain ⟨w2, hw2⟩ : ∃ w2, w2 = w1.alloc (.cells (rowD d (.slice A d.args.length c)) 47) := ⟨_, rfl⟩
    have hB2 : Below w1.heap.size w1 w2 := by rw [hw2]; exact (Below.refl _ _).alloc (Nat.le_refl _) _
    have K2 : Blk w2 w1.heap.size 47 (rowD d (.slice A d.args.length c)) := by rw [hw2]; exact Blk.new _ _ _
    have hst := StayS.below' (S := S) hB2
    have HB2 := Lib.hid (HB1.out.trans (hB2.mono HB1.out.size))
    have HR2 := Lib.hid (Blk.below HR.out hB2 HR.out.lt)
    have CPR := Lib.hid (depPrint_any d _ S w2 (hL.stay (fun _ h => h) hst) (hC.stay hst) (HT1.out.below hB2 HT1.out.two) (by omega))
    have HK2 := Lib.hid K2
    have c0 := K2.cell 0
    have c1 := K2.cell 1
    have c2 := K2.cell 2
    have c3 := K2.cell 3
    have c4 := K2.cell 4
    unfold rowD at c0 c1 c2 c3 c4
    simp at c0 c1 c2 c3 c4
    clear d0 d1 d2 d3 d4 k0 k1 k2 k3 k4 hr HR HB1 HT1 h1 hL hC hS hN hB2 K2 hst HX
    unfold rowD at hw2
    unfold rowD
    go_upto_region 2 with fail
    rw [← hw2]
    clear hw2
    generalize w1.heap.size = vb at *
    have k0 := HR2.out.free 0
    have k1 := HR2.out.free 1
    have k2 := HR2.out.free 2
    have k3 := HR2.out.free 3
    have k4 := HR2.out.free 4
    have d0 := HR2.out.cell 0
    have d1 := HR2.out.cell 1
    have d2 := HR2.out.cell 2
    have d3 := HR2.out.cell 3
    have d4 := HR2.out.cell 4
    unfold zeroRow at d0 d1 d2 d3 d4
    simp at d0 d1 d2 d3 d4
    by_cases hk : d.kind = 1 ∨ d.kind = 5 ∨ d.kind = 6
    rotate_left
    · have HE := Lib.hid (HE2.out hk)
      have q1 : (d.kind == 1) = false := by simp; exact fun e => hk (.inl e)
      have q5 : (d.kind == 5) = false := by simp; exact fun e => hk (.inr (.inl e))
      have q6 : (d.kind == 6) = false := by simp; exact fun e => hk (.inr (.inr e))
      have HP : Hid (Below w0.heap.size w0 (five w2 w0.heap.size zeroD (.slice none 0 0))) := by
        have h5 := five_turned w2 w0.heap.size zeroD (.slice none 0 0)
        exact HB2.out.trans (h5.below (fun k hk => by simp at hk; omega) HB2.out.size)
      have HL : Hid _ := load_row (five_blk HR2.out zeroD (.slice none 0 0))
      clear hk HE1 HE2 CPR
      unfold five zeroD at HP HL
      dsimp only [Dep.kind, Dep.name, Dep.op, Dep.evr] at HP HL
      go_wp2_with fail
      refine bodyPost_ret (v := .tuple #[.agg #[.int .i64 0, .string ⟨#[]⟩, .int .i64 0, .string ⟨#[]⟩, .slice none 0 0], .string ⟨#[]⟩]) ?_ rfl ⟨HP.out, 0, ⟨#[]⟩, 0, ⟨#[]⟩, none, 0, 0, by rw [HE.out]⟩
      exact results_cell2 rfl _ rfl rfl HL.out
    have HE := Lib.hid (HE1.out hk)
    have hbs : ((d.kind == 1) = true) ∨ ((d.kind == 1) = false ∧ (d.kind == 5) = true) ∨ ((d.kind == 1) = false ∧ (d.kind == 5) = false ∧ (d.kind == 6) = true) := by
      rcases hk with h | h | h
      · exact .inl (by simp [h])
      · exact .inr (.inl (by simp [h]))
      · exact .inr (.inr (by simp [h]))
    clear hk HE1 HE2
    rcases hbs with q1 | ⟨q1, q5⟩ | ⟨q1, q5, q6⟩
    all_goals
      go_wp2_with fail
      refine CPR.out.mono ?_
      rintro e w3 ⟨rfl, hb3⟩
      have HR3 := Lib.hid (Blk.below HR2.out hb3 HR2.out.lt)
      have HK3 := Lib.hid (Blk.below HK2.out hb3 HK2.out.lt)
      have HB3 := Lib.hid (HB2.out.trans (hb3.mono HB2.out.size))
      clear c0 c1 c2 c3 c4 d0 d1 d2 d3 d4 k0 k1 k2 k3 k4 hb3
      have c0 := HK3.out.cell 0
      have c1 := HK3.out.cell 1
      have c2 := HK3.out.cell 2
      have c3 := HK3.out.cell 3
      have c4 := HK3.out.cell 4
      unfold rowD at c0 c1 c2 c3 c4
      simp at c0 c1 c2 c3 c4
      have k0 := HR3.out.free 0
      have k1 := HR3.out.free 1
      have k2 := HR3.out.free 2
      have k3 := HR3.out.free 3
      have k4 := HR3.out.free 4
      have d0 := HR3.out.cell 0
      have d1 := HR3.out.cell 1
      have d2 := HR3.out.cell 2
      have d3 := HR3.out.cell 3
      have d4 := HR3.out.cell 4
      unfold zeroRow at d0 d1 d2 d3 d4
      simp at d0 d1 d2 d3 d4
      have HP : Hid (Below w0.heap.size w0 (five w3 w0.heap.size d (.slice A d.args.length c))) := by
        have h5 := five_turned w3 w0.heap.size d (.slice A d.args.length c)
        exact HB3.out.trans (h5.below (fun k hk => by simp at hk; omega) HB3.out.size)
      have HL : Hid _ := load_row (five_blk HR3.out d (.slice A d.args.length c))
      clear CPR
      unfold five at HP HL
      go_wp2_with fail
      refine bodyPost_ret (v := .tuple #[.agg #[.int .i64 d.kind, .string d.name, .int .i64 d.op, .string d.evr, .slice A d.args.length c], .string (printS d)]) ?_ rfl ⟨HP.out, d.kind, d.name, d.op, d.evr, A, d.args.length, c, by rw [HE.out]⟩
      exact results_cell2 rfl _ rfl rfl HL.out
end Go.Proofs.YtciogfpejenedaaGreatDoor
