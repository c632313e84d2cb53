/- An end. -/
import Derived.Test.YtljldbdjkjllhaaGreatDoorZce
import Derived.StillTailTactics
import Derived.Test.YtljldbdjkjllhaaGreatDoorZaa
/- An end. -/
namespace Go.Proofs.YtljldbdjkjllhaaGreatDoor
set_option linter.unusedSimpArgs false
set_option linter.unusedVariables false
open Go.RowKit

section
variable {w w' : World} {base g : Nat} {vo : Value} {s : XS} {wr : Int}
theorem Told.mkNo {s' : XS} {res : Except Int (Pc × XS)} {k : Int} (ht : Turned (fOf g vo) w w') (h : XRd w' base g vo s' wr) (he : res = .error k) : Told w base g vo wr res (gaveUp k) w' :=
  ⟨ht, vo, s', h, fun _ hk => .inl hk, .inr ⟨k, he, rfl⟩⟩
/-- What is told behind what took from the rest alone, and new blocks. -/
theorem Told.behind {w1 : World} {res : Except Int (Pc × XS)} {e : Ending} (ht : Turned (fOf g vo) w w1) (h : Told w1 base g vo wr res e w') : Told w base g vo wr res e w' := by
  obtain ⟨h1, vo', s', h2, h3, h4⟩ := h
  refine ⟨ht.trans h1 (Fresh.refl _ _), vo', s', h2, fun k hk => ?_, h4⟩
  rcases h3 k hk with h | h
  · exact .inl h
  · have := ht.size
    exact .inr (by omega)
def endRest (s : XS) (nm : Bs) : Except Int (Pc × XS) := if s.opn.getLast? = some nm then .ok (leaveR s) else .error 101
theorem endR_eq (s : XS) : endR s = (nameR s.rest).bind fun n => (layoutR n.2).bind fun a => (wantR [62] a.2).bind fun b => endRest { s with rest := b.2 } n.1 := rfl
/-- While an end is taken: what is answered lies at p. -/
structure EnS (w0 : World) (base g p : Nat) (vo : Value) (s : XS) (wr : Int) (w : World) : Prop where
  t : Turned (fOf g vo) w0 w
  rd : XRd w base g vo s wr
  res : Blk w p 68 #[.int .i64 0, .string ⟨#[]⟩, .slice none 0 0, .string ⟨#[]⟩]
  new : w0.heap.size ≤ p
theorem EnS.ne {w0 : World} {p : Nat} (h : EnS w0 base g p vo s wr w) : p ∉ fOf g vo := fun hm => h.rd.not_kind hm (by decide) (by decide) h.res
theorem EnS.next {w0 : World} {p : Nat} (h : EnS w0 base g p vo s wr w) (ht : Turned [g] w w') {r' : Bs} (hr : RdB w' g r' vo (.bool s.begun) (.bool s.short) (.int .i64 wr)) : EnS w0 base g p vo { s with rest := r' } wr w' :=
  ⟨h.t.trans (one_of (g_mem _ _) ht) (Fresh.refl _ _), h.rd.ate ht hr, h.res.turned ht (fun hm => h.ne (by simp at hm; subst hm; exact g_mem _ _)), h.new⟩
theorem EnS.first (h : XRd w base g vo s wr) : EnS w base g w.heap.size vo s wr (w.alloc (.cells #[.int .i64 0, .string ⟨#[]⟩, .slice none 0 0, .string ⟨#[]⟩] 68)) :=
  ⟨(Turned.refl _ _).alloc _, h.turned ((Turned.refl [] w).alloc _) (fun k hk => by cases hk), Blk.new _ _ _, Nat.le_refl _⟩
set_option maxHeartbeats 8000000 in
set_option maxRecDepth 1000000 in
theorem end_any (h : XRd w base g vo s wr) (hr : s.rest.length ≤ 40000) (ho2 : s.opn.length ≤ 17) :
    Calls Tryz.prog 89 #[.pointer (some ⟨g, 0, none⟩)] w (Told w base g vo wr (endR s)) := by
  have HS0 := Lib.hid (EnS.first h)
  obtain ⟨p, hp⟩ : ∃ p, p = w.heap.size := ⟨_, rfl⟩
  obtain ⟨wa, hwa⟩ : ∃ wa, wa = w.alloc (.cells #[.int .i64 0, .string ⟨#[]⟩, .slice none 0 0, .string ⟨#[]⟩] 68) := ⟨_, rfl⟩
  rw [← hp, ← hwa] at HS0
  have CN := Lib.hid (name_any HS0.out.rd.blk hr)
  obtain ⟨res, hres⟩ : ∃ res, res = endR s := ⟨_, rfl⟩
  rw [← hres]
  clear h
  cases hn : nameR s.rest with
  | error e =>
    have HE : Hid (res = .error e) := by show res = _; rw [hres, endR_eq, hn]; rfl
    have HN := Lib.hid hn
    clear hn hres
    go_enter Tryz.func89, Tryz.ntmps89
    go_upto_region 1 with fail
    rw [← hp, ← hwa]
    clear hwa hp
    go_wp2_with fail
    refine CN.out.mono ?_
    intro en w1 ha
    obtain ⟨h1, ⟨r', h2⟩, rfl⟩ := ha.no HN.out
    have HS1 := Lib.hid (HS0.out.next h1 h2)
    clear ha h1 h2 CN
    unfold gaveUp
    go_wp2_with fail
    exact ⟨rfl, Told.mkNo HS1.out.t HS1.out.rd HE.out⟩
  | ok x =>
    obtain ⟨nm, r1⟩ := x
    have HN := Lib.hid hn
    have hr1 : r1.length ≤ 40000 := by have := nameR_len hn; simp at this; omega
    obtain ⟨b1, r2, hL1⟩ : ∃ b1 r2, layoutR r1 = .ok (b1, r2) := ⟨_, _, layoutR_ok r1⟩
    have hr2 : r2.length ≤ 40000 := by have := layoutR_len hL1; simp at this; omega
    have HL1 := Lib.hid hL1
    have hq : res = (wantR [62] r2).bind fun b => endRest { s with rest := b.2 } nm := by rw [hres, endR_eq, hn]; show ((layoutR r1).bind _ : Except Int (Pc × XS)) = _; rw [hL1]; rfl
    clear hn hL1 hres
    cases hw : wantR [62] r2 with
    | error e =>
      have HE : Hid (res = .error e) := by show res = _; rw [hq, hw]; rfl
      have HW := Lib.hid hw
      clear hq hw
      go_enter Tryz.func89, Tryz.ntmps89
      go_upto_region 1 with fail
      rw [← hp, ← hwa]
      clear hwa hp
      go_wp2_with fail
      refine CN.out.mono ?_
      intro en w1 ha
      obtain ⟨h1, h2, rfl⟩ := ha.ok HN.out
      have HS1 := Lib.hid (HS0.out.next h1 h2)
      clear ha h1 h2 CN
      unfold sV
      have CL := Lib.hid (layout_any HS1.out.rd.blk hr1)
      go_wp2_with fail
      refine CL.out.mono ?_
      intro en w2 ha
      obtain ⟨h1, h2, rfl⟩ := ha.ok HL1.out
      have HS2 := Lib.hid (HS1.out.next h1 h2)
      clear ha h1 h2 CL
      unfold bV
      have CW := Lib.hid (want_any HS2.out.rd.blk [62])
      go_wp2_with fail
      refine CW.out.mono ?_
      intro en w3 ha
      obtain ⟨h1, ⟨r', h2⟩, rfl⟩ := ha.no HW.out
      have HS3 := Lib.hid (HS2.out.next h1 h2)
      clear ha h1 h2 CW
      unfold gaveUp
      go_wp2_with fail
      exact ⟨rfl, Told.mkNo HS3.out.t HS3.out.rd HE.out⟩
    | ok y =>
      obtain ⟨uu, r3⟩ := y
      have HQ : Hid (res = endRest { s with rest := r3 } nm) := by show res = _; rw [hq, hw]; rfl
      have HW := Lib.hid hw
      clear hq hw
      go_enter Tryz.func89, Tryz.ntmps89
      go_upto_region 1 with fail
      rw [← hp, ← hwa]
      clear hwa hp
      go_wp2_with fail
      refine CN.out.mono ?_
      intro en w1 ha
      obtain ⟨h1, h2, rfl⟩ := ha.ok HN.out
      have HS1 := Lib.hid (HS0.out.next h1 h2)
      clear ha h1 h2 CN
      unfold sV
      have CL := Lib.hid (layout_any HS1.out.rd.blk hr1)
      go_wp2_with fail
      refine CL.out.mono ?_
      intro en w2 ha
      obtain ⟨h1, h2, rfl⟩ := ha.ok HL1.out
      have HS2 := Lib.hid (HS1.out.next h1 h2)
      clear ha h1 h2 CL
      unfold bV
      have CW := Lib.hid (want_any HS2.out.rd.blk [62])
      go_wp2_with fail
      refine CW.out.mono ?_
      intro en w3 ha
      obtain ⟨h1, h2, rfl⟩ := ha.ok HW.out
      have HS3 := Lib.hid (HS2.out.next h1 h2)
      clear ha h1 h2 CW
      unfold uV
      have CX := Lib.hid (must_no 101)
      have CY := Lib.hid (must_yes 101)
      obtain ⟨A, c, hvo, hnc, hcm⟩ := own_form' HS3.out.rd.row
      subst hvo
      unfold maxLen at hcm
      have c1 := Blk.cell HS3.out.rd.blk 1
      simp at c1
      rcases Nat.eq_zero_or_pos s.opn.length with h0 | h0
      · have HE : Hid (res = .error 101) := by
          show res = _
          rw [HQ.out]
          unfold endRest
          rw [List.eq_nil_of_length_eq_zero h0]
          rfl
        have hz0 : ¬ (0 : Int) < (s.opn.length : Int) := by omega
        have hd0 : decide ((0 : Int) < (s.opn.length : Int)) = false := decide_eq_false hz0
        clear h0
        have HS3' := Lib.hid (And.intro HS3.out.t.drew HS3.out.rd.drew)
        clear HS3
        have hN0 : ¬ 0 < s.opn.length := by omega
        generalize s.opn.length = N at *
        go_upto_region 4 with fail
        refine wp_region_S (fun _ w' => w'.cell? ⟨g, 1, none⟩ = some (.slice A N c) ∧ True) (by kernel_rfl) ⟨c1, trivial⟩ (fun hS => ?_)
        refine wpAnyS_take (i := 0) (fun w' => w'.cell? ⟨g, 1, none⟩ = some (.slice A N c) ∧ True) (v := .pointer (some ⟨g, 0, none⟩)) rfl (by kernel_rfl) (by kernel_rfl) (by kernel_rfl) (fun _ _ _ h => h) (fun l w hw hS => hS) (fun _ _ => Iff.rfl) (by kernel_rfl) hS (fun w' hSw => ?_) (by kernel_rfl) (fun hS => ?_)
        · obtain ⟨s1, s2⟩ := hSw
          go_simp
        try simp only [List.getElem_toArray, List.getElem_cons_zero, List.getElem_cons_succ, Act.put, List.setIfInBounds_toArray, List.set_cons_zero, List.set_cons_succ]
        refine wpAnyS_take (i := 1) (fun w' => w'.cell? ⟨g, 1, none⟩ = some (.slice A N c) ∧ True) (v := .pointer (some ⟨g, 0, none⟩)) rfl (by kernel_rfl) (by kernel_rfl) (by kernel_rfl) (fun _ _ _ h => h) (fun l w hw hS => hS) (fun _ _ => Iff.rfl) (by kernel_rfl) hS (fun w' hSw => ?_) (by kernel_rfl) (fun hS => ?_)
        · obtain ⟨s1, s2⟩ := hSw
          go_simp
        try simp only [List.getElem_toArray, List.getElem_cons_zero, List.getElem_cons_succ, Act.put, List.setIfInBounds_toArray, List.set_cons_zero, List.set_cons_succ]
        refine wpAnyS_take (i := 2) (fun w' => w'.cell? ⟨g, 1, none⟩ = some (.slice A N c) ∧ True) (v := .pointer (some ⟨g, 1, none⟩)) rfl (by kernel_rfl) (by kernel_rfl) (by kernel_rfl) (fun _ _ _ h => h) (fun l w hw hS => hS) (fun _ _ => Iff.rfl) (by kernel_rfl) hS (fun w' hSw => ?_) (by kernel_rfl) (fun hS => ?_)
        · obtain ⟨s1, s2⟩ := hSw
          go_simp
        try simp only [List.getElem_toArray, List.getElem_cons_zero, List.getElem_cons_succ, Act.put, List.setIfInBounds_toArray, List.set_cons_zero, List.set_cons_succ]
        refine wpAnyS_take (i := 3) (fun w' => w'.cell? ⟨g, 1, none⟩ = some (.slice A N c) ∧ True) (v := .slice A N c) rfl (by kernel_rfl) (by kernel_rfl) (by kernel_rfl) (fun _ _ _ h => h) (fun l w hw hS => hS) (fun _ _ => Iff.rfl) (by kernel_rfl) hS (fun w' hSw => ?_) (by kernel_rfl) (fun hS => ?_)
        · obtain ⟨s1, s2⟩ := hSw
          go_simp
        try simp only [List.getElem_toArray, List.getElem_cons_zero, List.getElem_cons_succ, Act.put, List.setIfInBounds_toArray, List.set_cons_zero, List.set_cons_succ]
        refine wpAnyS_take (i := 4) (fun w' => w'.cell? ⟨g, 1, none⟩ = some (.slice A N c) ∧ True) (v := .int .i64 (N : Int)) rfl (by kernel_rfl) (by kernel_rfl) (by kernel_rfl) (fun _ _ _ h => h) (fun l w hw hS => hS) (fun _ _ => Iff.rfl) (by kernel_rfl) hS (fun w' hSw => ?_) (by kernel_rfl) (fun hS => ?_)
        · obtain ⟨s1, s2⟩ := hSw
          go_simp
        try simp only [List.getElem_toArray, List.getElem_cons_zero, List.getElem_cons_succ, Act.put, List.setIfInBounds_toArray, List.set_cons_zero, List.set_cons_succ]
        refine wpAnyS_take (i := 5) (fun w' => w'.cell? ⟨g, 1, none⟩ = some (.slice A N c) ∧ True) (v := .bool false) rfl (by kernel_rfl) (by kernel_rfl) (by kernel_rfl) (fun _ _ _ h => h) (fun l w hw hS => hS) (fun _ _ => Iff.rfl) (by kernel_rfl) hS (fun w' hSw => ?_) (by kernel_rfl) (fun hS => ?_)
        · obtain ⟨s1, s2⟩ := hSw
          go_simp
          try omega
        try simp only [List.getElem_toArray, List.getElem_cons_zero, List.getElem_cons_succ, Act.put, List.setIfInBounds_toArray, List.set_cons_zero, List.set_cons_succ]
        refine wpAnyS_take (i := 6) (fun w' => w'.cell? ⟨g, 1, none⟩ = some (.slice A N c) ∧ True) (v := .bool false) rfl (by kernel_rfl) (by kernel_rfl) (by kernel_rfl) (fun _ _ _ h => h) (fun l w hw hS => hS) (fun _ _ => Iff.rfl) (by kernel_rfl) hS (fun w' hSw => ?_) (by kernel_rfl) (fun hS => ?_)
        · obtain ⟨s1, s2⟩ := hSw
          go_simp
        try simp only [List.getElem_toArray, List.getElem_cons_zero, List.getElem_cons_succ, Act.put, List.setIfInBounds_toArray, List.set_cons_zero, List.set_cons_succ]
        refine wpAnyS_skip (i := 7) rfl (by kernel_rfl) (by kernel_rfl) (by kernel_rfl) (fun _ _ _ h => h) (fun _ _ => Iff.rfl) (by kernel_rfl) hS (by kernel_rfl) (fun hS => ?_)
        try simp only [List.getElem_toArray, List.getElem_cons_zero, List.getElem_cons_succ, Act.put, List.setIfInBounds_toArray, List.set_cons_zero, List.set_cons_succ]
        refine wpAnyS_skip (i := 8) rfl (by kernel_rfl) (by kernel_rfl) (by kernel_rfl) (fun _ _ _ h => h) (fun _ _ => Iff.rfl) (by kernel_rfl) hS (by kernel_rfl) (fun hS => ?_)
        try simp only [List.getElem_toArray, List.getElem_cons_zero, List.getElem_cons_succ, Act.put, List.setIfInBounds_toArray, List.set_cons_zero, List.set_cons_succ]
        refine wpAnyS_skip (i := 9) rfl (by kernel_rfl) (by kernel_rfl) (by kernel_rfl) (fun _ _ _ h => h) (fun _ _ => Iff.rfl) (by kernel_rfl) hS (by kernel_rfl) (fun hS => ?_)
        try simp only [List.getElem_toArray, List.getElem_cons_zero, List.getElem_cons_succ, Act.put, List.setIfInBounds_toArray, List.set_cons_zero, List.set_cons_succ]
        refine wpAnyS_skip (i := 10) rfl (by kernel_rfl) (by kernel_rfl) (by kernel_rfl) (fun _ _ _ h => h) (fun _ _ => Iff.rfl) (by kernel_rfl) hS (by kernel_rfl) (fun hS => ?_)
        try simp only [List.getElem_toArray, List.getElem_cons_zero, List.getElem_cons_succ, Act.put, List.setIfInBounds_toArray, List.set_cons_zero, List.set_cons_succ]
        refine wpAnyS_skip (i := 11) rfl (by kernel_rfl) (by kernel_rfl) (by kernel_rfl) (fun _ _ _ h => h) (fun _ _ => Iff.rfl) (by kernel_rfl) hS (by kernel_rfl) (fun hS => ?_)
        try simp only [List.getElem_toArray, List.getElem_cons_zero, List.getElem_cons_succ, Act.put, List.setIfInBounds_toArray, List.set_cons_zero, List.set_cons_succ]
        refine wpAnyS_skip (i := 12) rfl (by kernel_rfl) (by kernel_rfl) (by kernel_rfl) (fun _ _ _ h => h) (fun _ _ => Iff.rfl) (by kernel_rfl) hS (by kernel_rfl) (fun hS => ?_)
        try simp only [List.getElem_toArray, List.getElem_cons_zero, List.getElem_cons_succ, Act.put, List.setIfInBounds_toArray, List.set_cons_zero, List.set_cons_succ]
        refine wpAnyS_skip (i := 13) rfl (by kernel_rfl) (by kernel_rfl) (by kernel_rfl) (fun _ _ _ h => h) (fun _ _ => Iff.rfl) (by kernel_rfl) hS (by kernel_rfl) (fun hS => ?_)
        try simp only [List.getElem_toArray, List.getElem_cons_zero, List.getElem_cons_succ, Act.put, List.setIfInBounds_toArray, List.set_cons_zero, List.set_cons_succ]
        refine wpAnyS_skip (i := 14) rfl (by kernel_rfl) (by kernel_rfl) (by kernel_rfl) (fun _ _ _ h => h) (fun _ _ => Iff.rfl) (by kernel_rfl) hS (by kernel_rfl) (fun hS => ?_)
        try simp only [List.getElem_toArray, List.getElem_cons_zero, List.getElem_cons_succ, Act.put, List.setIfInBounds_toArray, List.set_cons_zero, List.set_cons_succ]
        refine wpAnyS_skip (i := 15) rfl (by kernel_rfl) (by kernel_rfl) (by kernel_rfl) (fun _ _ _ h => h) (fun _ _ => Iff.rfl) (by kernel_rfl) hS (by kernel_rfl) (fun hS => ?_)
        try simp only [List.getElem_toArray, List.getElem_cons_zero, List.getElem_cons_succ, Act.put, List.setIfInBounds_toArray, List.set_cons_zero, List.set_cons_succ]
        refine wpAnyS_skip (i := 16) rfl (by kernel_rfl) (by kernel_rfl) (by kernel_rfl) (fun _ _ _ h => h) (fun _ _ => Iff.rfl) (by kernel_rfl) hS (by kernel_rfl) (fun hS => ?_)
        try simp only [List.getElem_toArray, List.getElem_cons_zero, List.getElem_cons_succ, Act.put, List.setIfInBounds_toArray, List.set_cons_zero, List.set_cons_succ]
        refine wpAnyS_skip (i := 17) rfl (by kernel_rfl) (by kernel_rfl) (by kernel_rfl) (fun _ _ _ h => h) (fun _ _ => Iff.rfl) (by kernel_rfl) hS (by kernel_rfl) (fun hS => ?_)
        try simp only [List.getElem_toArray, List.getElem_cons_zero, List.getElem_cons_succ, Act.put, List.setIfInBounds_toArray, List.set_cons_zero, List.set_cons_succ]
        refine wpAnyS_skip (i := 18) rfl (by kernel_rfl) (by kernel_rfl) (by kernel_rfl) (fun _ _ _ h => h) (fun _ _ => Iff.rfl) (by kernel_rfl) hS (by kernel_rfl) (fun hS => ?_)
        try simp only [List.getElem_toArray, List.getElem_cons_zero, List.getElem_cons_succ, Act.put, List.setIfInBounds_toArray, List.set_cons_zero, List.set_cons_succ]
        refine wpAnyS_skip (i := 19) rfl (by kernel_rfl) (by kernel_rfl) (by kernel_rfl) (fun _ _ _ h => h) (fun _ _ => Iff.rfl) (by kernel_rfl) hS (by kernel_rfl) (fun hS => ?_)
        try simp only [List.getElem_toArray, List.getElem_cons_zero, List.getElem_cons_succ, Act.put, List.setIfInBounds_toArray, List.set_cons_zero, List.set_cons_succ]
        refine wpAnyS_skip (i := 20) rfl (by kernel_rfl) (by kernel_rfl) (by kernel_rfl) (fun _ _ _ h => h) (fun _ _ => Iff.rfl) (by kernel_rfl) hS (by kernel_rfl) (fun hS => ?_)
        try simp only [List.getElem_toArray, List.getElem_cons_zero, List.getElem_cons_succ, Act.put, List.setIfInBounds_toArray, List.set_cons_zero, List.set_cons_succ]
        refine wpAnyS_take (i := 21) (fun w' => w'.cell? ⟨g, 1, none⟩ = some (.slice A N c) ∧ True) (v := .bool false) rfl (by kernel_rfl) (by kernel_rfl) (by kernel_rfl) (fun _ _ _ h => h) (fun l w hw hS => hS) (fun _ _ => Iff.rfl) (by kernel_rfl) hS (fun w' hSw => ?_) (by kernel_rfl) (fun hS => ?_)
        · obtain ⟨s1, s2⟩ := hSw
          go_simp
        try simp only [List.getElem_toArray, List.getElem_cons_zero, List.getElem_cons_succ, Act.put, List.setIfInBounds_toArray, List.set_cons_zero, List.set_cons_succ]
        refine wpAnyS_one (i := 22) (by kernel_rfl) rfl (fun K7 hK7 => ?_)
        go_simp
        refine (must_no 101 _).mono ?_
        rintro e wm ⟨rfl, rfl⟩
        unfold gaveUp
        go_simp
        exact ⟨rfl, Told.mkNo HS3'.out.1 HS3'.out.2 HE.out⟩
      · obtain ⟨n, hn⟩ : ∃ n, s.opn.length = n + 1 := ⟨s.opn.length - 1, by omega⟩
        obtain ⟨hl1, -, -⟩ := last_of hn
        obtain ⟨b, hb, hcell⟩ := own_at_ HS3.out.rd.row hl1
        subst hb
        have hgl : s.opn.getLast? = some (s.opn.getLastD []) := by
          have hne : s.opn ≠ [] := fun h => by rw [h] at hn; cases hn
          rw [List.getLastD_eq_getLast?, List.getLast?_eq_some_getLast hne]; rfl
        obtain ⟨last, hlast⟩ : ∃ last, last = s.opn.getLastD [] := ⟨_, rfl⟩
        rw [← hlast] at hcell hgl
        have HQ2 : Hid (res = if last = nm then .ok (leaveR { s with rest := r3 }) else .error 101) := by
          show res = _
          rw [HQ.out]
          unfold endRest
          show (if s.opn.getLast? = some nm then _ else _) = _
          rw [hgl]
          by_cases h : last = nm
          · rw [if_pos h, if_pos (by rw [h])]
          · rw [if_neg h, if_neg (fun e => h (by injection e))]
        have hz0 : (0 : Int) < (s.opn.length : Int) := by omega
        have hd0 : decide ((0 : Int) < (s.opn.length : Int)) = true := decide_eq_true hz0
        have hsub : (s.opn.length : Int) - 1 = (n : Int) := by omega
        have hnN : n < s.opn.length := by omega
        have hN0 : 0 < s.opn.length := by omega
        have hnN2 : (n : Int) < (s.opn.length : Int) := by omega
        have CLV := Lib.hid (fun w' (h' : XRd w' base g (.slice (some ⟨b, 0, none⟩) s.opn.length c) { s with rest := r3 } wr) => leave_any h' h0 ho2)
        clear hl1 hgl hlast hn h0 HQ
        by_cases heq : last = nm
        · have t1 : ((mkS last).toList == (mkS nm).toList) = true := by rw [heq]; simp
          have HE : Hid (res = .ok (leaveR { s with rest := r3 })) := HQ2.out.trans (if_pos heq)
          clear heq HQ2
          have HS3' := HS3
          clear HS3
          generalize s.opn.length = N at *
          go_upto_region 4 with fail
          refine wp_region_S (fun _ w' => w'.cell? ⟨g, 1, none⟩ = some (.slice (some ⟨b, 0, none⟩) N c) ∧ w'.cell? ⟨b, n, none⟩ = some (.string (mkS last))) (by kernel_rfl) ⟨c1, hcell⟩ (fun hS => ?_)
          refine wpAnyS_take (i := 0) (fun w' => w'.cell? ⟨g, 1, none⟩ = some (.slice (some ⟨b, 0, none⟩) N c) ∧ w'.cell? ⟨b, n, none⟩ = some (.string (mkS last))) (v := .pointer (some ⟨g, 0, none⟩)) rfl (by kernel_rfl) (by kernel_rfl) (by kernel_rfl) (fun _ _ _ h => h) (fun l w hw hS => hS) (fun _ _ => Iff.rfl) (by kernel_rfl) hS (fun w' hSw => ?_) (by kernel_rfl) (fun hS => ?_)
          · obtain ⟨s1, s2⟩ := hSw
            go_simp
          try simp only [List.getElem_toArray, List.getElem_cons_zero, List.getElem_cons_succ, Act.put, List.setIfInBounds_toArray, List.set_cons_zero, List.set_cons_succ]
          refine wpAnyS_take (i := 1) (fun w' => w'.cell? ⟨g, 1, none⟩ = some (.slice (some ⟨b, 0, none⟩) N c) ∧ w'.cell? ⟨b, n, none⟩ = some (.string (mkS last))) (v := .pointer (some ⟨g, 0, none⟩)) rfl (by kernel_rfl) (by kernel_rfl) (by kernel_rfl) (fun _ _ _ h => h) (fun l w hw hS => hS) (fun _ _ => Iff.rfl) (by kernel_rfl) hS (fun w' hSw => ?_) (by kernel_rfl) (fun hS => ?_)
          · obtain ⟨s1, s2⟩ := hSw
            go_simp
          try simp only [List.getElem_toArray, List.getElem_cons_zero, List.getElem_cons_succ, Act.put, List.setIfInBounds_toArray, List.set_cons_zero, List.set_cons_succ]
          refine wpAnyS_take (i := 2) (fun w' => w'.cell? ⟨g, 1, none⟩ = some (.slice (some ⟨b, 0, none⟩) N c) ∧ w'.cell? ⟨b, n, none⟩ = some (.string (mkS last))) (v := .pointer (some ⟨g, 1, none⟩)) rfl (by kernel_rfl) (by kernel_rfl) (by kernel_rfl) (fun _ _ _ h => h) (fun l w hw hS => hS) (fun _ _ => Iff.rfl) (by kernel_rfl) hS (fun w' hSw => ?_) (by kernel_rfl) (fun hS => ?_)
          · obtain ⟨s1, s2⟩ := hSw
            go_simp
          try simp only [List.getElem_toArray, List.getElem_cons_zero, List.getElem_cons_succ, Act.put, List.setIfInBounds_toArray, List.set_cons_zero, List.set_cons_succ]
          refine wpAnyS_take (i := 3) (fun w' => w'.cell? ⟨g, 1, none⟩ = some (.slice (some ⟨b, 0, none⟩) N c) ∧ w'.cell? ⟨b, n, none⟩ = some (.string (mkS last))) (v := .slice (some ⟨b, 0, none⟩) N c) rfl (by kernel_rfl) (by kernel_rfl) (by kernel_rfl) (fun _ _ _ h => h) (fun l w hw hS => hS) (fun _ _ => Iff.rfl) (by kernel_rfl) hS (fun w' hSw => ?_) (by kernel_rfl) (fun hS => ?_)
          · obtain ⟨s1, s2⟩ := hSw
            go_simp
          try simp only [List.getElem_toArray, List.getElem_cons_zero, List.getElem_cons_succ, Act.put, List.setIfInBounds_toArray, List.set_cons_zero, List.set_cons_succ]
          refine wpAnyS_take (i := 4) (fun w' => w'.cell? ⟨g, 1, none⟩ = some (.slice (some ⟨b, 0, none⟩) N c) ∧ w'.cell? ⟨b, n, none⟩ = some (.string (mkS last))) (v := .int .i64 (N : Int)) rfl (by kernel_rfl) (by kernel_rfl) (by kernel_rfl) (fun _ _ _ h => h) (fun l w hw hS => hS) (fun _ _ => Iff.rfl) (by kernel_rfl) hS (fun w' hSw => ?_) (by kernel_rfl) (fun hS => ?_)
          · obtain ⟨s1, s2⟩ := hSw
            go_simp
          try simp only [List.getElem_toArray, List.getElem_cons_zero, List.getElem_cons_succ, Act.put, List.setIfInBounds_toArray, List.set_cons_zero, List.set_cons_succ]
          refine wpAnyS_take (i := 5) (fun w' => w'.cell? ⟨g, 1, none⟩ = some (.slice (some ⟨b, 0, none⟩) N c) ∧ w'.cell? ⟨b, n, none⟩ = some (.string (mkS last))) (v := .bool true) rfl (by kernel_rfl) (by kernel_rfl) (by kernel_rfl) (fun _ _ _ h => h) (fun l w hw hS => hS) (fun _ _ => Iff.rfl) (by kernel_rfl) hS (fun w' hSw => ?_) (by kernel_rfl) (fun hS => ?_)
          · obtain ⟨s1, s2⟩ := hSw
            go_simp
            try omega
          try simp only [List.getElem_toArray, List.getElem_cons_zero, List.getElem_cons_succ, Act.put, List.setIfInBounds_toArray, List.set_cons_zero, List.set_cons_succ]
          refine wpAnyS_take (i := 6) (fun w' => w'.cell? ⟨g, 1, none⟩ = some (.slice (some ⟨b, 0, none⟩) N c) ∧ w'.cell? ⟨b, n, none⟩ = some (.string (mkS last))) (v := .bool true) rfl (by kernel_rfl) (by kernel_rfl) (by kernel_rfl) (fun _ _ _ h => h) (fun l w hw hS => hS) (fun _ _ => Iff.rfl) (by kernel_rfl) hS (fun w' hSw => ?_) (by kernel_rfl) (fun hS => ?_)
          · obtain ⟨s1, s2⟩ := hSw
            go_simp
          try simp only [List.getElem_toArray, List.getElem_cons_zero, List.getElem_cons_succ, Act.put, List.setIfInBounds_toArray, List.set_cons_zero, List.set_cons_succ]
          refine wpAnyS_take (i := 7) (fun w' => w'.cell? ⟨g, 1, none⟩ = some (.slice (some ⟨b, 0, none⟩) N c) ∧ w'.cell? ⟨b, n, none⟩ = some (.string (mkS last))) (v := .pointer (some ⟨g, 0, none⟩)) rfl (by kernel_rfl) (by kernel_rfl) (by kernel_rfl) (fun _ _ _ h => h) (fun l w hw hS => hS) (fun _ _ => Iff.rfl) (by kernel_rfl) hS (fun w' hSw => ?_) (by kernel_rfl) (fun hS => ?_)
          · obtain ⟨s1, s2⟩ := hSw
            go_simp
          try simp only [List.getElem_toArray, List.getElem_cons_zero, List.getElem_cons_succ, Act.put, List.setIfInBounds_toArray, List.set_cons_zero, List.set_cons_succ]
          refine wpAnyS_take (i := 8) (fun w' => w'.cell? ⟨g, 1, none⟩ = some (.slice (some ⟨b, 0, none⟩) N c) ∧ w'.cell? ⟨b, n, none⟩ = some (.string (mkS last))) (v := .pointer (some ⟨g, 0, none⟩)) rfl (by kernel_rfl) (by kernel_rfl) (by kernel_rfl) (fun _ _ _ h => h) (fun l w hw hS => hS) (fun _ _ => Iff.rfl) (by kernel_rfl) hS (fun w' hSw => ?_) (by kernel_rfl) (fun hS => ?_)
          · obtain ⟨s1, s2⟩ := hSw
            go_simp
          try simp only [List.getElem_toArray, List.getElem_cons_zero, List.getElem_cons_succ, Act.put, List.setIfInBounds_toArray, List.set_cons_zero, List.set_cons_succ]
          refine wpAnyS_take (i := 9) (fun w' => w'.cell? ⟨g, 1, none⟩ = some (.slice (some ⟨b, 0, none⟩) N c) ∧ w'.cell? ⟨b, n, none⟩ = some (.string (mkS last))) (v := .pointer (some ⟨g, 1, none⟩)) rfl (by kernel_rfl) (by kernel_rfl) (by kernel_rfl) (fun _ _ _ h => h) (fun l w hw hS => hS) (fun _ _ => Iff.rfl) (by kernel_rfl) hS (fun w' hSw => ?_) (by kernel_rfl) (fun hS => ?_)
          · obtain ⟨s1, s2⟩ := hSw
            go_simp
          try simp only [List.getElem_toArray, List.getElem_cons_zero, List.getElem_cons_succ, Act.put, List.setIfInBounds_toArray, List.set_cons_zero, List.set_cons_succ]
          refine wpAnyS_take (i := 10) (fun w' => w'.cell? ⟨g, 1, none⟩ = some (.slice (some ⟨b, 0, none⟩) N c) ∧ w'.cell? ⟨b, n, none⟩ = some (.string (mkS last))) (v := .slice (some ⟨b, 0, none⟩) N c) rfl (by kernel_rfl) (by kernel_rfl) (by kernel_rfl) (fun _ _ _ h => h) (fun l w hw hS => hS) (fun _ _ => Iff.rfl) (by kernel_rfl) hS (fun w' hSw => ?_) (by kernel_rfl) (fun hS => ?_)
          · obtain ⟨s1, s2⟩ := hSw
            go_simp
          try simp only [List.getElem_toArray, List.getElem_cons_zero, List.getElem_cons_succ, Act.put, List.setIfInBounds_toArray, List.set_cons_zero, List.set_cons_succ]
          refine wpAnyS_take (i := 11) (fun w' => w'.cell? ⟨g, 1, none⟩ = some (.slice (some ⟨b, 0, none⟩) N c) ∧ w'.cell? ⟨b, n, none⟩ = some (.string (mkS last))) (v := .pointer (some ⟨g, 0, none⟩)) rfl (by kernel_rfl) (by kernel_rfl) (by kernel_rfl) (fun _ _ _ h => h) (fun l w hw hS => hS) (fun _ _ => Iff.rfl) (by kernel_rfl) hS (fun w' hSw => ?_) (by kernel_rfl) (fun hS => ?_)
          · obtain ⟨s1, s2⟩ := hSw
            go_simp
          try simp only [List.getElem_toArray, List.getElem_cons_zero, List.getElem_cons_succ, Act.put, List.setIfInBounds_toArray, List.set_cons_zero, List.set_cons_succ]
          refine wpAnyS_take (i := 12) (fun w' => w'.cell? ⟨g, 1, none⟩ = some (.slice (some ⟨b, 0, none⟩) N c) ∧ w'.cell? ⟨b, n, none⟩ = some (.string (mkS last))) (v := .pointer (some ⟨g, 0, none⟩)) rfl (by kernel_rfl) (by kernel_rfl) (by kernel_rfl) (fun _ _ _ h => h) (fun l w hw hS => hS) (fun _ _ => Iff.rfl) (by kernel_rfl) hS (fun w' hSw => ?_) (by kernel_rfl) (fun hS => ?_)
          · obtain ⟨s1, s2⟩ := hSw
            go_simp
          try simp only [List.getElem_toArray, List.getElem_cons_zero, List.getElem_cons_succ, Act.put, List.setIfInBounds_toArray, List.set_cons_zero, List.set_cons_succ]
          refine wpAnyS_take (i := 13) (fun w' => w'.cell? ⟨g, 1, none⟩ = some (.slice (some ⟨b, 0, none⟩) N c) ∧ w'.cell? ⟨b, n, none⟩ = some (.string (mkS last))) (v := .pointer (some ⟨g, 1, none⟩)) rfl (by kernel_rfl) (by kernel_rfl) (by kernel_rfl) (fun _ _ _ h => h) (fun l w hw hS => hS) (fun _ _ => Iff.rfl) (by kernel_rfl) hS (fun w' hSw => ?_) (by kernel_rfl) (fun hS => ?_)
          · obtain ⟨s1, s2⟩ := hSw
            go_simp
          try simp only [List.getElem_toArray, List.getElem_cons_zero, List.getElem_cons_succ, Act.put, List.setIfInBounds_toArray, List.set_cons_zero, List.set_cons_succ]
          refine wpAnyS_take (i := 14) (fun w' => w'.cell? ⟨g, 1, none⟩ = some (.slice (some ⟨b, 0, none⟩) N c) ∧ w'.cell? ⟨b, n, none⟩ = some (.string (mkS last))) (v := .slice (some ⟨b, 0, none⟩) N c) rfl (by kernel_rfl) (by kernel_rfl) (by kernel_rfl) (fun _ _ _ h => h) (fun l w hw hS => hS) (fun _ _ => Iff.rfl) (by kernel_rfl) hS (fun w' hSw => ?_) (by kernel_rfl) (fun hS => ?_)
          · obtain ⟨s1, s2⟩ := hSw
            go_simp
          try simp only [List.getElem_toArray, List.getElem_cons_zero, List.getElem_cons_succ, Act.put, List.setIfInBounds_toArray, List.set_cons_zero, List.set_cons_succ]
          refine wpAnyS_take (i := 15) (fun w' => w'.cell? ⟨g, 1, none⟩ = some (.slice (some ⟨b, 0, none⟩) N c) ∧ w'.cell? ⟨b, n, none⟩ = some (.string (mkS last))) (v := .int .i64 (N : Int)) rfl (by kernel_rfl) (by kernel_rfl) (by kernel_rfl) (fun _ _ _ h => h) (fun l w hw hS => hS) (fun _ _ => Iff.rfl) (by kernel_rfl) hS (fun w' hSw => ?_) (by kernel_rfl) (fun hS => ?_)
          · obtain ⟨s1, s2⟩ := hSw
            go_simp
          try simp only [List.getElem_toArray, List.getElem_cons_zero, List.getElem_cons_succ, Act.put, List.setIfInBounds_toArray, List.set_cons_zero, List.set_cons_succ]
          refine wpAnyS_take (i := 16) (fun w' => w'.cell? ⟨g, 1, none⟩ = some (.slice (some ⟨b, 0, none⟩) N c) ∧ w'.cell? ⟨b, n, none⟩ = some (.string (mkS last))) (v := .int .i64 (n : Int)) rfl (by kernel_rfl) (by kernel_rfl) (by kernel_rfl) (fun _ _ _ h => h) (fun l w hw hS => hS) (fun _ _ => Iff.rfl) (by kernel_rfl) hS (fun w' hSw => ?_) (by kernel_rfl) (fun hS => ?_)
          · obtain ⟨s1, s2⟩ := hSw
            go_simp
            exact wrap_small _ (by omega) (by omega)
          try simp only [List.getElem_toArray, List.getElem_cons_zero, List.getElem_cons_succ, Act.put, List.setIfInBounds_toArray, List.set_cons_zero, List.set_cons_succ]
          refine wpAnyS_take (i := 17) (fun w' => w'.cell? ⟨g, 1, none⟩ = some (.slice (some ⟨b, 0, none⟩) N c) ∧ w'.cell? ⟨b, n, none⟩ = some (.string (mkS last))) (v := .pointer (some ⟨b, n, none⟩)) rfl (by kernel_rfl) (by kernel_rfl) (by kernel_rfl) (fun _ _ _ h => h) (fun l w hw hS => hS) (fun _ _ => Iff.rfl) (by kernel_rfl) hS (fun w' hSw => ?_) (by kernel_rfl) (fun hS => ?_)
          · obtain ⟨s1, s2⟩ := hSw
            go_simp
          try simp only [List.getElem_toArray, List.getElem_cons_zero, List.getElem_cons_succ, Act.put, List.setIfInBounds_toArray, List.set_cons_zero, List.set_cons_succ]
          refine wpAnyS_take (i := 18) (fun w' => w'.cell? ⟨g, 1, none⟩ = some (.slice (some ⟨b, 0, none⟩) N c) ∧ w'.cell? ⟨b, n, none⟩ = some (.string (mkS last))) (v := .string (mkS last)) rfl (by kernel_rfl) (by kernel_rfl) (by kernel_rfl) (fun _ _ _ h => h) (fun l w hw hS => hS) (fun _ _ => Iff.rfl) (by kernel_rfl) hS (fun w' hSw => ?_) (by kernel_rfl) (fun hS => ?_)
          · obtain ⟨s1, s2⟩ := hSw
            go_simp
          try simp only [List.getElem_toArray, List.getElem_cons_zero, List.getElem_cons_succ, Act.put, List.setIfInBounds_toArray, List.set_cons_zero, List.set_cons_succ]
          refine wpAnyS_take (i := 19) (fun w' => w'.cell? ⟨g, 1, none⟩ = some (.slice (some ⟨b, 0, none⟩) N c) ∧ w'.cell? ⟨b, n, none⟩ = some (.string (mkS last))) (v := .string (mkS nm)) rfl (by kernel_rfl) (by kernel_rfl) (by kernel_rfl) (fun _ _ _ h => h) (fun l w hw hS => hS) (fun _ _ => Iff.rfl) (by kernel_rfl) hS (fun w' hSw => ?_) (by kernel_rfl) (fun hS => ?_)
          · obtain ⟨s1, s2⟩ := hSw
            go_simp
          try simp only [List.getElem_toArray, List.getElem_cons_zero, List.getElem_cons_succ, Act.put, List.setIfInBounds_toArray, List.set_cons_zero, List.set_cons_succ]
          refine wpAnyS_take (i := 20) (fun w' => w'.cell? ⟨g, 1, none⟩ = some (.slice (some ⟨b, 0, none⟩) N c) ∧ w'.cell? ⟨b, n, none⟩ = some (.string (mkS last))) (v := .bool true) rfl (by kernel_rfl) (by kernel_rfl) (by kernel_rfl) (fun _ _ _ h => h) (fun l w hw hS => hS) (fun _ _ => Iff.rfl) (by kernel_rfl) hS (fun w' hSw => ?_) (by kernel_rfl) (fun hS => ?_)
          · obtain ⟨s1, s2⟩ := hSw
            go_simp
          try simp only [List.getElem_toArray, List.getElem_cons_zero, List.getElem_cons_succ, Act.put, List.setIfInBounds_toArray, List.set_cons_zero, List.set_cons_succ]
          refine wpAnyS_take (i := 21) (fun w' => w'.cell? ⟨g, 1, none⟩ = some (.slice (some ⟨b, 0, none⟩) N c) ∧ w'.cell? ⟨b, n, none⟩ = some (.string (mkS last))) (v := .bool true) rfl (by kernel_rfl) (by kernel_rfl) (by kernel_rfl) (fun _ _ _ h => h) (fun l w hw hS => hS) (fun _ _ => Iff.rfl) (by kernel_rfl) hS (fun w' hSw => ?_) (by kernel_rfl) (fun hS => ?_)
          · obtain ⟨s1, s2⟩ := hSw
            go_simp
          try simp only [List.getElem_toArray, List.getElem_cons_zero, List.getElem_cons_succ, Act.put, List.setIfInBounds_toArray, List.set_cons_zero, List.set_cons_succ]
          refine wpAnyS_one (i := 22) (by kernel_rfl) rfl (fun K7 hK7 => ?_)
          go_simp
          refine (must_yes 101 _).mono ?_
          rintro e wm ⟨rfl, rfl⟩
          refine hK7.out _ _ ⟨c1, hcell⟩ (fun hS => ?_)
          clear hK7 K7
          try simp only [List.getElem_toArray, List.getElem_cons_zero, List.getElem_cons_succ, Act.put, List.setIfInBounds_toArray, List.set_cons_zero, List.set_cons_succ]
          refine wpAnyS_done (by kernel_rfl) ?_ _
          clear hS
          go_wp2_with fail
          refine (CLV.out w3.drew HS3'.out.rd.drew).mono ?_
          rintro e w4 ⟨ht4, vo', s', hx4, hf4, ⟨pc, v, hr4, rfl, A4, c4, rfl, hl4, hm4, hA4⟩ | ⟨k, hr4, -⟩⟩
          rotate_left
          · cases hr4
          have hr4 : res = .ok (pc, s') := HE.out.trans hr4
          have hres4 := HS3'.out.res.turned ht4.from_drew HS3'.out.ne
          have HB4 := Lib.hid (put4_blk (a := .int .i64 pc.kind) (b := .string (mkS pc.name)) (c := .slice A4 pc.attrs.length c4) (d := .string (mkS pc.text)) hres4)
          have HV := Lib.hid (told_put (w' := put4 w4 p (.int .i64 pc.kind) (.string (mkS pc.name)) (.slice A4 pc.attrs.length c4) (.string (mkS pc.text))) (HS3'.out.t.trans ht4.from_drew (Fresh.refl _ _)) hx4 (fun k hk => by
            rcases hf4 k hk with h | h
            · exact .inl h
            · have h2 : w3.heap.size ≤ k := h
              have := HS3'.out.t.size
              exact .inr (by omega)) hr4 hres4 HS3'.out.new hl4 hm4 hA4 put4_turned)
          have b0 := hres4.cell 0
          have b1 := hres4.cell 1
          have b2 := hres4.cell 2
          have b3 := hres4.cell 3
          have f0 := hres4.free 0
          have f1 := hres4.free 1
          have f2 := hres4.free 2
          have f3 := hres4.free 3
          simp at b0 b1 b2 b3
          clear hf4 hx4 ht4 hA4 hres4 hr4 CLV
          unfold pcV at HV ⊢
          unfold put4 at HV HB4
          go_wp2_with fail
          refine bodyPost_ret (v := .agg #[.int .i64 pc.kind, .string (mkS pc.name), .slice A4 pc.attrs.length c4, .string (mkS pc.text)]) ?_ rfl HV.out
          refine (results_one rfl _ (ad := ⟨p, 0, none⟩) rfl).trans ?_
          exact pc_load HB4.out
        · have t1 : ((mkS last).toList == (mkS nm).toList) = false := str_ne (fun e => heq (mkS_inj e))
          have HE : Hid (res = .error 101) := HQ2.out.trans (if_neg heq)
          have HS3' := Lib.hid (And.intro HS3.out.t.drew HS3.out.rd.drew)
          clear heq HQ2 HS3 CLV
          generalize s.opn.length = N at *
          go_upto_region 4 with fail
          refine wp_region_S (fun _ w' => w'.cell? ⟨g, 1, none⟩ = some (.slice (some ⟨b, 0, none⟩) N c) ∧ w'.cell? ⟨b, n, none⟩ = some (.string (mkS last))) (by kernel_rfl) ⟨c1, hcell⟩ (fun hS => ?_)
          refine wpAnyS_take (i := 0) (fun w' => w'.cell? ⟨g, 1, none⟩ = some (.slice (some ⟨b, 0, none⟩) N c) ∧ w'.cell? ⟨b, n, none⟩ = some (.string (mkS last))) (v := .pointer (some ⟨g, 0, none⟩)) rfl (by kernel_rfl) (by kernel_rfl) (by kernel_rfl) (fun _ _ _ h => h) (fun l w hw hS => hS) (fun _ _ => Iff.rfl) (by kernel_rfl) hS (fun w' hSw => ?_) (by kernel_rfl) (fun hS => ?_)
          · obtain ⟨s1, s2⟩ := hSw
            go_simp
          try simp only [List.getElem_toArray, List.getElem_cons_zero, List.getElem_cons_succ, Act.put, List.setIfInBounds_toArray, List.set_cons_zero, List.set_cons_succ]
          refine wpAnyS_take (i := 1) (fun w' => w'.cell? ⟨g, 1, none⟩ = some (.slice (some ⟨b, 0, none⟩) N c) ∧ w'.cell? ⟨b, n, none⟩ = some (.string (mkS last))) (v := .pointer (some ⟨g, 0, none⟩)) rfl (by kernel_rfl) (by kernel_rfl) (by kernel_rfl) (fun _ _ _ h => h) (fun l w hw hS => hS) (fun _ _ => Iff.rfl) (by kernel_rfl) hS (fun w' hSw => ?_) (by kernel_rfl) (fun hS => ?_)
          · obtain ⟨s1, s2⟩ := hSw
            go_simp
          try simp only [List.getElem_toArray, List.getElem_cons_zero, List.getElem_cons_succ, Act.put, List.setIfInBounds_toArray, List.set_cons_zero, List.set_cons_succ]
          refine wpAnyS_take (i := 2) (fun w' => w'.cell? ⟨g, 1, none⟩ = some (.slice (some ⟨b, 0, none⟩) N c) ∧ w'.cell? ⟨b, n, none⟩ = some (.string (mkS last))) (v := .pointer (some ⟨g, 1, none⟩)) rfl (by kernel_rfl) (by kernel_rfl) (by kernel_rfl) (fun _ _ _ h => h) (fun l w hw hS => hS) (fun _ _ => Iff.rfl) (by kernel_rfl) hS (fun w' hSw => ?_) (by kernel_rfl) (fun hS => ?_)
          · obtain ⟨s1, s2⟩ := hSw
            go_simp
          try simp only [List.getElem_toArray, List.getElem_cons_zero, List.getElem_cons_succ, Act.put, List.setIfInBounds_toArray, List.set_cons_zero, List.set_cons_succ]
          refine wpAnyS_take (i := 3) (fun w' => w'.cell? ⟨g, 1, none⟩ = some (.slice (some ⟨b, 0, none⟩) N c) ∧ w'.cell? ⟨b, n, none⟩ = some (.string (mkS last))) (v := .slice (some ⟨b, 0, none⟩) N c) rfl (by kernel_rfl) (by kernel_rfl) (by kernel_rfl) (fun _ _ _ h => h) (fun l w hw hS => hS) (fun _ _ => Iff.rfl) (by kernel_rfl) hS (fun w' hSw => ?_) (by kernel_rfl) (fun hS => ?_)
          · obtain ⟨s1, s2⟩ := hSw
            go_simp
          try simp only [List.getElem_toArray, List.getElem_cons_zero, List.getElem_cons_succ, Act.put, List.setIfInBounds_toArray, List.set_cons_zero, List.set_cons_succ]
          refine wpAnyS_take (i := 4) (fun w' => w'.cell? ⟨g, 1, none⟩ = some (.slice (some ⟨b, 0, none⟩) N c) ∧ w'.cell? ⟨b, n, none⟩ = some (.string (mkS last))) (v := .int .i64 (N : Int)) rfl (by kernel_rfl) (by kernel_rfl) (by kernel_rfl) (fun _ _ _ h => h) (fun l w hw hS => hS) (fun _ _ => Iff.rfl) (by kernel_rfl) hS (fun w' hSw => ?_) (by kernel_rfl) (fun hS => ?_)
          · obtain ⟨s1, s2⟩ := hSw
            go_simp
          try simp only [List.getElem_toArray, List.getElem_cons_zero, List.getElem_cons_succ, Act.put, List.setIfInBounds_toArray, List.set_cons_zero, List.set_cons_succ]
          refine wpAnyS_take (i := 5) (fun w' => w'.cell? ⟨g, 1, none⟩ = some (.slice (some ⟨b, 0, none⟩) N c) ∧ w'.cell? ⟨b, n, none⟩ = some (.string (mkS last))) (v := .bool true) rfl (by kernel_rfl) (by kernel_rfl) (by kernel_rfl) (fun _ _ _ h => h) (fun l w hw hS => hS) (fun _ _ => Iff.rfl) (by kernel_rfl) hS (fun w' hSw => ?_) (by kernel_rfl) (fun hS => ?_)
          · obtain ⟨s1, s2⟩ := hSw
            go_simp
            try omega
          try simp only [List.getElem_toArray, List.getElem_cons_zero, List.getElem_cons_succ, Act.put, List.setIfInBounds_toArray, List.set_cons_zero, List.set_cons_succ]
          refine wpAnyS_take (i := 6) (fun w' => w'.cell? ⟨g, 1, none⟩ = some (.slice (some ⟨b, 0, none⟩) N c) ∧ w'.cell? ⟨b, n, none⟩ = some (.string (mkS last))) (v := .bool true) rfl (by kernel_rfl) (by kernel_rfl) (by kernel_rfl) (fun _ _ _ h => h) (fun l w hw hS => hS) (fun _ _ => Iff.rfl) (by kernel_rfl) hS (fun w' hSw => ?_) (by kernel_rfl) (fun hS => ?_)
          · obtain ⟨s1, s2⟩ := hSw
            go_simp
          try simp only [List.getElem_toArray, List.getElem_cons_zero, List.getElem_cons_succ, Act.put, List.setIfInBounds_toArray, List.set_cons_zero, List.set_cons_succ]
          refine wpAnyS_take (i := 7) (fun w' => w'.cell? ⟨g, 1, none⟩ = some (.slice (some ⟨b, 0, none⟩) N c) ∧ w'.cell? ⟨b, n, none⟩ = some (.string (mkS last))) (v := .pointer (some ⟨g, 0, none⟩)) rfl (by kernel_rfl) (by kernel_rfl) (by kernel_rfl) (fun _ _ _ h => h) (fun l w hw hS => hS) (fun _ _ => Iff.rfl) (by kernel_rfl) hS (fun w' hSw => ?_) (by kernel_rfl) (fun hS => ?_)
          · obtain ⟨s1, s2⟩ := hSw
            go_simp
          try simp only [List.getElem_toArray, List.getElem_cons_zero, List.getElem_cons_succ, Act.put, List.setIfInBounds_toArray, List.set_cons_zero, List.set_cons_succ]
          refine wpAnyS_take (i := 8) (fun w' => w'.cell? ⟨g, 1, none⟩ = some (.slice (some ⟨b, 0, none⟩) N c) ∧ w'.cell? ⟨b, n, none⟩ = some (.string (mkS last))) (v := .pointer (some ⟨g, 0, none⟩)) rfl (by kernel_rfl) (by kernel_rfl) (by kernel_rfl) (fun _ _ _ h => h) (fun l w hw hS => hS) (fun _ _ => Iff.rfl) (by kernel_rfl) hS (fun w' hSw => ?_) (by kernel_rfl) (fun hS => ?_)
          · obtain ⟨s1, s2⟩ := hSw
            go_simp
          try simp only [List.getElem_toArray, List.getElem_cons_zero, List.getElem_cons_succ, Act.put, List.setIfInBounds_toArray, List.set_cons_zero, List.set_cons_succ]
          refine wpAnyS_take (i := 9) (fun w' => w'.cell? ⟨g, 1, none⟩ = some (.slice (some ⟨b, 0, none⟩) N c) ∧ w'.cell? ⟨b, n, none⟩ = some (.string (mkS last))) (v := .pointer (some ⟨g, 1, none⟩)) rfl (by kernel_rfl) (by kernel_rfl) (by kernel_rfl) (fun _ _ _ h => h) (fun l w hw hS => hS) (fun _ _ => Iff.rfl) (by kernel_rfl) hS (fun w' hSw => ?_) (by kernel_rfl) (fun hS => ?_)
          · obtain ⟨s1, s2⟩ := hSw
            go_simp
          try simp only [List.getElem_toArray, List.getElem_cons_zero, List.getElem_cons_succ, Act.put, List.setIfInBounds_toArray, List.set_cons_zero, List.set_cons_succ]
          refine wpAnyS_take (i := 10) (fun w' => w'.cell? ⟨g, 1, none⟩ = some (.slice (some ⟨b, 0, none⟩) N c) ∧ w'.cell? ⟨b, n, none⟩ = some (.string (mkS last))) (v := .slice (some ⟨b, 0, none⟩) N c) rfl (by kernel_rfl) (by kernel_rfl) (by kernel_rfl) (fun _ _ _ h => h) (fun l w hw hS => hS) (fun _ _ => Iff.rfl) (by kernel_rfl) hS (fun w' hSw => ?_) (by kernel_rfl) (fun hS => ?_)
          · obtain ⟨s1, s2⟩ := hSw
            go_simp
          try simp only [List.getElem_toArray, List.getElem_cons_zero, List.getElem_cons_succ, Act.put, List.setIfInBounds_toArray, List.set_cons_zero, List.set_cons_succ]
          refine wpAnyS_take (i := 11) (fun w' => w'.cell? ⟨g, 1, none⟩ = some (.slice (some ⟨b, 0, none⟩) N c) ∧ w'.cell? ⟨b, n, none⟩ = some (.string (mkS last))) (v := .pointer (some ⟨g, 0, none⟩)) rfl (by kernel_rfl) (by kernel_rfl) (by kernel_rfl) (fun _ _ _ h => h) (fun l w hw hS => hS) (fun _ _ => Iff.rfl) (by kernel_rfl) hS (fun w' hSw => ?_) (by kernel_rfl) (fun hS => ?_)
          · obtain ⟨s1, s2⟩ := hSw
            go_simp
          try simp only [List.getElem_toArray, List.getElem_cons_zero, List.getElem_cons_succ, Act.put, List.setIfInBounds_toArray, List.set_cons_zero, List.set_cons_succ]
          refine wpAnyS_take (i := 12) (fun w' => w'.cell? ⟨g, 1, none⟩ = some (.slice (some ⟨b, 0, none⟩) N c) ∧ w'.cell? ⟨b, n, none⟩ = some (.string (mkS last))) (v := .pointer (some ⟨g, 0, none⟩)) rfl (by kernel_rfl) (by kernel_rfl) (by kernel_rfl) (fun _ _ _ h => h) (fun l w hw hS => hS) (fun _ _ => Iff.rfl) (by kernel_rfl) hS (fun w' hSw => ?_) (by kernel_rfl) (fun hS => ?_)
          · obtain ⟨s1, s2⟩ := hSw
            go_simp
          try simp only [List.getElem_toArray, List.getElem_cons_zero, List.getElem_cons_succ, Act.put, List.setIfInBounds_toArray, List.set_cons_zero, List.set_cons_succ]
          refine wpAnyS_take (i := 13) (fun w' => w'.cell? ⟨g, 1, none⟩ = some (.slice (some ⟨b, 0, none⟩) N c) ∧ w'.cell? ⟨b, n, none⟩ = some (.string (mkS last))) (v := .pointer (some ⟨g, 1, none⟩)) rfl (by kernel_rfl) (by kernel_rfl) (by kernel_rfl) (fun _ _ _ h => h) (fun l w hw hS => hS) (fun _ _ => Iff.rfl) (by kernel_rfl) hS (fun w' hSw => ?_) (by kernel_rfl) (fun hS => ?_)
          · obtain ⟨s1, s2⟩ := hSw
            go_simp
          try simp only [List.getElem_toArray, List.getElem_cons_zero, List.getElem_cons_succ, Act.put, List.setIfInBounds_toArray, List.set_cons_zero, List.set_cons_succ]
          refine wpAnyS_take (i := 14) (fun w' => w'.cell? ⟨g, 1, none⟩ = some (.slice (some ⟨b, 0, none⟩) N c) ∧ w'.cell? ⟨b, n, none⟩ = some (.string (mkS last))) (v := .slice (some ⟨b, 0, none⟩) N c) rfl (by kernel_rfl) (by kernel_rfl) (by kernel_rfl) (fun _ _ _ h => h) (fun l w hw hS => hS) (fun _ _ => Iff.rfl) (by kernel_rfl) hS (fun w' hSw => ?_) (by kernel_rfl) (fun hS => ?_)
          · obtain ⟨s1, s2⟩ := hSw
            go_simp
          try simp only [List.getElem_toArray, List.getElem_cons_zero, List.getElem_cons_succ, Act.put, List.setIfInBounds_toArray, List.set_cons_zero, List.set_cons_succ]
          refine wpAnyS_take (i := 15) (fun w' => w'.cell? ⟨g, 1, none⟩ = some (.slice (some ⟨b, 0, none⟩) N c) ∧ w'.cell? ⟨b, n, none⟩ = some (.string (mkS last))) (v := .int .i64 (N : Int)) rfl (by kernel_rfl) (by kernel_rfl) (by kernel_rfl) (fun _ _ _ h => h) (fun l w hw hS => hS) (fun _ _ => Iff.rfl) (by kernel_rfl) hS (fun w' hSw => ?_) (by kernel_rfl) (fun hS => ?_)
          · obtain ⟨s1, s2⟩ := hSw
            go_simp
          try simp only [List.getElem_toArray, List.getElem_cons_zero, List.getElem_cons_succ, Act.put, List.setIfInBounds_toArray, List.set_cons_zero, List.set_cons_succ]
          refine wpAnyS_take (i := 16) (fun w' => w'.cell? ⟨g, 1, none⟩ = some (.slice (some ⟨b, 0, none⟩) N c) ∧ w'.cell? ⟨b, n, none⟩ = some (.string (mkS last))) (v := .int .i64 (n : Int)) rfl (by kernel_rfl) (by kernel_rfl) (by kernel_rfl) (fun _ _ _ h => h) (fun l w hw hS => hS) (fun _ _ => Iff.rfl) (by kernel_rfl) hS (fun w' hSw => ?_) (by kernel_rfl) (fun hS => ?_)
          · obtain ⟨s1, s2⟩ := hSw
            go_simp
            exact wrap_small _ (by omega) (by omega)
          try simp only [List.getElem_toArray, List.getElem_cons_zero, List.getElem_cons_succ, Act.put, List.setIfInBounds_toArray, List.set_cons_zero, List.set_cons_succ]
          refine wpAnyS_take (i := 17) (fun w' => w'.cell? ⟨g, 1, none⟩ = some (.slice (some ⟨b, 0, none⟩) N c) ∧ w'.cell? ⟨b, n, none⟩ = some (.string (mkS last))) (v := .pointer (some ⟨b, n, none⟩)) rfl (by kernel_rfl) (by kernel_rfl) (by kernel_rfl) (fun _ _ _ h => h) (fun l w hw hS => hS) (fun _ _ => Iff.rfl) (by kernel_rfl) hS (fun w' hSw => ?_) (by kernel_rfl) (fun hS => ?_)
          · obtain ⟨s1, s2⟩ := hSw
            go_simp
          try simp only [List.getElem_toArray, List.getElem_cons_zero, List.getElem_cons_succ, Act.put, List.setIfInBounds_toArray, List.set_cons_zero, List.set_cons_succ]
          refine wpAnyS_take (i := 18) (fun w' => w'.cell? ⟨g, 1, none⟩ = some (.slice (some ⟨b, 0, none⟩) N c) ∧ w'.cell? ⟨b, n, none⟩ = some (.string (mkS last))) (v := .string (mkS last)) rfl (by kernel_rfl) (by kernel_rfl) (by kernel_rfl) (fun _ _ _ h => h) (fun l w hw hS => hS) (fun _ _ => Iff.rfl) (by kernel_rfl) hS (fun w' hSw => ?_) (by kernel_rfl) (fun hS => ?_)
          · obtain ⟨s1, s2⟩ := hSw
            go_simp
          try simp only [List.getElem_toArray, List.getElem_cons_zero, List.getElem_cons_succ, Act.put, List.setIfInBounds_toArray, List.set_cons_zero, List.set_cons_succ]
          refine wpAnyS_take (i := 19) (fun w' => w'.cell? ⟨g, 1, none⟩ = some (.slice (some ⟨b, 0, none⟩) N c) ∧ w'.cell? ⟨b, n, none⟩ = some (.string (mkS last))) (v := .string (mkS nm)) rfl (by kernel_rfl) (by kernel_rfl) (by kernel_rfl) (fun _ _ _ h => h) (fun l w hw hS => hS) (fun _ _ => Iff.rfl) (by kernel_rfl) hS (fun w' hSw => ?_) (by kernel_rfl) (fun hS => ?_)
          · obtain ⟨s1, s2⟩ := hSw
            go_simp
          try simp only [List.getElem_toArray, List.getElem_cons_zero, List.getElem_cons_succ, Act.put, List.setIfInBounds_toArray, List.set_cons_zero, List.set_cons_succ]
          refine wpAnyS_take (i := 20) (fun w' => w'.cell? ⟨g, 1, none⟩ = some (.slice (some ⟨b, 0, none⟩) N c) ∧ w'.cell? ⟨b, n, none⟩ = some (.string (mkS last))) (v := .bool false) rfl (by kernel_rfl) (by kernel_rfl) (by kernel_rfl) (fun _ _ _ h => h) (fun l w hw hS => hS) (fun _ _ => Iff.rfl) (by kernel_rfl) hS (fun w' hSw => ?_) (by kernel_rfl) (fun hS => ?_)
          · obtain ⟨s1, s2⟩ := hSw
            go_simp
          try simp only [List.getElem_toArray, List.getElem_cons_zero, List.getElem_cons_succ, Act.put, List.setIfInBounds_toArray, List.set_cons_zero, List.set_cons_succ]
          refine wpAnyS_take (i := 21) (fun w' => w'.cell? ⟨g, 1, none⟩ = some (.slice (some ⟨b, 0, none⟩) N c) ∧ w'.cell? ⟨b, n, none⟩ = some (.string (mkS last))) (v := .bool false) rfl (by kernel_rfl) (by kernel_rfl) (by kernel_rfl) (fun _ _ _ h => h) (fun l w hw hS => hS) (fun _ _ => Iff.rfl) (by kernel_rfl) hS (fun w' hSw => ?_) (by kernel_rfl) (fun hS => ?_)
          · obtain ⟨s1, s2⟩ := hSw
            go_simp
          try simp only [List.getElem_toArray, List.getElem_cons_zero, List.getElem_cons_succ, Act.put, List.setIfInBounds_toArray, List.set_cons_zero, List.set_cons_succ]
          refine wpAnyS_one (i := 22) (by kernel_rfl) rfl (fun K7 hK7 => ?_)
          go_simp
          refine (must_no 101 _).mono ?_
          rintro e wm ⟨rfl, rfl⟩
          unfold gaveUp
          go_simp
          exact ⟨rfl, Told.mkNo HS3'.out.1 HS3'.out.2 HE.out⟩
end
end Go.Proofs.YtljldbdjkjllhaaGreatDoor
