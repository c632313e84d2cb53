/- What stands next. -/
import Derived.Test.YtljldbdjkjllhaaGreatDoorZcg
/- What stands next. -/
namespace Go.Proofs.YtljldbdjkjllhaaGreatDoor
set_option linter.unusedSimpArgs false
set_option linter.unusedVariables false
open Go.RowKit

theorem enc4 (c : Nat) : (Lib.encodeRune (c : Int)).length ≤ 4 := by have := (Lib.runeCells_le (c : Int)).2; rw [Lib.runeCells_length] at this; exact this
theorem runR_out : ∀ (k : Nat) {out l : Bs} {x : Bs × Bs}, runR k out l = .ok x → x.1.length + 4 * x.2.length ≤ out.length + 4 * l.length
  | 0, _, _, _, h => by cases h
  | k + 1, out, l, x, h => by
    unfold runR at h
    obtain ⟨y, hy, h⟩ := bind_ok h
    have h0 : y.1.length + y.2.length = l.length := takeR_both hy
    split at h
    · rename_i hp
      obtain ⟨z, hz, h⟩ := bind_ok h
      have h1 := entityR_len hz; have h2 := trim_lt hp (by decide); have h3 := runR_out k h; have h4 := enc4 z.1
      simp only [List.length_append] at h3; omega
    · split at h
      · obtain ⟨z, hz, h⟩ := bind_ok h
        have h1 := upToR_both hz; have h2 := trim_len y.2 cdataB; have h3 := runR_out k h
        simp only [List.length_append] at h3; omega
      · split at h
        · obtain ⟨z, hz, h⟩ := bind_ok h
          obtain ⟨u, hu, h⟩ := bind_ok h
          have h1 := upToR_both hz; have h2 := trim_len y.2 [60, 33, 45, 45]; have h3 := (wantR_len hu).1; have h4 := runR_out k h
          simp only [List.length_append] at h4; omega
        · split at h
          · obtain ⟨z, hz, h⟩ := bind_ok h
            obtain ⟨u, hu, h⟩ := bind_ok h
            have h1 := upToR_both hu; have h2 := trim_len y.2 [60, 63]; have h3 := nameR_len hz; have h4 := runR_out k h
            simp only [List.length_append] at h4; omega
          · split at h
            · cases h
            · injection h with h; subst h; simp only [List.length_append]; omega
section
variable {w w' w0 : World} {base g p : Nat} {vo : Value} {s : XS} {wr : Int}
theorem EnS.set3 (h : EnS w0 base g p vo s wr w) (b : Bool) : EnS w0 base g p vo { s with short := b } wr (w.setCell ⟨g, 3, none⟩ (.bool b)) :=
  ⟨h.t.setCell (p := ⟨g, 3, none⟩) (.inl (g_mem _ _)) _, h.rd.set3 b, h.res.far (p := ⟨g, 3, none⟩) (fun e => h.ne (by rw [show p = g from e]; exact g_mem _ _)) _, h.new⟩
theorem EnS.below (h : EnS w0 base g p vo s wr w) (hb : Below w.heap.size w w') : EnS w0 base g p vo s wr w' :=
  ⟨h.t.trans (Turned.of_below hb _) (Fresh.refl _ _), h.rd.turned (Turned.of_below hb []) (fun k hk => by cases hk), h.res.below hb h.res.lt, h.new⟩
theorem EnS.tell {res : Except Int (Pc × XS)} {e : Ending} (h : EnS w0 base g p vo s wr w) (ha : Told w base g vo wr res e w') :
    (∃ k, e = gaveUp k ∧ Told w0 base g vo wr res (gaveUp k) w') ∨ (∃ pc A c, e = .returned (pcV pc A c) ∧ Blk w' p 68 #[.int .i64 0, .string ⟨#[]⟩, .slice none 0 0, .string ⟨#[]⟩] ∧ ∀ w3, Turned [p] w' w3 → Told w0 base g vo wr res (.returned (pcV pc A c)) w3) := by
  obtain ⟨ht, vo', s', hx, hf, hor⟩ := ha
  have hz := h.t.size
  have hf0 : Fresh w0 (fOf g vo) (fOf g vo') := fun k hk => by
    rcases hf k hk with h | h
    · exact .inl h
    · exact .inr (by omega)
  have ht0 := h.t.trans ht (Fresh.refl _ _)
  rcases hor with ⟨pc, v, hr, rfl, A, c, rfl, hl, hm, hA⟩ | ⟨k, hr, rfl⟩
  · have hb := h.res.turned ht h.ne
    exact .inr ⟨pc, A, c, rfl, hb, fun w3 h3 => told_put ht0 hx hf0 hr hb h.new hl hm hA h3⟩
  · exact .inl ⟨k, rfl, ht0, vo', s', hx, hf0, .inr ⟨k, hr, rfl⟩⟩
theorem EnS.own {res : Except Int (Pc × XS)} {n : Int} {t : Bs} (h : EnS w0 base g p vo s wr w) (hr : res = .ok (⟨n, [], [], t⟩, s)) (h3 : Turned [p] w w') : Told w0 base g vo wr res (.returned (pcV ⟨n, [], [], t⟩ none 0)) w' :=
  told_put h.t h.rd (Fresh.refl _ _) hr h.res h.new (Nat.le_refl _) (by unfold maxLen; omega) AlK.nil h3
def nextT (s : XS) (x : Bs × Bs) : Except Int (Pc × XS) :=
  if Lib.hasPrefix x.2 [60, 47] = true then endR { s with rest := Lib.trimPrefix x.2 [60, 47] }
  else (wantR [60] x.2).bind fun y => startR { s with rest := y.2 }
theorem nextR_short {s : XS} (h : s.short = true) : nextR s = .ok (leaveR { s with short := false }) := by unfold nextR; rw [if_pos h]
theorem nextR_eq {s : XS} (h : s.short = false) : nextR s = (runR (s.rest.length + 1) [] s.rest).bind fun x =>
    if 0 < s.opn.length then
      if x.1 ≠ [] then .ok (⟨3, [], [], x.1⟩, { s with rest := x.2 })
      else if x.2 = [] then .error 100
      else nextT s x
    else if allLay x.1 = true then
      if x.2 = [] then if s.begun = true then .ok (⟨4, [], [], []⟩, { s with rest := [] }) else .error 100
      else nextT s x
    else .error 100 := by unfold nextR nextT allLay; rw [if_neg (by rw [h]; decide)]
set_option maxHeartbeats 32000000 in
set_option maxRecDepth 1000000 in
theorem next_any {B : Nat} (h : XRd w base g vo s wr) (hE : XEnv B w) (hBb : B ≤ base) (hr : s.rest.length ≤ 40000) (ho2 : s.opn.length ≤ 16) (hsh : s.short = true → 0 < s.opn.length) :
    Calls Tryz.prog 49 #[.pointer (some ⟨g, 0, none⟩)] w (Told w base g vo wr (nextR s)) := by
  have HS0 := Lib.hid (EnS.first h)
  obtain ⟨p, hp⟩ : ∃ p, p = w.heap.size := ⟨_, rfl⟩
  obtain ⟨wa, hwa⟩ : ∃ wa, wa = w.alloc (.cells #[.int .i64 0, .string ⟨#[]⟩, .slice none 0 0, .string ⟨#[]⟩] 68) := ⟨_, rfl⟩
  rw [← hp, ← hwa] at HS0
  have HEN : Hid (∀ w', Turned (fOf g vo) w w' → XEnv B w') := fun w' ht => hE.turned ht (fun k hk => Nat.le_trans hBb (h.base_le hk))
  have hBg : B ≤ g := Nat.le_trans hBb h.far
  have HSH := Lib.hid hsh
  clear h hE hsh
  obtain ⟨res, hres⟩ : ∃ res, res = nextR s := ⟨_, rfl⟩
  rw [← hres]
  have c3 : wa.cell? ⟨g, 3, none⟩ = some (.bool s.short) := Blk.cell HS0.out.rd.blk 3
  have f3 := Blk.free HS0.out.rd.blk 3
  cases hs : s.short with
  | true =>
    have HE : Hid (res = .ok (leaveR { s with short := false })) := hres.trans (nextR_short hs)
    rw [hs] at c3
    have ho := HSH.out hs
    have HS1 := Lib.hid (HS0.out.set3 false)
    clear hs hres
    go_enter Tryz.func49, Tryz.ntmps49
    go_upto_region 1 with fail
    rw [← hp, ← hwa]
    clear hwa hp
    go_upto_region 3 with fail
    generalize wa.setCell ⟨g, 3, none⟩ (.bool false) = w1 at *
    have CL := Lib.hid (leave_any (s := { s with short := false }) HS1.out.rd ho (by show s.opn.length ≤ 17; omega))
    rw [← HE.out] at CL
    clear c3 f3
    go_wp2_with fail
    refine CL.out.mono ?_
    intro en w2 ha
    rcases HS1.out.tell ha with ⟨k, rfl, hv⟩ | ⟨pc, A4, c4, rfl, hb4, hv⟩
    · have HV := Lib.hid hv
      clear ha hv
      unfold gaveUp at HV ⊢
      go_wp2_with fail
      exact ⟨rfl, HV.out⟩
    · have HV := Lib.hid (hv (put4 w2 p (.int .i64 pc.kind) (.string (mkS pc.name)) (.slice A4 pc.attrs.length c4) (.string (mkS pc.text))) put4_turned)
      have HB4 := Lib.hid (put4_blk (a := .int .i64 pc.kind) (b := .string (mkS pc.name)) (c := .slice A4 pc.attrs.length c4) (d := .string (mkS pc.text)) hb4)
      have b0 := hb4.cell 0
      have b1 := hb4.cell 1
      have b2 := hb4.cell 2
      have b3 := hb4.cell 3
      have f0 := hb4.free 0
      have f1 := hb4.free 1
      have f2 := hb4.free 2
      have f3 := hb4.free 3
      simp at b0 b1 b2 b3
      clear ha hv hb4
      unfold pcV at HV ⊢
      unfold put4 at HV HB4
      go_wp2_with fail
      refine bodyPost_ret (v := .agg #[.int .i64 pc.kind, .string (mkS pc.name), .slice A4 pc.attrs.length c4, .string (mkS pc.text)]) ?_ rfl HV.out
      refine (results_one rfl _ (ad := ⟨p, 0, none⟩) rfl).trans ?_
      exact pc_load HB4.out
  | false =>
    rw [hs] at c3
    have hq := hres.trans (nextR_eq hs)
    have HSF := Lib.hid hs
    have CRUN := Lib.hid (run_any (w0 := wa.drew) HS0.out.rd.blk (HEN.out _ HS0.out.t.drew) hBg hr)
    obtain ⟨A, c, hvo, hnc, hcm⟩ := own_form' HS0.out.rd.row
    subst hvo
    unfold maxLen at hcm
    have c1 : wa.cell? ⟨g, 1, none⟩ = some (.slice A s.opn.length c) := Blk.cell HS0.out.rd.blk 1
    clear hres hs
    generalize hNN : s.opn.length = N at *
    have HNN := Lib.hid hNN
    clear hNN
    cases hrun : runR (s.rest.length + 1) [] s.rest with
    | error e =>
      have HE : Hid (res = .error e) := by show res = _; rw [hq, hrun]; rfl
      have HRUN := Lib.hid hrun
      clear hq hrun
      rcases Nat.eq_zero_or_pos N with hz | hz
      · have hz0 : ¬ (0 : Int) < (N : Int) := by omega
        have hN0 : ¬ 0 < N := by omega
        clear hz
        go_enter Tryz.func49, Tryz.ntmps49
        go_upto_region 1 with fail
        rw [← hp, ← hwa]
        clear hwa hp
        go_upto_region 4 with fail
        refine wp_region_S (fun _ w' => w'.cell? ⟨g, 1, none⟩ = some (.slice A N c)) (by kernel_rfl) c1 (fun hS => ?_)
        refine wpAnyS_take (i := 0) (fun w' => w'.cell? ⟨g, 1, none⟩ = some (.slice A N c)) (v := .pointer (some ⟨g, 0, none⟩)) rfl (by kernel_rfl) (by kernel_rfl) (by kernel_rfl) (fun _ _ _ h => h) (fun l w hw hS => hS) (fun _ _ => Iff.rfl) (by kernel_rfl) hS (fun w' hSw => ?_) (by kernel_rfl) (fun hS => ?_)
        · go_simp
        try simp only [List.getElem_toArray, List.getElem_cons_zero, List.getElem_cons_succ, Act.put, List.setIfInBounds_toArray, List.set_cons_zero, List.set_cons_succ]
        refine wpAnyS_take (i := 2) (fun w' => w'.cell? ⟨g, 1, none⟩ = some (.slice A N c)) (v := .pointer (some ⟨g, 0, none⟩)) rfl (by kernel_rfl) (by kernel_rfl) (by kernel_rfl) (fun _ _ _ h => h) (fun l w hw hS => hS) (fun _ _ => Iff.rfl) (by kernel_rfl) hS (fun w' hSw => ?_) (by kernel_rfl) (fun hS => ?_)
        · go_simp
        try simp only [List.getElem_toArray, List.getElem_cons_zero, List.getElem_cons_succ, Act.put, List.setIfInBounds_toArray, List.set_cons_zero, List.set_cons_succ]
        refine wpAnyS_take (i := 3) (fun w' => w'.cell? ⟨g, 1, none⟩ = some (.slice A N c)) (v := .pointer (some ⟨g, 0, none⟩)) rfl (by kernel_rfl) (by kernel_rfl) (by kernel_rfl) (fun _ _ _ h => h) (fun l w hw hS => hS) (fun _ _ => Iff.rfl) (by kernel_rfl) hS (fun w' hSw => ?_) (by kernel_rfl) (fun hS => ?_)
        · go_simp
        try simp only [List.getElem_toArray, List.getElem_cons_zero, List.getElem_cons_succ, Act.put, List.setIfInBounds_toArray, List.set_cons_zero, List.set_cons_succ]
        refine wpAnyS_take (i := 4) (fun w' => w'.cell? ⟨g, 1, none⟩ = some (.slice A N c)) (v := .pointer (some ⟨g, 1, none⟩)) rfl (by kernel_rfl) (by kernel_rfl) (by kernel_rfl) (fun _ _ _ h => h) (fun l w hw hS => hS) (fun _ _ => Iff.rfl) (by kernel_rfl) hS (fun w' hSw => ?_) (by kernel_rfl) (fun hS => ?_)
        · go_simp
        try simp only [List.getElem_toArray, List.getElem_cons_zero, List.getElem_cons_succ, Act.put, List.setIfInBounds_toArray, List.set_cons_zero, List.set_cons_succ]
        refine wpAnyS_take (i := 5) (fun w' => w'.cell? ⟨g, 1, none⟩ = some (.slice A N c)) (v := .slice A N c) rfl (by kernel_rfl) (by kernel_rfl) (by kernel_rfl) (fun _ _ _ h => h) (fun l w hw hS => hS) (fun _ _ => Iff.rfl) (by kernel_rfl) hS (fun w' hSw => ?_) (by kernel_rfl) (fun hS => ?_)
        · go_simp
        try simp only [List.getElem_toArray, List.getElem_cons_zero, List.getElem_cons_succ, Act.put, List.setIfInBounds_toArray, List.set_cons_zero, List.set_cons_succ]
        refine wpAnyS_take (i := 6) (fun w' => w'.cell? ⟨g, 1, none⟩ = some (.slice A N c)) (v := .int .i64 (N : Int)) rfl (by kernel_rfl) (by kernel_rfl) (by kernel_rfl) (fun _ _ _ h => h) (fun l w hw hS => hS) (fun _ _ => Iff.rfl) (by kernel_rfl) hS (fun w' hSw => ?_) (by kernel_rfl) (fun hS => ?_)
        · go_simp
        try simp only [List.getElem_toArray, List.getElem_cons_zero, List.getElem_cons_succ, Act.put, List.setIfInBounds_toArray, List.set_cons_zero, List.set_cons_succ]
        refine wpAnyS_take (i := 7) (fun w' => w'.cell? ⟨g, 1, none⟩ = some (.slice A N c)) (v := .bool false) rfl (by kernel_rfl) (by kernel_rfl) (by kernel_rfl) (fun _ _ _ h => h) (fun l w hw hS => hS) (fun _ _ => Iff.rfl) (by kernel_rfl) hS (fun w' hSw => ?_) (by kernel_rfl) (fun hS => ?_)
        · go_simp
          try omega
        try simp only [List.getElem_toArray, List.getElem_cons_zero, List.getElem_cons_succ, Act.put, List.setIfInBounds_toArray, List.set_cons_zero, List.set_cons_succ]
        refine wpAnyS_one (i := 1) (by kernel_rfl) rfl (fun K7 hK7 => ?_)
        go_simp
        refine CRUN.out.mono ?_
        intro en w1 ha
        obtain ⟨h1, ⟨r', h2⟩, rfl⟩ := ha.no HRUN.out
        have HS1 := Lib.hid (HS0.out.next h1.from_drew h2)
        clear ha h1 h2 CRUN
        unfold gaveUp
        go_simp
        exact ⟨rfl, Told.mkNo HS1.out.t HS1.out.rd HE.out⟩
      · have hz0 : (0 : Int) < (N : Int) := by omega
        go_enter Tryz.func49, Tryz.ntmps49
        go_upto_region 1 with fail
        rw [← hp, ← hwa]
        clear hwa hp
        go_upto_region 4 with fail
        refine wp_region_S (fun _ w' => w'.cell? ⟨g, 1, none⟩ = some (.slice A N c)) (by kernel_rfl) c1 (fun hS => ?_)
        refine wpAnyS_take (i := 0) (fun w' => w'.cell? ⟨g, 1, none⟩ = some (.slice A N c)) (v := .pointer (some ⟨g, 0, none⟩)) rfl (by kernel_rfl) (by kernel_rfl) (by kernel_rfl) (fun _ _ _ h => h) (fun l w hw hS => hS) (fun _ _ => Iff.rfl) (by kernel_rfl) hS (fun w' hSw => ?_) (by kernel_rfl) (fun hS => ?_)
        · go_simp
        try simp only [List.getElem_toArray, List.getElem_cons_zero, List.getElem_cons_succ, Act.put, List.setIfInBounds_toArray, List.set_cons_zero, List.set_cons_succ]
        refine wpAnyS_take (i := 2) (fun w' => w'.cell? ⟨g, 1, none⟩ = some (.slice A N c)) (v := .pointer (some ⟨g, 0, none⟩)) rfl (by kernel_rfl) (by kernel_rfl) (by kernel_rfl) (fun _ _ _ h => h) (fun l w hw hS => hS) (fun _ _ => Iff.rfl) (by kernel_rfl) hS (fun w' hSw => ?_) (by kernel_rfl) (fun hS => ?_)
        · go_simp
        try simp only [List.getElem_toArray, List.getElem_cons_zero, List.getElem_cons_succ, Act.put, List.setIfInBounds_toArray, List.set_cons_zero, List.set_cons_succ]
        refine wpAnyS_take (i := 3) (fun w' => w'.cell? ⟨g, 1, none⟩ = some (.slice A N c)) (v := .pointer (some ⟨g, 0, none⟩)) rfl (by kernel_rfl) (by kernel_rfl) (by kernel_rfl) (fun _ _ _ h => h) (fun l w hw hS => hS) (fun _ _ => Iff.rfl) (by kernel_rfl) hS (fun w' hSw => ?_) (by kernel_rfl) (fun hS => ?_)
        · go_simp
        try simp only [List.getElem_toArray, List.getElem_cons_zero, List.getElem_cons_succ, Act.put, List.setIfInBounds_toArray, List.set_cons_zero, List.set_cons_succ]
        refine wpAnyS_take (i := 4) (fun w' => w'.cell? ⟨g, 1, none⟩ = some (.slice A N c)) (v := .pointer (some ⟨g, 1, none⟩)) rfl (by kernel_rfl) (by kernel_rfl) (by kernel_rfl) (fun _ _ _ h => h) (fun l w hw hS => hS) (fun _ _ => Iff.rfl) (by kernel_rfl) hS (fun w' hSw => ?_) (by kernel_rfl) (fun hS => ?_)
        · go_simp
        try simp only [List.getElem_toArray, List.getElem_cons_zero, List.getElem_cons_succ, Act.put, List.setIfInBounds_toArray, List.set_cons_zero, List.set_cons_succ]
        refine wpAnyS_take (i := 5) (fun w' => w'.cell? ⟨g, 1, none⟩ = some (.slice A N c)) (v := .slice A N c) rfl (by kernel_rfl) (by kernel_rfl) (by kernel_rfl) (fun _ _ _ h => h) (fun l w hw hS => hS) (fun _ _ => Iff.rfl) (by kernel_rfl) hS (fun w' hSw => ?_) (by kernel_rfl) (fun hS => ?_)
        · go_simp
        try simp only [List.getElem_toArray, List.getElem_cons_zero, List.getElem_cons_succ, Act.put, List.setIfInBounds_toArray, List.set_cons_zero, List.set_cons_succ]
        refine wpAnyS_take (i := 6) (fun w' => w'.cell? ⟨g, 1, none⟩ = some (.slice A N c)) (v := .int .i64 (N : Int)) rfl (by kernel_rfl) (by kernel_rfl) (by kernel_rfl) (fun _ _ _ h => h) (fun l w hw hS => hS) (fun _ _ => Iff.rfl) (by kernel_rfl) hS (fun w' hSw => ?_) (by kernel_rfl) (fun hS => ?_)
        · go_simp
        try simp only [List.getElem_toArray, List.getElem_cons_zero, List.getElem_cons_succ, Act.put, List.setIfInBounds_toArray, List.set_cons_zero, List.set_cons_succ]
        refine wpAnyS_take (i := 7) (fun w' => w'.cell? ⟨g, 1, none⟩ = some (.slice A N c)) (v := .bool true) rfl (by kernel_rfl) (by kernel_rfl) (by kernel_rfl) (fun _ _ _ h => h) (fun l w hw hS => hS) (fun _ _ => Iff.rfl) (by kernel_rfl) hS (fun w' hSw => ?_) (by kernel_rfl) (fun hS => ?_)
        · go_simp
          try omega
        try simp only [List.getElem_toArray, List.getElem_cons_zero, List.getElem_cons_succ, Act.put, List.setIfInBounds_toArray, List.set_cons_zero, List.set_cons_succ]
        refine wpAnyS_one (i := 1) (by kernel_rfl) rfl (fun K7 hK7 => ?_)
        go_simp
        refine CRUN.out.mono ?_
        intro en w1 ha
        obtain ⟨h1, ⟨r', h2⟩, rfl⟩ := ha.no HRUN.out
        have HS1 := Lib.hid (HS0.out.next h1.from_drew h2)
        clear ha h1 h2 CRUN
        unfold gaveUp
        go_simp
        exact ⟨rfl, Told.mkNo HS1.out.t HS1.out.rd HE.out⟩
    | ok x =>
      obtain ⟨txt, r2⟩ := x
      have hr2 : r2.length ≤ s.rest.length := runR_len _ hrun
      have htx : txt.length ≤ 200000 := by have := runR_out _ hrun; simp at this; omega
      have HRUN := Lib.hid hrun
      have hq2 : res = if 0 < N then
          if txt ≠ [] then .ok (⟨3, [], [], txt⟩, { s with rest := r2 })
          else if r2 = [] then .error 100
          else nextT s (txt, r2)
        else if allLay txt = true then
          if r2 = [] then if s.begun = true then .ok (⟨4, [], [], []⟩, { s with rest := [] }) else .error 100
          else nextT s (txt, r2)
        else .error 100 := by rw [hq, hrun]; rfl
      clear hq hrun
      rcases Nat.eq_zero_or_pos N with hz | hz
      · have hz0 : ¬ (0 : Int) < (N : Int) := by omega
        have hN0 : ¬ 0 < N := by omega
        rw [if_neg hN0] at hq2
        clear hz
        have CTR := Lib.hid (trim_any txt htx)
        cases hlay : allLay txt with
        | false =>
          rw [hlay, if_neg (by decide)] at hq2
          have HE := Lib.hid hq2
          have HLAY := Lib.hid hlay
          clear hq2 hlay
          go_enter Tryz.func49, Tryz.ntmps49
          go_upto_region 1 with fail
          rw [← hp, ← hwa]
          clear hwa hp
          go_upto_region 4 with fail
          refine wp_region_S (fun _ w' => w'.cell? ⟨g, 1, none⟩ = some (.slice A N c)) (by kernel_rfl) c1 (fun hS => ?_)
          refine wpAnyS_take (i := 0) (fun w' => w'.cell? ⟨g, 1, none⟩ = some (.slice A N c)) (v := .pointer (some ⟨g, 0, none⟩)) rfl (by kernel_rfl) (by kernel_rfl) (by kernel_rfl) (fun _ _ _ h => h) (fun l w hw hS => hS) (fun _ _ => Iff.rfl) (by kernel_rfl) hS (fun w' hSw => ?_) (by kernel_rfl) (fun hS => ?_)
          · go_simp
          try simp only [List.getElem_toArray, List.getElem_cons_zero, List.getElem_cons_succ, Act.put, List.setIfInBounds_toArray, List.set_cons_zero, List.set_cons_succ]
          refine wpAnyS_take (i := 2) (fun w' => w'.cell? ⟨g, 1, none⟩ = some (.slice A N c)) (v := .pointer (some ⟨g, 0, none⟩)) rfl (by kernel_rfl) (by kernel_rfl) (by kernel_rfl) (fun _ _ _ h => h) (fun l w hw hS => hS) (fun _ _ => Iff.rfl) (by kernel_rfl) hS (fun w' hSw => ?_) (by kernel_rfl) (fun hS => ?_)
          · go_simp
          try simp only [List.getElem_toArray, List.getElem_cons_zero, List.getElem_cons_succ, Act.put, List.setIfInBounds_toArray, List.set_cons_zero, List.set_cons_succ]
          refine wpAnyS_take (i := 3) (fun w' => w'.cell? ⟨g, 1, none⟩ = some (.slice A N c)) (v := .pointer (some ⟨g, 0, none⟩)) rfl (by kernel_rfl) (by kernel_rfl) (by kernel_rfl) (fun _ _ _ h => h) (fun l w hw hS => hS) (fun _ _ => Iff.rfl) (by kernel_rfl) hS (fun w' hSw => ?_) (by kernel_rfl) (fun hS => ?_)
          · go_simp
          try simp only [List.getElem_toArray, List.getElem_cons_zero, List.getElem_cons_succ, Act.put, List.setIfInBounds_toArray, List.set_cons_zero, List.set_cons_succ]
          refine wpAnyS_take (i := 4) (fun w' => w'.cell? ⟨g, 1, none⟩ = some (.slice A N c)) (v := .pointer (some ⟨g, 1, none⟩)) rfl (by kernel_rfl) (by kernel_rfl) (by kernel_rfl) (fun _ _ _ h => h) (fun l w hw hS => hS) (fun _ _ => Iff.rfl) (by kernel_rfl) hS (fun w' hSw => ?_) (by kernel_rfl) (fun hS => ?_)
          · go_simp
          try simp only [List.getElem_toArray, List.getElem_cons_zero, List.getElem_cons_succ, Act.put, List.setIfInBounds_toArray, List.set_cons_zero, List.set_cons_succ]
          refine wpAnyS_take (i := 5) (fun w' => w'.cell? ⟨g, 1, none⟩ = some (.slice A N c)) (v := .slice A N c) rfl (by kernel_rfl) (by kernel_rfl) (by kernel_rfl) (fun _ _ _ h => h) (fun l w hw hS => hS) (fun _ _ => Iff.rfl) (by kernel_rfl) hS (fun w' hSw => ?_) (by kernel_rfl) (fun hS => ?_)
          · go_simp
          try simp only [List.getElem_toArray, List.getElem_cons_zero, List.getElem_cons_succ, Act.put, List.setIfInBounds_toArray, List.set_cons_zero, List.set_cons_succ]
          refine wpAnyS_take (i := 6) (fun w' => w'.cell? ⟨g, 1, none⟩ = some (.slice A N c)) (v := .int .i64 (N : Int)) rfl (by kernel_rfl) (by kernel_rfl) (by kernel_rfl) (fun _ _ _ h => h) (fun l w hw hS => hS) (fun _ _ => Iff.rfl) (by kernel_rfl) hS (fun w' hSw => ?_) (by kernel_rfl) (fun hS => ?_)
          · go_simp
          try simp only [List.getElem_toArray, List.getElem_cons_zero, List.getElem_cons_succ, Act.put, List.setIfInBounds_toArray, List.set_cons_zero, List.set_cons_succ]
          refine wpAnyS_take (i := 7) (fun w' => w'.cell? ⟨g, 1, none⟩ = some (.slice A N c)) (v := .bool false) rfl (by kernel_rfl) (by kernel_rfl) (by kernel_rfl) (fun _ _ _ h => h) (fun l w hw hS => hS) (fun _ _ => Iff.rfl) (by kernel_rfl) hS (fun w' hSw => ?_) (by kernel_rfl) (fun hS => ?_)
          · go_simp
            try omega
          try simp only [List.getElem_toArray, List.getElem_cons_zero, List.getElem_cons_succ, Act.put, List.setIfInBounds_toArray, List.set_cons_zero, List.set_cons_succ]
          refine wpAnyS_one (i := 1) (by kernel_rfl) rfl (fun K7 hK7 => ?_)
          go_simp
          refine CRUN.out.mono ?_
          intro en w1 ha
          obtain ⟨h1, h2, rfl⟩ := ha.ok HRUN.out
          have HS1 := Lib.hid (HS0.out.next h1.from_drew h2)
          have d1 : w1.cell? ⟨g, 1, none⟩ = some (.slice A N c) := Blk.cell HS1.out.rd.blk 1
          clear ha h1 h2 CRUN
          unfold sV
          refine hK7.out _ _ d1 (fun hS => ?_)
          clear hK7 K7
          try simp only [List.getElem_toArray, List.getElem_cons_zero, List.getElem_cons_succ, Act.put, List.setIfInBounds_toArray, List.set_cons_zero, List.set_cons_succ]
          refine wpAnyS_take (i := 8) (fun _ => True) (v := .string (mkS txt)) rfl (by kernel_rfl) (by kernel_rfl) (by kernel_rfl) (fun _ _ _ h => h) (fun _ _ _ _ => trivial) (fun _ _ => Iff.rfl) (by kernel_rfl) hS (fun w' hSw => ?_) (by kernel_rfl) (fun hS => ?_)
          · go_simp
          try simp only [List.getElem_toArray, List.getElem_cons_zero, List.getElem_cons_succ, Act.put, List.setIfInBounds_toArray, List.set_cons_zero, List.set_cons_succ]
          refine wpAnyS_one (i := 9) (by kernel_rfl) rfl (fun K7 hK7 => ?_)
          go_simp
          refine hK7.out _ _ d1 (fun hS => ?_)
          clear hK7 K7
          try simp only [List.getElem_toArray, List.getElem_cons_zero, List.getElem_cons_succ, Act.put, List.setIfInBounds_toArray, List.set_cons_zero, List.set_cons_succ]
          refine wpAnyS_done (by kernel_rfl) ?_ _
          clear hS
          go_wp2_with fail
          refine (CTR.out _).mono ?_
          rintro e w2 ⟨⟨t, rfl, ht⟩, hb⟩
          have HS2 := Lib.hid (HS1.out.below hb)
          clear hb
          have htn : t ≠ [] := fun h => by have := ht.1 h; rw [HLAY.out] at this; cases this
          have hte : (mkS t).toList.isEmpty = false := by rw [isEmpty_mkS]; cases t with
            | nil => exact absurd rfl htn
            | cons a b => rfl
          clear ht htn CTR
          generalize mkS t = T at *
          go_wp2_with fail
          refine (must_no 100 _).mono ?_
          rintro e wm ⟨rfl, rfl⟩
          unfold gaveUp
          go_wp2_with fail
          exact ⟨rfl, Told.mkNo HS2.out.t HS2.out.rd HE.out⟩
        | true =>
          rw [hlay, if_pos rfl] at hq2
          have HLAY := Lib.hid hlay
          clear hlay
          cases hrn : r2 with
          | nil =>
            rw [if_pos hrn] at hq2
            have hre : (mkS r2).toList.isEmpty = true := by rw [isEmpty_mkS, hrn]; rfl
            cases hbg : s.begun with
            | false =>
              rw [hbg, if_neg (by decide)] at hq2
              have HE := Lib.hid hq2
              clear hq2 hrn
              go_enter Tryz.func49, Tryz.ntmps49
              go_upto_region 1 with fail
              rw [← hp, ← hwa]
              clear hwa hp
              go_upto_region 4 with fail
              refine wp_region_S (fun _ w' => w'.cell? ⟨g, 1, none⟩ = some (.slice A N c)) (by kernel_rfl) c1 (fun hS => ?_)
              refine wpAnyS_take (i := 0) (fun w' => w'.cell? ⟨g, 1, none⟩ = some (.slice A N c)) (v := .pointer (some ⟨g, 0, none⟩)) rfl (by kernel_rfl) (by kernel_rfl) (by kernel_rfl) (fun _ _ _ h => h) (fun l w hw hS => hS) (fun _ _ => Iff.rfl) (by kernel_rfl) hS (fun w' hSw => ?_) (by kernel_rfl) (fun hS => ?_)
              · go_simp
              try simp only [List.getElem_toArray, List.getElem_cons_zero, List.getElem_cons_succ, Act.put, List.setIfInBounds_toArray, List.set_cons_zero, List.set_cons_succ]
              refine wpAnyS_take (i := 2) (fun w' => w'.cell? ⟨g, 1, none⟩ = some (.slice A N c)) (v := .pointer (some ⟨g, 0, none⟩)) rfl (by kernel_rfl) (by kernel_rfl) (by kernel_rfl) (fun _ _ _ h => h) (fun l w hw hS => hS) (fun _ _ => Iff.rfl) (by kernel_rfl) hS (fun w' hSw => ?_) (by kernel_rfl) (fun hS => ?_)
              · go_simp
              try simp only [List.getElem_toArray, List.getElem_cons_zero, List.getElem_cons_succ, Act.put, List.setIfInBounds_toArray, List.set_cons_zero, List.set_cons_succ]
              refine wpAnyS_take (i := 3) (fun w' => w'.cell? ⟨g, 1, none⟩ = some (.slice A N c)) (v := .pointer (some ⟨g, 0, none⟩)) rfl (by kernel_rfl) (by kernel_rfl) (by kernel_rfl) (fun _ _ _ h => h) (fun l w hw hS => hS) (fun _ _ => Iff.rfl) (by kernel_rfl) hS (fun w' hSw => ?_) (by kernel_rfl) (fun hS => ?_)
              · go_simp
              try simp only [List.getElem_toArray, List.getElem_cons_zero, List.getElem_cons_succ, Act.put, List.setIfInBounds_toArray, List.set_cons_zero, List.set_cons_succ]
              refine wpAnyS_take (i := 4) (fun w' => w'.cell? ⟨g, 1, none⟩ = some (.slice A N c)) (v := .pointer (some ⟨g, 1, none⟩)) rfl (by kernel_rfl) (by kernel_rfl) (by kernel_rfl) (fun _ _ _ h => h) (fun l w hw hS => hS) (fun _ _ => Iff.rfl) (by kernel_rfl) hS (fun w' hSw => ?_) (by kernel_rfl) (fun hS => ?_)
              · go_simp
              try simp only [List.getElem_toArray, List.getElem_cons_zero, List.getElem_cons_succ, Act.put, List.setIfInBounds_toArray, List.set_cons_zero, List.set_cons_succ]
              refine wpAnyS_take (i := 5) (fun w' => w'.cell? ⟨g, 1, none⟩ = some (.slice A N c)) (v := .slice A N c) rfl (by kernel_rfl) (by kernel_rfl) (by kernel_rfl) (fun _ _ _ h => h) (fun l w hw hS => hS) (fun _ _ => Iff.rfl) (by kernel_rfl) hS (fun w' hSw => ?_) (by kernel_rfl) (fun hS => ?_)
              · go_simp
              try simp only [List.getElem_toArray, List.getElem_cons_zero, List.getElem_cons_succ, Act.put, List.setIfInBounds_toArray, List.set_cons_zero, List.set_cons_succ]
              refine wpAnyS_take (i := 6) (fun w' => w'.cell? ⟨g, 1, none⟩ = some (.slice A N c)) (v := .int .i64 (N : Int)) rfl (by kernel_rfl) (by kernel_rfl) (by kernel_rfl) (fun _ _ _ h => h) (fun l w hw hS => hS) (fun _ _ => Iff.rfl) (by kernel_rfl) hS (fun w' hSw => ?_) (by kernel_rfl) (fun hS => ?_)
              · go_simp
              try simp only [List.getElem_toArray, List.getElem_cons_zero, List.getElem_cons_succ, Act.put, List.setIfInBounds_toArray, List.set_cons_zero, List.set_cons_succ]
              refine wpAnyS_take (i := 7) (fun w' => w'.cell? ⟨g, 1, none⟩ = some (.slice A N c)) (v := .bool false) rfl (by kernel_rfl) (by kernel_rfl) (by kernel_rfl) (fun _ _ _ h => h) (fun l w hw hS => hS) (fun _ _ => Iff.rfl) (by kernel_rfl) hS (fun w' hSw => ?_) (by kernel_rfl) (fun hS => ?_)
              · go_simp
                try omega
              try simp only [List.getElem_toArray, List.getElem_cons_zero, List.getElem_cons_succ, Act.put, List.setIfInBounds_toArray, List.set_cons_zero, List.set_cons_succ]
              refine wpAnyS_one (i := 1) (by kernel_rfl) rfl (fun K7 hK7 => ?_)
              go_simp
              refine CRUN.out.mono ?_
              intro en w1 ha
              obtain ⟨h1, h2, rfl⟩ := ha.ok HRUN.out
              have HS1 := Lib.hid (HS0.out.next h1.from_drew h2)
              have d1 : w1.cell? ⟨g, 1, none⟩ = some (.slice A N c) := Blk.cell HS1.out.rd.blk 1
              clear ha h1 h2 CRUN
              unfold sV
              refine hK7.out _ _ d1 (fun hS => ?_)
              clear hK7 K7
              try simp only [List.getElem_toArray, List.getElem_cons_zero, List.getElem_cons_succ, Act.put, List.setIfInBounds_toArray, List.set_cons_zero, List.set_cons_succ]
              refine wpAnyS_take (i := 8) (fun _ => True) (v := .string (mkS txt)) rfl (by kernel_rfl) (by kernel_rfl) (by kernel_rfl) (fun _ _ _ h => h) (fun _ _ _ _ => trivial) (fun _ _ => Iff.rfl) (by kernel_rfl) hS (fun w' hSw => ?_) (by kernel_rfl) (fun hS => ?_)
              · go_simp
              try simp only [List.getElem_toArray, List.getElem_cons_zero, List.getElem_cons_succ, Act.put, List.setIfInBounds_toArray, List.set_cons_zero, List.set_cons_succ]
              refine wpAnyS_one (i := 9) (by kernel_rfl) rfl (fun K7 hK7 => ?_)
              go_simp
              refine hK7.out _ _ d1 (fun hS => ?_)
              clear hK7 K7
              try simp only [List.getElem_toArray, List.getElem_cons_zero, List.getElem_cons_succ, Act.put, List.setIfInBounds_toArray, List.set_cons_zero, List.set_cons_succ]
              refine wpAnyS_done (by kernel_rfl) ?_ _
              clear hS
              go_wp2_with fail
              refine (CTR.out _).mono ?_
              rintro e w2 ⟨⟨t, rfl, ht⟩, hb⟩
              have HS2 := Lib.hid (HS1.out.below hb)
              clear hb
              have htn : t = [] := ht.2 HLAY.out
              have hte : (mkS t).toList.isEmpty = true := by rw [isEmpty_mkS, htn]; rfl
              clear ht htn CTR
              generalize mkS t = T at *
              go_wp2_with fail
              refine (must_yes 100 _).mono ?_
              rintro e wm ⟨rfl, rfl⟩
              clear hte
              have d0 : w2.cell? ⟨g, 0, none⟩ = some (.string (mkS r2)) := Blk.cell HS2.out.rd.blk 0
              have d2 : w2.cell? ⟨g, 2, none⟩ = some (.bool s.begun) := Blk.cell HS2.out.rd.blk 2
              rw [hbg] at d2
              go_wp2_with fail
              all_goals
                refine (must_no 100 _).mono ?_
                rintro e wm2 ⟨rfl, rfl⟩
                unfold gaveUp
                go_wp2_with fail
                exact ⟨rfl, Told.mkNo HS2.out.t HS2.out.rd HE.out⟩
            | true =>
              rw [hbg, if_pos rfl] at hq2
              have HE : Hid (res = .ok (⟨4, [], [], []⟩, { s with rest := r2 })) := by show res = _; rw [hq2, hrn, hbg]
              clear hq2 hrn
              go_enter Tryz.func49, Tryz.ntmps49
              go_upto_region 1 with fail
              rw [← hp, ← hwa]
              clear hwa hp
              go_upto_region 4 with fail
              refine wp_region_S (fun _ w' => w'.cell? ⟨g, 1, none⟩ = some (.slice A N c)) (by kernel_rfl) c1 (fun hS => ?_)
              refine wpAnyS_take (i := 0) (fun w' => w'.cell? ⟨g, 1, none⟩ = some (.slice A N c)) (v := .pointer (some ⟨g, 0, none⟩)) rfl (by kernel_rfl) (by kernel_rfl) (by kernel_rfl) (fun _ _ _ h => h) (fun l w hw hS => hS) (fun _ _ => Iff.rfl) (by kernel_rfl) hS (fun w' hSw => ?_) (by kernel_rfl) (fun hS => ?_)
              · go_simp
              try simp only [List.getElem_toArray, List.getElem_cons_zero, List.getElem_cons_succ, Act.put, List.setIfInBounds_toArray, List.set_cons_zero, List.set_cons_succ]
              refine wpAnyS_take (i := 2) (fun w' => w'.cell? ⟨g, 1, none⟩ = some (.slice A N c)) (v := .pointer (some ⟨g, 0, none⟩)) rfl (by kernel_rfl) (by kernel_rfl) (by kernel_rfl) (fun _ _ _ h => h) (fun l w hw hS => hS) (fun _ _ => Iff.rfl) (by kernel_rfl) hS (fun w' hSw => ?_) (by kernel_rfl) (fun hS => ?_)
              · go_simp
              try simp only [List.getElem_toArray, List.getElem_cons_zero, List.getElem_cons_succ, Act.put, List.setIfInBounds_toArray, List.set_cons_zero, List.set_cons_succ]
              refine wpAnyS_take (i := 3) (fun w' => w'.cell? ⟨g, 1, none⟩ = some (.slice A N c)) (v := .pointer (some ⟨g, 0, none⟩)) rfl (by kernel_rfl) (by kernel_rfl) (by kernel_rfl) (fun _ _ _ h => h) (fun l w hw hS => hS) (fun _ _ => Iff.rfl) (by kernel_rfl) hS (fun w' hSw => ?_) (by kernel_rfl) (fun hS => ?_)
              · go_simp
              try simp only [List.getElem_toArray, List.getElem_cons_zero, List.getElem_cons_succ, Act.put, List.setIfInBounds_toArray, List.set_cons_zero, List.set_cons_succ]
              refine wpAnyS_take (i := 4) (fun w' => w'.cell? ⟨g, 1, none⟩ = some (.slice A N c)) (v := .pointer (some ⟨g, 1, none⟩)) rfl (by kernel_rfl) (by kernel_rfl) (by kernel_rfl) (fun _ _ _ h => h) (fun l w hw hS => hS) (fun _ _ => Iff.rfl) (by kernel_rfl) hS (fun w' hSw => ?_) (by kernel_rfl) (fun hS => ?_)
              · go_simp
              try simp only [List.getElem_toArray, List.getElem_cons_zero, List.getElem_cons_succ, Act.put, List.setIfInBounds_toArray, List.set_cons_zero, List.set_cons_succ]
              refine wpAnyS_take (i := 5) (fun w' => w'.cell? ⟨g, 1, none⟩ = some (.slice A N c)) (v := .slice A N c) rfl (by kernel_rfl) (by kernel_rfl) (by kernel_rfl) (fun _ _ _ h => h) (fun l w hw hS => hS) (fun _ _ => Iff.rfl) (by kernel_rfl) hS (fun w' hSw => ?_) (by kernel_rfl) (fun hS => ?_)
              · go_simp
              try simp only [List.getElem_toArray, List.getElem_cons_zero, List.getElem_cons_succ, Act.put, List.setIfInBounds_toArray, List.set_cons_zero, List.set_cons_succ]
              refine wpAnyS_take (i := 6) (fun w' => w'.cell? ⟨g, 1, none⟩ = some (.slice A N c)) (v := .int .i64 (N : Int)) rfl (by kernel_rfl) (by kernel_rfl) (by kernel_rfl) (fun _ _ _ h => h) (fun l w hw hS => hS) (fun _ _ => Iff.rfl) (by kernel_rfl) hS (fun w' hSw => ?_) (by kernel_rfl) (fun hS => ?_)
              · go_simp
              try simp only [List.getElem_toArray, List.getElem_cons_zero, List.getElem_cons_succ, Act.put, List.setIfInBounds_toArray, List.set_cons_zero, List.set_cons_succ]
              refine wpAnyS_take (i := 7) (fun w' => w'.cell? ⟨g, 1, none⟩ = some (.slice A N c)) (v := .bool false) rfl (by kernel_rfl) (by kernel_rfl) (by kernel_rfl) (fun _ _ _ h => h) (fun l w hw hS => hS) (fun _ _ => Iff.rfl) (by kernel_rfl) hS (fun w' hSw => ?_) (by kernel_rfl) (fun hS => ?_)
              · go_simp
                try omega
              try simp only [List.getElem_toArray, List.getElem_cons_zero, List.getElem_cons_succ, Act.put, List.setIfInBounds_toArray, List.set_cons_zero, List.set_cons_succ]
              refine wpAnyS_one (i := 1) (by kernel_rfl) rfl (fun K7 hK7 => ?_)
              go_simp
              refine CRUN.out.mono ?_
              intro en w1 ha
              obtain ⟨h1, h2, rfl⟩ := ha.ok HRUN.out
              have HS1 := Lib.hid (HS0.out.next h1.from_drew h2)
              have d1 : w1.cell? ⟨g, 1, none⟩ = some (.slice A N c) := Blk.cell HS1.out.rd.blk 1
              clear ha h1 h2 CRUN
              unfold sV
              refine hK7.out _ _ d1 (fun hS => ?_)
              clear hK7 K7
              try simp only [List.getElem_toArray, List.getElem_cons_zero, List.getElem_cons_succ, Act.put, List.setIfInBounds_toArray, List.set_cons_zero, List.set_cons_succ]
              refine wpAnyS_take (i := 8) (fun _ => True) (v := .string (mkS txt)) rfl (by kernel_rfl) (by kernel_rfl) (by kernel_rfl) (fun _ _ _ h => h) (fun _ _ _ _ => trivial) (fun _ _ => Iff.rfl) (by kernel_rfl) hS (fun w' hSw => ?_) (by kernel_rfl) (fun hS => ?_)
              · go_simp
              try simp only [List.getElem_toArray, List.getElem_cons_zero, List.getElem_cons_succ, Act.put, List.setIfInBounds_toArray, List.set_cons_zero, List.set_cons_succ]
              refine wpAnyS_one (i := 9) (by kernel_rfl) rfl (fun K7 hK7 => ?_)
              go_simp
              refine hK7.out _ _ d1 (fun hS => ?_)
              clear hK7 K7
              try simp only [List.getElem_toArray, List.getElem_cons_zero, List.getElem_cons_succ, Act.put, List.setIfInBounds_toArray, List.set_cons_zero, List.set_cons_succ]
              refine wpAnyS_done (by kernel_rfl) ?_ _
              clear hS
              go_wp2_with fail
              refine (CTR.out _).mono ?_
              rintro e w2 ⟨⟨t, rfl, ht⟩, hb⟩
              have HS2 := Lib.hid (HS1.out.below hb)
              clear hb
              have htn : t = [] := ht.2 HLAY.out
              have hte : (mkS t).toList.isEmpty = true := by rw [isEmpty_mkS, htn]; rfl
              clear ht htn CTR
              generalize mkS t = T at *
              go_wp2_with fail
              refine (must_yes 100 _).mono ?_
              rintro e wm ⟨rfl, rfl⟩
              clear hte
              have d0 : w2.cell? ⟨g, 0, none⟩ = some (.string (mkS r2)) := Blk.cell HS2.out.rd.blk 0
              have d2 : w2.cell? ⟨g, 2, none⟩ = some (.bool s.begun) := Blk.cell HS2.out.rd.blk 2
              rw [hbg] at d2
              have HV := Lib.hid (HS2.out.own HE.out (put4_turned (a := .int .i64 4) (b := .string ⟨#[]⟩) (c := .slice none 0 0) (d := .string ⟨#[]⟩)))
              have HB4 := Lib.hid (put4_blk (a := .int .i64 4) (b := .string ⟨#[]⟩) (c := .slice none 0 0) (d := .string ⟨#[]⟩) HS2.out.res)
              have b0 := HS2.out.res.cell 0
              have b1 := HS2.out.res.cell 1
              have b2 := HS2.out.res.cell 2
              have b3 := HS2.out.res.cell 3
              have f0 := HS2.out.res.free 0
              have f1 := HS2.out.res.free 1
              have f2 := HS2.out.res.free 2
              have g3 := HS2.out.res.free 3
              simp at b0 b1 b2 b3
              unfold put4 at HV HB4
              go_wp2_with fail
              refine (must_yes 100 _).mono ?_
              rintro e wm ⟨rfl, rfl⟩
              go_wp2_with fail
              refine bodyPost_ret (v := .agg #[.int .i64 4, .string ⟨#[]⟩, .slice none 0 0, .string ⟨#[]⟩]) ?_ rfl HV.out
              refine (results_one rfl _ (ad := ⟨p, 0, none⟩) rfl).trans ?_
              exact pc_load HB4.out
          | cons a b =>
            rw [if_neg (by rw [hrn]; simp)] at hq2
            have hre : (mkS r2).toList.isEmpty = false := by rw [isEmpty_mkS, hrn]; rfl
            clear hrn a b
            cases hpe : Lib.hasPrefix r2 [60, 47] with
            | true =>
              have HE : Hid (res = endR { s with rest := Lib.trimPrefix r2 [60, 47] }) := by show res = _; rw [hq2]; unfold nextT; rw [if_pos hpe]
              have HPE := Lib.hid hpe
              have htr := trim_len r2 [60, 47]
              clear hq2 hpe
              go_enter Tryz.func49, Tryz.ntmps49
              go_upto_region 1 with fail
              rw [← hp, ← hwa]
              clear hwa hp
              go_upto_region 4 with fail
              refine wp_region_S (fun _ w' => w'.cell? ⟨g, 1, none⟩ = some (.slice A N c)) (by kernel_rfl) c1 (fun hS => ?_)
              refine wpAnyS_take (i := 0) (fun w' => w'.cell? ⟨g, 1, none⟩ = some (.slice A N c)) (v := .pointer (some ⟨g, 0, none⟩)) rfl (by kernel_rfl) (by kernel_rfl) (by kernel_rfl) (fun _ _ _ h => h) (fun l w hw hS => hS) (fun _ _ => Iff.rfl) (by kernel_rfl) hS (fun w' hSw => ?_) (by kernel_rfl) (fun hS => ?_)
              · go_simp
              try simp only [List.getElem_toArray, List.getElem_cons_zero, List.getElem_cons_succ, Act.put, List.setIfInBounds_toArray, List.set_cons_zero, List.set_cons_succ]
              refine wpAnyS_take (i := 2) (fun w' => w'.cell? ⟨g, 1, none⟩ = some (.slice A N c)) (v := .pointer (some ⟨g, 0, none⟩)) rfl (by kernel_rfl) (by kernel_rfl) (by kernel_rfl) (fun _ _ _ h => h) (fun l w hw hS => hS) (fun _ _ => Iff.rfl) (by kernel_rfl) hS (fun w' hSw => ?_) (by kernel_rfl) (fun hS => ?_)
              · go_simp
              try simp only [List.getElem_toArray, List.getElem_cons_zero, List.getElem_cons_succ, Act.put, List.setIfInBounds_toArray, List.set_cons_zero, List.set_cons_succ]
              refine wpAnyS_take (i := 3) (fun w' => w'.cell? ⟨g, 1, none⟩ = some (.slice A N c)) (v := .pointer (some ⟨g, 0, none⟩)) rfl (by kernel_rfl) (by kernel_rfl) (by kernel_rfl) (fun _ _ _ h => h) (fun l w hw hS => hS) (fun _ _ => Iff.rfl) (by kernel_rfl) hS (fun w' hSw => ?_) (by kernel_rfl) (fun hS => ?_)
              · go_simp
              try simp only [List.getElem_toArray, List.getElem_cons_zero, List.getElem_cons_succ, Act.put, List.setIfInBounds_toArray, List.set_cons_zero, List.set_cons_succ]
              refine wpAnyS_take (i := 4) (fun w' => w'.cell? ⟨g, 1, none⟩ = some (.slice A N c)) (v := .pointer (some ⟨g, 1, none⟩)) rfl (by kernel_rfl) (by kernel_rfl) (by kernel_rfl) (fun _ _ _ h => h) (fun l w hw hS => hS) (fun _ _ => Iff.rfl) (by kernel_rfl) hS (fun w' hSw => ?_) (by kernel_rfl) (fun hS => ?_)
              · go_simp
              try simp only [List.getElem_toArray, List.getElem_cons_zero, List.getElem_cons_succ, Act.put, List.setIfInBounds_toArray, List.set_cons_zero, List.set_cons_succ]
              refine wpAnyS_take (i := 5) (fun w' => w'.cell? ⟨g, 1, none⟩ = some (.slice A N c)) (v := .slice A N c) rfl (by kernel_rfl) (by kernel_rfl) (by kernel_rfl) (fun _ _ _ h => h) (fun l w hw hS => hS) (fun _ _ => Iff.rfl) (by kernel_rfl) hS (fun w' hSw => ?_) (by kernel_rfl) (fun hS => ?_)
              · go_simp
              try simp only [List.getElem_toArray, List.getElem_cons_zero, List.getElem_cons_succ, Act.put, List.setIfInBounds_toArray, List.set_cons_zero, List.set_cons_succ]
              refine wpAnyS_take (i := 6) (fun w' => w'.cell? ⟨g, 1, none⟩ = some (.slice A N c)) (v := .int .i64 (N : Int)) rfl (by kernel_rfl) (by kernel_rfl) (by kernel_rfl) (fun _ _ _ h => h) (fun l w hw hS => hS) (fun _ _ => Iff.rfl) (by kernel_rfl) hS (fun w' hSw => ?_) (by kernel_rfl) (fun hS => ?_)
              · go_simp
              try simp only [List.getElem_toArray, List.getElem_cons_zero, List.getElem_cons_succ, Act.put, List.setIfInBounds_toArray, List.set_cons_zero, List.set_cons_succ]
              refine wpAnyS_take (i := 7) (fun w' => w'.cell? ⟨g, 1, none⟩ = some (.slice A N c)) (v := .bool false) rfl (by kernel_rfl) (by kernel_rfl) (by kernel_rfl) (fun _ _ _ h => h) (fun l w hw hS => hS) (fun _ _ => Iff.rfl) (by kernel_rfl) hS (fun w' hSw => ?_) (by kernel_rfl) (fun hS => ?_)
              · go_simp
                try omega
              try simp only [List.getElem_toArray, List.getElem_cons_zero, List.getElem_cons_succ, Act.put, List.setIfInBounds_toArray, List.set_cons_zero, List.set_cons_succ]
              refine wpAnyS_one (i := 1) (by kernel_rfl) rfl (fun K7 hK7 => ?_)
              go_simp
              refine CRUN.out.mono ?_
              intro en w1 ha
              obtain ⟨h1, h2, rfl⟩ := ha.ok HRUN.out
              have HS1 := Lib.hid (HS0.out.next h1.from_drew h2)
              have d1 : w1.cell? ⟨g, 1, none⟩ = some (.slice A N c) := Blk.cell HS1.out.rd.blk 1
              clear ha h1 h2 CRUN
              unfold sV
              refine hK7.out _ _ d1 (fun hS => ?_)
              clear hK7 K7
              try simp only [List.getElem_toArray, List.getElem_cons_zero, List.getElem_cons_succ, Act.put, List.setIfInBounds_toArray, List.set_cons_zero, List.set_cons_succ]
              refine wpAnyS_take (i := 8) (fun _ => True) (v := .string (mkS txt)) rfl (by kernel_rfl) (by kernel_rfl) (by kernel_rfl) (fun _ _ _ h => h) (fun _ _ _ _ => trivial) (fun _ _ => Iff.rfl) (by kernel_rfl) hS (fun w' hSw => ?_) (by kernel_rfl) (fun hS => ?_)
              · go_simp
              try simp only [List.getElem_toArray, List.getElem_cons_zero, List.getElem_cons_succ, Act.put, List.setIfInBounds_toArray, List.set_cons_zero, List.set_cons_succ]
              refine wpAnyS_one (i := 9) (by kernel_rfl) rfl (fun K7 hK7 => ?_)
              go_simp
              refine hK7.out _ _ d1 (fun hS => ?_)
              clear hK7 K7
              try simp only [List.getElem_toArray, List.getElem_cons_zero, List.getElem_cons_succ, Act.put, List.setIfInBounds_toArray, List.set_cons_zero, List.set_cons_succ]
              refine wpAnyS_done (by kernel_rfl) ?_ _
              clear hS
              go_wp2_with fail
              refine (CTR.out _).mono ?_
              rintro e w2 ⟨⟨t, rfl, ht⟩, hb⟩
              have HS2 := Lib.hid (HS1.out.below hb)
              clear hb
              have htn : t = [] := ht.2 HLAY.out
              have hte : (mkS t).toList.isEmpty = true := by rw [isEmpty_mkS, htn]; rfl
              clear ht htn CTR
              generalize mkS t = T at *
              go_wp2_with fail
              refine (must_yes 100 _).mono ?_
              rintro e wm ⟨rfl, rfl⟩
              clear hte
              have d0 : w2.cell? ⟨g, 0, none⟩ = some (.string (mkS r2)) := Blk.cell HS2.out.rd.blk 0
              have d2 : w2.cell? ⟨g, 2, none⟩ = some (.bool s.begun) := Blk.cell HS2.out.rd.blk 2
              have CT := Lib.hid (takes_any HS2.out.rd.blk [60, 47])
              rw [HPE.out] at CT
              go_wp2_with fail
              refine CT.out.mono ?_
              rintro e w3 ⟨rfl, h1, h2⟩
              have HS3 := Lib.hid (HS2.out.next h1 h2)
              clear h1 h2 CT d0 d2
              have CE := Lib.hid (end_any HS3.out.rd (show (Lib.trimPrefix r2 [60, 47]).length ≤ 40000 by omega) (by show s.opn.length ≤ 17; rw [HNN.out]; omega))
              rw [← HE.out] at CE
              go_wp2_with fail
              refine CE.out.mono ?_
              intro en w4 ha
              rcases HS3.out.tell ha with ⟨k, rfl, hv⟩ | ⟨pc, A4, c4, rfl, hb4, hv⟩
              · have HV := Lib.hid hv
                clear ha hv
                unfold gaveUp at HV ⊢
                go_wp2_with fail
                exact ⟨rfl, HV.out⟩
              · have HV := Lib.hid (hv (put4 w4 p (.int .i64 pc.kind) (.string (mkS pc.name)) (.slice A4 pc.attrs.length c4) (.string (mkS pc.text))) put4_turned)
                have HB4 := Lib.hid (put4_blk (a := .int .i64 pc.kind) (b := .string (mkS pc.name)) (c := .slice A4 pc.attrs.length c4) (d := .string (mkS pc.text)) hb4)
                have b0 := hb4.cell 0
                have b1 := hb4.cell 1
                have b2 := hb4.cell 2
                have b3 := hb4.cell 3
                have f0 := hb4.free 0
                have f1 := hb4.free 1
                have f2 := hb4.free 2
                have f3 := hb4.free 3
                simp at b0 b1 b2 b3
                clear ha hv hb4
                unfold pcV at HV ⊢
                unfold put4 at HV HB4
                go_wp2_with fail
                refine bodyPost_ret (v := .agg #[.int .i64 pc.kind, .string (mkS pc.name), .slice A4 pc.attrs.length c4, .string (mkS pc.text)]) ?_ rfl HV.out
                refine (results_one rfl _ (ad := ⟨p, 0, none⟩) rfl).trans ?_
                exact pc_load HB4.out
            | false =>
              have HPE := Lib.hid hpe
              have hq3 : res = (wantR [60] r2).bind fun y => startR { s with rest := y.2 } := by rw [hq2]; unfold nextT; rw [if_neg (by rw [hpe]; decide)]
              clear hq2 hpe
              cases hw : wantR [60] r2 with
              | error e =>
                have HE : Hid (res = .error e) := by show res = _; rw [hq3, hw]; rfl
                have HW := Lib.hid hw
                clear hq3 hw
                go_enter Tryz.func49, Tryz.ntmps49
                go_upto_region 1 with fail
                rw [← hp, ← hwa]
                clear hwa hp
                go_upto_region 4 with fail
                refine wp_region_S (fun _ w' => w'.cell? ⟨g, 1, none⟩ = some (.slice A N c)) (by kernel_rfl) c1 (fun hS => ?_)
                refine wpAnyS_take (i := 0) (fun w' => w'.cell? ⟨g, 1, none⟩ = some (.slice A N c)) (v := .pointer (some ⟨g, 0, none⟩)) rfl (by kernel_rfl) (by kernel_rfl) (by kernel_rfl) (fun _ _ _ h => h) (fun l w hw hS => hS) (fun _ _ => Iff.rfl) (by kernel_rfl) hS (fun w' hSw => ?_) (by kernel_rfl) (fun hS => ?_)
                · go_simp
                try simp only [List.getElem_toArray, List.getElem_cons_zero, List.getElem_cons_succ, Act.put, List.setIfInBounds_toArray, List.set_cons_zero, List.set_cons_succ]
                refine wpAnyS_take (i := 2) (fun w' => w'.cell? ⟨g, 1, none⟩ = some (.slice A N c)) (v := .pointer (some ⟨g, 0, none⟩)) rfl (by kernel_rfl) (by kernel_rfl) (by kernel_rfl) (fun _ _ _ h => h) (fun l w hw hS => hS) (fun _ _ => Iff.rfl) (by kernel_rfl) hS (fun w' hSw => ?_) (by kernel_rfl) (fun hS => ?_)
                · go_simp
                try simp only [List.getElem_toArray, List.getElem_cons_zero, List.getElem_cons_succ, Act.put, List.setIfInBounds_toArray, List.set_cons_zero, List.set_cons_succ]
                refine wpAnyS_take (i := 3) (fun w' => w'.cell? ⟨g, 1, none⟩ = some (.slice A N c)) (v := .pointer (some ⟨g, 0, none⟩)) rfl (by kernel_rfl) (by kernel_rfl) (by kernel_rfl) (fun _ _ _ h => h) (fun l w hw hS => hS) (fun _ _ => Iff.rfl) (by kernel_rfl) hS (fun w' hSw => ?_) (by kernel_rfl) (fun hS => ?_)
                · go_simp
                try simp only [List.getElem_toArray, List.getElem_cons_zero, List.getElem_cons_succ, Act.put, List.setIfInBounds_toArray, List.set_cons_zero, List.set_cons_succ]
                refine wpAnyS_take (i := 4) (fun w' => w'.cell? ⟨g, 1, none⟩ = some (.slice A N c)) (v := .pointer (some ⟨g, 1, none⟩)) rfl (by kernel_rfl) (by kernel_rfl) (by kernel_rfl) (fun _ _ _ h => h) (fun l w hw hS => hS) (fun _ _ => Iff.rfl) (by kernel_rfl) hS (fun w' hSw => ?_) (by kernel_rfl) (fun hS => ?_)
                · go_simp
                try simp only [List.getElem_toArray, List.getElem_cons_zero, List.getElem_cons_succ, Act.put, List.setIfInBounds_toArray, List.set_cons_zero, List.set_cons_succ]
                refine wpAnyS_take (i := 5) (fun w' => w'.cell? ⟨g, 1, none⟩ = some (.slice A N c)) (v := .slice A N c) rfl (by kernel_rfl) (by kernel_rfl) (by kernel_rfl) (fun _ _ _ h => h) (fun l w hw hS => hS) (fun _ _ => Iff.rfl) (by kernel_rfl) hS (fun w' hSw => ?_) (by kernel_rfl) (fun hS => ?_)
                · go_simp
                try simp only [List.getElem_toArray, List.getElem_cons_zero, List.getElem_cons_succ, Act.put, List.setIfInBounds_toArray, List.set_cons_zero, List.set_cons_succ]
                refine wpAnyS_take (i := 6) (fun w' => w'.cell? ⟨g, 1, none⟩ = some (.slice A N c)) (v := .int .i64 (N : Int)) rfl (by kernel_rfl) (by kernel_rfl) (by kernel_rfl) (fun _ _ _ h => h) (fun l w hw hS => hS) (fun _ _ => Iff.rfl) (by kernel_rfl) hS (fun w' hSw => ?_) (by kernel_rfl) (fun hS => ?_)
                · go_simp
                try simp only [List.getElem_toArray, List.getElem_cons_zero, List.getElem_cons_succ, Act.put, List.setIfInBounds_toArray, List.set_cons_zero, List.set_cons_succ]
                refine wpAnyS_take (i := 7) (fun w' => w'.cell? ⟨g, 1, none⟩ = some (.slice A N c)) (v := .bool false) rfl (by kernel_rfl) (by kernel_rfl) (by kernel_rfl) (fun _ _ _ h => h) (fun l w hw hS => hS) (fun _ _ => Iff.rfl) (by kernel_rfl) hS (fun w' hSw => ?_) (by kernel_rfl) (fun hS => ?_)
                · go_simp
                  try omega
                try simp only [List.getElem_toArray, List.getElem_cons_zero, List.getElem_cons_succ, Act.put, List.setIfInBounds_toArray, List.set_cons_zero, List.set_cons_succ]
                refine wpAnyS_one (i := 1) (by kernel_rfl) rfl (fun K7 hK7 => ?_)
                go_simp
                refine CRUN.out.mono ?_
                intro en w1 ha
                obtain ⟨h1, h2, rfl⟩ := ha.ok HRUN.out
                have HS1 := Lib.hid (HS0.out.next h1.from_drew h2)
                have d1 : w1.cell? ⟨g, 1, none⟩ = some (.slice A N c) := Blk.cell HS1.out.rd.blk 1
                clear ha h1 h2 CRUN
                unfold sV
                refine hK7.out _ _ d1 (fun hS => ?_)
                clear hK7 K7
                try simp only [List.getElem_toArray, List.getElem_cons_zero, List.getElem_cons_succ, Act.put, List.setIfInBounds_toArray, List.set_cons_zero, List.set_cons_succ]
                refine wpAnyS_take (i := 8) (fun _ => True) (v := .string (mkS txt)) rfl (by kernel_rfl) (by kernel_rfl) (by kernel_rfl) (fun _ _ _ h => h) (fun _ _ _ _ => trivial) (fun _ _ => Iff.rfl) (by kernel_rfl) hS (fun w' hSw => ?_) (by kernel_rfl) (fun hS => ?_)
                · go_simp
                try simp only [List.getElem_toArray, List.getElem_cons_zero, List.getElem_cons_succ, Act.put, List.setIfInBounds_toArray, List.set_cons_zero, List.set_cons_succ]
                refine wpAnyS_one (i := 9) (by kernel_rfl) rfl (fun K7 hK7 => ?_)
                go_simp
                refine hK7.out _ _ d1 (fun hS => ?_)
                clear hK7 K7
                try simp only [List.getElem_toArray, List.getElem_cons_zero, List.getElem_cons_succ, Act.put, List.setIfInBounds_toArray, List.set_cons_zero, List.set_cons_succ]
                refine wpAnyS_done (by kernel_rfl) ?_ _
                clear hS
                go_wp2_with fail
                refine (CTR.out _).mono ?_
                rintro e w2 ⟨⟨t, rfl, ht⟩, hb⟩
                have HS2 := Lib.hid (HS1.out.below hb)
                clear hb
                have htn : t = [] := ht.2 HLAY.out
                have hte : (mkS t).toList.isEmpty = true := by rw [isEmpty_mkS, htn]; rfl
                clear ht htn CTR
                generalize mkS t = T at *
                go_wp2_with fail
                refine (must_yes 100 _).mono ?_
                rintro e wm ⟨rfl, rfl⟩
                clear hte
                have d0 : w2.cell? ⟨g, 0, none⟩ = some (.string (mkS r2)) := Blk.cell HS2.out.rd.blk 0
                have d2 : w2.cell? ⟨g, 2, none⟩ = some (.bool s.begun) := Blk.cell HS2.out.rd.blk 2
                have CT := Lib.hid (takes_any HS2.out.rd.blk [60, 47])
                rw [HPE.out] at CT
                go_wp2_with fail
                refine CT.out.mono ?_
                rintro e w3 ⟨rfl, h1, h2⟩
                rw [trim_no HPE.out] at h2
                have HS3 := Lib.hid (HS2.out.next h1 h2)
                clear h1 h2 CT d0 d2
                have CW := Lib.hid (want_any HS3.out.rd.blk [60])
                go_wp2_with fail
                refine CW.out.mono ?_
                intro en w4 ha
                obtain ⟨h1, ⟨r', h2⟩, rfl⟩ := ha.no HW.out
                have HS4 := Lib.hid (HS3.out.next h1 h2)
                clear ha h1 h2 CW
                unfold gaveUp
                go_wp2_with fail
                exact ⟨rfl, Told.mkNo HS4.out.t HS4.out.rd HE.out⟩
              | ok y =>
                obtain ⟨uu, r3⟩ := y
                have HE : Hid (res = startR { s with rest := r3 }) := by show res = _; rw [hq3, hw]; rfl
                have hr3 : r3.length ≤ 40000 := by have := (wantR_len hw).1; simp at this; omega
                have HW := Lib.hid hw
                clear hq3 hw
                go_enter Tryz.func49, Tryz.ntmps49
                go_upto_region 1 with fail
                rw [← hp, ← hwa]
                clear hwa hp
                go_upto_region 4 with fail
                refine wp_region_S (fun _ w' => w'.cell? ⟨g, 1, none⟩ = some (.slice A N c)) (by kernel_rfl) c1 (fun hS => ?_)
                refine wpAnyS_take (i := 0) (fun w' => w'.cell? ⟨g, 1, none⟩ = some (.slice A N c)) (v := .pointer (some ⟨g, 0, none⟩)) rfl (by kernel_rfl) (by kernel_rfl) (by kernel_rfl) (fun _ _ _ h => h) (fun l w hw hS => hS) (fun _ _ => Iff.rfl) (by kernel_rfl) hS (fun w' hSw => ?_) (by kernel_rfl) (fun hS => ?_)
                · go_simp
                try simp only [List.getElem_toArray, List.getElem_cons_zero, List.getElem_cons_succ, Act.put, List.setIfInBounds_toArray, List.set_cons_zero, List.set_cons_succ]
                refine wpAnyS_take (i := 2) (fun w' => w'.cell? ⟨g, 1, none⟩ = some (.slice A N c)) (v := .pointer (some ⟨g, 0, none⟩)) rfl (by kernel_rfl) (by kernel_rfl) (by kernel_rfl) (fun _ _ _ h => h) (fun l w hw hS => hS) (fun _ _ => Iff.rfl) (by kernel_rfl) hS (fun w' hSw => ?_) (by kernel_rfl) (fun hS => ?_)
                · go_simp
                try simp only [List.getElem_toArray, List.getElem_cons_zero, List.getElem_cons_succ, Act.put, List.setIfInBounds_toArray, List.set_cons_zero, List.set_cons_succ]
                refine wpAnyS_take (i := 3) (fun w' => w'.cell? ⟨g, 1, none⟩ = some (.slice A N c)) (v := .pointer (some ⟨g, 0, none⟩)) rfl (by kernel_rfl) (by kernel_rfl) (by kernel_rfl) (fun _ _ _ h => h) (fun l w hw hS => hS) (fun _ _ => Iff.rfl) (by kernel_rfl) hS (fun w' hSw => ?_) (by kernel_rfl) (fun hS => ?_)
                · go_simp
                try simp only [List.getElem_toArray, List.getElem_cons_zero, List.getElem_cons_succ, Act.put, List.setIfInBounds_toArray, List.set_cons_zero, List.set_cons_succ]
                refine wpAnyS_take (i := 4) (fun w' => w'.cell? ⟨g, 1, none⟩ = some (.slice A N c)) (v := .pointer (some ⟨g, 1, none⟩)) rfl (by kernel_rfl) (by kernel_rfl) (by kernel_rfl) (fun _ _ _ h => h) (fun l w hw hS => hS) (fun _ _ => Iff.rfl) (by kernel_rfl) hS (fun w' hSw => ?_) (by kernel_rfl) (fun hS => ?_)
                · go_simp
                try simp only [List.getElem_toArray, List.getElem_cons_zero, List.getElem_cons_succ, Act.put, List.setIfInBounds_toArray, List.set_cons_zero, List.set_cons_succ]
                refine wpAnyS_take (i := 5) (fun w' => w'.cell? ⟨g, 1, none⟩ = some (.slice A N c)) (v := .slice A N c) rfl (by kernel_rfl) (by kernel_rfl) (by kernel_rfl) (fun _ _ _ h => h) (fun l w hw hS => hS) (fun _ _ => Iff.rfl) (by kernel_rfl) hS (fun w' hSw => ?_) (by kernel_rfl) (fun hS => ?_)
                · go_simp
                try simp only [List.getElem_toArray, List.getElem_cons_zero, List.getElem_cons_succ, Act.put, List.setIfInBounds_toArray, List.set_cons_zero, List.set_cons_succ]
                refine wpAnyS_take (i := 6) (fun w' => w'.cell? ⟨g, 1, none⟩ = some (.slice A N c)) (v := .int .i64 (N : Int)) rfl (by kernel_rfl) (by kernel_rfl) (by kernel_rfl) (fun _ _ _ h => h) (fun l w hw hS => hS) (fun _ _ => Iff.rfl) (by kernel_rfl) hS (fun w' hSw => ?_) (by kernel_rfl) (fun hS => ?_)
                · go_simp
                try simp only [List.getElem_toArray, List.getElem_cons_zero, List.getElem_cons_succ, Act.put, List.setIfInBounds_toArray, List.set_cons_zero, List.set_cons_succ]
                refine wpAnyS_take (i := 7) (fun w' => w'.cell? ⟨g, 1, none⟩ = some (.slice A N c)) (v := .bool false) rfl (by kernel_rfl) (by kernel_rfl) (by kernel_rfl) (fun _ _ _ h => h) (fun l w hw hS => hS) (fun _ _ => Iff.rfl) (by kernel_rfl) hS (fun w' hSw => ?_) (by kernel_rfl) (fun hS => ?_)
                · go_simp
                  try omega
                try simp only [List.getElem_toArray, List.getElem_cons_zero, List.getElem_cons_succ, Act.put, List.setIfInBounds_toArray, List.set_cons_zero, List.set_cons_succ]
                refine wpAnyS_one (i := 1) (by kernel_rfl) rfl (fun K7 hK7 => ?_)
                go_simp
                refine CRUN.out.mono ?_
                intro en w1 ha
                obtain ⟨h1, h2, rfl⟩ := ha.ok HRUN.out
                have HS1 := Lib.hid (HS0.out.next h1.from_drew h2)
                have d1 : w1.cell? ⟨g, 1, none⟩ = some (.slice A N c) := Blk.cell HS1.out.rd.blk 1
                clear ha h1 h2 CRUN
                unfold sV
                refine hK7.out _ _ d1 (fun hS => ?_)
                clear hK7 K7
                try simp only [List.getElem_toArray, List.getElem_cons_zero, List.getElem_cons_succ, Act.put, List.setIfInBounds_toArray, List.set_cons_zero, List.set_cons_succ]
                refine wpAnyS_take (i := 8) (fun _ => True) (v := .string (mkS txt)) rfl (by kernel_rfl) (by kernel_rfl) (by kernel_rfl) (fun _ _ _ h => h) (fun _ _ _ _ => trivial) (fun _ _ => Iff.rfl) (by kernel_rfl) hS (fun w' hSw => ?_) (by kernel_rfl) (fun hS => ?_)
                · go_simp
                try simp only [List.getElem_toArray, List.getElem_cons_zero, List.getElem_cons_succ, Act.put, List.setIfInBounds_toArray, List.set_cons_zero, List.set_cons_succ]
                refine wpAnyS_one (i := 9) (by kernel_rfl) rfl (fun K7 hK7 => ?_)
                go_simp
                refine hK7.out _ _ d1 (fun hS => ?_)
                clear hK7 K7
                try simp only [List.getElem_toArray, List.getElem_cons_zero, List.getElem_cons_succ, Act.put, List.setIfInBounds_toArray, List.set_cons_zero, List.set_cons_succ]
                refine wpAnyS_done (by kernel_rfl) ?_ _
                clear hS
                go_wp2_with fail
                refine (CTR.out _).mono ?_
                rintro e w2 ⟨⟨t, rfl, ht⟩, hb⟩
                have HS2 := Lib.hid (HS1.out.below hb)
                clear hb
                have htn : t = [] := ht.2 HLAY.out
                have hte : (mkS t).toList.isEmpty = true := by rw [isEmpty_mkS, htn]; rfl
                clear ht htn CTR
                generalize mkS t = T at *
                go_wp2_with fail
                refine (must_yes 100 _).mono ?_
                rintro e wm ⟨rfl, rfl⟩
                clear hte
                have d0 : w2.cell? ⟨g, 0, none⟩ = some (.string (mkS r2)) := Blk.cell HS2.out.rd.blk 0
                have d2 : w2.cell? ⟨g, 2, none⟩ = some (.bool s.begun) := Blk.cell HS2.out.rd.blk 2
                have CT := Lib.hid (takes_any HS2.out.rd.blk [60, 47])
                rw [HPE.out] at CT
                go_wp2_with fail
                refine CT.out.mono ?_
                rintro e w3 ⟨rfl, h1, h2⟩
                rw [trim_no HPE.out] at h2
                have HS3 := Lib.hid (HS2.out.next h1 h2)
                clear h1 h2 CT d0 d2
                have CW := Lib.hid (want_any HS3.out.rd.blk [60])
                go_wp2_with fail
                refine CW.out.mono ?_
                intro en w4 ha
                obtain ⟨h1, h2, rfl⟩ := ha.ok HW.out
                have HS4 := Lib.hid (HS3.out.next h1 h2)
                clear ha h1 h2 CW
                unfold uV
                have CE := Lib.hid (start_any HS4.out.rd (HEN.out _ HS4.out.t) hBb hr3 (by show s.opn.length ≤ 16; rw [HNN.out]; omega) HSF.out)
                rw [← HE.out] at CE
                go_wp2_with fail
                refine CE.out.mono ?_
                intro en w5 ha
                rcases HS4.out.tell ha with ⟨k, rfl, hv⟩ | ⟨pc, A4, c4, rfl, hb4, hv⟩
                · have HV := Lib.hid hv
                  clear ha hv
                  unfold gaveUp at HV ⊢
                  go_wp2_with fail
                  exact ⟨rfl, HV.out⟩
                · have HV := Lib.hid (hv (put4 w5 p (.int .i64 pc.kind) (.string (mkS pc.name)) (.slice A4 pc.attrs.length c4) (.string (mkS pc.text))) put4_turned)
                  have HB4 := Lib.hid (put4_blk (a := .int .i64 pc.kind) (b := .string (mkS pc.name)) (c := .slice A4 pc.attrs.length c4) (d := .string (mkS pc.text)) hb4)
                  have b0 := hb4.cell 0
                  have b1 := hb4.cell 1
                  have b2 := hb4.cell 2
                  have b3 := hb4.cell 3
                  have f0 := hb4.free 0
                  have f1 := hb4.free 1
                  have f2 := hb4.free 2
                  have f3 := hb4.free 3
                  simp at b0 b1 b2 b3
                  clear ha hv hb4
                  unfold pcV at HV ⊢
                  unfold put4 at HV HB4
                  go_wp2_with fail
                  refine bodyPost_ret (v := .agg #[.int .i64 pc.kind, .string (mkS pc.name), .slice A4 pc.attrs.length c4, .string (mkS pc.text)]) ?_ rfl HV.out
                  refine (results_one rfl _ (ad := ⟨p, 0, none⟩) rfl).trans ?_
                  exact pc_load HB4.out
      · have hz0 : (0 : Int) < (N : Int) := by omega
        rw [if_pos hz] at hq2
        cases htn : txt with
        | cons a b =>
          rw [if_pos (by rw [htn]; simp)] at hq2
          have HE := Lib.hid hq2
          have hte : (mkS txt).toList.isEmpty = false := by rw [isEmpty_mkS, htn]; rfl
          have hap := htn
          clear hq2 htn hap
          go_enter Tryz.func49, Tryz.ntmps49
          go_upto_region 1 with fail
          rw [← hp, ← hwa]
          clear hwa hp
          go_upto_region 4 with fail
          refine wp_region_S (fun _ w' => w'.cell? ⟨g, 1, none⟩ = some (.slice A N c)) (by kernel_rfl) c1 (fun hS => ?_)
          refine wpAnyS_take (i := 0) (fun w' => w'.cell? ⟨g, 1, none⟩ = some (.slice A N c)) (v := .pointer (some ⟨g, 0, none⟩)) rfl (by kernel_rfl) (by kernel_rfl) (by kernel_rfl) (fun _ _ _ h => h) (fun l w hw hS => hS) (fun _ _ => Iff.rfl) (by kernel_rfl) hS (fun w' hSw => ?_) (by kernel_rfl) (fun hS => ?_)
          · go_simp
          try simp only [List.getElem_toArray, List.getElem_cons_zero, List.getElem_cons_succ, Act.put, List.setIfInBounds_toArray, List.set_cons_zero, List.set_cons_succ]
          refine wpAnyS_take (i := 2) (fun w' => w'.cell? ⟨g, 1, none⟩ = some (.slice A N c)) (v := .pointer (some ⟨g, 0, none⟩)) rfl (by kernel_rfl) (by kernel_rfl) (by kernel_rfl) (fun _ _ _ h => h) (fun l w hw hS => hS) (fun _ _ => Iff.rfl) (by kernel_rfl) hS (fun w' hSw => ?_) (by kernel_rfl) (fun hS => ?_)
          · go_simp
          try simp only [List.getElem_toArray, List.getElem_cons_zero, List.getElem_cons_succ, Act.put, List.setIfInBounds_toArray, List.set_cons_zero, List.set_cons_succ]
          refine wpAnyS_take (i := 3) (fun w' => w'.cell? ⟨g, 1, none⟩ = some (.slice A N c)) (v := .pointer (some ⟨g, 0, none⟩)) rfl (by kernel_rfl) (by kernel_rfl) (by kernel_rfl) (fun _ _ _ h => h) (fun l w hw hS => hS) (fun _ _ => Iff.rfl) (by kernel_rfl) hS (fun w' hSw => ?_) (by kernel_rfl) (fun hS => ?_)
          · go_simp
          try simp only [List.getElem_toArray, List.getElem_cons_zero, List.getElem_cons_succ, Act.put, List.setIfInBounds_toArray, List.set_cons_zero, List.set_cons_succ]
          refine wpAnyS_take (i := 4) (fun w' => w'.cell? ⟨g, 1, none⟩ = some (.slice A N c)) (v := .pointer (some ⟨g, 1, none⟩)) rfl (by kernel_rfl) (by kernel_rfl) (by kernel_rfl) (fun _ _ _ h => h) (fun l w hw hS => hS) (fun _ _ => Iff.rfl) (by kernel_rfl) hS (fun w' hSw => ?_) (by kernel_rfl) (fun hS => ?_)
          · go_simp
          try simp only [List.getElem_toArray, List.getElem_cons_zero, List.getElem_cons_succ, Act.put, List.setIfInBounds_toArray, List.set_cons_zero, List.set_cons_succ]
          refine wpAnyS_take (i := 5) (fun w' => w'.cell? ⟨g, 1, none⟩ = some (.slice A N c)) (v := .slice A N c) rfl (by kernel_rfl) (by kernel_rfl) (by kernel_rfl) (fun _ _ _ h => h) (fun l w hw hS => hS) (fun _ _ => Iff.rfl) (by kernel_rfl) hS (fun w' hSw => ?_) (by kernel_rfl) (fun hS => ?_)
          · go_simp
          try simp only [List.getElem_toArray, List.getElem_cons_zero, List.getElem_cons_succ, Act.put, List.setIfInBounds_toArray, List.set_cons_zero, List.set_cons_succ]
          refine wpAnyS_take (i := 6) (fun w' => w'.cell? ⟨g, 1, none⟩ = some (.slice A N c)) (v := .int .i64 (N : Int)) rfl (by kernel_rfl) (by kernel_rfl) (by kernel_rfl) (fun _ _ _ h => h) (fun l w hw hS => hS) (fun _ _ => Iff.rfl) (by kernel_rfl) hS (fun w' hSw => ?_) (by kernel_rfl) (fun hS => ?_)
          · go_simp
          try simp only [List.getElem_toArray, List.getElem_cons_zero, List.getElem_cons_succ, Act.put, List.setIfInBounds_toArray, List.set_cons_zero, List.set_cons_succ]
          refine wpAnyS_take (i := 7) (fun w' => w'.cell? ⟨g, 1, none⟩ = some (.slice A N c)) (v := .bool true) rfl (by kernel_rfl) (by kernel_rfl) (by kernel_rfl) (fun _ _ _ h => h) (fun l w hw hS => hS) (fun _ _ => Iff.rfl) (by kernel_rfl) hS (fun w' hSw => ?_) (by kernel_rfl) (fun hS => ?_)
          · go_simp
            try omega
          try simp only [List.getElem_toArray, List.getElem_cons_zero, List.getElem_cons_succ, Act.put, List.setIfInBounds_toArray, List.set_cons_zero, List.set_cons_succ]
          refine wpAnyS_one (i := 1) (by kernel_rfl) rfl (fun K7 hK7 => ?_)
          go_simp
          refine CRUN.out.mono ?_
          intro en w1 ha
          obtain ⟨h1, h2, rfl⟩ := ha.ok HRUN.out
          have HS1 := Lib.hid (HS0.out.next h1.from_drew h2)
          have d1 : w1.cell? ⟨g, 1, none⟩ = some (.slice A N c) := Blk.cell HS1.out.rd.blk 1
          clear ha h1 h2 CRUN
          unfold sV
          refine hK7.out _ _ d1 (fun hS => ?_)
          clear hK7 K7
          try simp only [List.getElem_toArray, List.getElem_cons_zero, List.getElem_cons_succ, Act.put, List.setIfInBounds_toArray, List.set_cons_zero, List.set_cons_succ]
          refine wpAnyS_take (i := 8) (fun _ => True) (v := .string (mkS txt)) rfl (by kernel_rfl) (by kernel_rfl) (by kernel_rfl) (fun _ _ _ h => h) (fun _ _ _ _ => trivial) (fun _ _ => Iff.rfl) (by kernel_rfl) hS (fun w' hSw => ?_) (by kernel_rfl) (fun hS => ?_)
          · go_simp
          try simp only [List.getElem_toArray, List.getElem_cons_zero, List.getElem_cons_succ, Act.put, List.setIfInBounds_toArray, List.set_cons_zero, List.set_cons_succ]
          refine wpAnyS_one (i := 9) (by kernel_rfl) rfl (fun K7 hK7 => ?_)
          go_simp
          refine hK7.out _ _ d1 (fun hS => ?_)
          clear hK7 K7
          try simp only [List.getElem_toArray, List.getElem_cons_zero, List.getElem_cons_succ, Act.put, List.setIfInBounds_toArray, List.set_cons_zero, List.set_cons_succ]
          refine wpAnyS_done (by kernel_rfl) ?_ _
          clear hS
          have HV := Lib.hid (HS1.out.own HE.out (put4_turned (a := .int .i64 3) (b := .string ⟨#[]⟩) (c := .slice none 0 0) (d := .string (mkS txt))))
          have HB4 := Lib.hid (put4_blk (a := .int .i64 3) (b := .string ⟨#[]⟩) (c := .slice none 0 0) (d := .string (mkS txt)) HS1.out.res)
          have b0 := HS1.out.res.cell 0
          have b1 := HS1.out.res.cell 1
          have b2 := HS1.out.res.cell 2
          have b3 := HS1.out.res.cell 3
          have f0 := HS1.out.res.free 0
          have f1 := HS1.out.res.free 1
          have f2 := HS1.out.res.free 2
          have g3 := HS1.out.res.free 3
          simp at b0 b1 b2 b3
          unfold put4 at HV HB4
          go_wp2_with fail
          refine (must_yes 100 _).mono ?_
          rintro e wm ⟨rfl, rfl⟩
          go_wp2_with fail
          refine bodyPost_ret (v := .agg #[.int .i64 3, .string ⟨#[]⟩, .slice none 0 0, .string (mkS txt)]) ?_ rfl HV.out
          refine (results_one rfl _ (ad := ⟨p, 0, none⟩) rfl).trans ?_
          exact pc_load HB4.out
        | nil =>
          rw [if_neg (by rw [htn]; simp)] at hq2
          have hte : (mkS txt).toList.isEmpty = true := by rw [isEmpty_mkS, htn]; rfl
          clear htn
          cases hrn : r2 with
          | nil =>
            rw [if_pos hrn] at hq2
            have hre : (mkS r2).toList.isEmpty = true := by rw [isEmpty_mkS, hrn]; rfl
            have HE := Lib.hid hq2
            clear hq2 hrn
            go_enter Tryz.func49, Tryz.ntmps49
            go_upto_region 1 with fail
            rw [← hp, ← hwa]
            clear hwa hp
            go_upto_region 4 with fail
            refine wp_region_S (fun _ w' => w'.cell? ⟨g, 1, none⟩ = some (.slice A N c)) (by kernel_rfl) c1 (fun hS => ?_)
            refine wpAnyS_take (i := 0) (fun w' => w'.cell? ⟨g, 1, none⟩ = some (.slice A N c)) (v := .pointer (some ⟨g, 0, none⟩)) rfl (by kernel_rfl) (by kernel_rfl) (by kernel_rfl) (fun _ _ _ h => h) (fun l w hw hS => hS) (fun _ _ => Iff.rfl) (by kernel_rfl) hS (fun w' hSw => ?_) (by kernel_rfl) (fun hS => ?_)
            · go_simp
            try simp only [List.getElem_toArray, List.getElem_cons_zero, List.getElem_cons_succ, Act.put, List.setIfInBounds_toArray, List.set_cons_zero, List.set_cons_succ]
            refine wpAnyS_take (i := 2) (fun w' => w'.cell? ⟨g, 1, none⟩ = some (.slice A N c)) (v := .pointer (some ⟨g, 0, none⟩)) rfl (by kernel_rfl) (by kernel_rfl) (by kernel_rfl) (fun _ _ _ h => h) (fun l w hw hS => hS) (fun _ _ => Iff.rfl) (by kernel_rfl) hS (fun w' hSw => ?_) (by kernel_rfl) (fun hS => ?_)
            · go_simp
            try simp only [List.getElem_toArray, List.getElem_cons_zero, List.getElem_cons_succ, Act.put, List.setIfInBounds_toArray, List.set_cons_zero, List.set_cons_succ]
            refine wpAnyS_take (i := 3) (fun w' => w'.cell? ⟨g, 1, none⟩ = some (.slice A N c)) (v := .pointer (some ⟨g, 0, none⟩)) rfl (by kernel_rfl) (by kernel_rfl) (by kernel_rfl) (fun _ _ _ h => h) (fun l w hw hS => hS) (fun _ _ => Iff.rfl) (by kernel_rfl) hS (fun w' hSw => ?_) (by kernel_rfl) (fun hS => ?_)
            · go_simp
            try simp only [List.getElem_toArray, List.getElem_cons_zero, List.getElem_cons_succ, Act.put, List.setIfInBounds_toArray, List.set_cons_zero, List.set_cons_succ]
            refine wpAnyS_take (i := 4) (fun w' => w'.cell? ⟨g, 1, none⟩ = some (.slice A N c)) (v := .pointer (some ⟨g, 1, none⟩)) rfl (by kernel_rfl) (by kernel_rfl) (by kernel_rfl) (fun _ _ _ h => h) (fun l w hw hS => hS) (fun _ _ => Iff.rfl) (by kernel_rfl) hS (fun w' hSw => ?_) (by kernel_rfl) (fun hS => ?_)
            · go_simp
            try simp only [List.getElem_toArray, List.getElem_cons_zero, List.getElem_cons_succ, Act.put, List.setIfInBounds_toArray, List.set_cons_zero, List.set_cons_succ]
            refine wpAnyS_take (i := 5) (fun w' => w'.cell? ⟨g, 1, none⟩ = some (.slice A N c)) (v := .slice A N c) rfl (by kernel_rfl) (by kernel_rfl) (by kernel_rfl) (fun _ _ _ h => h) (fun l w hw hS => hS) (fun _ _ => Iff.rfl) (by kernel_rfl) hS (fun w' hSw => ?_) (by kernel_rfl) (fun hS => ?_)
            · go_simp
            try simp only [List.getElem_toArray, List.getElem_cons_zero, List.getElem_cons_succ, Act.put, List.setIfInBounds_toArray, List.set_cons_zero, List.set_cons_succ]
            refine wpAnyS_take (i := 6) (fun w' => w'.cell? ⟨g, 1, none⟩ = some (.slice A N c)) (v := .int .i64 (N : Int)) rfl (by kernel_rfl) (by kernel_rfl) (by kernel_rfl) (fun _ _ _ h => h) (fun l w hw hS => hS) (fun _ _ => Iff.rfl) (by kernel_rfl) hS (fun w' hSw => ?_) (by kernel_rfl) (fun hS => ?_)
            · go_simp
            try simp only [List.getElem_toArray, List.getElem_cons_zero, List.getElem_cons_succ, Act.put, List.setIfInBounds_toArray, List.set_cons_zero, List.set_cons_succ]
            refine wpAnyS_take (i := 7) (fun w' => w'.cell? ⟨g, 1, none⟩ = some (.slice A N c)) (v := .bool true) rfl (by kernel_rfl) (by kernel_rfl) (by kernel_rfl) (fun _ _ _ h => h) (fun l w hw hS => hS) (fun _ _ => Iff.rfl) (by kernel_rfl) hS (fun w' hSw => ?_) (by kernel_rfl) (fun hS => ?_)
            · go_simp
              try omega
            try simp only [List.getElem_toArray, List.getElem_cons_zero, List.getElem_cons_succ, Act.put, List.setIfInBounds_toArray, List.set_cons_zero, List.set_cons_succ]
            refine wpAnyS_one (i := 1) (by kernel_rfl) rfl (fun K7 hK7 => ?_)
            go_simp
            refine CRUN.out.mono ?_
            intro en w1 ha
            obtain ⟨h1, h2, rfl⟩ := ha.ok HRUN.out
            have HS1 := Lib.hid (HS0.out.next h1.from_drew h2)
            have d1 : w1.cell? ⟨g, 1, none⟩ = some (.slice A N c) := Blk.cell HS1.out.rd.blk 1
            clear ha h1 h2 CRUN
            unfold sV
            refine hK7.out _ _ d1 (fun hS => ?_)
            clear hK7 K7
            try simp only [List.getElem_toArray, List.getElem_cons_zero, List.getElem_cons_succ, Act.put, List.setIfInBounds_toArray, List.set_cons_zero, List.set_cons_succ]
            refine wpAnyS_take (i := 8) (fun _ => True) (v := .string (mkS txt)) rfl (by kernel_rfl) (by kernel_rfl) (by kernel_rfl) (fun _ _ _ h => h) (fun _ _ _ _ => trivial) (fun _ _ => Iff.rfl) (by kernel_rfl) hS (fun w' hSw => ?_) (by kernel_rfl) (fun hS => ?_)
            · go_simp
            try simp only [List.getElem_toArray, List.getElem_cons_zero, List.getElem_cons_succ, Act.put, List.setIfInBounds_toArray, List.set_cons_zero, List.set_cons_succ]
            refine wpAnyS_one (i := 9) (by kernel_rfl) rfl (fun K7 hK7 => ?_)
            go_simp
            refine hK7.out _ _ d1 (fun hS => ?_)
            clear hK7 K7
            try simp only [List.getElem_toArray, List.getElem_cons_zero, List.getElem_cons_succ, Act.put, List.setIfInBounds_toArray, List.set_cons_zero, List.set_cons_succ]
            refine wpAnyS_done (by kernel_rfl) ?_ _
            clear hS
            go_wp2_with fail
            refine (must_yes 100 _).mono ?_
            rintro e wm ⟨rfl, rfl⟩
            have d0 : w1.cell? ⟨g, 0, none⟩ = some (.string (mkS r2)) := Blk.cell HS1.out.rd.blk 0
            have d2 : w1.cell? ⟨g, 2, none⟩ = some (.bool s.begun) := Blk.cell HS1.out.rd.blk 2
            go_wp2_with fail
            all_goals
              refine (must_no 100 _).mono ?_
              rintro e wm2 ⟨rfl, rfl⟩
              unfold gaveUp
              go_wp2_with fail
              exact ⟨rfl, Told.mkNo HS1.out.t HS1.out.rd HE.out⟩
          | cons a b =>
            rw [if_neg (by rw [hrn]; simp)] at hq2
            have hre : (mkS r2).toList.isEmpty = false := by rw [isEmpty_mkS, hrn]; rfl
            clear hrn a b
            cases hpe : Lib.hasPrefix r2 [60, 47] with
            | true =>
              have HE : Hid (res = endR { s with rest := Lib.trimPrefix r2 [60, 47] }) := by show res = _; rw [hq2]; unfold nextT; rw [if_pos hpe]
              have HPE := Lib.hid hpe
              have htr := trim_len r2 [60, 47]
              clear hq2 hpe
              go_enter Tryz.func49, Tryz.ntmps49
              go_upto_region 1 with fail
              rw [← hp, ← hwa]
              clear hwa hp
              go_upto_region 4 with fail
              refine wp_region_S (fun _ w' => w'.cell? ⟨g, 1, none⟩ = some (.slice A N c)) (by kernel_rfl) c1 (fun hS => ?_)
              refine wpAnyS_take (i := 0) (fun w' => w'.cell? ⟨g, 1, none⟩ = some (.slice A N c)) (v := .pointer (some ⟨g, 0, none⟩)) rfl (by kernel_rfl) (by kernel_rfl) (by kernel_rfl) (fun _ _ _ h => h) (fun l w hw hS => hS) (fun _ _ => Iff.rfl) (by kernel_rfl) hS (fun w' hSw => ?_) (by kernel_rfl) (fun hS => ?_)
              · go_simp
              try simp only [List.getElem_toArray, List.getElem_cons_zero, List.getElem_cons_succ, Act.put, List.setIfInBounds_toArray, List.set_cons_zero, List.set_cons_succ]
              refine wpAnyS_take (i := 2) (fun w' => w'.cell? ⟨g, 1, none⟩ = some (.slice A N c)) (v := .pointer (some ⟨g, 0, none⟩)) rfl (by kernel_rfl) (by kernel_rfl) (by kernel_rfl) (fun _ _ _ h => h) (fun l w hw hS => hS) (fun _ _ => Iff.rfl) (by kernel_rfl) hS (fun w' hSw => ?_) (by kernel_rfl) (fun hS => ?_)
              · go_simp
              try simp only [List.getElem_toArray, List.getElem_cons_zero, List.getElem_cons_succ, Act.put, List.setIfInBounds_toArray, List.set_cons_zero, List.set_cons_succ]
              refine wpAnyS_take (i := 3) (fun w' => w'.cell? ⟨g, 1, none⟩ = some (.slice A N c)) (v := .pointer (some ⟨g, 0, none⟩)) rfl (by kernel_rfl) (by kernel_rfl) (by kernel_rfl) (fun _ _ _ h => h) (fun l w hw hS => hS) (fun _ _ => Iff.rfl) (by kernel_rfl) hS (fun w' hSw => ?_) (by kernel_rfl) (fun hS => ?_)
              · go_simp
              try simp only [List.getElem_toArray, List.getElem_cons_zero, List.getElem_cons_succ, Act.put, List.setIfInBounds_toArray, List.set_cons_zero, List.set_cons_succ]
              refine wpAnyS_take (i := 4) (fun w' => w'.cell? ⟨g, 1, none⟩ = some (.slice A N c)) (v := .pointer (some ⟨g, 1, none⟩)) rfl (by kernel_rfl) (by kernel_rfl) (by kernel_rfl) (fun _ _ _ h => h) (fun l w hw hS => hS) (fun _ _ => Iff.rfl) (by kernel_rfl) hS (fun w' hSw => ?_) (by kernel_rfl) (fun hS => ?_)
              · go_simp
              try simp only [List.getElem_toArray, List.getElem_cons_zero, List.getElem_cons_succ, Act.put, List.setIfInBounds_toArray, List.set_cons_zero, List.set_cons_succ]
              refine wpAnyS_take (i := 5) (fun w' => w'.cell? ⟨g, 1, none⟩ = some (.slice A N c)) (v := .slice A N c) rfl (by kernel_rfl) (by kernel_rfl) (by kernel_rfl) (fun _ _ _ h => h) (fun l w hw hS => hS) (fun _ _ => Iff.rfl) (by kernel_rfl) hS (fun w' hSw => ?_) (by kernel_rfl) (fun hS => ?_)
              · go_simp
              try simp only [List.getElem_toArray, List.getElem_cons_zero, List.getElem_cons_succ, Act.put, List.setIfInBounds_toArray, List.set_cons_zero, List.set_cons_succ]
              refine wpAnyS_take (i := 6) (fun w' => w'.cell? ⟨g, 1, none⟩ = some (.slice A N c)) (v := .int .i64 (N : Int)) rfl (by kernel_rfl) (by kernel_rfl) (by kernel_rfl) (fun _ _ _ h => h) (fun l w hw hS => hS) (fun _ _ => Iff.rfl) (by kernel_rfl) hS (fun w' hSw => ?_) (by kernel_rfl) (fun hS => ?_)
              · go_simp
              try simp only [List.getElem_toArray, List.getElem_cons_zero, List.getElem_cons_succ, Act.put, List.setIfInBounds_toArray, List.set_cons_zero, List.set_cons_succ]
              refine wpAnyS_take (i := 7) (fun w' => w'.cell? ⟨g, 1, none⟩ = some (.slice A N c)) (v := .bool true) rfl (by kernel_rfl) (by kernel_rfl) (by kernel_rfl) (fun _ _ _ h => h) (fun l w hw hS => hS) (fun _ _ => Iff.rfl) (by kernel_rfl) hS (fun w' hSw => ?_) (by kernel_rfl) (fun hS => ?_)
              · go_simp
                try omega
              try simp only [List.getElem_toArray, List.getElem_cons_zero, List.getElem_cons_succ, Act.put, List.setIfInBounds_toArray, List.set_cons_zero, List.set_cons_succ]
              refine wpAnyS_one (i := 1) (by kernel_rfl) rfl (fun K7 hK7 => ?_)
              go_simp
              refine CRUN.out.mono ?_
              intro en w1 ha
              obtain ⟨h1, h2, rfl⟩ := ha.ok HRUN.out
              have HS1 := Lib.hid (HS0.out.next h1.from_drew h2)
              have d1 : w1.cell? ⟨g, 1, none⟩ = some (.slice A N c) := Blk.cell HS1.out.rd.blk 1
              clear ha h1 h2 CRUN
              unfold sV
              refine hK7.out _ _ d1 (fun hS => ?_)
              clear hK7 K7
              try simp only [List.getElem_toArray, List.getElem_cons_zero, List.getElem_cons_succ, Act.put, List.setIfInBounds_toArray, List.set_cons_zero, List.set_cons_succ]
              refine wpAnyS_take (i := 8) (fun _ => True) (v := .string (mkS txt)) rfl (by kernel_rfl) (by kernel_rfl) (by kernel_rfl) (fun _ _ _ h => h) (fun _ _ _ _ => trivial) (fun _ _ => Iff.rfl) (by kernel_rfl) hS (fun w' hSw => ?_) (by kernel_rfl) (fun hS => ?_)
              · go_simp
              try simp only [List.getElem_toArray, List.getElem_cons_zero, List.getElem_cons_succ, Act.put, List.setIfInBounds_toArray, List.set_cons_zero, List.set_cons_succ]
              refine wpAnyS_one (i := 9) (by kernel_rfl) rfl (fun K7 hK7 => ?_)
              go_simp
              refine hK7.out _ _ d1 (fun hS => ?_)
              clear hK7 K7
              try simp only [List.getElem_toArray, List.getElem_cons_zero, List.getElem_cons_succ, Act.put, List.setIfInBounds_toArray, List.set_cons_zero, List.set_cons_succ]
              refine wpAnyS_done (by kernel_rfl) ?_ _
              clear hS
              go_wp2_with fail
              refine (must_yes 100 _).mono ?_
              rintro e wm ⟨rfl, rfl⟩
              have d0 : w1.cell? ⟨g, 0, none⟩ = some (.string (mkS r2)) := Blk.cell HS1.out.rd.blk 0
              have d2 : w1.cell? ⟨g, 2, none⟩ = some (.bool s.begun) := Blk.cell HS1.out.rd.blk 2
              have CT := Lib.hid (takes_any HS1.out.rd.blk [60, 47])
              rw [HPE.out] at CT
              go_wp2_with fail
              refine CT.out.mono ?_
              rintro e w2 ⟨rfl, h1, h2⟩
              have HS2 := Lib.hid (HS1.out.next h1 h2)
              clear h1 h2 CT d0 d2
              have CE := Lib.hid (end_any HS2.out.rd (show (Lib.trimPrefix r2 [60, 47]).length ≤ 40000 by omega) (by show s.opn.length ≤ 17; rw [HNN.out]; omega))
              rw [← HE.out] at CE
              go_wp2_with fail
              refine CE.out.mono ?_
              intro en w3 ha
              rcases HS2.out.tell ha with ⟨k, rfl, hv⟩ | ⟨pc, A4, c4, rfl, hb4, hv⟩
              · have HV := Lib.hid hv
                clear ha hv
                unfold gaveUp at HV ⊢
                go_wp2_with fail
                exact ⟨rfl, HV.out⟩
              · have HV := Lib.hid (hv (put4 w3 p (.int .i64 pc.kind) (.string (mkS pc.name)) (.slice A4 pc.attrs.length c4) (.string (mkS pc.text))) put4_turned)
                have HB4 := Lib.hid (put4_blk (a := .int .i64 pc.kind) (b := .string (mkS pc.name)) (c := .slice A4 pc.attrs.length c4) (d := .string (mkS pc.text)) hb4)
                have b0 := hb4.cell 0
                have b1 := hb4.cell 1
                have b2 := hb4.cell 2
                have b3 := hb4.cell 3
                have f0 := hb4.free 0
                have f1 := hb4.free 1
                have f2 := hb4.free 2
                have f3 := hb4.free 3
                simp at b0 b1 b2 b3
                clear ha hv hb4
                unfold pcV at HV ⊢
                unfold put4 at HV HB4
                go_wp2_with fail
                refine bodyPost_ret (v := .agg #[.int .i64 pc.kind, .string (mkS pc.name), .slice A4 pc.attrs.length c4, .string (mkS pc.text)]) ?_ rfl HV.out
                refine (results_one rfl _ (ad := ⟨p, 0, none⟩) rfl).trans ?_
                exact pc_load HB4.out
            | false =>
              have HPE := Lib.hid hpe
              have hq3 : res = (wantR [60] r2).bind fun y => startR { s with rest := y.2 } := by rw [hq2]; unfold nextT; rw [if_neg (by rw [hpe]; decide)]
              clear hq2 hpe
              cases hw : wantR [60] r2 with
              | error e =>
                have HE : Hid (res = .error e) := by show res = _; rw [hq3, hw]; rfl
                have HW := Lib.hid hw
                clear hq3 hw
                go_enter Tryz.func49, Tryz.ntmps49
                go_upto_region 1 with fail
                rw [← hp, ← hwa]
                clear hwa hp
                go_upto_region 4 with fail
                refine wp_region_S (fun _ w' => w'.cell? ⟨g, 1, none⟩ = some (.slice A N c)) (by kernel_rfl) c1 (fun hS => ?_)
                refine wpAnyS_take (i := 0) (fun w' => w'.cell? ⟨g, 1, none⟩ = some (.slice A N c)) (v := .pointer (some ⟨g, 0, none⟩)) rfl (by kernel_rfl) (by kernel_rfl) (by kernel_rfl) (fun _ _ _ h => h) (fun l w hw hS => hS) (fun _ _ => Iff.rfl) (by kernel_rfl) hS (fun w' hSw => ?_) (by kernel_rfl) (fun hS => ?_)
                · go_simp
                try simp only [List.getElem_toArray, List.getElem_cons_zero, List.getElem_cons_succ, Act.put, List.setIfInBounds_toArray, List.set_cons_zero, List.set_cons_succ]
                refine wpAnyS_take (i := 2) (fun w' => w'.cell? ⟨g, 1, none⟩ = some (.slice A N c)) (v := .pointer (some ⟨g, 0, none⟩)) rfl (by kernel_rfl) (by kernel_rfl) (by kernel_rfl) (fun _ _ _ h => h) (fun l w hw hS => hS) (fun _ _ => Iff.rfl) (by kernel_rfl) hS (fun w' hSw => ?_) (by kernel_rfl) (fun hS => ?_)
                · go_simp
                try simp only [List.getElem_toArray, List.getElem_cons_zero, List.getElem_cons_succ, Act.put, List.setIfInBounds_toArray, List.set_cons_zero, List.set_cons_succ]
                refine wpAnyS_take (i := 3) (fun w' => w'.cell? ⟨g, 1, none⟩ = some (.slice A N c)) (v := .pointer (some ⟨g, 0, none⟩)) rfl (by kernel_rfl) (by kernel_rfl) (by kernel_rfl) (fun _ _ _ h => h) (fun l w hw hS => hS) (fun _ _ => Iff.rfl) (by kernel_rfl) hS (fun w' hSw => ?_) (by kernel_rfl) (fun hS => ?_)
                · go_simp
                try simp only [List.getElem_toArray, List.getElem_cons_zero, List.getElem_cons_succ, Act.put, List.setIfInBounds_toArray, List.set_cons_zero, List.set_cons_succ]
                refine wpAnyS_take (i := 4) (fun w' => w'.cell? ⟨g, 1, none⟩ = some (.slice A N c)) (v := .pointer (some ⟨g, 1, none⟩)) rfl (by kernel_rfl) (by kernel_rfl) (by kernel_rfl) (fun _ _ _ h => h) (fun l w hw hS => hS) (fun _ _ => Iff.rfl) (by kernel_rfl) hS (fun w' hSw => ?_) (by kernel_rfl) (fun hS => ?_)
                · go_simp
                try simp only [List.getElem_toArray, List.getElem_cons_zero, List.getElem_cons_succ, Act.put, List.setIfInBounds_toArray, List.set_cons_zero, List.set_cons_succ]
                refine wpAnyS_take (i := 5) (fun w' => w'.cell? ⟨g, 1, none⟩ = some (.slice A N c)) (v := .slice A N c) rfl (by kernel_rfl) (by kernel_rfl) (by kernel_rfl) (fun _ _ _ h => h) (fun l w hw hS => hS) (fun _ _ => Iff.rfl) (by kernel_rfl) hS (fun w' hSw => ?_) (by kernel_rfl) (fun hS => ?_)
                · go_simp
                try simp only [List.getElem_toArray, List.getElem_cons_zero, List.getElem_cons_succ, Act.put, List.setIfInBounds_toArray, List.set_cons_zero, List.set_cons_succ]
                refine wpAnyS_take (i := 6) (fun w' => w'.cell? ⟨g, 1, none⟩ = some (.slice A N c)) (v := .int .i64 (N : Int)) rfl (by kernel_rfl) (by kernel_rfl) (by kernel_rfl) (fun _ _ _ h => h) (fun l w hw hS => hS) (fun _ _ => Iff.rfl) (by kernel_rfl) hS (fun w' hSw => ?_) (by kernel_rfl) (fun hS => ?_)
                · go_simp
                try simp only [List.getElem_toArray, List.getElem_cons_zero, List.getElem_cons_succ, Act.put, List.setIfInBounds_toArray, List.set_cons_zero, List.set_cons_succ]
                refine wpAnyS_take (i := 7) (fun w' => w'.cell? ⟨g, 1, none⟩ = some (.slice A N c)) (v := .bool true) rfl (by kernel_rfl) (by kernel_rfl) (by kernel_rfl) (fun _ _ _ h => h) (fun l w hw hS => hS) (fun _ _ => Iff.rfl) (by kernel_rfl) hS (fun w' hSw => ?_) (by kernel_rfl) (fun hS => ?_)
                · go_simp
                  try omega
                try simp only [List.getElem_toArray, List.getElem_cons_zero, List.getElem_cons_succ, Act.put, List.setIfInBounds_toArray, List.set_cons_zero, List.set_cons_succ]
                refine wpAnyS_one (i := 1) (by kernel_rfl) rfl (fun K7 hK7 => ?_)
                go_simp
                refine CRUN.out.mono ?_
                intro en w1 ha
                obtain ⟨h1, h2, rfl⟩ := ha.ok HRUN.out
                have HS1 := Lib.hid (HS0.out.next h1.from_drew h2)
                have d1 : w1.cell? ⟨g, 1, none⟩ = some (.slice A N c) := Blk.cell HS1.out.rd.blk 1
                clear ha h1 h2 CRUN
                unfold sV
                refine hK7.out _ _ d1 (fun hS => ?_)
                clear hK7 K7
                try simp only [List.getElem_toArray, List.getElem_cons_zero, List.getElem_cons_succ, Act.put, List.setIfInBounds_toArray, List.set_cons_zero, List.set_cons_succ]
                refine wpAnyS_take (i := 8) (fun _ => True) (v := .string (mkS txt)) rfl (by kernel_rfl) (by kernel_rfl) (by kernel_rfl) (fun _ _ _ h => h) (fun _ _ _ _ => trivial) (fun _ _ => Iff.rfl) (by kernel_rfl) hS (fun w' hSw => ?_) (by kernel_rfl) (fun hS => ?_)
                · go_simp
                try simp only [List.getElem_toArray, List.getElem_cons_zero, List.getElem_cons_succ, Act.put, List.setIfInBounds_toArray, List.set_cons_zero, List.set_cons_succ]
                refine wpAnyS_one (i := 9) (by kernel_rfl) rfl (fun K7 hK7 => ?_)
                go_simp
                refine hK7.out _ _ d1 (fun hS => ?_)
                clear hK7 K7
                try simp only [List.getElem_toArray, List.getElem_cons_zero, List.getElem_cons_succ, Act.put, List.setIfInBounds_toArray, List.set_cons_zero, List.set_cons_succ]
                refine wpAnyS_done (by kernel_rfl) ?_ _
                clear hS
                go_wp2_with fail
                refine (must_yes 100 _).mono ?_
                rintro e wm ⟨rfl, rfl⟩
                have d0 : w1.cell? ⟨g, 0, none⟩ = some (.string (mkS r2)) := Blk.cell HS1.out.rd.blk 0
                have d2 : w1.cell? ⟨g, 2, none⟩ = some (.bool s.begun) := Blk.cell HS1.out.rd.blk 2
                have CT := Lib.hid (takes_any HS1.out.rd.blk [60, 47])
                rw [HPE.out] at CT
                go_wp2_with fail
                refine CT.out.mono ?_
                rintro e w2 ⟨rfl, h1, h2⟩
                rw [trim_no HPE.out] at h2
                have HS2 := Lib.hid (HS1.out.next h1 h2)
                clear h1 h2 CT d0 d2
                have CW := Lib.hid (want_any HS2.out.rd.blk [60])
                go_wp2_with fail
                refine CW.out.mono ?_
                intro en w3 ha
                obtain ⟨h1, ⟨r', h2⟩, rfl⟩ := ha.no HW.out
                have HS3 := Lib.hid (HS2.out.next h1 h2)
                clear ha h1 h2 CW
                unfold gaveUp
                go_wp2_with fail
                exact ⟨rfl, Told.mkNo HS3.out.t HS3.out.rd HE.out⟩
              | ok y =>
                obtain ⟨uu, r3⟩ := y
                have HE : Hid (res = startR { s with rest := r3 }) := by show res = _; rw [hq3, hw]; rfl
                have hr3 : r3.length ≤ 40000 := by have := (wantR_len hw).1; simp at this; omega
                have HW := Lib.hid hw
                clear hq3 hw
                go_enter Tryz.func49, Tryz.ntmps49
                go_upto_region 1 with fail
                rw [← hp, ← hwa]
                clear hwa hp
                go_upto_region 4 with fail
                refine wp_region_S (fun _ w' => w'.cell? ⟨g, 1, none⟩ = some (.slice A N c)) (by kernel_rfl) c1 (fun hS => ?_)
                refine wpAnyS_take (i := 0) (fun w' => w'.cell? ⟨g, 1, none⟩ = some (.slice A N c)) (v := .pointer (some ⟨g, 0, none⟩)) rfl (by kernel_rfl) (by kernel_rfl) (by kernel_rfl) (fun _ _ _ h => h) (fun l w hw hS => hS) (fun _ _ => Iff.rfl) (by kernel_rfl) hS (fun w' hSw => ?_) (by kernel_rfl) (fun hS => ?_)
                · go_simp
                try simp only [List.getElem_toArray, List.getElem_cons_zero, List.getElem_cons_succ, Act.put, List.setIfInBounds_toArray, List.set_cons_zero, List.set_cons_succ]
                refine wpAnyS_take (i := 2) (fun w' => w'.cell? ⟨g, 1, none⟩ = some (.slice A N c)) (v := .pointer (some ⟨g, 0, none⟩)) rfl (by kernel_rfl) (by kernel_rfl) (by kernel_rfl) (fun _ _ _ h => h) (fun l w hw hS => hS) (fun _ _ => Iff.rfl) (by kernel_rfl) hS (fun w' hSw => ?_) (by kernel_rfl) (fun hS => ?_)
                · go_simp
                try simp only [List.getElem_toArray, List.getElem_cons_zero, List.getElem_cons_succ, Act.put, List.setIfInBounds_toArray, List.set_cons_zero, List.set_cons_succ]
                refine wpAnyS_take (i := 3) (fun w' => w'.cell? ⟨g, 1, none⟩ = some (.slice A N c)) (v := .pointer (some ⟨g, 0, none⟩)) rfl (by kernel_rfl) (by kernel_rfl) (by kernel_rfl) (fun _ _ _ h => h) (fun l w hw hS => hS) (fun _ _ => Iff.rfl) (by kernel_rfl) hS (fun w' hSw => ?_) (by kernel_rfl) (fun hS => ?_)
                · go_simp
                try simp only [List.getElem_toArray, List.getElem_cons_zero, List.getElem_cons_succ, Act.put, List.setIfInBounds_toArray, List.set_cons_zero, List.set_cons_succ]
                refine wpAnyS_take (i := 4) (fun w' => w'.cell? ⟨g, 1, none⟩ = some (.slice A N c)) (v := .pointer (some ⟨g, 1, none⟩)) rfl (by kernel_rfl) (by kernel_rfl) (by kernel_rfl) (fun _ _ _ h => h) (fun l w hw hS => hS) (fun _ _ => Iff.rfl) (by kernel_rfl) hS (fun w' hSw => ?_) (by kernel_rfl) (fun hS => ?_)
                · go_simp
                try simp only [List.getElem_toArray, List.getElem_cons_zero, List.getElem_cons_succ, Act.put, List.setIfInBounds_toArray, List.set_cons_zero, List.set_cons_succ]
                refine wpAnyS_take (i := 5) (fun w' => w'.cell? ⟨g, 1, none⟩ = some (.slice A N c)) (v := .slice A N c) rfl (by kernel_rfl) (by kernel_rfl) (by kernel_rfl) (fun _ _ _ h => h) (fun l w hw hS => hS) (fun _ _ => Iff.rfl) (by kernel_rfl) hS (fun w' hSw => ?_) (by kernel_rfl) (fun hS => ?_)
                · go_simp
                try simp only [List.getElem_toArray, List.getElem_cons_zero, List.getElem_cons_succ, Act.put, List.setIfInBounds_toArray, List.set_cons_zero, List.set_cons_succ]
                refine wpAnyS_take (i := 6) (fun w' => w'.cell? ⟨g, 1, none⟩ = some (.slice A N c)) (v := .int .i64 (N : Int)) rfl (by kernel_rfl) (by kernel_rfl) (by kernel_rfl) (fun _ _ _ h => h) (fun l w hw hS => hS) (fun _ _ => Iff.rfl) (by kernel_rfl) hS (fun w' hSw => ?_) (by kernel_rfl) (fun hS => ?_)
                · go_simp
                try simp only [List.getElem_toArray, List.getElem_cons_zero, List.getElem_cons_succ, Act.put, List.setIfInBounds_toArray, List.set_cons_zero, List.set_cons_succ]
                refine wpAnyS_take (i := 7) (fun w' => w'.cell? ⟨g, 1, none⟩ = some (.slice A N c)) (v := .bool true) rfl (by kernel_rfl) (by kernel_rfl) (by kernel_rfl) (fun _ _ _ h => h) (fun l w hw hS => hS) (fun _ _ => Iff.rfl) (by kernel_rfl) hS (fun w' hSw => ?_) (by kernel_rfl) (fun hS => ?_)
                · go_simp
                  try omega
                try simp only [List.getElem_toArray, List.getElem_cons_zero, List.getElem_cons_succ, Act.put, List.setIfInBounds_toArray, List.set_cons_zero, List.set_cons_succ]
                refine wpAnyS_one (i := 1) (by kernel_rfl) rfl (fun K7 hK7 => ?_)
                go_simp
                refine CRUN.out.mono ?_
                intro en w1 ha
                obtain ⟨h1, h2, rfl⟩ := ha.ok HRUN.out
                have HS1 := Lib.hid (HS0.out.next h1.from_drew h2)
                have d1 : w1.cell? ⟨g, 1, none⟩ = some (.slice A N c) := Blk.cell HS1.out.rd.blk 1
                clear ha h1 h2 CRUN
                unfold sV
                refine hK7.out _ _ d1 (fun hS => ?_)
                clear hK7 K7
                try simp only [List.getElem_toArray, List.getElem_cons_zero, List.getElem_cons_succ, Act.put, List.setIfInBounds_toArray, List.set_cons_zero, List.set_cons_succ]
                refine wpAnyS_take (i := 8) (fun _ => True) (v := .string (mkS txt)) rfl (by kernel_rfl) (by kernel_rfl) (by kernel_rfl) (fun _ _ _ h => h) (fun _ _ _ _ => trivial) (fun _ _ => Iff.rfl) (by kernel_rfl) hS (fun w' hSw => ?_) (by kernel_rfl) (fun hS => ?_)
                · go_simp
                try simp only [List.getElem_toArray, List.getElem_cons_zero, List.getElem_cons_succ, Act.put, List.setIfInBounds_toArray, List.set_cons_zero, List.set_cons_succ]
                refine wpAnyS_one (i := 9) (by kernel_rfl) rfl (fun K7 hK7 => ?_)
                go_simp
                refine hK7.out _ _ d1 (fun hS => ?_)
                clear hK7 K7
                try simp only [List.getElem_toArray, List.getElem_cons_zero, List.getElem_cons_succ, Act.put, List.setIfInBounds_toArray, List.set_cons_zero, List.set_cons_succ]
                refine wpAnyS_done (by kernel_rfl) ?_ _
                clear hS
                go_wp2_with fail
                refine (must_yes 100 _).mono ?_
                rintro e wm ⟨rfl, rfl⟩
                have d0 : w1.cell? ⟨g, 0, none⟩ = some (.string (mkS r2)) := Blk.cell HS1.out.rd.blk 0
                have d2 : w1.cell? ⟨g, 2, none⟩ = some (.bool s.begun) := Blk.cell HS1.out.rd.blk 2
                have CT := Lib.hid (takes_any HS1.out.rd.blk [60, 47])
                rw [HPE.out] at CT
                go_wp2_with fail
                refine CT.out.mono ?_
                rintro e w2 ⟨rfl, h1, h2⟩
                rw [trim_no HPE.out] at h2
                have HS2 := Lib.hid (HS1.out.next h1 h2)
                clear h1 h2 CT d0 d2
                have CW := Lib.hid (want_any HS2.out.rd.blk [60])
                go_wp2_with fail
                refine CW.out.mono ?_
                intro en w3 ha
                obtain ⟨h1, h2, rfl⟩ := ha.ok HW.out
                have HS3 := Lib.hid (HS2.out.next h1 h2)
                clear ha h1 h2 CW
                unfold uV
                have CE := Lib.hid (start_any HS3.out.rd (HEN.out _ HS3.out.t) hBb hr3 (by show s.opn.length ≤ 16; rw [HNN.out]; omega) HSF.out)
                rw [← HE.out] at CE
                go_wp2_with fail
                refine CE.out.mono ?_
                intro en w4 ha
                rcases HS3.out.tell ha with ⟨k, rfl, hv⟩ | ⟨pc, A4, c4, rfl, hb4, hv⟩
                · have HV := Lib.hid hv
                  clear ha hv
                  unfold gaveUp at HV ⊢
                  go_wp2_with fail
                  exact ⟨rfl, HV.out⟩
                · have HV := Lib.hid (hv (put4 w4 p (.int .i64 pc.kind) (.string (mkS pc.name)) (.slice A4 pc.attrs.length c4) (.string (mkS pc.text))) put4_turned)
                  have HB4 := Lib.hid (put4_blk (a := .int .i64 pc.kind) (b := .string (mkS pc.name)) (c := .slice A4 pc.attrs.length c4) (d := .string (mkS pc.text)) hb4)
                  have b0 := hb4.cell 0
                  have b1 := hb4.cell 1
                  have b2 := hb4.cell 2
                  have b3 := hb4.cell 3
                  have f0 := hb4.free 0
                  have f1 := hb4.free 1
                  have f2 := hb4.free 2
                  have f3 := hb4.free 3
                  simp at b0 b1 b2 b3
                  clear ha hv hb4
                  unfold pcV at HV ⊢
                  unfold put4 at HV HB4
                  go_wp2_with fail
                  refine bodyPost_ret (v := .agg #[.int .i64 pc.kind, .string (mkS pc.name), .slice A4 pc.attrs.length c4, .string (mkS pc.text)]) ?_ rfl HV.out
                  refine (results_one rfl _ (ad := ⟨p, 0, none⟩) rfl).trans ?_
                  exact pc_load HB4.out
end
end Go.Proofs.YtljldbdjkjllhaaGreatDoor
