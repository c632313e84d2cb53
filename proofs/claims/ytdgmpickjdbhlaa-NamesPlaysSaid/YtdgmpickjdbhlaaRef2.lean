/- The document's table of names in memory: Add, Relate. -/
import Derived.Test.YtdgmpickjdbhlaaRef
namespace Go.Proofs.Ytdgmpickjdbhlaa
open Go.RowKit

theorem infoA : (Try.prog.info? 50).map (fun i => (i.zero, i.size, i.bytes)) = some (some (.agg #[.int .i64 0, .int .i64 0, .int .i64 0]), 3, 24) := by kernel_rfl

set_option maxHeartbeats 1000000 in
set_option maxRecDepth 100000 in
theorem radd_any (w : World) (F : List Nat) (bm : Nat) (l : List ByteArray) (r : List Cmp) (s : ByteArray) (hs : s.size ≤ maxLen) (hfew : l.length ≤ 5000) (h : RTab w F bm l r) :
    Calls Try.prog 19 #[.pointer (some ⟨bm, 0, none⟩), .string s] w (RPost w F bm (addL l s) r (two (addId l s) (addErr l s))) := by
  have CF := Lib.hid (rfind_any w F bm l r s hfew h)
  have H := Lib.hid h
  obtain ⟨vn, vr, hT, rfl⟩ := id h
  obtain ⟨An, cn, rfl, hn1, hn2⟩ := own_form' hT.names
  have HT := Lib.hid hT
  have c0 : w.cell? ⟨bm, 0, none⟩ = some (.slice An l.length cn) := hT.blk.cell 0
  have f0 := hT.blk.free 0
  unfold maxLen at hs hn2
  clear hT h
  by_cases h60 : 60 < s.size
  · have h60' : (60 : Int) < (s.size : Int) := by omega
    have E1 := Lib.hid (show addL l s = l ∧ addId l s = 0 ∧ addErr l s = 21 by simp [addL, addId, addErr, h60])
    go_enter Try.func19, Try.ntmps19
    go_wp2_with fail
    go_ret2
    exact ⟨by rw [E1.out.2.1, E1.out.2.2]; rfl, _, by rw [E1.out.1]; exact H.out, Turned.refl _ _, Fresh.refl _ _⟩
  · have h60' : ¬ (60 : Int) < (s.size : Int) := by omega
    cases hix : ix l s with
    | some k =>
      have E1 := Lib.hid (show addL l s = l ∧ addId l s = k ∧ addErr l s = 0 by simp [addL, addId, addErr, h60, hix])
      rw [show findId l s = (k : Int) by simp [findId, ixI, hix], hix] at CF
      clear hix
      go_enter Try.func19, Try.ntmps19
      go_wp2_with fail
      refine CF.out.mono ?_
      rintro e w' ⟨rfl, rfl⟩
      go_wp2_with fail
      go_ret2
      exact ⟨by rw [E1.out.2.1, E1.out.2.2]; rfl, _, by rw [E1.out.1]; exact H.out, Turned.refl _ _, Fresh.refl _ _⟩
    | none =>
      rw [show findId l s = 0 by simp [findId, ixI, hix], hix] at CF
      by_cases hmany : 5000 ≤ l.length
      · have hmany' : (5000 : Int) ≤ (l.length : Int) := by omega
        have E1 := Lib.hid (show addL l s = l ∧ addId l s = 0 ∧ addErr l s = 20 by simp [addL, addId, addErr, h60, hix, hmany])
        clear hix
        go_enter Try.func19, Try.ntmps19
        go_wp2_with fail
        refine CF.out.mono ?_
        rintro e w' ⟨rfl, rfl⟩
        go_wp2_with fail
        go_ret2
        exact ⟨by rw [E1.out.2.1, E1.out.2.2]; rfl, _, by rw [E1.out.1]; exact H.out, Turned.refl _ _, Fresh.refl _ _⟩
      · have hmany' : ¬ (5000 : Int) ≤ (l.length : Int) := by omega
        have E1 := Lib.hid (show addL l s = l ++ [s] ∧ addId l s = l.length ∧ addErr l s = 0 by simp [addL, addId, addErr, h60, hix, hmany])
        obtain ⟨i0, hi, hz0, hz1, hz2⟩ := info_parts infoS
        clear hix
        go_enter Try.func19, Try.ntmps19
        go_wp2_with fail
        refine CF.out.mono ?_
        rintro e w' ⟨rfl, rfl⟩
        go_wp2_with (at_builtin; refine wpList_append_own_at _ rfl (.tmp 29) (.tmp 31) 32 rfl 0 9 i0 (.string ByteArray.empty) 1 16 Try.underlying32 hi hz0 hz1 hz2 rfl (by decide) (.slice An l.length cn) l.length (l.map .string) rfl (HT.out.names.alloc _) ⟨w.heap.size, 0, none⟩ 1 1 [.string s] rfl rfl (cell_one_new _ _ _) (fun u hu => by simp at hu; subst hu; rfl) (by unfold maxLen; omega) (by omega) (Nat.zero_le _) ?_; intro v2 w2 hown2 hg2 hnil2 hat2; obtain ⟨A2, c2, rfl, hc2, hm2⟩ := own_form' hown2; have B2 := Lib.hid ((HT.out.blk.alloc _).grown hg2 (fun e => own_kind HT.out.names HT.out.blk (by decide) e.symm)); have c02 : w2.cell? ⟨bm, 0, none⟩ = some (.slice An l.length cn) := B2.out.cell 0; have f02 := B2.out.free 0; have O2 := Lib.hid hown2; have G2 := Lib.hid hg2; have AT2 := Lib.hid hat2; clear hown2 hg2 hnil2 hat2)
        go_ret2
        refine ⟨by rw [E1.out.2.1, E1.out.2.2]; rfl, ?_⟩
        rw [E1.out.1]
        have hlen : (l ++ [s]).length = l.length + 1 := by simp
        have T2 : Turned (Value.slice An l.length cn).ownBlock.toList w w2 := ((Turned.refl _ w).alloc _).grown G2.out (fun k hk => .inl (by simp [hk]))
        have hR2 := own_turned HT.out.rels T2 (fun k hk hm => own_kinds HT.out.rels HT.out.names (by decide) hk (by simpa using hm))
        refine ⟨_, ⟨.slice A2 (l.length + 1) c2, vr, ⟨B2.out.set_ 0 _, ?_, own_setCell hR2 (own_kind hR2 B2.out (by decide)) _⟩, rfl⟩, ?_, ?_⟩
        · rw [hlen, List.map_append]
          exact own_setCell O2.out (own_kind O2.out B2.out (by decide)) _
        · exact (T2.more (fun k hk => by simp [rfoot] at hk ⊢; exact .inr (.inl hk))).setCell (.inl (by simp [rfoot])) _
        · intro k hk
          simp only [rfoot, List.mem_cons, List.mem_append, Option.mem_toList] at hk ⊢
          rcases hk with h | h | h
          · exact .inl (.inl h)
          · rcases AT2.out with e | e
            · rw [e] at h; exact .inl (.inr (.inl h))
            · rw [e] at h; injection h with h; right; rw [← h, World.size_alloc]; omega
          · exact .inl (.inr (.inr h))

theorem cmp_ne {a b c d e f : Nat} (h : (a, b, c) ≠ (d, e, f)) : a ≠ d ∨ b ≠ e ∨ c ≠ f := by
  by_cases h1 : a = d
  · by_cases h2 : b = e
    · refine .inr (.inr fun h3 => h ?_)
      rw [h1, h2, h3]
    · exact .inr (.inl h2)
  · exact .inl h1
theorem beqN {a b : Nat} (h : a ≠ b) : ((a : Int) == (b : Int)) = false := by
  rw [beq_eq_false_iff_ne]; omega

set_option maxRecDepth 100000 in
theorem rrelate_none (w : World) (F : List Nat) (bm : Nat) (l : List ByteArray) (r : List Cmp) (n op e : Int) (hfew : l.length ≤ 5000) (hb : (hasB l n && hasB l e) = false) (h : RTab w F bm l r) :
    Calls Try.prog 21 #[.pointer (some ⟨bm, 0, none⟩), .int .i64 n, .int .i64 op, .int .i64 e] w fun x w' => x = .returned (two 0 22) ∧ w = w' := by
  have HC1 := Lib.hid (known_any w F bm l r n hfew h)
  have HC2 := Lib.hid (known_any w F bm l r e hfew h)
  clear h
  cases hn : hasB l n with
  | false =>
    have HN := Lib.hid hn
    clear hn hb
    cases he : hasB l e
    all_goals
      have HE := Lib.hid he
      clear he
      go_enter Try.func21, Try.ntmps21
      go_wp2_with fail
      refine HC1.out.mono ?_
      rintro x w' ⟨rfl, rfl⟩
      rw [HN.out]
      go_wp2_with fail
      refine HC2.out.mono ?_
      rintro x w' ⟨rfl, rfl⟩
      rw [HE.out]
      go_wp2_with fail
      go_ret2
      exact ⟨rfl, rfl⟩
  | true =>
    have he : hasB l e = false := by simpa [hn] using hb
    have HN := Lib.hid hn
    have HE := Lib.hid he
    clear hn hb he
    go_enter Try.func21, Try.ntmps21
    go_wp2_with fail
    refine HC1.out.mono ?_
    rintro x w' ⟨rfl, rfl⟩
    rw [HN.out]
    go_wp2_with fail
    refine HC2.out.mono ?_
    rintro x w' ⟨rfl, rfl⟩
    rw [HE.out]
    go_wp2_with fail
    go_ret2
    exact ⟨rfl, rfl⟩

set_option maxRecDepth 100000 in
theorem rrelate_op (w : World) (F : List Nat) (bm : Nat) (l : List ByteArray) (r : List Cmp) (n op e : Int) (hfew : l.length ≤ 5000) (hn : hasB l n = true) (he : hasB l e = true) (ho : op < 1 ∨ 7 < op) (h : RTab w F bm l r) :
    Calls Try.prog 21 #[.pointer (some ⟨bm, 0, none⟩), .int .i64 n, .int .i64 op, .int .i64 e] w fun x w' => x = .returned (two 0 23) ∧ w = w' := by
  have HC1 := Lib.hid (known_any w F bm l r n hfew h)
  have HC2 := Lib.hid (known_any w F bm l r e hfew h)
  have HN := Lib.hid hn
  have HE := Lib.hid he
  clear h hn he
  have hop : (op < 1) ∨ (decide (op < 1) = false ∧ 7 < op) := by
    by_cases h1 : op < 1
    · exact .inl h1
    · exact .inr ⟨by simp; omega, by omega⟩
  clear ho
  rcases hop with h1 | ⟨h1', h7⟩
  all_goals
    go_enter Try.func21, Try.ntmps21
    go_wp2_with fail
    refine HC1.out.mono ?_
    rintro x w' ⟨rfl, rfl⟩
    rw [HN.out]
    go_wp2_with fail
    refine HC2.out.mono ?_
    rintro x w' ⟨rfl, rfl⟩
    rw [HE.out]
    go_wp2_with fail
    go_ret2
    exact ⟨rfl, rfl⟩

set_option maxHeartbeats 2000000 in
set_option maxRecDepth 100000 in
theorem rrelate_in (w : World) (F : List Nat) (bm : Nat) (l : List ByteArray) (r : List Cmp) (n op e : Nat) (hfew : l.length ≤ 5000) (hrf : r.length ≤ 5000) (hn : hasB l n = true) (he : hasB l e = true) (ho : 1 ≤ op) (ho' : op ≤ 7) (h : RTab w F bm l r) :
    Calls Try.prog 21 #[.pointer (some ⟨bm, 0, none⟩), .int .i64 (n : Int), .int .i64 (op : Int), .int .i64 (e : Int)] w (RPost w F bm l (relR l r n op e) (two (relId l r n op e) (relErr l r n op e))) := by
  have HC1 := Lib.hid (known_any w F bm l r n hfew h)
  have HC2 := Lib.hid (known_any w F bm l r e hfew h)
  have HN := Lib.hid hn
  have HE := Lib.hid he
  have H := Lib.hid h
  have HF := Lib.hid (show fitB l n op e = true by simp only [fitB, hn, he]; simp; omega)
  obtain ⟨vn, vr, hT, rfl⟩ := h
  obtain ⟨An, cn, rfl, hn1, hn2⟩ := own_form' hT.rels
  have HT := Lib.hid hT
  have c1 : w.cell? ⟨bm, 1, none⟩ = some (.slice An r.length cn) := hT.blk.cell 1
  have h1' : decide ((op : Int) < 1) = false := by simp; omega
  have h7' : decide ((7 : Int) < (op : Int)) = false := by simp; omega
  unfold maxLen at hn2
  clear hT hn he
  go_enter Try.func21, Try.ntmps21
  go_wp2_with fail
  refine HC1.out.mono ?_
  rintro x w' ⟨rfl, rfl⟩
  rw [HN.out]
  go_wp2_with fail
  refine HC2.out.mono ?_
  rintro x w' ⟨rfl, rfl⟩
  rw [HE.out]
  go_wp2_with fail
  go_loopw [12] (fun i wr => ∃ k : Nat, k ≤ r.length ∧ i = .int .i64 (k : Int) ∧ Hid (∀ j x, j < k → r[j]? = some x → x ≠ (n, op, e)) ∧ Hid (Below w.heap.size w wr)) (fun i _ => r.length - (intOf i).toNat)
  case atStart => exact ⟨0, by omega, rfl, fun j x hj => by omega, Below.refl _ _⟩
  case round =>
    obtain ⟨k, hk, rfl, hno, hB⟩ := hrel
    have hbs := hB.out.size
    have BT := Lib.hid (HT.out.blk.below hB.out HT.out.blk.lt)
    have d1 : wr.cell? ⟨bm, 1, none⟩ = some (.slice An r.length cn) := BT.out.cell 1
    by_cases hlt : k < r.length
    · have hlt' : (k : Int) < (r.length : Int) := by omega
      have hk0 : (0 : Int) ≤ (k : Int) := by omega
      obtain ⟨⟨a, b, c⟩, hx⟩ : ∃ x, r[k]? = some x := ⟨_, List.getElem?_eq_getElem hlt⟩
      have h3 := cells3_at hx
      have HR := Lib.hid (own_turned HT.out.rels (Turned.of_below hB.out []) (fun k _ => by simp))
      obtain ⟨g, e1, q0⟩ := own_ats HR.out (k := k * 3) h3.1
      obtain ⟨g', e2, q1⟩ := own_ats HR.out (k := k * 3 + 1) h3.2.1
      obtain ⟨g'', e3, q2⟩ := own_ats HR.out (k := k * 3 + 2) h3.2.2
      subst e1
      obtain rfl : g = g' := by injection e2 with e2; injection e2
      obtain rfl : g = g'' := by injection e3 with e3; injection e3
      have HX := Lib.hid hx
      clear hx e2 e3 h3
      by_cases he : (a, b, c) = (n, op, e)
      · injection he with h1 he
        injection he with h2 h3
        subst h1 h2 h3
        have hix := ix_first HX.out hno.out
        have E1 := Lib.hid (show relR l r a b c = r ∧ relId l r a b c = k ∧ relErr l r a b c = 0 by
          have hc : cmpOf a b c = (a, b, c) := rfl
          have hb : (hasB l a && hasB l c) = true := by rw [HN.out, HE.out]; rfl
          have ho2 : 1 ≤ (b : Int) ∧ (b : Int) ≤ 7 := by omega
          exact ⟨by simp [relR, HF.out, hc, hix], by simp [relId, HF.out, hc, hix], by simp [relErr, hb, hc, hix]; omega⟩)
        clear hix
        go_wp2_with fail
        go_ret2
        have hb2 := hB.out.alloc hbs (.cells #[.int .i64 (a : Int), .int .i64 (b : Int), .int .i64 (c : Int)] 50)
        exact ⟨by rw [E1.out.2.1, E1.out.2.2]; rfl, _, by rw [E1.out.1]; exact H.out.turned (Turned.of_below hb2 []) (fun _ _ hk => by cases hk), Turned.of_below hb2 _, Fresh.refl _ _⟩
      · have HNE := Lib.hid he
        rcases cmp_ne he with h1 | h1 | h1
        all_goals
          have hb := beqN h1
          clear he
          go_wp2_with fail
          all_goals
            go_roundw
            case rel =>
              go_light
              refine ⟨k + 1, by omega, by go_num, fun j y hj hy => ?_, hB.out.alloc hbs _⟩
              by_cases hjk : j < k
              · exact hno.out j y hjk hy
              · obtain rfl : j = k := by omega
                have := HX.out
                rw [hy] at this
                injection this with this
                rw [this]
                exact HNE.out
            case measure => go_light; simp only [intOf]; omega
    · have hlt' : ¬ (k : Int) < (r.length : Int) := by omega
      obtain rfl : r.length = k := by omega
      have hix := ix_absent hno.out
      have hbb : (hasB l n && hasB l e) = true := by rw [HN.out, HE.out]; rfl
      have hc : cmpOf n op e = (n, op, e) := rfl
      have ho2 : 1 ≤ (op : Int) ∧ (op : Int) ≤ 7 := by omega
      by_cases hmany : 5000 ≤ r.length
      · have hmany' : (5000 : Int) ≤ (r.length : Int) := by omega
        have E1 := Lib.hid (show relR l r n op e = r ∧ relId l r n op e = 0 ∧ relErr l r n op e = 20 from
          ⟨by simp [relR, HF.out, hc, hix, hmany], by simp [relId, HF.out, hc, hix, hmany], by simp [relErr, hbb, hc, hix, hmany]; omega⟩)
        clear hix hbb hc ho2
        go_wp2_with fail
        go_ret2
        exact ⟨by rw [E1.out.2.1, E1.out.2.2]; rfl, _, by rw [E1.out.1]; exact H.out.turned (Turned.of_below hB.out []) (fun _ _ hk => by cases hk), Turned.of_below hB.out _, Fresh.refl _ _⟩
      · have hmany' : ¬ (5000 : Int) ≤ (r.length : Int) := by omega
        have E1 := Lib.hid (show relR l r n op e = r ++ [(n, op, e)] ∧ relId l r n op e = r.length ∧ relErr l r n op e = 0 from
          ⟨by simp [relR, HF.out, hc, hix, hmany], by simp [relId, HF.out, hc, hix, hmany], by simp [relErr, hbb, hc, hix, hmany]; omega⟩)
        obtain ⟨i0, hi, hz0, hz1, hz2⟩ := info_parts infoA
        have HR := Lib.hid (own_turned HT.out.rels (Turned.of_below hB.out []) (fun k _ => by simp))
        have HNM := Lib.hid (own_turned HT.out.names (Turned.of_below hB.out []) (fun k _ => by simp))
        have f1 := BT.out.free 1
        clear hix hbb hc ho2
        go_wp2_with (at_builtin; refine wpList_append_own_at _ rfl (.tmp 75) (.tmp 80) 33 rfl 0 50 i0 _ 3 24 Try.underlying33 hi hz0 hz1 hz2 rfl (by decide) (.slice An r.length cn) r.length (cells3 r) rfl (HR.out.alloc _) ⟨wr.heap.size, 0, none⟩ 1 1 [.int .i64 (n : Int), .int .i64 (op : Int), .int .i64 (e : Int)] rfl rfl (cells_at (Blk.new' rfl) rfl) (fun u hu => by simp at hu; rcases hu with rfl | rfl | rfl <;> rfl) (by unfold maxLen; omega) (by omega) (Nat.zero_le _) ?_; intro v2 w2 hown2 hg2 hnil2 hat2; obtain ⟨A2, c2, rfl, hc2, hm2⟩ := own_form' hown2; have B2 := Lib.hid ((BT.out.alloc _).grown hg2 (fun e => own_kind HR.out BT.out (by decide) e.symm)); have c12 : w2.cell? ⟨bm, 1, none⟩ = some (.slice An r.length cn) := B2.out.cell 1; have f12 := B2.out.free 1; have O2 := Lib.hid hown2; have G2 := Lib.hid hg2; have AT2 := Lib.hid hat2; clear hown2 hg2 hnil2 hat2)
        go_ret2
        refine ⟨by rw [E1.out.2.1, E1.out.2.2]; rfl, ?_⟩
        rw [E1.out.1]
        have hlen : (r ++ [(n, op, e)]).length = r.length + 1 := by simp
        have T2 : Turned (Value.slice An r.length cn).ownBlock.toList wr w2 := ((Turned.refl _ wr).alloc _).grown G2.out (fun k hk => .inl (by simp [hk]))
        have T3 : Turned (Value.slice An r.length cn).ownBlock.toList w w2 := (Turned.of_below hB.out _).trans T2 (Fresh.refl _ _)
        have hN2 := own_turned HNM.out T2 (fun k hk hm => own_kinds HNM.out HR.out (by decide) hk (by simpa using hm))
        refine ⟨_, ⟨vn, .slice A2 (r.length + 1) c2, ⟨B2.out.set_ 1 _, own_setCell hN2 (own_kind hN2 B2.out (by decide)) _, ?_⟩, rfl⟩, ?_, ?_⟩
        · rw [hlen, show cells3 (r ++ [(n, op, e)]) = cells3 r ++ [.int .i64 (n : Int), .int .i64 (op : Int), .int .i64 (e : Int)] from by simp [cells3]]
          exact own_setCell O2.out (own_kind O2.out B2.out (by decide)) _
        · exact (T3.more (fun k hk => by simp [rfoot] at hk ⊢; exact .inr (.inr hk))).setCell (.inl (by simp [rfoot])) _
        · intro k hk
          simp only [rfoot, List.mem_cons, List.mem_append, Option.mem_toList] at hk ⊢
          rcases hk with h | h | h
          · exact .inl (.inl h)
          · exact .inl (.inr (.inl h))
          · rcases AT2.out with e | e
            · rw [e] at h; exact .inl (.inr (.inr h))
            · rw [e] at h; injection h with h; right; rw [← h, World.size_alloc]; omega

theorem rrelate_any (w : World) (F : List Nat) (bm : Nat) (l : List ByteArray) (r : List Cmp) (n op e : Int) (hfew : l.length ≤ 5000) (hrf : r.length ≤ 5000) (h : RTab w F bm l r) :
    Calls Try.prog 21 #[.pointer (some ⟨bm, 0, none⟩), .int .i64 n, .int .i64 op, .int .i64 e] w (RPost w F bm l (relR l r n op e) (two (relId l r n op e) (relErr l r n op e))) := by
  have keep' : ∀ {v : Value} {x : Ending} {w' : World}, x = .returned v ∧ w = w' → RPost w F bm l r v x w' := fun {v x w'} ⟨h1, h2⟩ => by
    subst h2; exact ⟨h1, F, h, Turned.refl _ _, Fresh.refl _ _⟩
  cases hb : (hasB l n && hasB l e) with
  | false =>
    rw [show relR l r n op e = r by simp [relR, fitB, hb], show relId l r n op e = 0 by simp [relId, fitB, hb], show relErr l r n op e = 22 by simp [relErr, hb]]
    exact (rrelate_none w F bm l r n op e hfew hb h).mono fun _ _ hh => keep' hh
  | true =>
    obtain ⟨hn, he⟩ : hasB l n = true ∧ hasB l e = true := by simpa using hb
    by_cases ho : 1 ≤ op ∧ op ≤ 7
    · obtain ⟨n', rfl, _⟩ := hasB_nat hn
      obtain ⟨e', rfl, _⟩ := hasB_nat he
      obtain ⟨op', rfl⟩ : ∃ k : Nat, op = (k : Int) := ⟨op.toNat, by omega⟩
      exact rrelate_in w F bm l r n' op' e' hfew hrf hn he (by omega) (by omega) h
    · rw [show relR l r n op e = r by simp [relR, fitB, ho], show relId l r n op e = 0 by simp [relId, fitB, ho], show relErr l r n op e = 23 by simp [relErr, hb, ho]]
      exact (rrelate_op w F bm l r n op e hfew hn he (by omega) h).mono fun _ _ hh => keep' hh
end Go.Proofs.Ytdgmpickjdbhlaa
