/- The contract of (*names.Table).Relate. -/
import Derived.Test.YtdgmpickjdbhlaaDoorHas
namespace Go.Proofs.YtdgmpickjdbhlaaDoor
open Go.RowKit

/-- What a comparison's adding answers, and the comparisons behind it. -/
def fitB (l : List ByteArray) (n op e : Int) : Bool := hasB l n && hasB l e && decide (1 ≤ op ∧ op ≤ 7)
def cmpOf (n op e : Int) : Cmp := (n.toNat, op.toNat, e.toNat)
def relId (l : List ByteArray) (r : List Cmp) (n op e : Int) : Int :=
  if fitB l n op e then (match ix r (cmpOf n op e) with | some k => k | none => if 5000 ≤ r.length then 0 else r.length) else 0
def relErr (l : List ByteArray) (r : List Cmp) (n op e : Int) : Int :=
  if hasB l n && hasB l e then (if 1 ≤ op ∧ op ≤ 7 then (match ix r (cmpOf n op e) with | some _ => 0 | none => if 5000 ≤ r.length then 20 else 0) else 23) else 22
def relR (l : List ByteArray) (r : List Cmp) (n op e : Int) : List Cmp :=
  if fitB l n op e then (match ix r (cmpOf n op e) with | some _ => r | none => if 5000 ≤ r.length then r else r ++ [cmpOf n op e]) else r

/-- What a look for a comparison finds. -/
theorem place_run {w : World} {mp m : Nat} {E : DataW Unit} {r : List Cmp} (hm : w.ownsMap Tryd.prog 41 (plainElem Tryd.prog 3) mp m E) (ha : Agrees kdC okC E (ixI r)) (c : Cmp) (hc : okC c) :
    (Instr.lookup 33 (.map (some mp)) (valC c) true).run Tryd.prog w = .ok (.tuple #[.int .i64 ((ixI r c).getD 0), .bool (ixI r c).isSome]) w := by
  obtain ⟨v, ps, hrun, hv⟩ := hm.look_ok lawC Tryd.underlying33 (zeroI w) (plainElem_int Tryd.underlying3 (by decide)) (keyC c hc)
  obtain ⟨a, rfl, he, _⟩ := plainElem_int_inv Tryd.underlying3 hv
  have h1 := ha.at_ c hc (congrArg Prod.fst he)
  have h2 := ha.has c hc
  rw [hrun, h2, ← h1]

set_option maxRecDepth 100000 in
theorem relate_none (w : World) (F : List Nat) (bt : Nat) (l : List ByteArray) (r : List Cmp) (n op e : Int) (hb : (hasB l n && hasB l e) = false) (h : Tab w F bt l r) :
    Calls Tryd.prog 9 #[.pointer (some ⟨bt, 0, none⟩), .int .i64 n, .int .i64 op, .int .i64 e] w fun x w' => x = .returned (two 0 22) ∧ w = w' := by
  have HC1 := Lib.hid (has_any w F bt l r n h)
  have HC2 := Lib.hid (has_any w F bt l r e h)
  clear h
  cases hn : hasB l n with
  | false =>
    have HN := Lib.hid hn
    clear hn hb
    go_enter Tryd.func9, Tryd.ntmps9
    go_wp2_with fail
    refine HC1.out.mono ?_
    rintro x w' ⟨rfl, rfl⟩
    rw [HN.out]
    go_wp2_with fail
    go_ret2
    exact ⟨rfl, rfl⟩
  | true =>
    have he : hasB l e = false := by simpa [hn] using hb
    have HN := Lib.hid hn
    have HE := Lib.hid he
    clear hn hb he
    go_enter Tryd.func9, Tryd.ntmps9
    go_wp2_with fail
    refine HC1.out.mono ?_
    rintro x w' ⟨rfl, rfl⟩
    rw [HN.out]
    go_wp2_with fail
    refine HC2.out.mono ?_
    rintro x w' ⟨rfl, rfl⟩
    rw [HE.out]
    go_wp2_with fail
    go_ret2
    exact ⟨rfl, rfl⟩

set_option maxRecDepth 100000 in
theorem relate_op (w : World) (F : List Nat) (bt : Nat) (l : List ByteArray) (r : List Cmp) (n op e : Int) (hn : hasB l n = true) (he : hasB l e = true) (ho : op < 1 ∨ 7 < op) (h : Tab w F bt l r) :
    Calls Tryd.prog 9 #[.pointer (some ⟨bt, 0, none⟩), .int .i64 n, .int .i64 op, .int .i64 e] w fun x w' => x = .returned (two 0 23) ∧ w = w' := by
  have HC1 := Lib.hid (has_any w F bt l r n h)
  have HC2 := Lib.hid (has_any w F bt l r e h)
  have HN := Lib.hid hn
  have HE := Lib.hid he
  clear h hn he
  by_cases h1 : op < 1
  · clear ho
    go_enter Tryd.func9, Tryd.ntmps9
    go_wp2_with fail
    refine HC1.out.mono ?_
    rintro x w' ⟨rfl, rfl⟩
    rw [HN.out]
    go_wp2_with fail
    refine HC2.out.mono ?_
    rintro x w' ⟨rfl, rfl⟩
    rw [HE.out]
    go_wp2_with fail
    go_ret2
    exact ⟨rfl, rfl⟩
  · have h7 : 7 < op := by omega
    have h1' : decide (op < 1) = false := by simp; omega
    clear ho
    go_enter Tryd.func9, Tryd.ntmps9
    go_wp2_with fail
    refine HC1.out.mono ?_
    rintro x w' ⟨rfl, rfl⟩
    rw [HN.out]
    go_wp2_with fail
    refine HC2.out.mono ?_
    rintro x w' ⟨rfl, rfl⟩
    rw [HE.out]
    go_wp2_with fail
    go_ret2
    exact ⟨rfl, rfl⟩

set_option maxHeartbeats 1000000 in
set_option maxRecDepth 100000 in
theorem relate_old (w : World) (F : List Nat) (bt : Nat) (l : List ByteArray) (r : List Cmp) (n op e k : Nat) (hn : hasB l n = true) (he : hasB l e = true) (ho : 1 ≤ op) (ho' : op ≤ 7) (hk : ix r (n, op, e) = some k) (h : Tab w F bt l r) :
    Calls Tryd.prog 9 #[.pointer (some ⟨bt, 0, none⟩), .int .i64 (n : Int), .int .i64 (op : Int), .int .i64 (e : Int)] w fun x w' => x = .returned (two k 0) ∧ Below w.heap.size w w' := by
  have HC1 := Lib.hid (has_any w F bt l r n h)
  have HC2 := Lib.hid (has_any w F bt l r e h)
  have HN := Lib.hid hn
  have HE := Lib.hid he
  obtain ⟨hg, vn, mi, vc, mp, D, E, hT, rfl⟩ := h
  have hfew := hg.few
  have hok : okC (n, op, e) := by
    simp [hasB] at hn he
    refine ⟨?_, ?_, ?_⟩ <;> simp <;> omega
  have c3 : w.cell? ⟨bt, 3, none⟩ = some (.map (some mp)) := hT.blk.cell 3
  have hrun : ∀ j, (Instr.lookup 33 (.map (some mp)) (.agg #[.int .i64 (n : Int), .int .i64 (op : Int), .int .i64 (e : Int)]) true).run Tryd.prog ((w.alloc (.cells #[.int .i64 (n : Int), .int .i64 (op : Int), .int .i64 (e : Int)] 41)).drewN j)
      = .ok (.tuple #[.int .i64 (k : Int), .bool true]) ((w.alloc (.cells #[.int .i64 (n : Int), .int .i64 (op : Int), .int .i64 (e : Int)] 41)).drewN j) := fun j => by
    have := place_run (map_drewN (hT.places.alloc (.cells #[.int .i64 (n : Int), .int .i64 (op : Int), .int .i64 (e : Int)] 41)) j) hT.placesAre (n, op, e) hok
    rw [ixI, hk] at this
    exact this
  have h1' : decide ((op : Int) < 1) = false := by simp; omega
  have h7' : decide ((7 : Int) < (op : Int)) = false := by simp; omega
  have hlt := hT.blk.lt
  clear hn he hk hT hg hok
  go_enter Tryd.func9, Tryd.ntmps9
  go_wp2_with fail
  refine HC1.out.mono ?_
  rintro x w' ⟨rfl, rfl⟩
  rw [HN.out]
  go_wp2_with fail
  refine HC2.out.mono ?_
  rintro x w' ⟨rfl, rfl⟩
  rw [HE.out]
  go_wp2_with fail
  go_quiet (fail)
  go_wp2_with fail
  go_ret2
  exact ⟨rfl, below_drewN' ((Below.refl _ _).alloc (Nat.le_refl _) _) _⟩

set_option maxHeartbeats 1000000 in
set_option maxRecDepth 100000 in
theorem relate_many (w : World) (F : List Nat) (bt : Nat) (l : List ByteArray) (r : List Cmp) (n op e : Nat) (hn : hasB l n = true) (he : hasB l e = true) (ho : 1 ≤ op) (ho' : op ≤ 7) (hk : ix r (n, op, e) = none) (hmany : 5000 ≤ r.length) (h : Tab w F bt l r) :
    Calls Tryd.prog 9 #[.pointer (some ⟨bt, 0, none⟩), .int .i64 (n : Int), .int .i64 (op : Int), .int .i64 (e : Int)] w fun x w' => x = .returned (two 0 20) ∧ Below w.heap.size w w' := by
  have HC1 := Lib.hid (has_any w F bt l r n h)
  have HC2 := Lib.hid (has_any w F bt l r e h)
  have HN := Lib.hid hn
  have HE := Lib.hid he
  obtain ⟨hg, vn, mi, vc, mp, D, E, hT, rfl⟩ := h
  obtain ⟨An, cn, rfl, hn1, hn2⟩ := own_form' hT.comps
  have hfew := hg.few
  have hok : okC (n, op, e) := by
    simp [hasB] at hn he
    refine ⟨?_, ?_, ?_⟩ <;> simp <;> omega
  have c2 : w.cell? ⟨bt, 2, none⟩ = some (.slice An r.length cn) := hT.blk.cell 2
  have c3 : w.cell? ⟨bt, 3, none⟩ = some (.map (some mp)) := hT.blk.cell 3
  have hrun : ∀ j, (Instr.lookup 33 (.map (some mp)) (.agg #[.int .i64 (n : Int), .int .i64 (op : Int), .int .i64 (e : Int)]) true).run Tryd.prog ((w.alloc (.cells #[.int .i64 (n : Int), .int .i64 (op : Int), .int .i64 (e : Int)] 41)).drewN j)
      = .ok (.tuple #[.int .i64 0, .bool false]) ((w.alloc (.cells #[.int .i64 (n : Int), .int .i64 (op : Int), .int .i64 (e : Int)] 41)).drewN j) := fun j => by
    have := place_run (map_drewN (hT.places.alloc (.cells #[.int .i64 (n : Int), .int .i64 (op : Int), .int .i64 (e : Int)] 41)) j) hT.placesAre (n, op, e) hok
    rw [ixI, hk] at this
    exact this
  have h1' : decide ((op : Int) < 1) = false := by simp; omega
  have h7' : decide ((7 : Int) < (op : Int)) = false := by simp; omega
  have hmany' : (5000 : Int) ≤ (r.length : Int) := by omega
  have hlt := hT.blk.lt
  clear hn he hk hT hg hok
  go_enter Tryd.func9, Tryd.ntmps9
  go_wp2_with fail
  refine HC1.out.mono ?_
  rintro x w' ⟨rfl, rfl⟩
  rw [HN.out]
  go_wp2_with fail
  refine HC2.out.mono ?_
  rintro x w' ⟨rfl, rfl⟩
  rw [HE.out]
  go_wp2_with fail
  go_quiet (fail)
  go_wp2_with fail
  go_ret2
  exact ⟨rfl, below_drewN' ((Below.refl _ _).alloc (Nat.le_refl _) _) _⟩

theorem fr_snoc {r : List Cmp} {s : Cmp} (h : ix r s = none) (b : Cmp) :
    (if b = s then some ((r.length : Nat) : Int) else ixI r b) = ixI (r ++ [s]) b := by
  unfold ixI
  rw [ix_snoc]
  by_cases hb : b = s
  · subst hb; simp [h]
  · have hb' : ¬ s = b := fun e => hb e.symm
    simp [hb, hb']
theorem good_rsnoc {l : List ByteArray} {r : List Cmp} {s : Cmp} (h : Good l r) (h1 : ix r s = none) (h2 : s.1 < l.length ∧ s.2.2 < l.length ∧ 1 ≤ s.2.1 ∧ s.2.1 ≤ 7) (h3 : r.length < 5000) : Good l (r ++ [s]) where
  few := h.few
  one := h.one
  once := h.once
  short := h.short
  rfew := by simp; omega
  ronce := by
    rw [List.nodup_append]
    refine ⟨h.ronce, by simp, ?_⟩
    intro a ha b hb
    simp at hb
    subst hb
    rintro rfl
    exact ix_none.1 h1 ha
  inside := by
    intro b hb
    rcases List.mem_append.1 hb with h4 | h4
    · exact h.inside b h4
    · simp at h4; subst h4; exact h2
theorem rel_fin {w w3 : World} {bt mi mp cn c2 g : Nat} {An A2 : Option Addr} {vn : Value} {D E : DataW Unit} {l : List ByteArray} {r : List Cmp} {s : Cmp}
    (hT : TabOf w bt vn mi (.slice An r.length cn) mp D E l r) (hg : Good l r) (hix : ix r s = none) (hok : okC s) (hin : s.1 < l.length ∧ s.2.2 < l.length ∧ 1 ≤ s.2.1 ∧ s.2.1 ≤ 7) (hfew : r.length < 5000)
    (hT3 : Turned (bt :: mp :: (Value.slice An r.length cn).ownBlock.toList) w w3) (hat2 : (Value.slice A2 (r.length + 1) c2).ownBlock = (Value.slice An r.length cn).ownBlock ∨ (Value.slice A2 (r.length + 1) c2).ownBlock = some g) (hgl : w.heap.size ≤ g)
    (hO3 : w3.ownsRow 0 41 3 (.slice A2 (r.length + 1) c2) (r.length + 1) (cells3 r ++ [.int .i64 s.1, .int .i64 s.2.1, .int .i64 s.2.2]))
    (hB3 : Blk w3 bt 36 #[vn, .map (some mi), .slice A2 (r.length + 1) c2, .map (some mp)])
    (hM3 : w3.ownsMap Tryd.prog 41 (plainElem Tryd.prog 3) mp (r.length + 1) (E.put (kdC s) (.lit (.int .i64 r.length)))) :
    ∃ F', Tab w3 F' bt l (r ++ [s]) ∧ Turned (foot bt mi mp vn (.slice An r.length cn)) w w3 ∧ Fresh w (foot bt mi mp vn (.slice An r.length cn)) F' := by
  refine ⟨_, ⟨good_rsnoc hg hix hin hfew, vn, mi, .slice A2 (r.length + 1) c2, mp, D, E.put (kdC s) (.lit (.int .i64 r.length)), ⟨hB3, ?_, ?_, ?_, hT.idsAre, ?_, ?_, hT.maps⟩, rfl⟩, hT3.more ?_, ?_⟩
  · refine own_turned hT.names hT3 fun k hk hm => ?_
    simp only [List.mem_cons, Option.mem_toList] at hm
    rcases hm with rfl | rfl | hm
    · exact own_kind hT.names hT.blk (by decide) hk
    · exact map_own hT.places hT.names hk
    · exact own_kinds hT.names hT.comps (by decide) hk hm
  · rw [List.length_append, show cells3 (r ++ [s]) = cells3 r ++ [.int .i64 s.1, .int .i64 s.2.1, .int .i64 s.2.2] from by simp [cells3]]
    exact hO3
  · refine map_turned hT.ids hT3 fun hm => ?_
    simp only [List.mem_cons, Option.mem_toList] at hm
    rcases hm with e | e | hm
    · exact map_kind hT.ids hT.blk e
    · exact hT.maps e
    · exact map_own hT.ids hT.comps hm
  · rw [List.length_append]
    exact hM3
  · exact (hT.placesAre.put kdC_inj s hok trivial _).congr (fr_snoc hix)
  · intro k hk
    simp only [foot, List.mem_cons, List.mem_append, Option.mem_toList] at hk ⊢
    rcases hk with h | h | h
    · exact .inl h
    · exact .inr (.inr (.inl h))
    · exact .inr (.inr (.inr (.inr h)))
  · intro k hk
    simp only [foot, List.mem_cons, List.mem_append, Option.mem_toList] at hk ⊢
    rcases hk with h | h | h | h | h
    · exact .inl (.inl h)
    · exact .inl (.inr (.inl h))
    · exact .inl (.inr (.inr (.inl h)))
    · exact .inl (.inr (.inr (.inr (.inl h))))
    · rcases hat2 with e | e
      · rw [e] at h; exact .inl (.inr (.inr (.inr (.inr h))))
      · rw [e] at h; injection h with h; right; omega

set_option maxHeartbeats 2000000 in
set_option maxRecDepth 100000 in
theorem relate_new (w : World) (F : List Nat) (bt : Nat) (l : List ByteArray) (r : List Cmp) (n op e : Nat) (hn : hasB l n = true) (he : hasB l e = true) (ho : 1 ≤ op) (ho' : op ≤ 7) (hk : ix r (n, op, e) = none) (hmany : r.length < 5000) (h : Tab w F bt l r) :
    Calls Tryd.prog 9 #[.pointer (some ⟨bt, 0, none⟩), .int .i64 (n : Int), .int .i64 (op : Int), .int .i64 (e : Int)] w (TabPost w F bt l (r ++ [(n, op, e)]) (two r.length 0)) := by
  have HC1 := Lib.hid (has_any w F bt l r n h)
  have HC2 := Lib.hid (has_any w F bt l r e h)
  have HN := Lib.hid hn
  have HE := Lib.hid he
  obtain ⟨hg, vn, mi, vc, mp, D, E, hT, rfl⟩ := h
  obtain ⟨An, cn, rfl, hn1, hn2⟩ := own_form' hT.comps
  have hfew := hg.few
  have hok : okC (n, op, e) := by
    simp [hasB] at hn he
    refine ⟨?_, ?_, ?_⟩ <;> simp <;> omega
  have c2 : w.cell? ⟨bt, 2, none⟩ = some (.slice An r.length cn) := hT.blk.cell 2
  have f2 : w.frozen? ⟨bt, 2, none⟩ = false := hT.blk.free 2
  have c3 : w.cell? ⟨bt, 3, none⟩ = some (.map (some mp)) := hT.blk.cell 3
  have hrun : ∀ j, (Instr.lookup 33 (.map (some mp)) (.agg #[.int .i64 (n : Int), .int .i64 (op : Int), .int .i64 (e : Int)]) true).run Tryd.prog ((w.alloc (.cells #[.int .i64 (n : Int), .int .i64 (op : Int), .int .i64 (e : Int)] 41)).drewN j)
      = .ok (.tuple #[.int .i64 0, .bool false]) ((w.alloc (.cells #[.int .i64 (n : Int), .int .i64 (op : Int), .int .i64 (e : Int)] 41)).drewN j) := fun j => by
    have := place_run (map_drewN (hT.places.alloc (.cells #[.int .i64 (n : Int), .int .i64 (op : Int), .int .i64 (e : Int)] 41)) j) hT.placesAre (n, op, e) hok
    rw [ixI, hk] at this
    exact this
  have h1' : decide ((op : Int) < 1) = false := by simp; omega
  have h7' : decide ((7 : Int) < (op : Int)) = false := by simp; omega
  have hmany' : ¬ (5000 : Int) ≤ (r.length : Int) := by omega
  have hlt := hT.blk.lt
  obtain ⟨i0, hi, hz0, hz1, hz2⟩ := info_parts infoC
  have HT := Lib.hid hT
  have HG := Lib.hid hg
  have HK := Lib.hid hk
  have HOK := Lib.hid hok
  have HIN := Lib.hid (show (n, op, e).1 < l.length ∧ (n, op, e).2.2 < l.length ∧ 1 ≤ (n, op, e).2.1 ∧ (n, op, e).2.1 ≤ 7 by simp [hasB] at hn he; simp; omega)
  unfold maxLen at hn2
  clear hn he hk hT hg hok
  go_enter Tryd.func9, Tryd.ntmps9
  go_wp2_with fail
  refine HC1.out.mono ?_
  rintro x w' ⟨rfl, rfl⟩
  rw [HN.out]
  go_wp2_with fail
  refine HC2.out.mono ?_
  rintro x w' ⟨rfl, rfl⟩
  rw [HE.out]
  go_wp2_with fail
  go_quiet (fail)
  go_wp2_with fail
  go_region_law (refine step_append_at rfl (.tmp 58) (.tmp 60) 34 rfl 0 41 i0 _ 3 24 Tryd.underlying34 hi hz0 hz1 hz2 rfl (by decide) (.slice An r.length cn) r.length (cells3 r) (by simp [Act.eval, Act.put]) (by exact own_turned (F := []) HT.out.comps (by repeat (first | exact Turned.refl [] _ | refine Turned.drew ?_ | refine Turned.drewN ?_ _ | refine Turned.alloc ?_ _)) (fun k _ => by simp)) ⟨w.heap.size + 1, 0, none⟩ 1 1 [.int .i64 (n : Int), .int .i64 (op : Int), .int .i64 (e : Int)] (by simp [Act.eval, Act.put]) rfl (cells_at (Blk.new' (by simp)) rfl) (fun u hu => by simp at hu; rcases hu with rfl | rfl | rfl <;> rfl) (by unfold maxLen; omega) (by omega) (Nat.zero_le _) ?_; intro v2 w2 hown2 hg2 hat2; obtain ⟨A2, c2', rfl, hc2, hm2⟩ := own_form' hown2; have B2 : Hid (Blk w2 bt 36 #[vn, .map (some mi), .slice An r.length cn, .map (some mp)]) := (by refine Blk.grown (w := _) ?_ hg2 (fun e => own_kind HT.out.comps HT.out.blk (by decide) e.symm); repeat (first | exact HT.out.blk | refine Blk.drew ?_ | refine Blk.drewN ?_ _ | refine Blk.alloc ?_ _)); have c22 : w2.cell? ⟨bt, 2, none⟩ = some (.slice An r.length cn) := B2.out.cell 2; have f22 := B2.out.free 2; have O2 := Lib.hid hown2; have G2 := Lib.hid hg2; have AT2 := Lib.hid hat2; have T2 : Hid (Turned (Value.slice An r.length cn).ownBlock.toList w w2) := (by refine Turned.grown (w' := _) ?_ hg2 (fun k hk => .inl (by simp [hk])); repeat (first | exact Turned.refl _ _ | refine Turned.drew ?_ | refine Turned.drewN ?_ _ | refine Turned.alloc ?_ _)); have M2 := Lib.hid (map_turned HT.out.places T2.out (fun hm => map_own HT.out.places HT.out.comps (by simpa using hm))); have c32 : w2.cell? ⟨bt, 3, none⟩ = some (.map (some mp)) := B2.out.cell 3; have K2 : Hid (Blk w2 w.heap.size 41 #[.int .i64 (n : Int), .int .i64 (op : Int), .int .i64 (e : Int)]) := (by refine Blk.grown (w := _) ?_ hg2 (fun e => absurd (own_lt HT.out.comps e.symm) (by omega)); repeat (first | exact Blk.new _ _ _ | refine Blk.drew ?_ | refine Blk.drewN ?_ _ | refine Blk.alloc ?_ _)); have k0 : w2.cell? ⟨w.heap.size, 0, none⟩ = some (.int .i64 (n : Int)) := K2.out.cell 0; have k1 : w2.cell? ⟨w.heap.size, 1, none⟩ = some (.int .i64 (op : Int)) := K2.out.cell 1; have k2 : w2.cell? ⟨w.heap.size, 2, none⟩ = some (.int .i64 (e : Int)) := K2.out.cell 2; clear hown2 hg2 hat2)
  all_goals
    have M2' := Lib.hid (M2.out.setCell (a := ⟨bt, 2, none⟩) (map_kind HT.out.places HT.out.blk) (.slice A2 (r.length + 1) c2'))
    have HKC := Lib.hid (keyC (n, op, e) HOK.out)
    go_wp2_with fail
    obtain ⟨w3, hrun3, hown3, hg3⟩ := (World.ownsMap.drew M2'.out).update lawC Tryd.underlying33 (by unfold maxLen; omega) (key := valC (n, op, e)) (val := .int .i64 (r.length : Int)) HKC.out (plainElem_int Tryd.underlying3 (wfN (by omega)))
    have HO3 := Lib.hid hown3
    have HG3 := Lib.hid hg3
    clear hown3 hg3
    unfold valC at hrun3
    go_region
    all_goals
      go_wp2_with fail
      go_ret2
      refine ⟨rfl, ?_⟩
      have B2' := B2.out.set_ 2 (.slice A2 (r.length + 1) c2')
      have O2' := own_setCell (p := ⟨bt, 2, none⟩) O2.out (own_kind O2.out B2.out (by decide)) (.slice A2 (r.length + 1) c2')
      have hmb := map_kind HT.out.places HT.out.blk
      exact rel_fin (s := (n, op, e)) HT.out HG.out HK.out HOK.out HIN.out hmany
        ((((T2.out.more (fun k hk => by simp at hk ⊢; exact .inr (.inr hk))).setCell (.inl (by simp)) _).drew).grown HG3.out (fun k hk => .inl (by cases hk; simp)))
        AT2.out (by simp <;> omega) ((own_drew' O2').kept HG3.out (.inr (map_own M2'.out O2'))) (B2'.drew.grown HG3.out (fun e => hmb (by injection e with e; exact e.symm))) HO3.out
end Go.Proofs.YtdgmpickjdbhlaaDoor
