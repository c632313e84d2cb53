/- A builder of texts in a block of its own: what is written to it, what it answers. -/
import Derived.Test.YtciogfpejenedaaGreatDoorShelf
import Derived.Test.YtciogfpejenedaaGreatDoorUp
import Derived.Lib.AppendStr
import Derived.Lib.Builder
import Derived.Lib.UnsafeStr
import Derived.Laws.Externs
namespace Go.Proofs.YtciogfpejenedaaGreatDoor
set_option linter.unusedSimpArgs false
set_option linter.unusedVariables false
open Go.RowKit

/-- An append of a text to a row of its own: where the row lies behind it. -/
theorem run_append_str_at {P : Program} (w : World) (base : Nat) (t u ty e : TypeId) (i : TypeInfo) (ht : P.underlying t = some (.slice e)) (hu : P.underlying u = some .string) (hi : P.info? e = some i) (hz : i.zero = some (.int .u8 0))
    (hsize : i.size = 1) (hby : i.bytes = 1) (v : Value) (n : Nat) (xs : List Value) (hown : w.ownsRow base e 1 v n xs) (s : ByteArray) (h63 : n + s.size ≤ maxLen) (hbytes : n + s.size ≤ 140737488355328) (hbase : base ≤ w.heap.size) :
    ∃ v' w', (Builtin.append_ #[t, u] ty #[v, .string s]).run P w = .ok v' w' ∧ w'.ownsRow base e 1 v' (n + s.size) (xs ++ Lib.strCells s) ∧ w.grownBy w' v.ownBlock ∧ (v'.ownBlock = v.ownBlock ∨ v'.ownBlock = some w.heap.size) := by
  obtain ⟨v', w', hr, h2, h3, h4⟩ := Lib.run_append_own_string (P := P) w base t u ty e i ht hu hi hz hsize hby v n xs hown s h63 hbytes hbase
  refine ⟨v', w', hr, h2, h3, ?_⟩
  have h63' : n + s.size ≤ 9223372036854775807 := by simp only [maxLen] at h63; omega
  have hxl : xs.length = n := by simpa using hown.1
  rcases hown.2 with ⟨rfl, rfl⟩ | ⟨g, cap, cur, rfl, _, hg, _, _, hcs, _⟩
  · by_cases hm : s.size = 0
    · exact .inl (by rw [h4.2 ⟨rfl, hm⟩])
    · have k := run_append_nil_string (P := P) w t u ty e i (.int .u8 0) ht hu hi hz s (by omega) (by omega) (by rw [hby]; omega)
      rw [hr] at k
      injection k with k1 k2
      exact .inr (by rw [k1]; rfl)
  · by_cases hroom : n + s.size ≤ cap
    · have hcs' : cur.size = cap := by simpa using hcs
      have k := Lib.run_append_room_string (P := P) w t u ty e i ht hu hi hsize g n cap cur hg s hroom (by omega)
      rw [hr] at k
      injection k with k1 k2
      exact .inl (by rw [k1]; rfl)
    · have k := Lib.run_append_grow_string (P := P) w t u ty e i (.int .u8 0) ht hu hi hz ⟨g, 0, none⟩ n cap xs (by rw [hsize]; simpa using hxl) (hown.cells (g := g) rfl) s (by omega) (by omega) (by rw [hby]; exact growslice_fits (by omega) (by omega))
      rw [hr] at k
      injection k with k1 k2
      exact .inr (by rw [k1]; rfl)
theorem wpList_append_str_at {P : Program} {w : World} {ops : Array Oper} {rest : List Oper} {o : Oper} {a : Act} {Q : Exit → Act → World → Prop} (hgd : o.guard = none) (sl x : Operand) (t u : TypeId)
    (ho : o.op = .call { callee := .builtin .append, args := #[sl, x], argTypes := #[t, u] })
    (base : Nat) (e : TypeId) (i : TypeInfo) (ht : P.underlying t = some (.slice e)) (hu : P.underlying u = some .string) (hi : P.info? e = some i) (hz : i.zero = some (.int .u8 0)) (hsize : i.size = 1) (hby : i.bytes = 1)
    (v : Value) (n : Nat) (xs : List Value) (hs : a.eval sl = v) (hown : w.ownsRow base e 1 v n xs) (s : ByteArray) (hx : a.eval x = .string s)
    (h63 : n + s.size ≤ maxLen) (hbytes : n + s.size ≤ 140737488355328) (hbase : base ≤ w.heap.size)
    (h : ∀ v' w', w'.ownsRow base e 1 v' (n + s.size) (xs ++ Lib.strCells s) → w.grownBy w' v.ownBlock → (v'.ownBlock = v.ownBlock ∨ v'.ownBlock = some w.heap.size) → wpList P ops Q rest (a.put o.dst v') w') : wpList P ops Q (o :: rest) a w := by
  refine wpList_plain hgd fun K hK => ?_
  obtain ⟨v', w', hr, h2, h3, h4⟩ := run_append_str_at (P := P) w base t u o.type e i ht hu hi hz hsize hby v n xs hown s h63 hbytes hbase
  unfold Oper.wp execOp
  simp only [ho, resolve, invoke, builtin, Sem.run_bind, Sem.run_pure, Result.andThen_ok, List.map_toArray, List.map_cons, List.map_nil, hs, hx, hr]
  exact hK _ _ (h v' w' h2 h3 h4)

/-- A builder in block b, which holds these bytes; F: its block, and its row's. -/
def Bld (w : World) (B b : Nat) (l : List UInt8) (F : List Nat) : Prop :=
  ∃ p v, (p = .pointer none ∨ p = .pointer (some ⟨b, 0, none⟩)) ∧ Blk w b 88 #[p, v] ∧ w.ownsRow B 5 1 v l.length (Lib.byteCells l) ∧ B ≤ b ∧ F = b :: v.ownBlock.toList
section
variable {w w' : World} {B b : Nat} {l : List UInt8} {F G : List Nat}
theorem Bld.lt (h : Bld w B b l F) : ∀ k ∈ F, B ≤ k ∧ k < w.heap.size := by
  obtain ⟨p, v, _, hb, ho, hB, rfl⟩ := h
  intro k hk
  rcases List.mem_cons.1 hk with rfl | hk
  · exact ⟨hB, hb.lt⟩
  · exact ho.lt k (by simpa using hk)
theorem Bld.turned (h : Bld w B b l F) (ht : Turned G w w') (ha : Apart F G) : Bld w' B b l F := by
  obtain ⟨p, v, hp, hb, ho, hB, rfl⟩ := h
  exact ⟨p, v, hp, hb.turned ht (ha b (by simp)), own_turned ho ht (fun k hk => ha k (by simp [hk])), hB, rfl⟩
theorem Bld.below (h : Bld w B b l F) (hb : Below w.heap.size w w') : Bld w' B b l F := h.turned (Turned.of_below hb []) (fun k _ hk => by cases hk)
theorem Bld.new (w : World) : Bld (w.alloc (.cells #[.pointer none, .slice none 0 0] 88)) w.heap.size w.heap.size [] [w.heap.size] :=
  ⟨_, _, .inl rfl, Blk.new _ _ _, World.ownsRow_nil _ _ _ _, Nat.le_refl _, by simp [Value.ownBlock]⟩
theorem Bld.is (h : Bld w B b l F) : Lib.IsBuilder 88 5 B b (Lib.byteCells l) w := by
  obtain ⟨p, v, hp, hb, ho, hB, rfl⟩ := h
  have hne : v.ownBlock ≠ some b := own_kind ho hb (by decide)
  have hl : (Lib.byteCells l).length = l.length := by simp [Lib.byteCells]
  rcases hp with rfl | rfl
  · exact .inl ⟨hB, v, hb, by rw [hl]; exact ho, hne⟩
  · exact .inr ⟨hB, v, hb, by rw [hl]; exact ho, hne⟩
end

set_option maxHeartbeats 1000000 in
set_option maxRecDepth 100000 in
theorem copyCheck_used (b : Nat) (w : World) (h0 : w.cell? ⟨b, 0, none⟩ = some (.pointer (some ⟨b, 0, none⟩))) :
    Calls Tryz.prog 92 #[.pointer (some ⟨b, 0, none⟩)] w fun e w' => e = .returned (.tuple #[]) ∧ w' = w := by
  obtain ⟨j, hj, _⟩ := Option.map_eq_some_iff.1 Tryz.Builder_Extra_169.sizeBuilder
  have hj' : Tryz.prog.info? 88 = some j := hj
  go_enter Tryz.func92, Tryz.ntmps92
  go_wp2
  rw [Lib.run_neq_ptr_same w _ Tryz.underlying85 hj']
  go_wp2
  go_end0
  exact ⟨rfl, rfl⟩
set_option maxHeartbeats 1000000 in
set_option maxRecDepth 100000 in
theorem copyCheck_fresh (b : Nat) (w : World) (h0 : w.cell? ⟨b, 0, none⟩ = some (.pointer none)) (hsh : w.shape? b = some (88, 2)) (hfz : w.frozen? ⟨b, 0, none⟩ = false) :
    Calls Tryz.prog 92 #[.pointer (some ⟨b, 0, none⟩)] w fun e w' => e = .returned (.tuple #[]) ∧ w' = w.setCell ⟨b, 0, none⟩ (.pointer (some ⟨b, 0, none⟩)) := by
  obtain ⟨j, hj, hjs⟩ := Option.map_eq_some_iff.1 Tryz.Builder_Extra_169.sizeBuilder
  have hj' : Tryz.prog.info? 88 = some j := hj
  have hl : liesAt Tryz.prog Tryz.prog.depth 88 (2 / Tryz.prog.cellsOf 88) 0 88 1 = true := Tryz.Builder_Extra_169.liesBuilder
  go_enter Tryz.func92, Tryz.ntmps92
  go_wp2
  rw [Lib.run_to_unsafe w ⟨b, 0, none⟩ Tryz.underlying85 Tryz.underlying166 hj' (by rw [hjs]; decide) hsh (Nat.zero_lt_succ 1)]
  simp only [Result.andThen]
  rw [Oper.upon_value]
  go_wp2
  rw [run_callFunc_extern Tryz.func105 (by kernel_rfl) (by kernel_rfl) (by kernel_rfl) (e := Extern.AbiNoEscape.same) (by kernel_rfl)]
  rw [Lib.run_noEscape]
  simp only [Result.andThen]
  rw [Oper.upon_value]
  go_wp2
  rw [Lib.run_from_unsafe w ⟨b, 0, none⟩ Tryz.underlying166 Tryz.underlying85 hj' hsh hl]
  simp only [Result.andThen]
  rw [Oper.upon_value]
  go_wp2
  go_end0
  exact ⟨rfl, rfl⟩
theorem copyCheck_any (B b : Nat) (l : List UInt8) (F : List Nat) (w : World) (h : Bld w B b l F) :
    Calls Tryz.prog 92 #[.pointer (some ⟨b, 0, none⟩)] w fun e w' => e = .returned (.tuple #[]) ∧ Turned F w w' ∧
      ∃ v, Blk w' b 88 #[.pointer (some ⟨b, 0, none⟩), v] ∧ w'.ownsRow B 5 1 v l.length (Lib.byteCells l) ∧ F = b :: v.ownBlock.toList := by
  obtain ⟨p, v, hp, hb, ho, hB, rfl⟩ := h
  have hne : v.ownBlock ≠ some b := own_kind ho hb (by decide)
  rcases hp with rfl | rfl
  · have hsh : w.shape? b = some (88, 2) := by
      have h' : w.heap[b]? = some (.cells _ _ (0, 0)) := hb
      simp [World.shape?, h']
    refine (copyCheck_fresh b w (hb.cell 0) hsh (hb.free 0)).mono ?_
    rintro e w' ⟨rfl, rfl⟩
    exact ⟨rfl, (Turned.refl _ _).setCell (.inl (by simp)) _, v, hb.set_ 0 _, own_setCell ho hne _, rfl⟩
  · refine (copyCheck_used b w (hb.cell 0)).mono ?_
    rintro e w' ⟨rfl, rfl⟩
    exact ⟨rfl, Turned.refl _ _, v, hb, ho, rfl⟩
theorem strCells_is (s : ByteArray) : Lib.strCells s = Lib.byteCells s.data.toList := rfl
theorem byteCells_append (a b : List UInt8) : Lib.byteCells (a ++ b) = Lib.byteCells a ++ Lib.byteCells b := by simp [Lib.byteCells]
def WrotePost (B b : Nat) (l : List UInt8) (F : List Nat) (s : ByteArray) (w : World) (e : Ending) (w' : World) : Prop :=
  e = .returned (.tuple #[.int .i64 s.size, .nilIface]) ∧ ∃ F', Bld w' B b (l ++ s.data.toList) F' ∧ Turned F w w' ∧ Fresh w F F'
set_option maxHeartbeats 2000000 in
set_option maxRecDepth 100000 in
theorem writeString_any (B b : Nat) (l : List UInt8) (F : List Nat) (s : ByteArray) (w : World) (h : Bld w B b l F) (hlen : l.length + s.size ≤ 1099511627776) :
    Calls Tryz.prog 73 #[.pointer (some ⟨b, 0, none⟩), .string s] w (WrotePost B b l F s w) := by
  have hBb : B ≤ b := by obtain ⟨_, _, _, _, _, hB, _⟩ := h; exact hB
  have C := Lib.hid (copyCheck_any B b l F w h)
  obtain ⟨i0, hi, hz0, hz1, hz2⟩ := info_parts Tryz.Builder_Extra_169.infoByte
  have hi' : Tryz.prog.info? 5 = some i0 := hi
  clear hi h
  go_enter Tryz.func73, Tryz.ntmps73
  go_wp2_with fail
  refine C.out.mono ?_
  rintro e w1 ⟨rfl, ht1, v, hb, hown, hF⟩
  have hne : v.ownBlock ≠ some b := own_kind hown hb (by decide)
  have c1 := hb.cell 1
  simp at c1
  have HF := Lib.hid hF
  have HT := Lib.hid ht1
  have HB := Lib.hid hb
  clear hF ht1 C
  have hlt := hb.lt
  clear hb
  go_wp2_with (at_builtin; refine wpList_append_str_at rfl _ _ 86 9 rfl B 5 i0 Tryz.underlying86 Tryz.underlying9 hi' hz0 hz1 hz2 _ _ _ rfl hown s rfl ?c3 ?c4 ?c5 ?_)
  case c3 => unfold maxLen; omega
  case c4 => omega
  case c5 => omega
  intro v' w2 hown' hgrow hown2
  have hb2 : Blk w2 b 88 #[.pointer (some ⟨b, 0, none⟩), v] := HB.out.grown hgrow (Ne.symm hne)
  have d0 := hb2.cell 0
  have d1 := hb2.cell 1
  have f1 := hb2.free 1
  simp at d0 d1
  obtain ⟨ao, n', cap, rfl⟩ : ∃ ao n' cap, v' = .slice ao n' cap := by
    rcases hown'.2 with ⟨hv, _⟩ | ⟨g, cap, cur, hv, _⟩
    · exact ⟨_, _, _, hv⟩
    · exact ⟨_, _, _, hv⟩
  have HP : Hid (WrotePost B b l F s w (.returned (.tuple #[.int .i64 s.size, .nilIface])) (w2.setCell ⟨b, 1, none⟩ (.slice ao n' cap))) := by
    have hn2 : (Value.slice ao n' cap).ownBlock ≠ some b := own_kind hown' hb2 (by decide)
    have ho2 : w2.ownsRow B 5 1 (.slice ao n' cap) (l ++ s.data.toList).length (Lib.byteCells (l ++ s.data.toList)) := by
      rw [byteCells_append, ← strCells_is, List.length_append]
      exact hown'
    refine ⟨rfl, b :: (Value.slice ao n' cap).ownBlock.toList, ⟨_, _, .inr rfl, hb2.set_ 1 _, own_setCell ho2 hn2 _, hBb, rfl⟩, ?_, ?_⟩
    · rw [HF.out] at HT ⊢
      have ht2 : Turned (b :: v.ownBlock.toList) w w2 := HT.out.grown hgrow (fun k hk => .inl (by simp [hk]))
      exact ht2.setCell (.inl (by simp)) _
    · rw [HF.out]
      intro k hk
      rcases List.mem_cons.1 hk with rfl | hk
      · exact .inl (by simp)
      · have hk' : (Value.slice ao n' cap).ownBlock = some k := by simpa using hk
        rcases hown2 with h | h
        · rw [h] at hk'; exact .inl (by simp [hk'])
        · rw [h] at hk'
          injection hk' with hk'
          subst hk'
          exact .inr HT.out.size
  clear hown' hgrow hown2 hb2 HB HF HT hown
  go_wp2_with fail
  go_ret2
  exact HP.out
/-- The builder's text. -/
theorem string_any (B b : Nat) (l : List UInt8) (F : List Nat) (w : World) (h : Bld w B b l F) (hB : B ≤ w.heap.size) :
    Calls Tryz.prog 48 #[.pointer (some ⟨b, 0, none⟩)] w fun e w' => e = .returned (.string ⟨l.toArray⟩) ∧ Below B w w' :=
  Tryz.Builder_String_any B b l w h.is hB
end Go.Proofs.YtciogfpejenedaaGreatDoor
