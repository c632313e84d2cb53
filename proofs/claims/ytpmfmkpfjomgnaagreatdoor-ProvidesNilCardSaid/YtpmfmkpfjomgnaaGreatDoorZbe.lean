/- A text is read word by word: read. Within. Closing. A word within. Reading begins. An opening. The end of a text. A name. -/
import Derived.Test.YtpmfmkpfjomgnaaGreatDoorZaj
import Derived.StillTailTactics
/- A text is read word by word: read. -/
namespace Go.Proofs.YtpmfmkpfjomgnaaGreatDoor
set_option linter.unusedSimpArgs false
set_option linter.unusedVariables false
open Go.RowKit

/-- The frame at a label. -/
def litF (text : ByteArray) (gr gd : Nat) (v3 : Value) (word rest : ByteArray) (v7 : Value) (U : Nat → Value) : List Value := [.string text, U 1, .pointer (some ⟨gr, 0, none⟩), v3, .pointer (some ⟨gd, 0, none⟩), .string word, .string rest, v7, U 8, U 9, U 10, U 11, U 12, U 13, U 14, U 15, U 16, U 17, U 18, U 19, U 20, U 21, U 22, U 23, U 24, U 25, U 26, U 27, U 28, U 29, U 30, U 31, U 32, U 33, U 34, U 35, U 36, U 37, U 38, U 39, U 40, U 41, U 42, U 43, U 44, U 45, U 46, U 47, U 48, U 49, U 50, U 51, U 52, U 53, U 54, U 55, U 56, U 57, U 58, U 59, U 60, U 61, U 62, U 63, U 64, U 65, U 66, U 67, U 68, U 69, U 70, U 71, U 72, U 73, U 74, U 75, U 76, U 77, U 78, U 79, U 80, U 81, U 82, U 83, U 84, U 85, U 86, U 87, U 88, U 89, U 90, U 91, U 92, U 93, U 94, U 95, U 96, U 97, U 98, U 99, U 100, U 101, U 102, U 103, U 104, U 105, U 106, U 107, U 108, U 109, U 110, U 111, U 112, U 113, U 114, U 115, U 116, U 117, U 118, U 119, U 120, U 121, U 122, U 123, U 124, U 125, U 126, U 127, U 128]
def ActR (text : ByteArray) (gr gd : Nat) (v3 : Value) (word rest : ByteArray) (v7 : Value) (a : Act) : Prop :=
  ∃ U : Nat → Value, a = { tmps := #[.string text, U 1, .pointer (some ⟨gr, 0, none⟩), v3, .pointer (some ⟨gd, 0, none⟩), .string word, .string rest, v7, U 8, U 9, U 10, U 11, U 12, U 13, U 14, U 15, U 16, U 17, U 18, U 19, U 20, U 21, U 22, U 23, U 24, U 25, U 26, U 27, U 28, U 29, U 30, U 31, U 32, U 33, U 34, U 35, U 36, U 37, U 38, U 39, U 40, U 41, U 42, U 43, U 44, U 45, U 46, U 47, U 48, U 49, U 50, U 51, U 52, U 53, U 54, U 55, U 56, U 57, U 58, U 59, U 60, U 61, U 62, U 63, U 64, U 65, U 66, U 67, U 68, U 69, U 70, U 71, U 72, U 73, U 74, U 75, U 76, U 77, U 78, U 79, U 80, U 81, U 82, U 83, U 84, U 85, U 86, U 87, U 88, U 89, U 90, U 91, U 92, U 93, U 94, U 95, U 96, U 97, U 98, U 99, U 100, U 101, U 102, U 103, U 104, U 105, U 106, U 107, U 108, U 109, U 110, U 111, U 112, U 113, U 114, U 115, U 116, U 117, U 118, U 119, U 120, U 121, U 122, U 123, U 124, U 125, U 126, U 127, U 128], defers := [] }
theorem ActR.of {text : ByteArray} {gr gd : Nat} {v3 : Value} {word rest : ByteArray} {v7 : Value} (l : List Value) (h : l = litF text gr gd v3 word rest v7 (fun i => l.getD i .nilIface)) : ActR text gr gd v3 word rest v7 { tmps := l.toArray, defers := [] } := by
  refine ⟨fun i => l.getD i .nilIface, ?_⟩
  show ({ tmps := l.toArray, defers := [] } : Act) = { tmps := (litF text gr gd v3 word rest v7 (fun i => l.getD i .nilIface)).toArray, defers := [] }
  rw [← h]
def scopeOf : Code → Code
  | .scope c => c
  | .seq _ b => scopeOf b
  | .block _ b => scopeOf b
  | c => c
def afterSkip : Option Code → Code
  | some (.seq _ r) => r
  | _ => .skip
noncomputable def rdScope : Code := match Tryz.prog.funcs[102]? with | some g => (match g.body with | some c => scopeOf c | none => .skip) | none => .skip
noncomputable def rA : Code := afterSkip (findLabel rdScope 0)
noncomputable def rB : Code := afterSkip (findLabel rdScope 1)
def from19 : Code → Code
  | .seq (.region k _ _) b => if k = 19 then b else from19 b
  | .seq _ b => from19 b
  | c => c
noncomputable def rC : Code := from19 rB
def from26 : Code → Code
  | .seq (.region k d e) b => if k = 26 then .seq (.region k d e) b else from26 b
  | .seq _ b => from26 b
  | c => c
noncomputable def rD : Code := from26 rC
def headOf : Code → Code
  | .seq a _ => a
  | c => c
def tailOf : Code → Code
  | .seq _ b => b
  | c => c
noncomputable def rH : Code := headOf rD
noncomputable def rT : Code := tailOf rD
theorem hrA : findLabel rdScope 0 = some (Code.skip.seq rA) := by kernel_rfl
theorem hrB : findLabel rdScope 1 = some (Code.skip.seq rB) := by kernel_rfl
/-- What is left of a text. -/
def remB (word rest : ByteArray) : Nat := word.size + rest.size
structure JBase (w0 : World) (text : ByteArray) (S : Nat → Prop) (v : Value) (L : List OItem) (drow : Array Value) (word rest : ByteArray) (n : Nat) (a : Act) (w : World) : Prop where
  act : ∃ v7, ActR text w0.heap.size (w0.heap.size + 1) v word rest v7 a
  st : RSt w0 w S v L drow
  kinds : ∀ it ∈ L, it.k = 0 ∨ (2 ≤ it.k ∧ it.k ≤ 6)
  empty : word.data.toList = [] → rest.data.toList = []
  rem : n = remB word rest
def JA (w0 : World) (text : ByteArray) (TGT : Option Dep) (n : Nat) (a : Act) (w : World) : Prop :=
  ∃ S v L d A k c word rest, JBase w0 text S v L (rowD d (.slice A k c)) word rest n a w ∧ TGT = readM (stkOf L) none (stream word.data.toList rest.data.toList) ∧ openM L + remB word rest ≤ text.size
def JB (w0 : World) (text : ByteArray) (TGT : Option Dep) (n : Nat) (a : Act) (w : World) : Prop :=
  ∃ S v L d A c word rest, JBase w0 text S v L (rowD d (.slice A d.args.length c)) word rest n a w ∧ Lay w S d (.slice A d.args.length c) ∧ TGT = readM (stkOf L) (some d) (stream word.data.toList rest.data.toList) ∧ openM L + nodes d + remB word rest ≤ text.size
/-- What reading comes to. -/
def ReadPost (w0 : World) (text : ByteArray) (TGT : Option Dep) (e : Ending) (w : World) : Prop :=
  Below w0.heap.size w0 w ∧ ((TGT = none ∧ e = gaveUp 50) ∨ ∃ d t S, TGT = some d ∧ e = .returned (.agg (rowD d t)) ∧ Lay w S d t ∧ CleanS w S ∧ (∀ b, S b → w0.heap.size ≤ b) ∧ nodes d ≤ text.size)
theorem wp_scope_two' {P : Program} {a : Act} {w : World} {Q : Exit → Act → World → Prop} {c restA restB : Code} (hA : findLabel c 0 = some (Code.skip.seq restA)) (hB : findLabel c 1 = some (Code.skip.seq restB)) (JA JB : Nat → Act → World → Prop)
    (behind : ∀ n a w, JB n a w → restB.wp P (jump2 (fun a' w' => ∃ m, m < n ∧ JA m a' w') (fun a' w' => ∃ m, m < n ∧ JB m a' w') Q) a w)
    (ahead : (∀ n m a w, m ≤ n → JB m a w → restB.wp P (jump2 (fun a' w' => ∃ m, m < n ∧ JA m a' w') (fun a' w' => ∃ m, m < n ∧ JB m a' w') Q) a w) →
      ∀ n a w, JA n a w → restA.wp P (jump2 (fun a' w' => ∃ m, m < n ∧ JA m a' w') (fun a' w' => ∃ m, m < n ∧ JB m a' w') Q) a w)
    (first : (∀ n a w, JA n a w → restA.wp P (jump2 (fun a' w' => ∃ m, JA m a' w') (fun a' w' => ∃ m, JB m a' w') Q) a w) → c.wp P (jump2 (fun a' w' => ∃ m, JA m a' w') (fun a' w' => ∃ m, JB m a' w') Q) a w) : (Code.scope c).wp P Q a w := by
  have hb2 : ∀ n m a w, m ≤ n → JB m a w → restB.wp P (jump2 (fun a' w' => ∃ m, m < n ∧ JA m a' w') (fun a' w' => ∃ m, m < n ∧ JB m a' w') Q) a w := fun n m a w hm h =>
    Code.wp_mono (fun e a' w' he => by
      cases e <;> first
      | exact he
      | (rcases he with ⟨h1, k, hk, h2⟩ | ⟨h1, k, hk, h2⟩
         · exact .inl ⟨h1, k, by omega, h2⟩
         · exact .inr ⟨h1, k, by omega, h2⟩)) (behind m a w h)
  have ha2 := ahead hb2
  refine wp_scope_two hA hB JA JB (fun n a w h => wp_seq (wp_skip (ha2 n a w h))) (fun n a w h => wp_seq (wp_skip (behind n a w h))) (first fun n a w h => Code.wp_mono (fun e a' w' he => by
      cases e <;> first
      | exact he
      | (rcases he with ⟨h1, k, hk, h2⟩ | ⟨h1, k, hk, h2⟩
         · exact .inl ⟨h1, k, h2⟩
         · exact .inr ⟨h1, k, h2⟩)) (ha2 n a w h))
theorem mkS_list (l : List UInt8) : (mkS l).data.toList = l := rfl
theorem RSt.init (w0 : World) (hT : Tabs w0) : RSt w0 ((w0.alloc (.cells #[.int .i64 0, .string ⟨#[]⟩, .int .i64 0, .string ⟨#[]⟩, .slice none 0 0] 50)).alloc (.cells #[.int .i64 0, .string ⟨#[]⟩, .int .i64 0, .string ⟨#[]⟩, .slice none 0 0] 50)) (fun _ => False) (.slice none 0 0) []
    #[.int .i64 0, .string ⟨#[]⟩, .int .i64 0, .string ⟨#[]⟩, .slice none 0 0] := by
  have hb : Below w0.heap.size w0 ((w0.alloc (.cells #[.int .i64 0, .string ⟨#[]⟩, .int .i64 0, .string ⟨#[]⟩, .slice none 0 0] 50)).alloc (.cells #[.int .i64 0, .string ⟨#[]⟩, .int .i64 0, .string ⟨#[]⟩, .slice none 0 0] 50)) := ((Below.refl _ _).alloc (Nat.le_refl _) _).alloc (by simp) _
  exact ⟨⟨rfl, .inl ⟨rfl, rfl⟩⟩, fun it hi => (by cases hi), by simp [muts, Value.ownBlock], fun k hk => by simp [muts, Value.ownBlock] at hk, fun b hb => hb.elim, fun b hb => hb.elim, (Blk.new _ _ _).alloc _, Blk.new' (w := w0.alloc (.cells #[.int .i64 0, .string ⟨#[]⟩, .int .i64 0, .string ⟨#[]⟩, .slice none 0 0] 50)) (by simp), hb, hT.below hb hT.two, hT.two⟩
theorem cutW_size (l : Wd) : (cutW l).1.length + (cutW l).2.length ≤ l.length := by
  have := skipB_le l
  unfold cutW
  simp only [List.length_take, List.length_drop]
  omega
theorem cut_rem (s : ByteArray) : remB (mkS (cutW s.data.toList).1) (mkS (cutW s.data.toList).2) ≤ s.size := by
  have := cutW_size s.data.toList
  unfold remB
  rw [mkS_size, mkS_size, ← size_len s]
  exact this
theorem clone_all (s : ByteArray) (hs : s.size ≤ 2147483648) (w : World) : Calls Tryz.prog 47 #[.string s] w fun e w' => e = .returned (.string s) ∧ Below w.heap.size w w' := by
  have C := Lib.hid (fun w => Tryz.stringslite_Clone s w (by omega))
  go_enter Tryz.func47, Tryz.ntmps47
  go_wp2_with fail
  refine (C.out _).mono ?_
  rintro e w1 ⟨rfl, hb1⟩
  go_wp2_with fail
  go_ret
  exact ⟨rfl, hb1⟩
theorem stream_head (w r : Wd) : (stream w r).headD [] = w := by
  unfold stream
  split
  · rename_i h; rw [h]; rfl
  · rfl
theorem stream_tail {w r : Wd} (h : w = [] → r = []) : (stream w r).tail = words r := by
  unfold stream
  split
  · rename_i h'; rw [h h', words_nil]; rfl
  · rfl
/-- A cut, in two words. -/
def Cuts (s a b : ByteArray) : Prop := a = mkS (cutW s.data.toList).1 ∧ b = mkS (cutW s.data.toList).2
theorem cutH (s : ByteArray) (hs : s.size ≤ maxLen) (w : World) : Calls Tryz.prog 142 #[.string s] w fun e w' => ∃ a b, Hid (Cuts s a b) ∧ e = .returned (.tuple #[.string a, .string b]) ∧ ∃ n, w' = w.drewN n :=
  (cut_any s hs w).mono fun e w' h => ⟨_, _, ⟨rfl, rfl⟩, h.1, h.2⟩
theorem Cuts.end_ {s a b : ByteArray} (h : Cuts s a b) (e : a.data.toList = []) : b.data.toList = [] := by
  obtain ⟨rfl, rfl⟩ := h
  exact cutW_end e
theorem Cuts.words_ {s a b : ByteArray} (h : Cuts s a b) : words s.data.toList = stream a.data.toList b.data.toList := by
  obtain ⟨rfl, rfl⟩ := h
  exact (stream_cut _).symm
theorem Cuts.rem {s a b : ByteArray} (h : Cuts s a b) : remB a b ≤ s.size := by
  obtain ⟨rfl, rfl⟩ := h
  exact cut_rem s
theorem numSH (s : ByteArray) (w : World) : Calls Tryz.prog 127 #[.agg #[.string ⟨#[]⟩, .string (mkS [60]), .string (mkS [61]), .string (mkS [60, 61]), .string (mkS [62]), .string (mkS [60, 62]), .string (mkS [62, 61]), .string (mkS [60, 61, 62])], .string s] w fun e w' =>
    ∃ o : Int, Hid (o = numS s.data.toList) ∧ e = .returned (.int .i64 o) ∧ Below w.heap.size w w' := (numS_any s w).mono fun e w' h => ⟨_, rfl, h.1, h.2⟩
theorem numWH (s : ByteArray) (w : World) : Calls Tryz.prog 127 #[.agg #[.string ⟨#[]⟩, .string ⟨#[]⟩, .string (mkS wAnd), .string (mkS wOr), .string (mkS wIf), .string (mkS wWith), .string (mkS wWithout), .string ⟨#[]⟩], .string s] w fun e w' =>
    ∃ o : Int, Hid (o = numW s.data.toList) ∧ e = .returned (.int .i64 o) ∧ Below w.heap.size w w' := (numW_any s w).mono fun e w' h => ⟨_, rfl, h.1, h.2⟩
theorem RSt.drew_ {w0 w : World} {S : Nat → Prop} {v : Value} {L : List OItem} {drow : Array Value} (h : RSt w0 w S v L drow) (n : Nat) : RSt w0 (w.drewN n) S v L drow := h.below_ ⟨rfl, rfl, rfl, Nat.le_refl _, fun _ _ => rfl⟩
theorem Lay.drew_ {w : World} {S : Nat → Prop} {d : Dep} {t : Value} (h : Lay w S d t) (n : Nat) : Lay (w.drewN n) S d t := h.stay (fun _ h => h) (StayS.below' (show Below w.heap.size w (w.drewN n) from ⟨rfl, rfl, rfl, Nat.le_refl _, fun _ _ => rfl⟩))
theorem row_lit (z0 z1 z2 z3 z4 a b c e f : Value) : (((((#[z0, z1, z2, z3, z4] : Array Value).setIfInBounds 0 a).setIfInBounds 1 b).setIfInBounds 2 c).setIfInBounds 3 e).setIfInBounds 4 f = #[a, b, c, e, f] := by kernel_rfl
theorem len_openM (L : List OItem) : L.length ≤ openM L := by
  induction L with
  | nil => simp [openM]
  | cons x r ih => simp only [openM, List.length_cons]; omega
theorem row_all (d : Dep) (t a b c e f : Value) : (((((rowD d t).setIfInBounds 0 a).setIfInBounds 1 b).setIfInBounds 2 c).setIfInBounds 3 e).setIfInBounds 4 f = #[a, b, c, e, f] := by kernel_rfl
theorem row_two (a b c e f c' : Value) : #[a, b, c, e, f].setIfInBounds 2 c' = #[a, b, c', e, f] := by kernel_rfl
theorem row_three (a b c e f c' : Value) : #[a, b, c, e, f].setIfInBounds 3 c' = #[a, b, c, c', f] := by kernel_rfl
theorem leaf_eq (w e : ByteArray) (o : Int) : leaf w.data.toList o e.data.toList = .mk 1 w o e [] := rfl
end Go.Proofs.YtpmfmkpfjomgnaaGreatDoor

/- Within. -/
namespace Go.Proofs.YtpmfmkpfjomgnaaGreatDoor
set_option linter.unusedSimpArgs false
set_option linter.unusedVariables false
open Go.RowKit

theorem row_at {w : World} {g t j : Nat} {cur : Array Value} {xs : List Value} {m : Nat} {u : Value} (h : Blk w g t cur) (e : cur.toList.take m = xs) (hj : xs[j]? = some u) : w.cell? ⟨g, j, none⟩ = some u := by
  rw [h.cell]
  rw [← e] at hj
  rw [List.getElem?_take] at hj
  split at hj
  · rw [← Array.getElem?_toList]; exact hj
  · cases hj
theorem in_cells {w : World} {base ob co : Nat} {t : TypeId} {L : List OItem} {it : OItem} (h : w.ownsRow base t 5 (.slice (some ⟨ob, 0, none⟩) (L.length + 1) co) (L ++ [it]).length (cells5 ((L ++ [it]).map itemRow))) :
    w.cell? ⟨ob, L.length * 5, none⟩ = some (.int .i64 it.k) ∧ w.cell? ⟨ob, L.length * 5 + 1, none⟩ = some (.string ⟨#[]⟩) ∧ w.cell? ⟨ob, L.length * 5 + 2, none⟩ = some (.int .i64 0) ∧ w.cell? ⟨ob, L.length * 5 + 3, none⟩ = some (.string ⟨#[]⟩) ∧ w.cell? ⟨ob, L.length * 5 + 4, none⟩ = some it.s ∧ (∀ j, w.frozen? ⟨ob, j, none⟩ = false) ∧ L.length + 1 ≤ co ∧ co ≤ maxLen := by
  rw [show (L ++ [it]).length = L.length + 1 by simp] at h
  obtain ⟨cur, h1, h2, h3, h4, h5, h6⟩ := own_blk h
  have hx : ((L ++ [it]).map itemRow)[L.length]? = some (itemRow it) := by rw [List.getElem?_map, List.getElem?_append_right (Nat.le_refl _)]; simp
  obtain ⟨q0, q1, q2, q3, q4⟩ := cells5_at hx
  exact ⟨row_at h1 h6 q0, row_at h1 h6 q1, row_at h1 h6 q2, row_at h1 h6 q3, row_at h1 h6 q4, fun j => h1.free j, h3, h4⟩
theorem Till.over {LL : List (Nat × Addr × Value)} {k : Nat} {l : Array Bool} {w : World} (h : (LL.all fun x => x.1 == k) = true) (hk : l.getD k true = true) : Till LL l w := fun x hx hf => by
  have h1 := List.all_eq_true.1 h x hx
  have h2 : x.1 = k := by simpa using h1
  rw [h2, hk] at hf
  cases hf
theorem wpAnyS_two {P : Program} {md : Region.Mode} {ops : Array Oper} {Q : Exit → Act → World → Prop} {S : Array Bool → World → Prop} {i j : Nat} {o o' : Oper} {fuel : Nat} {listed : Array Bool} {a : Act} {w : World} (hr : Region.ready md ops listed = [i, j]) (ho : ops[i]? = some o) (ho' : ops[j]? = some o')
    (h : ∀ K' : Act → World → Prop, Shut (∀ a w, S (listed.setIfInBounds i true) w → (S (listed.setIfInBounds i true) w → wpAnyS P md ops Q S fuel (listed.setIfInBounds i true) a w) → K' a w) →
      if Region.wanted o (yielded ops a.tmps) = true then Oper.wp P o a w K' Q else K' (a.put o.dst undef) w)
    (h' : ∀ K' : Act → World → Prop, Shut (∀ a w, S (listed.setIfInBounds j true) w → (S (listed.setIfInBounds j true) w → wpAnyS P md ops Q S fuel (listed.setIfInBounds j true) a w) → K' a w) →
      if Region.wanted o' (yielded ops a.tmps) = true then Oper.wp P o' a w K' Q else K' (a.put o'.dst undef) w) : wpAnyS P md ops Q S (fuel + 1) listed a w := by
  refine ⟨fun h0 => (by rw [hr] at h0; cases h0), fun k hk => ?_⟩
  rw [hr] at hk
  have : k = i ∨ k = j := by simpa using hk
  rcases this with rfl | rfl
  · exact wpOp_step ho (fun K' hK => h K' (fun a w hS hW => hK a w ⟨hS, hW hS⟩))
  · exact wpOp_step ho' (fun K' hK => h' K' (fun a w hS hW => hK a w ⟨hS, hW hS⟩))
section
variable {w0 w w4 : World} {S : Nat → Prop} {L : List OItem} {drow : Array Value} {it : OItem} {ob c g c' : Nat} {d : Dep} {t : Value}
theorem RSt.g_ne (h : RSt w0 w S (.slice (some ⟨ob, 0, none⟩) (L.length + 1) c) (L ++ [it]) drow) (hat : some g = it.s.ownBlock ∨ some g = some w.heap.size) : g ≠ ob := by
  rcases hat with h1 | h1
  · exact fun e => (h.item (it := it) (by simp) h1.symm).2.2.2 (by rw [e]; rfl)
  · injection h1 with h1
    have := (h.open_ (k := ob) rfl).2.1
    omega
theorem RSt.blks (h : RSt w0 w S (.slice (some ⟨ob, 0, none⟩) (L.length + 1) c) (L ++ [it]) drow) (hg : w.grownBy w4 it.s.ownBlock) : ∃ cs, Blk w4 ob 50 cs ∧ Blk w ob 50 cs := by
  obtain ⟨cs, h1, _⟩ := own_blk (by have := h.own; rwa [show (L ++ [it]).length = L.length + 1 by simp] at this)
  exact ⟨cs, h1.grown hg (fun e => (h.item (it := it) (by simp) e.symm).2.2.2 rfl), h1⟩
theorem RSt.putA (h : RSt w0 w S (.slice (some ⟨ob, 0, none⟩) (L.length + 1) c) (L ++ [it]) drow) (hL : Lay w S d t)
    (hown : w4.ownsRow (w0.heap.size + 1 + 1) 50 5 (.slice (some ⟨g, 0, none⟩) (it.r.length + 1) c') (it.r.length + 1) (cells5 it.r ++ [.int .i64 0, .string ⟨#[]⟩, .int .i64 0, .string ⟨#[]⟩, .slice none 0 0]))
    (hg : w.grownBy w4 it.s.ownBlock) (hat : some g = it.s.ownBlock ∨ some g = some w.heap.size) :
    RSt w0 ((((((w4.setCell ⟨g, it.r.length * 5, none⟩ (.int .i64 d.kind)).setCell ⟨g, it.r.length * 5 + 1, none⟩ (.string d.name)).setCell ⟨g, it.r.length * 5 + 2, none⟩ (.int .i64 d.op)).setCell ⟨g, it.r.length * 5 + 3, none⟩ (.string d.evr)).setCell ⟨g, it.r.length * 5 + 4, none⟩ t).setCell ⟨ob, L.length * 5 + 4, none⟩ (.slice (some ⟨g, 0, none⟩) (it.r.length + 1) c')) S (.slice (some ⟨ob, 0, none⟩) (L.length + 1) c) (L ++ [⟨it.k, it.r ++ [(d, t)], .slice (some ⟨g, 0, none⟩) (it.r.length + 1) c'⟩]) drow := by
  have hne := h.g_ne hat
  obtain ⟨cg, hcg, _⟩ := own_blk hown
  obtain ⟨cs, hco, _⟩ := h.blks hg
  refine h.put hL hown hg hat hcg hco ((((((hcg.set_ _ _).set_ _ _).set_ _ _).set_ _ _).set_ _ _).far hne _) ((((((hco.far (Ne.symm hne) _).far (Ne.symm hne) _).far (Ne.symm hne) _).far (Ne.symm hne) _).far (Ne.symm hne) _).set_ _ _) ?_
  exact ((((((Turned.refl _ _).setCell (.inl (by simp)) _).setCell (.inl (by simp)) _).setCell (.inl (by simp)) _).setCell (.inl (by simp)) _).setCell (.inl (by simp)) _).setCell (.inl (by simp)) _
theorem RSt.putB (h : RSt w0 w S (.slice (some ⟨ob, 0, none⟩) (L.length + 1) c) (L ++ [it]) drow) (hL : Lay w S d t)
    (hown : w4.ownsRow (w0.heap.size + 1 + 1) 50 5 (.slice (some ⟨g, 0, none⟩) (it.r.length + 1) c') (it.r.length + 1) (cells5 it.r ++ [.int .i64 0, .string ⟨#[]⟩, .int .i64 0, .string ⟨#[]⟩, .slice none 0 0]))
    (hg : w.grownBy w4 it.s.ownBlock) (hat : some g = it.s.ownBlock ∨ some g = some w.heap.size) :
    RSt w0 ((((((w4.setCell ⟨ob, L.length * 5 + 4, none⟩ (.slice (some ⟨g, 0, none⟩) (it.r.length + 1) c')).setCell ⟨g, it.r.length * 5, none⟩ (.int .i64 d.kind)).setCell ⟨g, it.r.length * 5 + 1, none⟩ (.string d.name)).setCell ⟨g, it.r.length * 5 + 2, none⟩ (.int .i64 d.op)).setCell ⟨g, it.r.length * 5 + 3, none⟩ (.string d.evr)).setCell ⟨g, it.r.length * 5 + 4, none⟩ t) S (.slice (some ⟨ob, 0, none⟩) (L.length + 1) c) (L ++ [⟨it.k, it.r ++ [(d, t)], .slice (some ⟨g, 0, none⟩) (it.r.length + 1) c'⟩]) drow := by
  have hne := h.g_ne hat
  obtain ⟨cg, hcg, _⟩ := own_blk hown
  obtain ⟨cs, hco, _⟩ := h.blks hg
  refine h.put hL hown hg hat hcg hco ((((((hcg.far hne _).set_ _ _).set_ _ _).set_ _ _).set_ _ _).set_ _ _) ((((((hco.set_ _ _).far (Ne.symm hne) _).far (Ne.symm hne) _).far (Ne.symm hne) _).far (Ne.symm hne) _).far (Ne.symm hne) _) ?_
  exact ((((((Turned.refl _ _).setCell (.inl (by simp)) _).setCell (.inl (by simp)) _).setCell (.inl (by simp)) _).setCell (.inl (by simp)) _).setCell (.inl (by simp)) _).setCell (.inl (by simp)) _
end
set_option maxHeartbeats 1000000 in
set_option maxRecDepth 1000000 in
theorem read_in (text : ByteArray) (hs : text.size ≤ 4194304) (w0 : World) (TGT : Option Dep) (n : Nat) (S : Nat → Prop) (ob co : Nat) (L : List OItem) (ik : Int) (ir : Rows5) (iA : Option Addr) (ic : Nat) (d : Dep) (A : Option Addr) (c : Nat) (word rest : ByteArray) (v7 : Value) (U : Nat → Value) (w : World)
    (HR : Hid (RSt w0 w S (.slice (some ⟨ob, 0, none⟩) (L.length + 1) co) (L ++ [⟨ik, ir, .slice iA ir.length ic⟩]) (rowD d (.slice A d.args.length c)))) (HKi : Hid (∀ it ∈ (L ++ [(⟨ik, ir, .slice iA ir.length ic⟩ : OItem)]), it.k = 0 ∨ (2 ≤ it.k ∧ it.k ≤ 6))) (HEm : Hid (word.data.toList = [] → rest.data.toList = [])) (HN : Hid (n = remB word rest))
    (HL : Hid (Lay w S d (.slice A d.args.length c))) (HGo : Hid (TGT = readM (stkOf (L ++ [⟨ik, ir, .slice iA ir.length ic⟩])) (some d) (stream word.data.toList rest.data.toList))) (HM : Hid (openM (L ++ [(⟨ik, ir, .slice iA ir.length ic⟩ : OItem)]) + nodes d + remB word rest ≤ text.size))
    (HREST : Hid (∀ g c4 a w', ActR text w0.heap.size (w0.heap.size + 1) (.slice (some ⟨ob, 0, none⟩) (L.length + 1) co) word rest (.pointer (some ⟨ob, L.length * 5, none⟩)) a → RSt w0 w' S (.slice (some ⟨ob, 0, none⟩) (L.length + 1) co) (L ++ [⟨ik, ir ++ [(d, .slice A d.args.length c)], .slice (some ⟨g, 0, none⟩) (ir.length + 1) c4⟩]) (rowD d (.slice A d.args.length c)) → rC.wp Tryz.prog (jump2 (fun a' w' => ∃ m, m < n ∧ JA w0 text TGT m a' w') (fun a' w' => ∃ m, m < n ∧ JB w0 text TGT m a' w') (bodyPost Tryz.prog Tryz.f102 (ReadPost w0 text TGT))) a w')) : rB.wp Tryz.prog (jump2 (fun a' w' => ∃ m, m < n ∧ JA w0 text TGT m a' w') (fun a' w' => ∃ m, m < n ∧ JB w0 text TGT m a' w') (bodyPost Tryz.prog Tryz.f102 (ReadPost w0 text TGT))) { tmps := #[.string text, U 1, .pointer (some ⟨w0.heap.size, 0, none⟩), .slice (some ⟨ob, 0, none⟩) (L.length + 1) co, .pointer (some ⟨w0.heap.size + 1, 0, none⟩), .string word, .string rest, v7, U 8, U 9, U 10, U 11, U 12, U 13, U 14, U 15, U 16, U 17, U 18, U 19, U 20, U 21, U 22, U 23, U 24, U 25, U 26, U 27, U 28, U 29, U 30, U 31, U 32, U 33, U 34, U 35, U 36, U 37, U 38, U 39, U 40, U 41, U 42, U 43, U 44, U 45, U 46, U 47, U 48, U 49, U 50, U 51, U 52, U 53, U 54, U 55, U 56, U 57, U 58, U 59, U 60, U 61, U 62, U 63, U 64, U 65, U 66, U 67, U 68, U 69, U 70, U 71, U 72, U 73, U 74, U 75, U 76, U 77, U 78, U 79, U 80, U 81, U 82, U 83, U 84, U 85, U 86, U 87, U 88, U 89, U 90, U 91, U 92, U 93, U 94, U 95, U 96, U 97, U 98, U 99, U 100, U 101, U 102, U 103, U 104, U 105, U 106, U 107, U 108, U 109, U 110, U 111, U 112, U 113, U 114, U 115, U 116, U 117, U 118, U 119, U 120, U 121, U 122, U 123, U 124, U 125, U 126, U 127, U 128], defers := [] } w := by
  obtain ⟨i0, i1, i2, i3, i4, ifr, ic1, ic2⟩ := in_cells HR.out.own
  have d0 := HR.out.dblk.cell 0
  have d1 := HR.out.dblk.cell 1
  have d2 := HR.out.dblk.cell 2
  have d3 := HR.out.dblk.cell 3
  have d4 := HR.out.dblk.cell 4
  unfold rowD at d0 d1 d2 d3 d4
  simp at d0 d1 d2 d3 d4 i0 i1 i2 i3 i4
  have if4 := ifr (L.length * 5 + 4)
  have IFR := Lib.hid ifr
  clear ifr
  have hsz : L.length < 4194304 ∧ ir.length < 4194304 := by
    have h1 := HM.out
    have h2 : openM (L ++ [(⟨ik, ir, .slice iA ir.length ic⟩ : OItem)]) = openM L + (1 + nodesA (ir.map Prod.fst)) := openM_snoc L _
    have h3 := len_openM L
    have h4 := nodesA_ge (ir.map Prod.fst)
    have h5 := nodes_parts d
    rw [List.length_map] at h4
    omega
  obtain ⟨hsz, hsr⟩ := hsz
  unfold maxLen at ic2
  have HLd := HR.out.dblk
  have T0 : Till [(7, ⟨ob, L.length * 5 + 4, none⟩, .slice iA ir.length ic), (7, ⟨w0.heap.size + 1, 0, none⟩, .int .i64 d.kind), (7, ⟨w0.heap.size + 1, 1, none⟩, .string d.name), (7, ⟨w0.heap.size + 1, 2, none⟩, .int .i64 d.op), (7, ⟨w0.heap.size + 1, 3, none⟩, .string d.evr), (7, ⟨w0.heap.size + 1, 4, none⟩, .slice A d.args.length c)] (Array.replicate 13 false) w.drew := by
    intro x hx _
    simp at hx
    rcases hx with rfl | rfl | rfl | rfl | rfl | rfl
    · exact i4
    · exact d0
    · exact d1
    · exact d2
    · exact d3
    · exact d4
  have H6 : Hid (RSt w0 (w.alloc (.cells #[.int .i64 0, .string ⟨#[]⟩, .int .i64 0, .string ⟨#[]⟩, .slice none 0 0] 50)).drew S (.slice (some ⟨ob, 0, none⟩) (L.length + 1) co) (L ++ [⟨ik, ir, .slice iA ir.length ic⟩]) (rowD d (.slice A d.args.length c))) := (HR.out.below_ ((Below.refl _ _).alloc (Nat.le_refl _) _)).drew_ 1
  have HL6 : Hid (Lay (w.alloc (.cells #[.int .i64 0, .string ⟨#[]⟩, .int .i64 0, .string ⟨#[]⟩, .slice none 0 0] 50)).drew S d (.slice A d.args.length c)) := HL.out.stay (fun _ h => h) (StayS.below' (((Below.refl _ _).alloc (Nat.le_refl _) _).drew))
  have T6 : ∀ l, Till [(7, ⟨ob, L.length * 5 + 4, none⟩, .slice iA ir.length ic), (7, ⟨w0.heap.size + 1, 0, none⟩, .int .i64 d.kind), (7, ⟨w0.heap.size + 1, 1, none⟩, .string d.name), (7, ⟨w0.heap.size + 1, 2, none⟩, .int .i64 d.op), (7, ⟨w0.heap.size + 1, 3, none⟩, .string d.evr), (7, ⟨w0.heap.size + 1, 4, none⟩, .slice A d.args.length c)] l (w.alloc (.cells #[.int .i64 0, .string ⟨#[]⟩, .int .i64 0, .string ⟨#[]⟩, .slice none 0 0] 50)).drew := by
    intro l x hx _
    simp at hx
    rcases hx with rfl | rfl | rfl | rfl | rfl | rfl
    · exact (in_cells H6.out.own).2.2.2.2.1
    · exact H6.out.dblk.cell 0
    · exact H6.out.dblk.cell 1
    · exact H6.out.dblk.cell 2
    · exact H6.out.dblk.cell 3
    · exact H6.out.dblk.cell 4
  obtain ⟨j0, z0, hi0, hz0, hz1, hz2, hz3⟩ := info_dep5
  have hi := Lib.hid hi0
  have HZ := Lib.hid (And.intro hz0 (And.intro hz1 (And.intro hz2 hz3)))
  clear hi0 hz0 hz1 hz2 hz3
  have OA := Lib.hid (H6.out.args ⟨ik, ir, .slice iA ir.length ic⟩ (by simp)).1
  conv in rB => whnf
  go_wp2_with fail
  rename_i K hK
  refine wp_region_S (Till [(7, ⟨ob, L.length * 5 + 4, none⟩, .slice iA ir.length ic), (7, ⟨w0.heap.size + 1, 0, none⟩, .int .i64 d.kind), (7, ⟨w0.heap.size + 1, 1, none⟩, .string d.name), (7, ⟨w0.heap.size + 1, 2, none⟩, .int .i64 d.op), (7, ⟨w0.heap.size + 1, 3, none⟩, .string d.evr), (7, ⟨w0.heap.size + 1, 4, none⟩, .slice A d.args.length c)]) (by kernel_rfl) T0 (fun hS => ?_)
  clear T0
  refine wpAnyS_take (i := 0) (fun _ => True) (v := .pointer (some ⟨ob, L.length * 5, none⟩)) rfl (by kernel_rfl) (by kernel_rfl) (by kernel_rfl) (fun _ _ _ h => h) (fun _ _ _ _ => trivial) (Till.io rfl) (by kernel_rfl) hS (fun w' hSw => ?_) (by rfl) (fun hS => ?_)
  · go_simp
  try simp only [Act.put, List.setIfInBounds_toArray, List.set_cons_zero, List.set_cons_succ]
  refine wpAnyS_take (i := 1) (fun _ => True) (v := .pointer (some ⟨ob, L.length * 5, none⟩)) rfl (by kernel_rfl) (by kernel_rfl) (by kernel_rfl) (fun _ _ _ h => h) (fun _ _ _ _ => trivial) (Till.io rfl) (by kernel_rfl) hS (fun w' hSw => ?_) (by rfl) (fun hS => ?_)
  · go_simp
  try simp only [Act.put, List.setIfInBounds_toArray, List.set_cons_zero, List.set_cons_succ]
  refine wpAnyS_take (i := 2) (fun _ => True) (v := .pointer (some ⟨ob, L.length * 5 + 4, none⟩)) rfl (by kernel_rfl) (by kernel_rfl) (by kernel_rfl) (fun _ _ _ h => h) (fun _ _ _ _ => trivial) (Till.io rfl) (by kernel_rfl) hS (fun w' hSw => ?_) (by rfl) (fun hS => ?_)
  · go_simp
  try simp only [Act.put, List.setIfInBounds_toArray, List.set_cons_zero, List.set_cons_succ]
  refine wpAnyS_take (i := 3) (fun w' => w'.cell? ⟨ob, L.length * 5 + 4, none⟩ = some (.slice iA ir.length ic)) (v := .slice iA ir.length ic) rfl (by kernel_rfl) (by kernel_rfl) (by kernel_rfl) (fun _ _ _ h => h) (fun l w hw hS => hS.out (k := 7) (by simp) (hw 7 (by kernel_rfl))) (Till.io rfl) (by kernel_rfl) hS (fun w' hSw => ?_) (by rfl) (fun hS => ?_)
  · go_simp
  try simp only [Act.put, List.setIfInBounds_toArray, List.set_cons_zero, List.set_cons_succ]
  refine wpAnyS_take (i := 4) (fun w' => w'.cell? ⟨w0.heap.size + 1, 0, none⟩ = some (.int .i64 d.kind) ∧ w'.cell? ⟨w0.heap.size + 1, 1, none⟩ = some (.string d.name) ∧ w'.cell? ⟨w0.heap.size + 1, 2, none⟩ = some (.int .i64 d.op) ∧ w'.cell? ⟨w0.heap.size + 1, 3, none⟩ = some (.string d.evr) ∧ w'.cell? ⟨w0.heap.size + 1, 4, none⟩ = some (.slice A d.args.length c)) (v := .agg #[.int .i64 d.kind, .string d.name, .int .i64 d.op, .string d.evr, .slice A d.args.length c]) rfl (by kernel_rfl) (by kernel_rfl) (by kernel_rfl) (fun _ _ _ h => h) (fun l w hw hS => ⟨hS.out (k := 7) (by simp) (hw 7 (by kernel_rfl)), hS.out (k := 7) (by simp) (hw 7 (by kernel_rfl)), hS.out (k := 7) (by simp) (hw 7 (by kernel_rfl)), hS.out (k := 7) (by simp) (hw 7 (by kernel_rfl)), hS.out (k := 7) (by simp) (hw 7 (by kernel_rfl))⟩) (Till.io rfl) (by kernel_rfl) hS (fun w' hSw => ?_) (by rfl) (fun hS => ?_)
  · obtain ⟨e0, e1, e2, e3, e4⟩ := hSw
    go_simp
  try simp only [Act.put, List.setIfInBounds_toArray, List.set_cons_zero, List.set_cons_succ]
  refine wpAnyS_take (i := 5) (fun _ => True) (v := .int .i64 (ir.length : Int)) rfl (by kernel_rfl) (by kernel_rfl) (by kernel_rfl) (fun _ _ _ h => h) (fun _ _ _ _ => trivial) (Till.io rfl) (by kernel_rfl) hS (fun w' hSw => ?_) (by rfl) (fun hS => ?_)
  · go_simp
  try simp only [Act.put, List.setIfInBounds_toArray, List.set_cons_zero, List.set_cons_succ]
  refine wpAnyS_one (i := 6) (by kernel_rfl) rfl (fun K6 hK6 => ?_)
  go_simp
  refine hK6.out _ _ (T6 _) (fun hS => ?_)
  clear hK6 K6 T6
  try simp only [Act.put, List.setIfInBounds_toArray, List.set_cons_zero, List.set_cons_succ]
  refine wpAnyS_one (i := 7) (by kernel_rfl) rfl (fun K7 hK7 => ?_)
  refine step_append_at rfl (.tmp 70) (.tmp 73) 41 rfl (w0.heap.size + 1 + 1) 50 j0 z0 5 72 Tryz.underlying41 hi.out HZ.out.1 HZ.out.2.2.1 HZ.out.2.2.2 HZ.out.2.1 (by decide) (.slice iA ir.length ic) ir.length (cells5 ir) rfl OA.out ⟨w.heap.size, 0, none⟩ 1 1 [.int .i64 0, .string ⟨#[]⟩, .int .i64 0, .string ⟨#[]⟩, .slice none 0 0] rfl rfl (cells_at (Blk.new' rfl).drew rfl) (fun u hu => by simp at hu; rcases hu with rfl | rfl | rfl | rfl | rfl <;> rfl) (by unfold maxLen; omega) (by omega) (by have := HR.out.dblk.lt; show w0.heap.size + 1 + 1 ≤ (w.alloc _).heap.size; rw [World.size_alloc]; omega) (fun v4 w4 hown4 hg4 hat4 => ?_)
  obtain ⟨g, c4, rfl⟩ : ∃ g c4, v4 = .slice (some ⟨g, 0, none⟩) (ir.length + 1) c4 := by
    rcases hown4.2 with ⟨_, h2⟩ | ⟨g', cap, cur, h1, _⟩
    · omega
    · exact ⟨g', cap, h1⟩
  have hat5 : some g = (OItem.mk ik ir (.slice iA ir.length ic)).s.ownBlock ∨ some g = some ((w.alloc (.cells #[.int .i64 0, .string ⟨#[]⟩, .int .i64 0, .string ⟨#[]⟩, .slice none 0 0] 50)).drew).heap.size := hat4
  have hne := H6.out.g_ne hat5
  have hne' : ¬ ob = g := fun e => hne e.symm
  have HA := Lib.hid (H6.out.putA (it := ⟨ik, ir, .slice iA ir.length ic⟩) HL6.out hown4 hg4 hat5)
  have HB := Lib.hid (H6.out.putB (it := ⟨ik, ir, .slice iA ir.length ic⟩) HL6.out hown4 hg4 hat5)
  obtain ⟨cs, hco4, _⟩ := H6.out.blks (it := ⟨ik, ir, .slice iA ir.length ic⟩) hg4
  obtain ⟨cg, hcg4, _, hg5, hg6, _, hg7⟩ := own_blk hown4
  have u0 := row_at (j := ir.length * 5) hcg4 hg7 (by rw [List.getElem?_append_right (by rw [cells5_len]; exact Nat.le_refl _), cells5_len, Nat.sub_self]; rfl)
  have u1 := row_at (j := ir.length * 5 + 1) hcg4 hg7 (by rw [List.getElem?_append_right (by rw [cells5_len]; omega), cells5_len, Nat.add_sub_cancel_left]; rfl)
  have u2 := row_at (j := ir.length * 5 + 2) hcg4 hg7 (by rw [List.getElem?_append_right (by rw [cells5_len]; omega), cells5_len, Nat.add_sub_cancel_left]; rfl)
  have u3 := row_at (j := ir.length * 5 + 3) hcg4 hg7 (by rw [List.getElem?_append_right (by rw [cells5_len]; omega), cells5_len, Nat.add_sub_cancel_left]; rfl)
  have u4 := row_at (j := ir.length * 5 + 4) hcg4 hg7 (by rw [List.getElem?_append_right (by rw [cells5_len]; omega), cells5_len, Nat.add_sub_cancel_left]; rfl)
  have uf0 := hcg4.free (ir.length * 5)
  have uf1 := hcg4.free (ir.length * 5 + 1)
  have uf2 := hcg4.free (ir.length * 5 + 2)
  have uf3 := hcg4.free (ir.length * 5 + 3)
  have uf4 := hcg4.free (ir.length * 5 + 4)
  have uo4 : w4.cell? ⟨ob, L.length * 5 + 4, none⟩ = some (.slice iA ir.length ic) := by
    obtain ⟨cs', h1, h2⟩ := H6.out.blks (it := ⟨ik, ir, .slice iA ir.length ic⟩) hg4
    rw [h1.cell, ← h2.cell]
    exact (in_cells H6.out.own).2.2.2.2.1
  have ufo := hco4.free (L.length * 5 + 4)
  unfold maxLen at hg6
  clear hown4 hg4 hat4 hat5 hco4 hcg4 hg7
  try simp only [Act.put, List.setIfInBounds_toArray, List.set_cons_zero, List.set_cons_succ]
  refine hK7.out _ _ (Till.over (k := 7) (by rfl) (by kernel_rfl)) (fun hS => ?_)
  clear hK7 K7
  try simp only [Act.put, List.setIfInBounds_toArray, List.set_cons_zero, List.set_cons_succ]
  refine wpAnyS_take (i := 8) (fun _ => True) (v := .pointer (some ⟨g, ir.length * 5, none⟩)) rfl (by kernel_rfl) (by kernel_rfl) (by kernel_rfl) (fun _ _ _ h => h) (fun _ _ _ _ => trivial) (Till.io rfl) (by kernel_rfl) hS (fun w' hSw => ?_) (by rfl) (fun hS => ?_)
  · go_simp
    exact fun h => absurd h (by omega)
  try simp only [Act.put, List.setIfInBounds_toArray, List.set_cons_zero, List.set_cons_succ]
  refine wpAnyS_take (i := 10) (fun _ => True) (v := .pointer (some ⟨ob, L.length * 5, none⟩)) rfl (by kernel_rfl) (by kernel_rfl) (by kernel_rfl) (fun _ _ _ h => h) (fun _ _ _ _ => trivial) (Till.io rfl) (by kernel_rfl) hS (fun w' hSw => ?_) (by rfl) (fun hS => ?_)
  · go_simp
  try simp only [Act.put, List.setIfInBounds_toArray, List.set_cons_zero, List.set_cons_succ]
  refine wpAnyS_take (i := 11) (fun _ => True) (v := .pointer (some ⟨ob, L.length * 5 + 4, none⟩)) rfl (by kernel_rfl) (by kernel_rfl) (by kernel_rfl) (fun _ _ _ h => h) (fun _ _ _ _ => trivial) (Till.io rfl) (by kernel_rfl) hS (fun w' hSw => ?_) (by rfl) (fun hS => ?_)
  · go_simp
  try simp only [Act.put, List.setIfInBounds_toArray, List.set_cons_zero, List.set_cons_succ]
  refine wpAnyS_two (i := 9) (j := 12) (by kernel_rfl) rfl rfl (fun K9 hK9 => ?_) (fun K9 hK9 => ?_)
  · go_simp
    refine hK9.out _ _ (Till.over (k := 7) (by rfl) (by kernel_rfl)) (fun hS => ?_)
    clear hK9 K9
    try simp only [Act.put, List.setIfInBounds_toArray, List.set_cons_zero, List.set_cons_succ]
    refine wpAnyS_one (i := 12) (by kernel_rfl) rfl (fun K9 hK9 => ?_)
    go_simp
    refine hK9.out _ _ (Till.over (k := 7) (by rfl) (by kernel_rfl)) (fun hS => ?_)
    clear hK9 K9
    try simp only [Act.put, List.setIfInBounds_toArray, List.set_cons_zero, List.set_cons_succ]
    refine wpAnyS_done (by kernel_rfl) ?_ _
    exact hK _ _ (HREST.out g c4 _ _ (ActR.of _ (by kernel_rfl)) HA.out)
  · go_simp
    refine hK9.out _ _ (Till.over (k := 7) (by rfl) (by kernel_rfl)) (fun hS => ?_)
    clear hK9 K9
    try simp only [Act.put, List.setIfInBounds_toArray, List.set_cons_zero, List.set_cons_succ]
    refine wpAnyS_one (i := 9) (by kernel_rfl) rfl (fun K9 hK9 => ?_)
    go_simp
    refine hK9.out _ _ (Till.over (k := 7) (by rfl) (by kernel_rfl)) (fun hS => ?_)
    clear hK9 K9
    try simp only [Act.put, List.setIfInBounds_toArray, List.set_cons_zero, List.set_cons_succ]
    refine wpAnyS_done (by kernel_rfl) ?_ _
    exact hK _ _ (HREST.out g c4 _ _ (ActR.of _ (by kernel_rfl)) HB.out)
end Go.Proofs.YtpmfmkpfjomgnaaGreatDoor

/- Closing. A word within. -/
namespace Go.Proofs.YtpmfmkpfjomgnaaGreatDoor
set_option linter.unusedSimpArgs false
set_option linter.unusedVariables false
open Go.RowKit

set_option maxHeartbeats 2000000 in
set_option maxRecDepth 1000000 in
theorem read_close (text : ByteArray) (hs : text.size ≤ 4194304) (w0 : World) (TGT : Option Dep) (n : Nat) (S : Nat → Prop) (ob co g c4 : Nat) (L : List OItem) (ik : Int) (ir : Rows5) (d : Dep) (dt : Value) (word rest : ByteArray) (U : Nat → Value) (w : World) (drow : Array Value) (e0 e1 e2 e3 e4 : Value) (hrow : drow = #[e0, e1, e2, e3, e4])
    (HR : Hid (RSt w0 w S (.slice (some ⟨ob, 0, none⟩) (L.length + 1) co) (L ++ [⟨ik, ir ++ [(d, dt)], .slice (some ⟨g, 0, none⟩) (ir.length + 1) c4⟩]) drow)) (HKi : Hid (∀ it ∈ L, it.k = 0 ∨ (2 ≤ it.k ∧ it.k ≤ 6))) (HKk : Hid (ik = 0 ∨ (2 ≤ ik ∧ ik ≤ 6))) (HEm : Hid (word.data.toList = [] → rest.data.toList = [])) (HN : Hid (n = remB word rest))
    (HGo : Hid (TGT = readM ((ik, ir.map Prod.fst) :: stkOf L) (some d) (stream word.data.toList rest.data.toList))) (HM : Hid (openM L + (1 + nodesA (ir.map Prod.fst)) + nodes d + remB word rest ≤ text.size))
    (h41 : word.data.toList = [41]) : rC.wp Tryz.prog (jump2 (fun a' w' => ∃ m, m < n ∧ JA w0 text TGT m a' w') (fun a' w' => ∃ m, m < n ∧ JB w0 text TGT m a' w') (bodyPost Tryz.prog Tryz.f102 (ReadPost w0 text TGT))) { tmps := #[.string text, U 1, .pointer (some ⟨w0.heap.size, 0, none⟩), .slice (some ⟨ob, 0, none⟩) (L.length + 1) co, .pointer (some ⟨w0.heap.size + 1, 0, none⟩), .string word, .string rest, .pointer (some ⟨ob, L.length * 5, none⟩), U 8, U 9, U 10, U 11, U 12, U 13, U 14, U 15, U 16, U 17, U 18, U 19, U 20, U 21, U 22, U 23, U 24, U 25, U 26, U 27, U 28, U 29, U 30, U 31, U 32, U 33, U 34, U 35, U 36, U 37, U 38, U 39, U 40, U 41, U 42, U 43, U 44, U 45, U 46, U 47, U 48, U 49, U 50, U 51, U 52, U 53, U 54, U 55, U 56, U 57, U 58, U 59, U 60, U 61, U 62, U 63, U 64, U 65, U 66, U 67, U 68, U 69, U 70, U 71, U 72, U 73, U 74, U 75, U 76, U 77, U 78, U 79, U 80, U 81, U 82, U 83, U 84, U 85, U 86, U 87, U 88, U 89, U 90, U 91, U 92, U 93, U 94, U 95, U 96, U 97, U 98, U 99, U 100, U 101, U 102, U 103, U 104, U 105, U 106, U 107, U 108, U 109, U 110, U 111, U 112, U 113, U 114, U 115, U 116, U 117, U 118, U 119, U 120, U 121, U 122, U 123, U 124, U 125, U 126, U 127, U 128], defers := [] } w := by
  subst hrow
  have CUT := Lib.hid (fun s h w => cutH s h w)
  obtain ⟨i0, i1, i2, i3, i4, ifr, ic1, ic2⟩ := in_cells HR.out.own
  have d0 := HR.out.dblk.cell 0
  have d1 := HR.out.dblk.cell 1
  have d2 := HR.out.dblk.cell 2
  have d3 := HR.out.dblk.cell 3
  have d4 := HR.out.dblk.cell 4
  have f0 := HR.out.dblk.free 0
  have f1 := HR.out.dblk.free 1
  have f2 := HR.out.dblk.free 2
  have f3 := HR.out.dblk.free 3
  have f4 := HR.out.dblk.free 4
  simp at d0 d1 d2 d3 d4 i0 i1 i2 i3 i4
  clear ifr
  have hws : word.size = 1 := by rw [← size_len, h41]; rfl
  have hrem : remB word rest = 1 + rest.size := by unfold remB; omega
  have hM := HM.out
  have hl := len_openM L
  have hlr := nodesA_ge (ir.map Prod.fst)
  rw [List.length_map] at hlr
  have hsz : L.length < 4194304 := by omega
  have hsr : ir.length < 4194304 := by omega
  have hrs : rest.size ≤ 4194304 := by omega
  have HNr : Hid (rest.size < n) := by have := HN.out; show rest.size < n; omega
  have HM2 : Hid (openM L + (1 + (nodesA (ir.map Prod.fst) + nodes d)) + rest.size ≤ text.size) := by show _ ≤ _; omega
  unfold maxLen at ic2
  have hpop := RSt.pop (n := 0) HR.out
  obtain ⟨P1, P2⟩ := hpop
  have hbase := P1.base
  have Q1 := Lib.hid (((((P1.setD 0 (.int .i64 ik)).setD 1 (.string ⟨#[]⟩)).setD 2 (.int .i64 0)).setD 3 (.string ⟨#[]⟩)).setD 4 (.slice (some ⟨g, 0, none⟩) (ir.length + 1) c4))
  have Q2 := Lib.hid (P2.stay (fun _ h => h) (StayS.turned (F := [w0.heap.size + 1]) ((((((Turned.refl [w0.heap.size + 1] w).setCell (p := ⟨w0.heap.size + 1, 0, none⟩) (.inl (by simp)) (.int .i64 ik)).setCell (p := ⟨w0.heap.size + 1, 1, none⟩) (.inl (by simp)) (.string ⟨#[]⟩)).setCell (p := ⟨w0.heap.size + 1, 2, none⟩) (.inl (by simp)) (.int .i64 0)).setCell (p := ⟨w0.heap.size + 1, 3, none⟩) (.inl (by simp)) (.string ⟨#[]⟩)).setCell (p := ⟨w0.heap.size + 1, 4, none⟩) (.inl (by simp)) (.slice (some ⟨g, 0, none⟩) (ir.length + 1) c4)) (fun b hb hg => by have := hbase b hb; simp at hg; omega)))
  have t41 : (word.toList == [41]) = true := by have := str_yes (str_is h41); simpa using this
  clear P1 P2 hbase hM hl hlr hrem hws
  conv in rC => whnf
  go_wp2_with fail
  refine (CUT.out rest (by unfold maxLen; omega) _).mono ?_
  rintro e w5 ⟨a, b, HC, rfl, q5, rfl⟩
  have HLen : (node ik ((ir ++ [(d, dt)]).map Prod.fst)).args.length = ir.length + 1 := by simp [node, Dep.args]
  have RL := Lib.hid (And.intro (Q1.out.drew_ q5) (Q2.out.drew_ q5))
  generalize World.drewN _ q5 = W at RL ⊢
  clear Q1 Q2 d0 d1 d2 d3 d4 f0 f1 f2 f3 f4 i0 i1 i2 i3 i4
  have R5 := RL.out.1
  rw [row_lit] at R5
  have HR5 := Lib.hid R5
  have HL5 := Lib.hid RL.out.2
  clear R5 RL
  go_wp2_with fail
  refine wp_goto ?_
  refine .inr ⟨rfl, remB a b, ?_, fun b => S b ∨ (Value.slice (some ⟨g, 0, none⟩) (ir.length + 1) c4).ownBlock = some b, .slice (some ⟨ob, 0, none⟩) L.length co, L, node ik ((ir ++ [(d, dt)]).map Prod.fst), some ⟨g, 0, none⟩, c4, a, b, ⟨⟨.pointer (some ⟨ob, L.length * 5, none⟩), ActR.of _ (by kernel_rfl)⟩, ?_, HKi.out, HC.out.end_, rfl⟩, ?_, ?_, ?_⟩
  · have := HC.out.rem; have := HNr.out; omega
  · rw [HLen]; exact HR5.out
  · rw [HLen]; exact HL5.out
  · have hst : stream word.data.toList rest.data.toList = [41] :: words rest.data.toList := by rw [h41]; exact stream_cons _ (by decide)
    rw [HGo.out, hst, readM_close, HC.out.words_]
    simp
  · have h1 := HC.out.rem
    have h2 := HM2.out
    have h3 : nodes (node ik ((ir ++ [(d, dt)]).map Prod.fst)) = 1 + (nodesA (ir.map Prod.fst) + nodes d) := by
      rw [nodes_parts]
      show 1 + nodesA ((ir ++ [(d, dt)]).map Prod.fst) = _
      rw [List.map_append, nodesA_append]
      simp [nodesA]
    omega
end Go.Proofs.YtpmfmkpfjomgnaaGreatDoor
namespace Go.Proofs.YtpmfmkpfjomgnaaGreatDoor
set_option linter.unusedSimpArgs false
set_option linter.unusedVariables false
open Go.RowKit

set_option maxHeartbeats 2000000 in
set_option maxRecDepth 1000000 in
theorem read_must (text : ByteArray) (hs : text.size ≤ 4194304) (w0 : World) (TGT : Option Dep) (n : Nat) (S : Nat → Prop) (ob co g c4 : Nat) (L : List OItem) (ik : Int) (ir : Rows5) (d : Dep) (A : Option Addr) (c : Nat) (word rest : ByteArray) (U : Nat → Value) (w : World)
    (HR : Hid (RSt w0 w S (.slice (some ⟨ob, 0, none⟩) (L.length + 1) co) (L ++ [⟨ik, ir ++ [(d, .slice A d.args.length c)], .slice (some ⟨g, 0, none⟩) (ir.length + 1) c4⟩]) (rowD d (.slice A d.args.length c)))) (HKi : Hid (∀ it ∈ L, it.k = 0 ∨ (2 ≤ it.k ∧ it.k ≤ 6))) (HEm : Hid (word.data.toList = [] → rest.data.toList = [])) (HN : Hid (n = remB word rest))
    (HGo : Hid (TGT = if word.data.toList = btw ik (ir.length + 1) then readM ((ik, (ir.map Prod.fst) ++ [d]) :: stkOf L) none (words rest.data.toList) else none)) (HM : Hid (openM L + (1 + nodesA (ir.map Prod.fst)) + nodes d + remB word rest ≤ text.size))
    (hk : 2 ≤ ik ∧ ik ≤ 6) (K : Act → World → Prop) (hK : ∀ a w, rT.wp Tryz.prog (jump2 (fun a' w' => ∃ m, m < n ∧ JA w0 text TGT m a' w') (fun a' w' => ∃ m, m < n ∧ JB w0 text TGT m a' w') (bodyPost Tryz.prog Tryz.f102 (ReadPost w0 text TGT))) a w → K a w) : rH.wp Tryz.prog (Exit.then K (jump2 (fun a' w' => ∃ m, m < n ∧ JA w0 text TGT m a' w') (fun a' w' => ∃ m, m < n ∧ JB w0 text TGT m a' w') (bodyPost Tryz.prog Tryz.f102 (ReadPost w0 text TGT)))) { tmps := #[.string text, U 1, .pointer (some ⟨w0.heap.size, 0, none⟩), .slice (some ⟨ob, 0, none⟩) (L.length + 1) co, .pointer (some ⟨w0.heap.size + 1, 0, none⟩), .string word, .string rest, .pointer (some ⟨ob, L.length * 5, none⟩), U 8, U 9, U 10, U 11, U 12, U 13, U 14, U 15, U 16, U 17, U 18, U 19, U 20, U 21, U 22, U 23, U 24, U 25, U 26, U 27, U 28, U 29, U 30, U 31, U 32, U 33, U 34, U 35, U 36, U 37, U 38, U 39, U 40, U 41, U 42, U 43, U 44, U 45, U 46, U 47, U 48, U 49, U 50, U 51, U 52, U 53, U 54, U 55, U 56, U 57, U 58, U 59, U 60, U 61, U 62, U 63, U 64, U 65, U 66, U 67, U 68, U 69, U 70, U 71, U 72, U 73, U 74, U 75, U 76, U 77, U 78, U 79, U 80, U 81, U 82, U 83, U 84, U 85, U 86, U 87, U 88, U 89, U 90, U 91, U 92, U 93, U 94, U 95, U 96, U 97, U 98, U 99, U 100, U 101, U 102, U 103, U 104, U 105, U 106, U 107, U 108, U 109, U 110, U 111, U 112, U 113, U 114, U 115, U 116, U 117, U 118, U 119, U 120, U 121, U 122, U 123, U 124, U 125, U 126, U 127, U 128], defers := [] } w := by
  have CUT := Lib.hid (fun s h w => cutH s h w)
  have MY := Lib.hid must_yes
  have MN := Lib.hid must_no
  obtain ⟨i0, i1, i2, i3, i4, ifr, ic1, ic2⟩ := in_cells HR.out.own
  simp at i0 i1 i2 i3 i4
  clear ifr i1 i2 i3
  have hsr : ir.length < 4194304 := by
    have hM := HM.out
    have hlr := nodesA_ge (ir.map Prod.fst)
    rw [List.length_map] at hlr
    omega
  have hrs : rest.size ≤ 4194304 := by have hM := HM.out; unfold remB at hM; omega
  obtain ⟨B, HB⟩ : ∃ B, Hid (B = mkS (btw ik (ir.length + 1))) := ⟨_, rfl⟩
  have CB : Hid (Calls Tryz.prog 144 #[.int .i64 ik, .int .i64 ((ir.length : Int) + 1)] w.drew fun e w'' => e = .returned (.string B) ∧ w'' = w.drew) := by
    rw [HB.out]
    have := between_any ik (ir.length + 1) ⟨by omega, by omega⟩ w.drew (HR.out.drew_ 1).tabs.words
    rw [show ((ir.length + 1 : Nat) : Int) = (ir.length : Int) + 1 by omega] at this
    exact this.mono fun e w'' h => ⟨h.1, h.2.symm⟩
  have HR1 : Hid (RSt w0 w.drew S (.slice (some ⟨ob, 0, none⟩) (L.length + 1) co) (L ++ [⟨ik, ir ++ [(d, .slice A d.args.length c)], .slice (some ⟨g, 0, none⟩) (ir.length + 1) c4⟩]) (rowD d (.slice A d.args.length c))) := HR.out.drew_ 1
  have tk : (ik == 0) = false := beq_eq_false_iff_ne.2 (by omega)
  have tk' : ¬ ik = 0 := by omega
  have tk3 : (ik != 0) = true := bne_iff_ne.2 tk'
  by_cases hb : word.data.toList = btw ik (ir.length + 1)
  · have tb : (word.toList == B.toList) = true := str_yes (by rw [HB.out]; exact str_is hb)
    have HG2 : Hid (TGT = readM ((ik, (ir.map Prod.fst) ++ [d]) :: stkOf L) none (words rest.data.toList)) := by
      have := HGo.out
      rwa [if_pos hb] at this
    have HNr : Hid (rest.size < n) := by
      have := HN.out
      have h3 : 1 ≤ word.size := by rw [← size_len]; exact List.length_pos_iff.2 (by rw [hb]; exact (btw_ne hk.1 hk.2).2.2.1)
      show rest.size < n
      unfold remB at this
      omega
    have HM2 : Hid (openM (L ++ [(⟨ik, ir ++ [(d, .slice A d.args.length c)], .slice (some ⟨g, 0, none⟩) (ir.length + 1) c4⟩ : OItem)]) + rest.size ≤ text.size) := by
      show _ ≤ _
      rw [openM_snoc]
      have h2 := HM.out
      show openM L + (1 + nodesA ((ir ++ [(d, Value.slice A d.args.length c)]).map Prod.fst)) + rest.size ≤ _
      rw [List.map_append, nodesA_append]
      unfold remB at h2
      simp only [List.map_cons, List.map_nil, nodesA]
      omega
    have HKi2 : Hid (∀ it ∈ L ++ [(⟨ik, ir ++ [(d, .slice A d.args.length c)], .slice (some ⟨g, 0, none⟩) (ir.length + 1) c4⟩ : OItem)], it.k = 0 ∨ (2 ≤ it.k ∧ it.k ≤ 6)) := by
      intro it hi'
      rcases List.mem_append.1 hi' with hi' | hi'
      · exact HKi.out it hi'
      · simp at hi'; subst hi'; exact .inr hk
    clear hb HR
    conv in rH => whnf
    refine wp_region_still_tail 19 (by kernel_rfl) (by kernel_rfl) ?_
    simp only [List.take_succ_cons, List.take_zero, List.drop_succ_cons, List.drop_zero]
    still_step
    still_step
    still_step
    still_step
    still_step
    still_step
    still_step
    still_step
    still_step
    still_step
    still_step
    still_step
    still_step
    still_step
    still_step
    still_step
    still_call CB.out
    still_step
    still_step
    refine wpStill_nil ?_
    change wpList _ _ _ _ _ w.drew
    generalize w.drew = W at HR1 ⊢
    clear CB i0 i4
    go_wp2_with fail
    refine (MY.out _).mono ?_
    rintro e w2 ⟨rfl, rfl⟩
    go_wp2_with fail
    conv in rT => whnf
    go_wp2_with fail
    refine (CUT.out rest (by unfold maxLen; omega) _).mono ?_
    rintro e w5 ⟨a, b, HC, rfl, q5, rfl⟩
    go_wp2_with fail
    refine wp_goto ?_
    refine .inl ⟨rfl, remB a b, ?_, S, .slice (some ⟨ob, 0, none⟩) (L.length + 1) co, L ++ [⟨ik, ir ++ [(d, .slice A d.args.length c)], .slice (some ⟨g, 0, none⟩) (ir.length + 1) c4⟩], d, A, d.args.length, c, a, b, ⟨⟨.pointer (some ⟨ob, L.length * 5, none⟩), ActR.of _ (by kernel_rfl)⟩, HR1.out.drew_ _, HKi2.out, HC.out.end_, rfl⟩, ?_, ?_⟩
    · have := HC.out.rem; have := HNr.out; omega
    · rw [HG2.out, HC.out.words_, stkOf_snoc]
      simp
    · have := HC.out.rem; have := HM2.out; omega
  · have tb : (word.toList == B.toList) = false := str_ne (by rw [HB.out]; exact fun e => hb (by rw [e]; rfl))
    have HP : Hid (ReadPost w0 text TGT (gaveUp 50) w.drew) := by
      refine ⟨HR1.out.below, .inl ⟨?_, rfl⟩⟩
      have := HGo.out
      rwa [if_neg hb] at this
    clear hb HR HR1
    conv in rH => whnf
    refine wp_region_still_tail 19 (by kernel_rfl) (by kernel_rfl) ?_
    simp only [List.take_succ_cons, List.take_zero, List.drop_succ_cons, List.drop_zero]
    still_step
    still_step
    still_step
    still_step
    still_step
    still_step
    still_step
    still_step
    still_step
    still_step
    still_step
    still_step
    still_step
    still_step
    still_step
    still_step
    still_call CB.out
    still_step
    still_step
    refine wpStill_nil ?_
    change wpList _ _ _ _ _ w.drew
    generalize w.drew = W at HP ⊢
    clear CB i0 i4
    go_wp2_with fail
    refine (MN.out _).mono ?_
    rintro e w2 ⟨rfl, rfl⟩
    unfold gaveUp at HP ⊢
    go_wp2_with fail
    exact ⟨rfl, HP.out⟩
end Go.Proofs.YtpmfmkpfjomgnaaGreatDoor

/- Reading begins. An opening. The end of a text. -/
namespace Go.Proofs.YtpmfmkpfjomgnaaGreatDoor
set_option linter.unusedSimpArgs false
set_option linter.unusedVariables false
open Go.RowKit

set_option maxHeartbeats 8000000 in
set_option maxRecDepth 1000000 in
theorem read_first (text : ByteArray) (hs : text.size ≤ 4194304) (w0 : World) (HT : Hid (Tabs w0)) (TGT : Option Dep) (HTGT : Hid (TGT = readM [] none (words text.data.toList)))
    (HH : Hid (∀ n a w, JA w0 text TGT n a w → rA.wp Tryz.prog (jump2 (fun a' w' => ∃ m, JA w0 text TGT m a' w') (fun a' w' => ∃ m, JB w0 text TGT m a' w') (bodyPost Tryz.prog Tryz.f102 (ReadPost w0 text TGT))) a w)) : rdScope.wp Tryz.prog (jump2 (fun a' w' => ∃ m, JA w0 text TGT m a' w') (fun a' w' => ∃ m, JB w0 text TGT m a' w') (bodyPost Tryz.prog Tryz.f102 (ReadPost w0 text TGT))) { tmps := #[.string text, undef, .pointer (some ⟨w0.heap.size, 0, none⟩), undef, undef, undef, undef, undef, undef, undef, undef, undef, undef, undef, undef, undef, undef, undef, undef, undef, undef, undef, undef, undef, undef, undef, undef, undef, undef, undef, undef, undef, undef, undef, undef, undef, undef, undef, undef, undef, undef, undef, undef, undef, undef, undef, undef, undef, undef, undef, undef, undef, undef, undef, undef, undef, undef, undef, undef, undef, undef, undef, undef, undef, undef, undef, undef, undef, undef, undef, undef, undef, undef, undef, undef, undef, undef, undef, undef, undef, undef, undef, undef, undef, undef, undef, undef, undef, undef, undef, undef, undef, undef, undef, undef, undef, undef, undef, undef, undef, undef, undef, undef, undef, undef, undef, undef, undef, undef, undef, undef, undef, undef, undef, undef, undef, undef, undef, undef, undef, undef, undef, undef, undef, undef, undef, undef, undef, undef], defers := [] } (w0.alloc (.cells #[.int .i64 0, .string ⟨#[]⟩, .int .i64 0, .string ⟨#[]⟩, .slice none 0 0] 50)) := by
  have CUT := Lib.hid (fun s h w => cut_any s h w)
  conv in rdScope => whnf
  go_wp2_with fail
  refine (CUT.out text (by unfold maxLen; omega) _).mono ?_
  rintro e w1 ⟨rfl, n, rfl⟩
  go_wp2_with fail
  go_step3
  rename_i K hK
  refine hK _ _ (HH.out _ _ _ ⟨fun _ => False, .slice none 0 0, [], .mk 0 ⟨#[]⟩ 0 ⟨#[]⟩ [], none, 0, 0, mkS (cutW text.data.toList).1, mkS (cutW text.data.toList).2, ⟨⟨undef, ActR.of _ (by kernel_rfl)⟩, ?_, fun it hi => (by cases hi), fun h => ?_, rfl⟩, ?_, ?_⟩)
  · exact (RSt.init w0 HT.out).below_ ⟨rfl, rfl, rfl, Nat.le_refl _, fun _ _ => rfl⟩
  · exact cutW_end h
  · rw [mkS_list, mkS_list, stream_cut]; exact HTGT.out
  · simp only [openM, Nat.zero_add]; exact cut_rem text
end Go.Proofs.YtpmfmkpfjomgnaaGreatDoor
namespace Go.Proofs.YtpmfmkpfjomgnaaGreatDoor
set_option linter.unusedSimpArgs false
set_option linter.unusedVariables false
open Go.RowKit

theorem cut_rem_lt (s : ByteArray) (h : (cutW s.data.toList).1 ≠ []) : remB (mkS (cutW s.data.toList).1) (mkS (cutW s.data.toList).2) ≤ s.size := cut_rem s
set_option maxHeartbeats 8000000 in
set_option maxRecDepth 1000000 in
theorem read_open (text : ByteArray) (hs : text.size ≤ 4194304) (w0 : World) (TGT : Option Dep) (n : Nat) (S : Nat → Prop) (v : Value) (L : List OItem) (d : Dep) (A : Option Addr) (k c : Nat) (word rest : ByteArray) (v7 : Value) (U : Nat → Value) (w : World)
    (HR : Hid (RSt w0 w S v L (rowD d (.slice A k c)))) (HKi : Hid (∀ it ∈ L, it.k = 0 ∨ (2 ≤ it.k ∧ it.k ≤ 6))) (HEm : Hid (word.data.toList = [] → rest.data.toList = [])) (HN : Hid (n = remB word rest))
    (HGo : Hid (TGT = readM (stkOf L) none (stream word.data.toList rest.data.toList))) (HM : Hid (openM L + remB word rest ≤ text.size))
    (h40 : word.data.toList = [40]) : rA.wp Tryz.prog (jump2 (fun a' w' => ∃ m, m < n ∧ JA w0 text TGT m a' w') (fun a' w' => ∃ m, m < n ∧ JB w0 text TGT m a' w') (bodyPost Tryz.prog Tryz.f102 (ReadPost w0 text TGT))) { tmps := #[.string text, U 1, .pointer (some ⟨w0.heap.size, 0, none⟩), v, .pointer (some ⟨w0.heap.size + 1, 0, none⟩), .string word, .string rest, v7, U 8, U 9, U 10, U 11, U 12, U 13, U 14, U 15, U 16, U 17, U 18, U 19, U 20, U 21, U 22, U 23, U 24, U 25, U 26, U 27, U 28, U 29, U 30, U 31, U 32, U 33, U 34, U 35, U 36, U 37, U 38, U 39, U 40, U 41, U 42, U 43, U 44, U 45, U 46, U 47, U 48, U 49, U 50, U 51, U 52, U 53, U 54, U 55, U 56, U 57, U 58, U 59, U 60, U 61, U 62, U 63, U 64, U 65, U 66, U 67, U 68, U 69, U 70, U 71, U 72, U 73, U 74, U 75, U 76, U 77, U 78, U 79, U 80, U 81, U 82, U 83, U 84, U 85, U 86, U 87, U 88, U 89, U 90, U 91, U 92, U 93, U 94, U 95, U 96, U 97, U 98, U 99, U 100, U 101, U 102, U 103, U 104, U 105, U 106, U 107, U 108, U 109, U 110, U 111, U 112, U 113, U 114, U 115, U 116, U 117, U 118, U 119, U 120, U 121, U 122, U 123, U 124, U 125, U 126, U 127, U 128], defers := [] } w := by
  have CUT := Lib.hid (fun s h w => cut_any s h w)
  obtain ⟨A', c', rfl, h1, h2⟩ := own_form' HR.out.own
  have hba : Below w.heap.size w (w.alloc (.cells #[.int .i64 0, .string ⟨#[]⟩, .int .i64 0, .string ⟨#[]⟩, .slice none 0 0] 50)) := (Below.refl _ _).alloc (Nat.le_refl _) _
  have H4 := Lib.hid (HR.out.below_ hba)
  have O4 := Lib.hid H4.out.own
  obtain ⟨i0, z0, hi0, hz0, hz1, hz2, hz3⟩ := info_dep5
  have hi := Lib.hid hi0
  have HZ := Lib.hid (And.intro hz0 (And.intro hz1 (And.intro hz2 hz3)))
  have hws : word.size = 1 := by rw [← size_len, h40]; rfl
  have hM := HM.out
  have hl := len_openM L
  have hrem : remB word rest = 1 + rest.size := by unfold remB; omega
  have hLs : L.length ≤ 4194304 := by omega
  have hrs : rest.size ≤ 4194304 := by omega
  have HB := Lib.hid (show w0.heap.size + 1 + 1 ≤ w.heap.size + 1 by have := HR.out.dblk.lt; omega)
  have hst : stream word.data.toList rest.data.toList = [40] :: words rest.data.toList := by rw [h40]; exact stream_cons _ (by decide)
  have HG2 : Hid (TGT = readM (stkOf (L ++ [⟨0, [], .slice none 0 0⟩])) none (words rest.data.toList)) := by
    have := HGo.out
    rw [hst, readM_open] at this
    rw [stkOf_snoc]; exact this
  have HO : Hid (openM (L ++ [(⟨0, [], .slice none 0 0⟩ : OItem)]) + rest.size ≤ text.size) := by
    have : openM (L ++ [(⟨0, [], .slice none 0 0⟩ : OItem)]) = openM L + (1 + 0) := openM_snoc L _
    show openM (L ++ [(⟨0, [], .slice none 0 0⟩ : OItem)]) + rest.size ≤ text.size
    omega
  have HNr : Hid (rest.size < n) := by have := HN.out; show rest.size < n; omega
  have t1 : (word.toList == [40]) = true := by have := str_yes (str_is h40); simpa using this
  clear h1 h2 hba hi0 hz0 hz1 hz2 hz3 hM hl hrem hst hws
  conv in rA => whnf
  go_wp2_with (at_builtin; refine wpList_append_own_at _ rfl (.tmp 15) (.tmp 17) 41 rfl (w0.heap.size + 1 + 1) 50 i0 z0 5 72 Tryz.underlying41 hi.out HZ.out.1 HZ.out.2.2.1 HZ.out.2.2.2 HZ.out.2.1 (by decide) (.slice A' L.length c') L.length (cells5 (L.map itemRow)) rfl O4.out ⟨w.heap.size, 0, none⟩ 1 1 [.int .i64 0, .string ⟨#[]⟩, .int .i64 0, .string ⟨#[]⟩, .slice none 0 0] rfl rfl (cells_new _ _ _) (fun u hu => by simp at hu; rcases hu with rfl | rfl | rfl | rfl | rfl <;> rfl) (by unfold maxLen; omega) (by omega) (by rw [World.size_alloc]; exact HB.out) ?_; intro v4 w4 hown4 hg4 hnil4 hat4; have H5 := Lib.hid (H4.out.push hown4 hg4 hat4); clear hown4 hg4 hnil4 hat4)
  refine (CUT.out rest (by unfold maxLen; omega) _).mono ?_
  rintro e w5 ⟨rfl, q, rfl⟩
  go_wp2_with fail
  refine wp_goto ?_

  refine .inl ⟨rfl, _, ?_, S, v4, L ++ [⟨0, [], .slice none 0 0⟩], d, A, k, c, mkS (cutW rest.data.toList).1, mkS (cutW rest.data.toList).2, ⟨⟨v7, ActR.of _ (by kernel_rfl)⟩, ?_, ?_, fun h => ?_, rfl⟩, ?_, ?_⟩
  · have := cut_rem rest; have := HNr.out; omega
  · exact H5.out.drew_ _
  · intro it hi'
    rcases List.mem_append.1 hi' with hi' | hi'
    · exact HKi.out it hi'
    · simp at hi'; subst hi'; exact .inl rfl
  · exact cutW_end h
  · rw [mkS_list, mkS_list, stream_cut]; exact HG2.out
  · have := cut_rem rest; have := HO.out; omega
end Go.Proofs.YtpmfmkpfjomgnaaGreatDoor
namespace Go.Proofs.YtpmfmkpfjomgnaaGreatDoor
set_option linter.unusedSimpArgs false
set_option linter.unusedVariables false
open Go.RowKit

theorem results_one {fn : Func} {t : Tmp} {e : TypeId} (h : fn.results = #[.cell t e]) (tmps : Array Value) {P : Program} {w : World} {ad : Addr} (hp : tmps[t]?.getD undef = .pointer (some ad)) :
    (results fn tmps).run P w = (loadVar e ad).run P w := by
  simp [results, h, hp, asAddr]
set_option maxHeartbeats 2000000 in
set_option maxRecDepth 1000000 in
theorem read_done (text : ByteArray) (hs : text.size ≤ 4194304) (w0 : World) (TGT : Option Dep) (n : Nat) (S : Nat → Prop) (A' : Option Addr) (c' : Nat) (d : Dep) (A : Option Addr) (c : Nat) (word rest : ByteArray) (v7 : Value) (U : Nat → Value) (w : World)
    (HR : Hid (RSt w0 w S (.slice A' 0 c') [] (rowD d (.slice A d.args.length c)))) (HEm : Hid (word.data.toList = [] → rest.data.toList = []))
    (HL : Hid (Lay w S d (.slice A d.args.length c))) (HGo : Hid (TGT = readM [] (some d) (stream word.data.toList rest.data.toList))) (HM : Hid (nodes d + remB word rest ≤ text.size)) : rB.wp Tryz.prog (jump2 (fun a' w' => ∃ m, m < n ∧ JA w0 text TGT m a' w') (fun a' w' => ∃ m, m < n ∧ JB w0 text TGT m a' w') (bodyPost Tryz.prog Tryz.f102 (ReadPost w0 text TGT))) { tmps := #[.string text, U 1, .pointer (some ⟨w0.heap.size, 0, none⟩), .slice A' 0 c', .pointer (some ⟨w0.heap.size + 1, 0, none⟩), .string word, .string rest, v7, U 8, U 9, U 10, U 11, U 12, U 13, U 14, U 15, U 16, U 17, U 18, U 19, U 20, U 21, U 22, U 23, U 24, U 25, U 26, U 27, U 28, U 29, U 30, U 31, U 32, U 33, U 34, U 35, U 36, U 37, U 38, U 39, U 40, U 41, U 42, U 43, U 44, U 45, U 46, U 47, U 48, U 49, U 50, U 51, U 52, U 53, U 54, U 55, U 56, U 57, U 58, U 59, U 60, U 61, U 62, U 63, U 64, U 65, U 66, U 67, U 68, U 69, U 70, U 71, U 72, U 73, U 74, U 75, U 76, U 77, U 78, U 79, U 80, U 81, U 82, U 83, U 84, U 85, U 86, U 87, U 88, U 89, U 90, U 91, U 92, U 93, U 94, U 95, U 96, U 97, U 98, U 99, U 100, U 101, U 102, U 103, U 104, U 105, U 106, U 107, U 108, U 109, U 110, U 111, U 112, U 113, U 114, U 115, U 116, U 117, U 118, U 119, U 120, U 121, U 122, U 123, U 124, U 125, U 126, U 127, U 128], defers := [] } w := by
  have MY := Lib.hid must_yes
  have MN := Lib.hid must_no
  have d0 := HR.out.dblk.cell 0
  have d1 := HR.out.dblk.cell 1
  have d2 := HR.out.dblk.cell 2
  have d3 := HR.out.dblk.cell 3
  have d4 := HR.out.dblk.cell 4
  have r0 := HR.out.res.cell 0
  have r1 := HR.out.res.cell 1
  have r2 := HR.out.res.cell 2
  have r3 := HR.out.res.cell 3
  have r4 := HR.out.res.cell 4
  have f0 := HR.out.res.free 0
  have f1 := HR.out.res.free 1
  have f2 := HR.out.res.free 2
  have f3 := HR.out.res.free 3
  have f4 := HR.out.res.free 4
  unfold rowD at d0 d1 d2 d3 d4
  simp at d0 d1 d2 d3 d4 r0 r1 r2 r3 r4
  by_cases hw : word.data.toList = []
  · have tw : (word.toList == []) = true := by have := str_yes (str_is hw); simpa using this
    have HP : Hid (∀ w', w' = ((((w.setCell ⟨w0.heap.size, 0, none⟩ (.int .i64 d.kind)).setCell ⟨w0.heap.size, 1, none⟩ (.string d.name)).setCell ⟨w0.heap.size, 2, none⟩ (.int .i64 d.op)).setCell ⟨w0.heap.size, 3, none⟩ (.string d.evr)).setCell ⟨w0.heap.size, 4, none⟩ (.slice A d.args.length c) → ReadPost w0 text TGT (.returned (.agg (rowD d (.slice A d.args.length c)))) w') := by
      rintro w' rfl
      have hT : Turned [w0.heap.size] w (((((w.setCell ⟨w0.heap.size, 0, none⟩ (.int .i64 d.kind)).setCell ⟨w0.heap.size, 1, none⟩ (.string d.name)).setCell ⟨w0.heap.size, 2, none⟩ (.int .i64 d.op)).setCell ⟨w0.heap.size, 3, none⟩ (.string d.evr)).setCell ⟨w0.heap.size, 4, none⟩ (.slice A d.args.length c)) := (((((Turned.refl _ _).setCell (.inl (by simp)) _).setCell (.inl (by simp)) _).setCell (.inl (by simp)) _).setCell (.inl (by simp)) _).setCell (.inl (by simp)) _
      have hst : StayS S w (((((w.setCell ⟨w0.heap.size, 0, none⟩ (.int .i64 d.kind)).setCell ⟨w0.heap.size, 1, none⟩ (.string d.name)).setCell ⟨w0.heap.size, 2, none⟩ (.int .i64 d.op)).setCell ⟨w0.heap.size, 3, none⟩ (.string d.evr)).setCell ⟨w0.heap.size, 4, none⟩ (.slice A d.args.length c)) := StayS.turned hT fun b hb hg => by have := HR.out.base b hb; simp at hg; omega
      refine ⟨HR.out.below.trans (hT.below (fun k hk => by simp at hk; omega) HR.out.below.size), .inr ⟨d, .slice A d.args.length c, S, ?_, rfl, HL.out.stay (fun _ h => h) hst, HR.out.clean.stay hst, fun b hb => by have := HR.out.base b hb; omega, by have := HM.out; omega⟩⟩
      rw [HGo.out, hw, stream_nil, readM_done, if_pos rfl]
    clear hw
    conv in rB => whnf
    go_wp2_with fail
    refine (MY.out _).mono ?_
    rintro e w2 ⟨rfl, rfl⟩
    have BW : Blk (((((w.setCell ⟨w0.heap.size, 0, none⟩ (.int .i64 d.kind)).setCell ⟨w0.heap.size, 1, none⟩ (.string d.name)).setCell ⟨w0.heap.size, 2, none⟩ (.int .i64 d.op)).setCell ⟨w0.heap.size, 3, none⟩ (.string d.evr)).setCell ⟨w0.heap.size, 4, none⟩ (.slice A d.args.length c)) w0.heap.size 50 (rowD d (.slice A d.args.length c)) := ((((HR.out.res.set_ 0 (.int .i64 d.kind)).set_ 1 (.string d.name)).set_ 2 (.int .i64 d.op)).set_ 3 (.string d.evr)).set_ 4 (.slice A d.args.length c)
    have HBW := Lib.hid BW
    clear BW
    go_wp2_with fail
    refine bodyPost_ret (v := .agg (rowD d (.slice A d.args.length c))) ?_ rfl (HP.out _ rfl)
    have b0 := HBW.out.cell 0
    have b1 := HBW.out.cell 1
    have b2 := HBW.out.cell 2
    have b3 := HBW.out.cell 3
    have b4 := HBW.out.cell 4
    clear HP HBW d0 d1 d2 d3 d4 r0 r1 r2 r3 r4 f0 f1 f2 f3 f4 tw
    generalize World.setCell _ ⟨w0.heap.size, 4, none⟩ _ = W at b0 b1 b2 b3 b4 ⊢
    unfold rowD at b0 b1 b2 b3 b4 ⊢
    simp at b0 b1 b2 b3 b4
    refine (results_one rfl _ (ad := ⟨w0.heap.size, 0, none⟩) rfl).trans ?_
    go_simp
  · have tw : (word.toList == []) = false := by have := str_isnt hw; simpa using this
    have HP : Hid (ReadPost w0 text TGT (gaveUp 50) w) := by
      refine ⟨HR.out.below, .inl ⟨?_, rfl⟩⟩
      rw [HGo.out, stream_cons _ hw, readM_done, if_neg (by simp)]
    clear hw
    conv in rB => whnf
    go_wp2_with fail
    refine (MN.out _).mono ?_
    rintro e w2 ⟨rfl, rfl⟩
    unfold gaveUp at HP ⊢
    go_wp2_with fail
    exact ⟨rfl, HP.out⟩
end Go.Proofs.YtpmfmkpfjomgnaaGreatDoor

/- A name. -/
namespace Go.Proofs.YtpmfmkpfjomgnaaGreatDoor
set_option linter.unusedSimpArgs false
set_option linter.unusedVariables false
open Go.RowKit

set_option maxHeartbeats 8000000 in
set_option maxRecDepth 1000000 in
theorem read_name (text : ByteArray) (hs : text.size ≤ 4194304) (w0 : World) (TGT : Option Dep) (n : Nat) (S : Nat → Prop) (v : Value) (L : List OItem) (d : Dep) (A : Option Addr) (k c : Nat) (word rest : ByteArray) (v7 : Value) (U : Nat → Value) (w : World)
    (HR : Hid (RSt w0 w S v L (rowD d (.slice A k c)))) (HKi : Hid (∀ it ∈ L, it.k = 0 ∨ (2 ≤ it.k ∧ it.k ≤ 6))) (HEm : Hid (word.data.toList = [] → rest.data.toList = [])) (HN : Hid (n = remB word rest))
    (HGo : Hid (TGT = readM (stkOf L) none (stream word.data.toList rest.data.toList))) (HM : Hid (openM L + remB word rest ≤ text.size))
    (HBeh : Hid (∀ m a w, m ≤ n → JB w0 text TGT m a w → rB.wp Tryz.prog (jump2 (fun a' w' => ∃ m, m < n ∧ JA w0 text TGT m a' w') (fun a' w' => ∃ m, m < n ∧ JB w0 text TGT m a' w') (bodyPost Tryz.prog Tryz.f102 (ReadPost w0 text TGT))) a w)) (h40 : word.data.toList ≠ [40]) : rA.wp Tryz.prog (jump2 (fun a' w' => ∃ m, m < n ∧ JA w0 text TGT m a' w') (fun a' w' => ∃ m, m < n ∧ JB w0 text TGT m a' w') (bodyPost Tryz.prog Tryz.f102 (ReadPost w0 text TGT))) { tmps := #[.string text, U 1, .pointer (some ⟨w0.heap.size, 0, none⟩), v, .pointer (some ⟨w0.heap.size + 1, 0, none⟩), .string word, .string rest, v7, U 8, U 9, U 10, U 11, U 12, U 13, U 14, U 15, U 16, U 17, U 18, U 19, U 20, U 21, U 22, U 23, U 24, U 25, U 26, U 27, U 28, U 29, U 30, U 31, U 32, U 33, U 34, U 35, U 36, U 37, U 38, U 39, U 40, U 41, U 42, U 43, U 44, U 45, U 46, U 47, U 48, U 49, U 50, U 51, U 52, U 53, U 54, U 55, U 56, U 57, U 58, U 59, U 60, U 61, U 62, U 63, U 64, U 65, U 66, U 67, U 68, U 69, U 70, U 71, U 72, U 73, U 74, U 75, U 76, U 77, U 78, U 79, U 80, U 81, U 82, U 83, U 84, U 85, U 86, U 87, U 88, U 89, U 90, U 91, U 92, U 93, U 94, U 95, U 96, U 97, U 98, U 99, U 100, U 101, U 102, U 103, U 104, U 105, U 106, U 107, U 108, U 109, U 110, U 111, U 112, U 113, U 114, U 115, U 116, U 117, U 118, U 119, U 120, U 121, U 122, U 123, U 124, U 125, U 126, U 127, U 128], defers := [] } w := by
  have CUT := Lib.hid (fun s h w => cutH s h w)
  have CL := Lib.hid (fun s h w => clone_all s h w)
  have NS := Lib.hid (fun s w => numSH s w)
  have NAME := Lib.hid (name_any word w HR.out.tabs)
  have MY := Lib.hid must_yes
  have MN := Lib.hid must_no
  have t1 : (word.toList == [40]) = false := by have := str_isnt h40; simpa using this
  have hM := HM.out
  have hrs : rest.size ≤ 4194304 := by unfold remB at hM; omega
  have hws : word.size ≤ 4194304 := by unfold remB at hM; omega
  clear hM
  conv in rA => whnf
  go_wp2_with fail
  refine NAME.out.mono ?_
  rintro e w1 ⟨rfl, hb1⟩
  have H1 := Lib.hid (HR.out.below_ hb1)
  clear hb1 NAME
  cases hn : nameB word.data.toList with
  | false =>
    have HP : Hid (ReadPost w0 text TGT (gaveUp 50) w1) := by
      refine ⟨H1.out.below, .inl ⟨?_, rfl⟩⟩
      rw [HGo.out]
      by_cases hw : word.data.toList = []
      · rw [hw, stream_nil, readM_none_nil]
      · rw [stream_cons _ hw, readM_bad _ _ h40 hn]
    clear hn
    go_wp2_with fail
    refine (MN.out _).mono ?_
    rintro e w2 ⟨rfl, rfl⟩
    unfold gaveUp at HP ⊢
    go_wp2_with fail
    exact ⟨rfl, HP.out⟩
  | true =>
    have HNB := Lib.hid hn
    clear hn
    go_wp2_with fail
    refine (MY.out _).mono ?_
    rintro e w2 ⟨rfl, rfl⟩
    go_wp2_with fail
    refine (CL.out word (by omega) _).mono ?_
    rintro e w3 ⟨rfl, hb3⟩
    have H3 := Lib.hid (H1.out.below_ hb3)
    clear hb3 H1
    have k0 := H3.out.dblk.cell 0
    have k1 := H3.out.dblk.cell 1
    have k2 := H3.out.dblk.cell 2
    have k3 := H3.out.dblk.cell 3
    have k4 := H3.out.dblk.cell 4
    have f0 := H3.out.dblk.free 0
    have f1 := H3.out.dblk.free 1
    have f2 := H3.out.dblk.free 2
    have f3 := H3.out.dblk.free 3
    have f4 := H3.out.dblk.free 4
    have H4 := Lib.hid (((((H3.out.setD 0 (.int .i64 1)).setD 1 (.string word)).setD 2 (.int .i64 0)).setD 3 (.string ⟨#[]⟩)).setD 4 (.slice none 0 0))
    clear H3
    unfold rowD at k0 k1 k2 k3 k4
    simp at k0 k1 k2 k3 k4
    go_wp2_with fail
    refine (CUT.out rest (by unfold maxLen; omega) _).mono ?_
    rintro e w5 ⟨a, b, HC, rfl, q5, rfl⟩
    have H5' := Lib.hid (H4.out.drew_ q5)
    generalize World.drewN _ q5 = W at H5' ⊢
    have H5 : Hid (RSt w0 W S v L #[.int .i64 1, .string word, .int .i64 0, .string ⟨#[]⟩, .slice none 0 0]) := by have := H5'.out; rw [row_all] at this; exact this
    clear H5' H4 k0 k1 k2 k3 k4 f0 f1 f2 f3 f4
    have s0 := H5.out.tabs.signs.cell 0
    have s1 := H5.out.tabs.signs.cell 1
    have s2 := H5.out.tabs.signs.cell 2
    have s3 := H5.out.tabs.signs.cell 3
    have s4 := H5.out.tabs.signs.cell 4
    have s5 := H5.out.tabs.signs.cell 5
    have s6 := H5.out.tabs.signs.cell 6
    have s7 := H5.out.tabs.signs.cell 7
    simp at s0 s1 s2 s3 s4 s5 s6 s7
    go_wp2_with fail
    refine (NS.out a _).mono ?_
    rintro e w6 ⟨o, HO, rfl, hb6⟩
    have H6 := Lib.hid (H5.out.below_ hb6)
    clear hb6 H5 s0 s1 s2 s3 s4 s5 s6 s7 NS
    have k2 := H6.out.dblk.cell 2
    have f2 := H6.out.dblk.free 2
    have H7 : Hid (RSt w0 (w6.setCell ⟨w0.heap.size + 1, 2, none⟩ (.int .i64 o)) S v L #[.int .i64 1, .string word, .int .i64 o, .string ⟨#[]⟩, .slice none 0 0]) := by have := H6.out.setD 2 (.int .i64 o); rw [row_two] at this; exact this
    have hr1 := HC.out.rem
    have hac : Hid (a.size ≤ 4194304 ∧ b.size ≤ 4194304) := by unfold remB at hr1; exact ⟨by omega, by omega⟩
    clear H6 hr1
    simp at k2
    by_cases hz : o = 0
    · subst hz
      go_wp2_with fail
      go_step3
      rename_i K hK
      refine hK _ _ (HBeh.out (remB a b) _ _ ?_ ⟨S, v, L, .mk 1 word 0 ⟨#[]⟩ [], none, 0, a, b, ⟨⟨v7, ActR.of _ (by kernel_rfl)⟩, H7.out, HKi.out, HC.out.end_, rfl⟩, Lay.none_ _ _ _ _ _ _, ?_, ?_⟩)
      · have := HC.out.rem; have := HN.out; unfold remB at *; omega
      · have hw : word.data.toList ≠ [] := (name_ne HNB.out).1
        rw [HGo.out, stream_cons _ hw, readM_name _ _ HNB.out (by rw [HC.out.words_, stream_head]; exact HO.out.symm), HC.out.words_]
        rfl
      · have h1 := HC.out.rem
        have h2 := HM.out
        have hw : word.data.toList ≠ [] := (name_ne HNB.out).1
        have h3 : 1 ≤ word.size := by rw [← size_len]; exact List.length_pos_iff.2 hw
        show openM L + (1 + 0) + remB a b ≤ text.size
        unfold remB at *
        omega
    · have tz : (o == 0) = false := beq_eq_false_iff_ne.2 hz
      go_wp2_with fail
      refine (CUT.out b (by have := hac.out; unfold maxLen; omega) _).mono ?_
      rintro e w8 ⟨a2, b2, HC2, rfl, q8, rfl⟩
      have H8' := Lib.hid (H7.out.drew_ q8)
      generalize World.drewN _ q8 = W8 at H8' ⊢
      have H8 : Hid (RSt w0 W8 S v L #[.int .i64 1, .string word, .int .i64 o, .string ⟨#[]⟩, .slice none 0 0]) := H8'
      clear H8' H7 k2 f2
      have hr2 := HC2.out.rem
      have hac2 : Hid (a2.size ≤ 4194304 ∧ b2.size ≤ 4194304) := by have := hac.out; unfold remB at hr2; exact ⟨by omega, by omega⟩
      clear hr2
      go_wp2_with fail
      refine (CL.out a2 (by have := hac2.out; omega) _).mono ?_
      rintro e w9 ⟨rfl, hb9⟩
      have H9 := Lib.hid (H8.out.below_ hb9)
      clear hb9 H8
      have k3 := H9.out.dblk.cell 3
      have f3 := H9.out.dblk.free 3
      have H10 : Hid (RSt w0 (w9.setCell ⟨w0.heap.size + 1, 3, none⟩ (.string a2)) S v L #[.int .i64 1, .string word, .int .i64 o, .string a2, .slice none 0 0]) := by have := H9.out.setD 3 (.string a2); rw [row_three] at this; exact this
      clear H9
      simp at k3
      go_wp2_with fail
      refine (CUT.out b2 (by have := hac2.out; unfold maxLen; omega) _).mono ?_
      rintro e w11 ⟨a3, b3, HC3, rfl, q11, rfl⟩
      have H11' := Lib.hid (H10.out.drew_ q11)
      generalize World.drewN _ q11 = W11 at H11' ⊢
      have H11 : Hid (RSt w0 W11 S v L #[.int .i64 1, .string word, .int .i64 o, .string a2, .slice none 0 0]) := H11'
      clear H11' H10 k3 f3
      go_wp2_with fail
      go_step3
      rename_i K hK
      refine hK _ _ (HBeh.out (remB a3 b3) _ _ ?_ ⟨S, v, L, .mk 1 word o a2 [], none, 0, a3, b3, ⟨⟨v7, ActR.of _ (by kernel_rfl)⟩, H11.out, HKi.out, HC3.out.end_, rfl⟩, Lay.none_ _ _ _ _ _ _, ?_, ?_⟩)
      · have := HC.out.rem; have := HC2.out.rem; have := HC3.out.rem; have := HN.out; unfold remB at *; omega
      · have hw : word.data.toList ≠ [] := (name_ne HNB.out).1
        have ho := HO.out
        have ha : a.data.toList ≠ [] := fun e => hz (by rw [ho, e]; rfl)
        have hn2 : numS a.data.toList ≠ 0 := fun e => hz (by rw [ho, e])
        rw [HGo.out, stream_cons _ hw, HC.out.words_, stream_cons _ ha, readM_sign _ _ HNB.out hn2, HC2.out.words_, stream_head, stream_tail HC2.out.end_, HC3.out.words_, ← ho]
        rfl
      · have h1 := HC.out.rem
        have h12 := HC2.out.rem
        have h13 := HC3.out.rem
        have h2 := HM.out
        have hw : word.data.toList ≠ [] := (name_ne HNB.out).1
        have h3 : 1 ≤ word.size := by rw [← size_len]; exact List.length_pos_iff.2 hw
        show openM L + (1 + 0) + remB a3 b3 ≤ text.size
        unfold remB at *
        omega
end Go.Proofs.YtpmfmkpfjomgnaaGreatDoor
