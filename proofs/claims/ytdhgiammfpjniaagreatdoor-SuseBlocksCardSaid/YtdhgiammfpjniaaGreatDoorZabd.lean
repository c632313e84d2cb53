/- A text is read word by word: read. -/
import Derived.Test.YtdhgiammfpjniaaGreatDoorZabc
/- A text is read word by word: read. -/
namespace Go.Proofs.YtdhgiammfpjniaaGreatDoor.Ev
set_option linter.unusedSimpArgs false
set_option linter.unusedVariables false
open Go.RowKit

/-- The frame at a label. -/
def litF (text : ByteArray) (gr gd : Nat) (v3 : Value) (word rest : ByteArray) (v7 : Value) (U : Nat → Value) : List Value := [.string text, U 1, .pointer (some ⟨gr, 0, none⟩), v3, .pointer (some ⟨gd, 0, none⟩), .string word, .string rest, v7, U 8, U 9, U 10, U 11, U 12, U 13, U 14, U 15, U 16, U 17, U 18, U 19, U 20, U 21, U 22, U 23, U 24, U 25, U 26, U 27, U 28, U 29, U 30, U 31, U 32, U 33, U 34, U 35, U 36, U 37, U 38, U 39, U 40, U 41, U 42, U 43, U 44, U 45, U 46, U 47, U 48, U 49, U 50, U 51, U 52, U 53, U 54, U 55, U 56, U 57, U 58, U 59, U 60, U 61, U 62, U 63, U 64, U 65, U 66, U 67, U 68, U 69, U 70, U 71, U 72, U 73, U 74, U 75, U 76, U 77, U 78, U 79, U 80, U 81, U 82, U 83, U 84, U 85, U 86, U 87, U 88, U 89, U 90, U 91, U 92, U 93, U 94, U 95, U 96, U 97, U 98, U 99, U 100, U 101, U 102, U 103, U 104, U 105, U 106, U 107, U 108, U 109, U 110, U 111, U 112, U 113, U 114, U 115, U 116, U 117, U 118, U 119, U 120, U 121, U 122, U 123, U 124, U 125, U 126, U 127, U 128]
def ActR (text : ByteArray) (gr gd : Nat) (v3 : Value) (word rest : ByteArray) (v7 : Value) (a : Act) : Prop :=
  ∃ U : Nat → Value, a = { tmps := #[.string text, U 1, .pointer (some ⟨gr, 0, none⟩), v3, .pointer (some ⟨gd, 0, none⟩), .string word, .string rest, v7, U 8, U 9, U 10, U 11, U 12, U 13, U 14, U 15, U 16, U 17, U 18, U 19, U 20, U 21, U 22, U 23, U 24, U 25, U 26, U 27, U 28, U 29, U 30, U 31, U 32, U 33, U 34, U 35, U 36, U 37, U 38, U 39, U 40, U 41, U 42, U 43, U 44, U 45, U 46, U 47, U 48, U 49, U 50, U 51, U 52, U 53, U 54, U 55, U 56, U 57, U 58, U 59, U 60, U 61, U 62, U 63, U 64, U 65, U 66, U 67, U 68, U 69, U 70, U 71, U 72, U 73, U 74, U 75, U 76, U 77, U 78, U 79, U 80, U 81, U 82, U 83, U 84, U 85, U 86, U 87, U 88, U 89, U 90, U 91, U 92, U 93, U 94, U 95, U 96, U 97, U 98, U 99, U 100, U 101, U 102, U 103, U 104, U 105, U 106, U 107, U 108, U 109, U 110, U 111, U 112, U 113, U 114, U 115, U 116, U 117, U 118, U 119, U 120, U 121, U 122, U 123, U 124, U 125, U 126, U 127, U 128], defers := [] }
theorem ActR.of {text : ByteArray} {gr gd : Nat} {v3 : Value} {word rest : ByteArray} {v7 : Value} (l : List Value) (h : l = litF text gr gd v3 word rest v7 (fun i => l.getD i .nilIface)) : ActR text gr gd v3 word rest v7 { tmps := l.toArray, defers := [] } := by
  refine ⟨fun i => l.getD i .nilIface, ?_⟩
  show ({ tmps := l.toArray, defers := [] } : Act) = { tmps := (litF text gr gd v3 word rest v7 (fun i => l.getD i .nilIface)).toArray, defers := [] }
  rw [← h]
def scopeOf : Code → Code
  | .scope c => c
  | .seq _ b => scopeOf b
  | .block _ b => scopeOf b
  | c => c
def afterSkip : Option Code → Code
  | some (.seq _ r) => r
  | _ => .skip
noncomputable def rdScope : Code := match Tryz.prog.funcs[186]? with | some g => (match g.body with | some c => scopeOf c | none => .skip) | none => .skip
noncomputable def rA : Code := afterSkip (findLabel rdScope 0)
noncomputable def rB : Code := afterSkip (findLabel rdScope 1)
def from19 : Code → Code
  | .seq (.region k _ _) b => if k = 19 then b else from19 b
  | .seq _ b => from19 b
  | c => c
noncomputable def rC : Code := from19 rB
def from26 : Code → Code
  | .seq (.region k d e) b => if k = 26 then .seq (.region k d e) b else from26 b
  | .seq _ b => from26 b
  | c => c
noncomputable def rD : Code := from26 rC
def headOf : Code → Code
  | .seq a _ => a
  | c => c
def tailOf : Code → Code
  | .seq _ b => b
  | c => c
noncomputable def rH : Code := headOf rD
noncomputable def rT : Code := tailOf rD
theorem hrA : findLabel rdScope 0 = some (Code.skip.seq rA) := by kernel_rfl
theorem hrB : findLabel rdScope 1 = some (Code.skip.seq rB) := by kernel_rfl
/-- What is left of a text. -/
def remB (word rest : ByteArray) : Nat := word.size + rest.size
structure JBase (w0 : World) (text : ByteArray) (S : Nat → Prop) (v : Value) (L : List OItem) (drow : Array Value) (word rest : ByteArray) (n : Nat) (a : Act) (w : World) : Prop where
  act : ∃ v7, ActR text w0.heap.size (w0.heap.size + 1) v word rest v7 a
  st : RSt w0 w S v L drow
  kinds : ∀ it ∈ L, it.k = 0 ∨ (2 ≤ it.k ∧ it.k ≤ 6)
  empty : word.data.toList = [] → rest.data.toList = []
  rem : n = remB word rest
def JA (w0 : World) (text : ByteArray) (TGT : Option Dep) (n : Nat) (a : Act) (w : World) : Prop :=
  ∃ S v L d A k c word rest, JBase w0 text S v L (rowD d (.slice A k c)) word rest n a w ∧ TGT = readM (stkOf L) none (stream word.data.toList rest.data.toList) ∧ openM L + remB word rest ≤ text.size
def JB (w0 : World) (text : ByteArray) (TGT : Option Dep) (n : Nat) (a : Act) (w : World) : Prop :=
  ∃ S v L d A c word rest, JBase w0 text S v L (rowD d (.slice A d.args.length c)) word rest n a w ∧ Lay w S d (.slice A d.args.length c) ∧ TGT = readM (stkOf L) (some d) (stream word.data.toList rest.data.toList) ∧ openM L + nodes d + remB word rest ≤ text.size
/-- What reading comes to. -/
def ReadPost (w0 : World) (text : ByteArray) (TGT : Option Dep) (e : Ending) (w : World) : Prop :=
  Below w0.heap.size w0 w ∧ ((TGT = none ∧ e = gaveUp 50) ∨ ∃ d t S, TGT = some d ∧ e = .returned (.agg (rowD d t)) ∧ Lay w S d t ∧ CleanS w S ∧ (∀ b, S b → w0.heap.size ≤ b) ∧ nodes d ≤ text.size)
theorem wp_scope_two' {P : Program} {a : Act} {w : World} {Q : Exit → Act → World → Prop} {c restA restB : Code} (hA : findLabel c 0 = some (Code.skip.seq restA)) (hB : findLabel c 1 = some (Code.skip.seq restB)) (JA JB : Nat → Act → World → Prop)
    (behind : ∀ n a w, JB n a w → restB.wp P (jump2 (fun a' w' => ∃ m, m < n ∧ JA m a' w') (fun a' w' => ∃ m, m < n ∧ JB m a' w') Q) a w)
    (ahead : (∀ n m a w, m ≤ n → JB m a w → restB.wp P (jump2 (fun a' w' => ∃ m, m < n ∧ JA m a' w') (fun a' w' => ∃ m, m < n ∧ JB m a' w') Q) a w) →
      ∀ n a w, JA n a w → restA.wp P (jump2 (fun a' w' => ∃ m, m < n ∧ JA m a' w') (fun a' w' => ∃ m, m < n ∧ JB m a' w') Q) a w)
    (first : (∀ n a w, JA n a w → restA.wp P (jump2 (fun a' w' => ∃ m, JA m a' w') (fun a' w' => ∃ m, JB m a' w') Q) a w) → c.wp P (jump2 (fun a' w' => ∃ m, JA m a' w') (fun a' w' => ∃ m, JB m a' w') Q) a w) : (Code.scope c).wp P Q a w := by
  have hb2 : ∀ n m a w, m ≤ n → JB m a w → restB.wp P (jump2 (fun a' w' => ∃ m, m < n ∧ JA m a' w') (fun a' w' => ∃ m, m < n ∧ JB m a' w') Q) a w := fun n m a w hm h =>
    Code.wp_mono (fun e a' w' he => by
      cases e <;> first
      | exact he
      | (rcases he with ⟨h1, k, hk, h2⟩ | ⟨h1, k, hk, h2⟩
         · exact .inl ⟨h1, k, by omega, h2⟩
         · exact .inr ⟨h1, k, by omega, h2⟩)) (behind m a w h)
  have ha2 := ahead hb2
  refine wp_scope_two hA hB JA JB (fun n a w h => wp_seq (wp_skip (ha2 n a w h))) (fun n a w h => wp_seq (wp_skip (behind n a w h))) (first fun n a w h => Code.wp_mono (fun e a' w' he => by
      cases e <;> first
      | exact he
      | (rcases he with ⟨h1, k, hk, h2⟩ | ⟨h1, k, hk, h2⟩
         · exact .inl ⟨h1, k, h2⟩
         · exact .inr ⟨h1, k, h2⟩)) (ha2 n a w h))
theorem mkS_list (l : List UInt8) : (mkS l).data.toList = l := rfl
theorem RSt.init (w0 : World) (hT : Tabs w0) : RSt w0 ((w0.alloc (.cells #[.int .i64 0, .string ⟨#[]⟩, .int .i64 0, .string ⟨#[]⟩, .slice none 0 0] 39)).alloc (.cells #[.int .i64 0, .string ⟨#[]⟩, .int .i64 0, .string ⟨#[]⟩, .slice none 0 0] 39)) (fun _ => False) (.slice none 0 0) []
    #[.int .i64 0, .string ⟨#[]⟩, .int .i64 0, .string ⟨#[]⟩, .slice none 0 0] := by
  have hb : Below w0.heap.size w0 ((w0.alloc (.cells #[.int .i64 0, .string ⟨#[]⟩, .int .i64 0, .string ⟨#[]⟩, .slice none 0 0] 39)).alloc (.cells #[.int .i64 0, .string ⟨#[]⟩, .int .i64 0, .string ⟨#[]⟩, .slice none 0 0] 39)) := ((Below.refl _ _).alloc (Nat.le_refl _) _).alloc (by simp) _
  exact ⟨⟨rfl, .inl ⟨rfl, rfl⟩⟩, fun it hi => (by cases hi), by simp [muts, Value.ownBlock], fun k hk => by simp [muts, Value.ownBlock] at hk, fun b hb => hb.elim, fun b hb => hb.elim, (Blk.new _ _ _).alloc _, Blk.new' (w := w0.alloc (.cells #[.int .i64 0, .string ⟨#[]⟩, .int .i64 0, .string ⟨#[]⟩, .slice none 0 0] 39)) (by simp), hb, hT.below hb hT.two, hT.two⟩
theorem cutW_size (l : Wd) : (cutW l).1.length + (cutW l).2.length ≤ l.length := by
  have := skipB_le l
  unfold cutW
  simp only [List.length_take, List.length_drop]
  omega
theorem cut_rem (s : ByteArray) : remB (mkS (cutW s.data.toList).1) (mkS (cutW s.data.toList).2) ≤ s.size := by
  have := cutW_size s.data.toList
  unfold remB
  rw [mkS_size, mkS_size, ← size_len s]
  exact this
theorem clone_all (s : ByteArray) (hs : s.size ≤ 2147483648) (w : World) : Calls Tryz.prog 48 #[.string s] w fun e w' => e = .returned (.string s) ∧ Below w.heap.size w w' := by
  have C := Lib.hid (fun w => Tryz.stringslite_Clone s w (by omega))
  go_enter Tryz.func48, Tryz.ntmps48
  go_wp2_with fail
  refine (C.out _).mono ?_
  rintro e w1 ⟨rfl, hb1⟩
  go_wp2_with fail
  go_ret
  exact ⟨rfl, hb1⟩
theorem stream_head (w r : Wd) : (stream w r).headD [] = w := by
  unfold stream
  split
  · rename_i h; rw [h]; rfl
  · rfl
theorem stream_tail {w r : Wd} (h : w = [] → r = []) : (stream w r).tail = words r := by
  unfold stream
  split
  · rename_i h'; rw [h h', words_nil]; rfl
  · rfl
/-- A cut, in two words. -/
def Cuts (s a b : ByteArray) : Prop := a = mkS (cutW s.data.toList).1 ∧ b = mkS (cutW s.data.toList).2
theorem cutH (s : ByteArray) (hs : s.size ≤ maxLen) (w : World) : Calls Tryz.prog 216 #[.string s] w fun e w' => ∃ a b, Hid (Cuts s a b) ∧ e = .returned (.tuple #[.string a, .string b]) ∧ ∃ n, w' = w.drewN n :=
  (cut_any s hs w).mono fun e w' h => ⟨_, _, ⟨rfl, rfl⟩, h.1, h.2⟩
theorem Cuts.end_ {s a b : ByteArray} (h : Cuts s a b) (e : a.data.toList = []) : b.data.toList = [] := by
  obtain ⟨rfl, rfl⟩ := h
  exact cutW_end e
theorem Cuts.words_ {s a b : ByteArray} (h : Cuts s a b) : words s.data.toList = stream a.data.toList b.data.toList := by
  obtain ⟨rfl, rfl⟩ := h
  exact (stream_cut _).symm
theorem Cuts.rem {s a b : ByteArray} (h : Cuts s a b) : remB a b ≤ s.size := by
  obtain ⟨rfl, rfl⟩ := h
  exact cut_rem s
theorem numSH (s : ByteArray) (w : World) : Calls Tryz.prog 120 #[.agg #[.string ⟨#[]⟩, .string (mkS [60]), .string (mkS [61]), .string (mkS [60, 61]), .string (mkS [62]), .string (mkS [60, 62]), .string (mkS [62, 61]), .string (mkS [60, 61, 62])], .string s] w fun e w' =>
    ∃ o : Int, Hid (o = numS s.data.toList) ∧ e = .returned (.int .i64 o) ∧ Below w.heap.size w w' := (numS_any s w).mono fun e w' h => ⟨_, rfl, h.1, h.2⟩
theorem numWH (s : ByteArray) (w : World) : Calls Tryz.prog 120 #[.agg #[.string ⟨#[]⟩, .string ⟨#[]⟩, .string (mkS wAnd), .string (mkS wOr), .string (mkS wIf), .string (mkS wWith), .string (mkS wWithout), .string ⟨#[]⟩], .string s] w fun e w' =>
    ∃ o : Int, Hid (o = numW s.data.toList) ∧ e = .returned (.int .i64 o) ∧ Below w.heap.size w w' := (numW_any s w).mono fun e w' h => ⟨_, rfl, h.1, h.2⟩
theorem RSt.drew_ {w0 w : World} {S : Nat → Prop} {v : Value} {L : List OItem} {drow : Array Value} (h : RSt w0 w S v L drow) (n : Nat) : RSt w0 (w.drewN n) S v L drow := h.below_ ⟨rfl, rfl, rfl, Nat.le_refl _, fun _ _ => rfl⟩
theorem Lay.drew_ {w : World} {S : Nat → Prop} {d : Dep} {t : Value} (h : Lay w S d t) (n : Nat) : Lay (w.drewN n) S d t := h.stay (fun _ h => h) (StayS.below' (show Below w.heap.size w (w.drewN n) from ⟨rfl, rfl, rfl, Nat.le_refl _, fun _ _ => rfl⟩))
theorem row_lit (z0 z1 z2 z3 z4 a b c e f : Value) : (((((#[z0, z1, z2, z3, z4] : Array Value).setIfInBounds 0 a).setIfInBounds 1 b).setIfInBounds 2 c).setIfInBounds 3 e).setIfInBounds 4 f = #[a, b, c, e, f] := by kernel_rfl
theorem len_openM (L : List OItem) : L.length ≤ openM L := by
  induction L with
  | nil => simp [openM]
  | cons x r ih => simp only [openM, List.length_cons]; omega
theorem row_all (d : Dep) (t a b c e f : Value) : (((((rowD d t).setIfInBounds 0 a).setIfInBounds 1 b).setIfInBounds 2 c).setIfInBounds 3 e).setIfInBounds 4 f = #[a, b, c, e, f] := by kernel_rfl
theorem row_two (a b c e f c' : Value) : #[a, b, c, e, f].setIfInBounds 2 c' = #[a, b, c', e, f] := by kernel_rfl
theorem row_three (a b c e f c' : Value) : #[a, b, c, e, f].setIfInBounds 3 c' = #[a, b, c, c', f] := by kernel_rfl
end Go.Proofs.YtdhgiammfpjniaaGreatDoor.Ev
