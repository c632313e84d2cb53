/- Parts of the proof. -/
import Derived.Test.YtdhgiammfpjniaaGreatDoorZrat
namespace Go.Proofs.YtdhgiammfpjniaaGreatDoor.Ev
set_option linter.unusedSimpArgs false
set_option linter.unusedVariables false
open Go.RowKit
def litF (text : ByteArray) (gr gd : Nat) (v3 : Value) (word rest : ByteArray) (v7 : Value) (U : Nat → Value) : List Value := [.string text, U 1, .pointer (some ⟨gr, 0, none⟩), v3, .pointer (some ⟨gd, 0, none⟩), .string word, .string rest, v7, U 8, U 9, U 10, U 11, U 12, U 13, U 14, U 15, U 16, U 17, U 18, U 19, U 20, U 21, U 22, U 23, U 24, U 25, U 26, U 27, U 28, U 29, U 30, U 31, U 32, U 33, U 34, U 35, U 36, U 37, U 38, U 39, U 40, U 41, U 42, U 43, U 44, U 45, U 46, U 47, U 48, U 49, U 50, U 51, U 52, U 53, U 54, U 55, U 56, U 57, U 58, U 59, U 60, U 61, U 62, U 63, U 64, U 65, U 66, U 67, U 68, U 69, U 70, U 71, U 72, U 73, U 74, U 75, U 76, U 77, U 78, U 79, U 80, U 81, U 82, U 83, U 84, U 85, U 86, U 87, U 88, U 89, U 90, U 91, U 92, U 93, U 94, U 95, U 96, U 97, U 98, U 99, U 100, U 101, U 102, U 103, U 104, U 105, U 106, U 107, U 108, U 109, U 110, U 111, U 112, U 113, U 114, U 115, U 116, U 117, U 118, U 119, U 120, U 121, U 122, U 123, U 124, U 125, U 126, U 127, U 128]
def ActR (text : ByteArray) (gr gd : Nat) (v3 : Value) (word rest : ByteArray) (v7 : Value) (a : Act) : Prop :=
 ∃ U : Nat → Value, a = { tmps := #[.string text, U 1, .pointer (some ⟨gr, 0, none⟩), v3, .pointer (some ⟨gd, 0, none⟩), .string word, .string rest, v7, U 8, U 9, U 10, U 11, U 12, U 13, U 14, U 15, U 16, U 17, U 18, U 19, U 20, U 21, U 22, U 23, U 24, U 25, U 26, U 27, U 28, U 29, U 30, U 31, U 32, U 33, U 34, U 35, U 36, U 37, U 38, U 39, U 40, U 41, U 42, U 43, U 44, U 45, U 46, U 47, U 48, U 49, U 50, U 51, U 52, U 53, U 54, U 55, U 56, U 57, U 58, U 59, U 60, U 61, U 62, U 63, U 64, U 65, U 66, U 67, U 68, U 69, U 70, U 71, U 72, U 73, U 74, U 75, U 76, U 77, U 78, U 79, U 80, U 81, U 82, U 83, U 84, U 85, U 86, U 87, U 88, U 89, U 90, U 91, U 92, U 93, U 94, U 95, U 96, U 97, U 98, U 99, U 100, U 101, U 102, U 103, U 104, U 105, U 106, U 107, U 108, U 109, U 110, U 111, U 112, U 113, U 114, U 115, U 116, U 117, U 118, U 119, U 120, U 121, U 122, U 123, U 124, U 125, U 126, U 127, U 128], defers := [] }
theorem ActR.of {text : ByteArray} {gr gd : Nat} {v3 : Value} {word rest : ByteArray} {v7 : Value} (l : List Value) (h : l = litF text gr gd v3 word rest v7 (fun i => l.getD i .nilIface)) : ActR text gr gd v3 word rest v7 { tmps := l.toArray, defers := [] } := by
 refine ⟨fun i => l.getD i .nilIface, ?_⟩
 show ({ tmps := l.toArray, defers := [] } : Act) = { tmps := (litF text gr gd v3 word rest v7 (fun i => l.getD i .nilIface)).toArray, defers := [] }
 rw [← h]
def amQb : Code → Code
 | .scope c => c
 | .seq _ b => amQb b
 | .block _ b => amQb b
 | c => c
def alQv : Option Code → Code
 | some (.seq _ r) => r
 | _ => .skip
noncomputable def rdScope : Code := match Tryz.prog.funcs[186]? with | some g => (match g.body with | some c => amQb c | none => .skip) | none => .skip
noncomputable def rA : Code := alQv (findLabel rdScope 0)
noncomputable def rB : Code := alQv (findLabel rdScope 1)
def arQg : Code → Code
 | .seq (.region k _ _) b => if k = 19 then b else arQg b
 | .seq _ b => arQg b
 | c => c
noncomputable def rC : Code := arQg rB
def arQf : Code → Code
 | .seq (.region k d e) b => if k = 26 then .seq (.region k d e) b else arQf b
 | .seq _ b => arQf b
 | c => c
noncomputable def rD : Code := arQf rC
def headOf : Code → Code
 | .seq a _ => a
 | c => c
def tailOf : Code → Code
 | .seq _ b => b
 | c => c
noncomputable def rH : Code := headOf rD
noncomputable def rT : Code := tailOf rD
theorem hrA : findLabel rdScope 0 = some (Code.skip.seq rA) := by kernel_rfl
theorem hrB : findLabel rdScope 1 = some (Code.skip.seq rB) := by kernel_rfl
def remB (word rest : ByteArray) : Nat := word.size + rest.size
structure JBase (w0 : World) (text : ByteArray) (S : Nat → Prop) (v : Value) (L : List OItem) (drow : Array Value) (word rest : ByteArray) (n : Nat) (a : Act) (w : World) : Prop where
 act : ∃ v7, ActR text w0.heap.size (w0.heap.size + 1) v word rest v7 a
 st : RSt w0 w S v L drow
 kinds : ∀ it ∈ L, it.k = 0 ∨ (2 ≤ it.k ∧ it.k ≤ 6)
 empty : word.data.toList = [] → rest.data.toList = []
 rem : n = remB word rest
def JA (w0 : World) (text : ByteArray) (TGT : Option Dep) (n : Nat) (a : Act) (w : World) : Prop :=
 ∃ S v L d A k c word rest, JBase w0 text S v L (rowD d (.slice A k c)) word rest n a w ∧ TGT = readM (stkOf L) none (abQt word.data.toList rest.data.toList) ∧ openM L + remB word rest ≤ text.size
def JB (w0 : World) (text : ByteArray) (TGT : Option Dep) (n : Nat) (a : Act) (w : World) : Prop :=
 ∃ S v L d A c word rest, JBase w0 text S v L (rowD d (.slice A d.args.length c)) word rest n a w ∧ Lay w S d (.slice A d.args.length c) ∧ TGT = readM (stkOf L) (some d) (abQt word.data.toList rest.data.toList) ∧ openM L + nodes d + remB word rest ≤ text.size
def aaQ0 (w0 : World) (text : ByteArray) (TGT : Option Dep) (e : Ending) (w : World) : Prop :=
 Below w0.heap.size w0 w ∧ ((TGT = none ∧ e = abQf 50) ∨ ∃ d t S, TGT = some d ∧ e = .returned (.agg (rowD d t)) ∧ Lay w S d t ∧ CleanS w S ∧ (∀ b, S b → w0.heap.size ≤ b) ∧ nodes d ≤ text.size)
theorem aiQs {P : Program} {a : Act} {w : World} {Q : Exit → Act → World → Prop} {c restA restB : Code} (hA : findLabel c 0 = some (Code.skip.seq restA)) (hB : findLabel c 1 = some (Code.skip.seq restB)) (JA JB : Nat → Act → World → Prop)
 (behind : ∀ n a w, JB n a w → restB.wp P (jump2 (fun a' w' => ∃ m, m < n ∧ JA m a' w') (fun a' w' => ∃ m, m < n ∧ JB m a' w') Q) a w)
 (ahead : (∀ n m a w, m ≤ n → JB m a w → restB.wp P (jump2 (fun a' w' => ∃ m, m < n ∧ JA m a' w') (fun a' w' => ∃ m, m < n ∧ JB m a' w') Q) a w) →
  ∀ n a w, JA n a w → restA.wp P (jump2 (fun a' w' => ∃ m, m < n ∧ JA m a' w') (fun a' w' => ∃ m, m < n ∧ JB m a' w') Q) a w)
 (first : (∀ n a w, JA n a w → restA.wp P (jump2 (fun a' w' => ∃ m, JA m a' w') (fun a' w' => ∃ m, JB m a' w') Q) a w) → c.wp P (jump2 (fun a' w' => ∃ m, JA m a' w') (fun a' w' => ∃ m, JB m a' w') Q) a w) : (Code.scope c).wp P Q a w := by
 have hb2 : ∀ n m a w, m ≤ n → JB m a w → restB.wp P (jump2 (fun a' w' => ∃ m, m < n ∧ JA m a' w') (fun a' w' => ∃ m, m < n ∧ JB m a' w') Q) a w := fun n m a w hm h =>
  Code.wp_mono (fun e a' w' he => by
   cases e <;> first
   | exact he
   | (rcases he with ⟨h1, k, hk, h2⟩ | ⟨h1, k, hk, h2⟩
      ·exact .inl ⟨h1, k, by omega, h2⟩
      ·exact .inr ⟨h1, k, by omega, h2⟩)) (behind m a w h)
 have ha2 := ahead hb2
 refine ajQ1 hA hB JA JB (fun n a w h => wp_seq (wp_skip (ha2 n a w h))) (fun n a w h => wp_seq (wp_skip (behind n a w h))) (first fun n a w h => Code.wp_mono (fun e a' w' he => by
  cases e <;> first
  | exact he
  | (rcases he with ⟨h1, k, hk, h2⟩ | ⟨h1, k, hk, h2⟩
     ·exact .inl ⟨h1, k, h2⟩
     ·exact .inr ⟨h1, k, h2⟩)) (ha2 n a w h))
theorem aaQn (l : List UInt8) : (mkS l).data.toList = l := rfl
theorem RSt.init (w0 : World) (hT : Tabs w0) : RSt w0 ((w0.alloc (.cells #[.int .i64 0, .string ⟨#[]⟩, .int .i64 0, .string ⟨#[]⟩, .slice none 0 0] 39)).alloc (.cells #[.int .i64 0, .string ⟨#[]⟩, .int .i64 0, .string ⟨#[]⟩, .slice none 0 0] 39)) (fun _ => False) (.slice none 0 0) []
 #[.int .i64 0, .string ⟨#[]⟩, .int .i64 0, .string ⟨#[]⟩, .slice none 0 0] := by
 have hb : Below w0.heap.size w0 ((w0.alloc (.cells #[.int .i64 0, .string ⟨#[]⟩, .int .i64 0, .string ⟨#[]⟩, .slice none 0 0] 39)).alloc (.cells #[.int .i64 0, .string ⟨#[]⟩, .int .i64 0, .string ⟨#[]⟩, .slice none 0 0] 39)) := ((Below.refl _ _).alloc (Nat.le_refl _) _).alloc (by simp) _
 exact ⟨⟨rfl, .inl ⟨rfl, rfl⟩⟩, fun it hi => (by cases hi), by simp [muts, Value.ownBlock], fun k hk => by simp [muts, Value.ownBlock] at hk, fun b hb => hb.elim, fun b hb => hb.elim, (Blk.new _ _ _).alloc _, Blk.new' (w := w0.alloc (.cells #[.int .i64 0, .string ⟨#[]⟩, .int .i64 0, .string ⟨#[]⟩, .slice none 0 0] 39)) (by simp), hb, hT.below hb hT.two, hT.two⟩
theorem arQo (l : Wd) : (cutW l).1.length + (cutW l).2.length ≤ l.length := by
 have := agQj l
 unfold cutW
 simp only [List.length_take, List.length_drop]
 omega
theorem ajQl (s : ByteArray) : remB (mkS (cutW s.data.toList).1) (mkS (cutW s.data.toList).2) ≤ s.size := by
 have := arQo s.data.toList
 unfold remB
 rw [aaQg, aaQg, ← aaQd s]
 exact this
theorem arQs (s : ByteArray) (hs : s.size ≤ 2147483648) (w : World) : Calls Tryz.prog 48 #[.string s] w fun e w' => e = .returned (.string s) ∧ Below w.heap.size w w' := by
 have C := hQQ (fun w => Tryz.stringslite_Clone s w (by omega))
 go_enter Tryz.func48, Tryz.ntmps48
 go_wp2_with fail
 refine (C.out _).mono ?_
 rintro e w1 ⟨rfl, hb1⟩
 go_wp2_with fail
 go_ret
 exact ⟨rfl, hb1⟩
theorem agQz (w r : Wd) : (abQt w r).headD [] = w := by
 unfold abQt
 split
 ·rename_i h; rw [h]; rfl
 ·rfl
theorem alQ6 {w r : Wd} (h : w = [] → r = []) : (abQt w r).tail = words r := by
 unfold abQt
 split
 ·rename_i h'; rw [h h', agQs]; rfl
 ·rfl
def Cuts (s a b : ByteArray) : Prop := a = mkS (cutW s.data.toList).1 ∧ b = mkS (cutW s.data.toList).2
theorem cutH (s : ByteArray) (hs : s.size ≤ maxLen) (w : World) : Calls Tryz.prog 216 #[.string s] w fun e w' => ∃ a b, Hid (Cuts s a b) ∧ e = .returned (.tuple #[.string a, .string b]) ∧ ∃ n, w' = w.drewN n :=
 (amQ4 s hs w).mono fun e w' h => ⟨_, _, ⟨rfl, rfl⟩, h.1, h.2⟩
theorem Cuts.end_ {s a b : ByteArray} (h : Cuts s a b) (e : a.data.toList = []) : b.data.toList = [] := by
 obtain ⟨rfl, rfl⟩ := h
 exact ajQn e
theorem Cuts.words_ {s a b : ByteArray} (h : Cuts s a b) : words s.data.toList = abQt a.data.toList b.data.toList := by
 obtain ⟨rfl, rfl⟩ := h
 exact (abQq _).symm
theorem Cuts.rem {s a b : ByteArray} (h : Cuts s a b) : remB a b ≤ s.size := by
 obtain ⟨rfl, rfl⟩ := h
 exact ajQl s
theorem numSH (s : ByteArray) (w : World) : Calls Tryz.prog 120 #[.agg #[.string ⟨#[]⟩, .string (mkS [60]), .string (mkS [61]), .string (mkS [60, 61]), .string (mkS [62]), .string (mkS [60, 62]), .string (mkS [62, 61]), .string (mkS [60, 61, 62])], .string s] w fun e w' =>
 ∃ o : Int, Hid (o = numS s.data.toList) ∧ e = .returned (.int .i64 o) ∧ Below w.heap.size w w' := (anQo s w).mono fun e w' h => ⟨_, rfl, h.1, h.2⟩
theorem numWH (s : ByteArray) (w : World) : Calls Tryz.prog 120 #[.agg #[.string ⟨#[]⟩, .string ⟨#[]⟩, .string (mkS wAnd), .string (mkS wOr), .string (mkS wIf), .string (mkS wWith), .string (mkS aaQ1), .string ⟨#[]⟩], .string s] w fun e w' =>
 ∃ o : Int, Hid (o = numW s.data.toList) ∧ e = .returned (.int .i64 o) ∧ Below w.heap.size w w' := (anQn s w).mono fun e w' h => ⟨_, rfl, h.1, h.2⟩
theorem RSt.drew_ {w0 w : World} {S : Nat → Prop} {v : Value} {L : List OItem} {drow : Array Value} (h : RSt w0 w S v L drow) (n : Nat) : RSt w0 (w.drewN n) S v L drow := h.below_ ⟨rfl, rfl, rfl, Nat.le_refl _, fun _ _ => rfl⟩
theorem Lay.drew_ {w : World} {S : Nat → Prop} {d : Dep} {t : Value} (h : Lay w S d t) (n : Nat) : Lay (w.drewN n) S d t := h.stay (fun _ h => h) (StayS.below' (show Below w.heap.size w (w.drewN n) from ⟨rfl, rfl, rfl, Nat.le_refl _, fun _ _ => rfl⟩))
theorem row_lit (z0 z1 z2 z3 z4 a b c e f : Value) : (((((#[z0, z1, z2, z3, z4] : Array Value).setIfInBounds 0 a).setIfInBounds 1 b).setIfInBounds 2 c).setIfInBounds 3 e).setIfInBounds 4 f = #[a, b, c, e, f] := by kernel_rfl
theorem ahQh (L : List OItem) : L.length ≤ openM L := by
 induction L with
 | nil => simp [openM]
 | cons x r ih => simp only [openM, List.length_cons]; omega
theorem row_all (d : Dep) (t a b c e f : Value) : (((((rowD d t).setIfInBounds 0 a).setIfInBounds 1 b).setIfInBounds 2 c).setIfInBounds 3 e).setIfInBounds 4 f = #[a, b, c, e, f] := by kernel_rfl
theorem row_two (a b c e f c' : Value) : #[a, b, c, e, f].setIfInBounds 2 c' = #[a, b, c', e, f] := by kernel_rfl
theorem aqQf (a b c e f c' : Value) : #[a, b, c, e, f].setIfInBounds 3 c' = #[a, b, c, c', f] := by kernel_rfl
theorem row_at {w : World} {g t j : Nat} {cur : Array Value} {xs : List Value} {m : Nat} {u : Value} (h : Blk w g t cur) (e : cur.toList.take m = xs) (hj : xs[j]? = some u) : w.cell? ⟨g, j, none⟩ = some u := by
 rw [h.cell]
 rw [← e] at hj
 rw [List.getElem?_take] at hj
 split at hj
 ·rw [← Array.getElem?_toList]; exact hj
 ·cases hj
theorem acQ5 {w : World} {base ob co : Nat} {t : TypeId} {L : List OItem} {it : OItem} (h : w.ownsRow base t 5 (.slice (some ⟨ob, 0, none⟩) (L.length + 1) co) (L ++ [it]).length (cells5 ((L ++ [it]).map adQr))) :
 w.cell? ⟨ob, L.length * 5, none⟩ = some (.int .i64 it.k) ∧ w.cell? ⟨ob, L.length * 5 + 1, none⟩ = some (.string ⟨#[]⟩) ∧ w.cell? ⟨ob, L.length * 5 + 2, none⟩ = some (.int .i64 0) ∧ w.cell? ⟨ob, L.length * 5 + 3, none⟩ = some (.string ⟨#[]⟩) ∧ w.cell? ⟨ob, L.length * 5 + 4, none⟩ = some it.s ∧ (∀ j, w.frozen? ⟨ob, j, none⟩ = false) ∧ L.length + 1 ≤ co ∧ co ≤ maxLen := by
 rw [show (L ++ [it]).length = L.length + 1 by simp] at h
 obtain ⟨cur, h1, h2, h3, h4, h5, h6⟩ := own_blk h
 have hx : ((L ++ [it]).map adQr)[L.length]? = some (adQr it) := by rw [List.getElem?_map, List.getElem?_append_right (Nat.le_refl _)]; simp
 obtain ⟨q0, q1, q2, q3, q4⟩ := cells5_at hx
 exact ⟨row_at h1 h6 q0, row_at h1 h6 q1, row_at h1 h6 q2, row_at h1 h6 q3, row_at h1 h6 q4, fun j => h1.free j, h3, h4⟩
theorem Till.over {LL : List (Nat × Addr × Value)} {k : Nat} {l : Array Bool} {w : World} (h : (LL.all fun x => x.1 == k) = true) (hk : l.getD k true = true) : Till LL l w := fun x hx hf => by
 have h1 := List.all_eq_true.1 h x hx
 have h2 : x.1 = k := by simpa using h1
 rw [h2, hk] at hf
 cases hf
theorem wpAnyS_two {P : Program} {md : Region.Mode} {ops : Array Oper} {Q : Exit → Act → World → Prop} {S : Array Bool → World → Prop} {i j : Nat} {o o' : Oper} {fuel : Nat} {listed : Array Bool} {a : Act} {w : World} (hr : Region.ready md ops listed = [i, j]) (ho : ops[i]? = some o) (ho' : ops[j]? = some o')
 (h : ∀ K' : Act → World → Prop, Shut (∀ a w, S (listed.setIfInBounds i true) w → (S (listed.setIfInBounds i true) w → acQb P md ops Q S fuel (listed.setIfInBounds i true) a w) → K' a w) →
  if Region.wanted o (yielded ops a.tmps) = true then Oper.wp P o a w K' Q else K' (a.put o.dst undef) w)
 (h' : ∀ K' : Act → World → Prop, Shut (∀ a w, S (listed.setIfInBounds j true) w → (S (listed.setIfInBounds j true) w → acQb P md ops Q S fuel (listed.setIfInBounds j true) a w) → K' a w) →
  if Region.wanted o' (yielded ops a.tmps) = true then Oper.wp P o' a w K' Q else K' (a.put o'.dst undef) w) : acQb P md ops Q S (fuel + 1) listed a w := by
 refine ⟨fun h0 => (by rw [hr] at h0; cases h0), fun k hk => ?_⟩
 rw [hr] at hk
 have : k = i ∨ k = j := by simpa using hk
 rcases this with rfl | rfl
 ·exact wpOp_step ho (fun K' hK => h K' (fun a w hS hW => hK a w ⟨hS, hW hS⟩))
 ·exact wpOp_step ho' (fun K' hK => h' K' (fun a w hS hW => hK a w ⟨hS, hW hS⟩))
section
variable {w0 w w4 : World} {S : Nat → Prop} {L : List OItem} {drow : Array Value} {it : OItem} {ob c g c' : Nat} {d : Dep} {t : Value}
theorem RSt.g_ne (h : RSt w0 w S (.slice (some ⟨ob, 0, none⟩) (L.length + 1) c) (L ++ [it]) drow) (hat : some g = it.s.ownBlock ∨ some g = some w.heap.size) : g ≠ ob := by
 rcases hat with h1 | h1
 ·exact fun e => (h.item (it := it) (by simp) h1.symm).2.2.2 (by rw [e]; rfl)
 ·injection h1 with h1
  have := (h.open_ (k := ob) rfl).2.1
  omega
theorem RSt.blks (h : RSt w0 w S (.slice (some ⟨ob, 0, none⟩) (L.length + 1) c) (L ++ [it]) drow) (hg : w.grownBy w4 it.s.ownBlock) : ∃ cs, Blk w4 ob 39 cs ∧ Blk w ob 39 cs := by
 obtain ⟨cs, h1, _⟩ := own_blk (by have := h.own; rwa [show (L ++ [it]).length = L.length + 1 by simp] at this)
 exact ⟨cs, h1.grown hg (fun e => (h.item (it := it) (by simp) e.symm).2.2.2 rfl), h1⟩
theorem RSt.putA (h : RSt w0 w S (.slice (some ⟨ob, 0, none⟩) (L.length + 1) c) (L ++ [it]) drow) (hL : Lay w S d t)
 (hown : w4.ownsRow (w0.heap.size + 1 + 1) 39 5 (.slice (some ⟨g, 0, none⟩) (it.r.length + 1) c') (it.r.length + 1) (cells5 it.r ++ [.int .i64 0, .string ⟨#[]⟩, .int .i64 0, .string ⟨#[]⟩, .slice none 0 0]))
 (hg : w.grownBy w4 it.s.ownBlock) (hat : some g = it.s.ownBlock ∨ some g = some w.heap.size) :
 RSt w0 ((((((w4.setCell ⟨g, it.r.length * 5, none⟩ (.int .i64 d.kind)).setCell ⟨g, it.r.length * 5 + 1, none⟩ (.string d.name)).setCell ⟨g, it.r.length * 5 + 2, none⟩ (.int .i64 d.op)).setCell ⟨g, it.r.length * 5 + 3, none⟩ (.string d.evr)).setCell ⟨g, it.r.length * 5 + 4, none⟩ t).setCell ⟨ob, L.length * 5 + 4, none⟩ (.slice (some ⟨g, 0, none⟩) (it.r.length + 1) c')) S (.slice (some ⟨ob, 0, none⟩) (L.length + 1) c) (L ++ [⟨it.k, it.r ++ [(d, t)], .slice (some ⟨g, 0, none⟩) (it.r.length + 1) c'⟩]) drow := by
 have hne := h.g_ne hat
 obtain ⟨cg, hcg, _⟩ := own_blk hown
 obtain ⟨cs, hco, _⟩ := h.blks hg
 refine h.put hL hown hg hat hcg hco ((((((hcg.set_ _ _).set_ _ _).set_ _ _).set_ _ _).set_ _ _).far hne _) ((((((hco.far (Ne.symm hne) _).far (Ne.symm hne) _).far (Ne.symm hne) _).far (Ne.symm hne) _).far (Ne.symm hne) _).set_ _ _) ?_
 exact ((((((Turned.refl _ _).setCell (.inl (by simp)) _).setCell (.inl (by simp)) _).setCell (.inl (by simp)) _).setCell (.inl (by simp)) _).setCell (.inl (by simp)) _).setCell (.inl (by simp)) _
theorem RSt.putB (h : RSt w0 w S (.slice (some ⟨ob, 0, none⟩) (L.length + 1) c) (L ++ [it]) drow) (hL : Lay w S d t)
 (hown : w4.ownsRow (w0.heap.size + 1 + 1) 39 5 (.slice (some ⟨g, 0, none⟩) (it.r.length + 1) c') (it.r.length + 1) (cells5 it.r ++ [.int .i64 0, .string ⟨#[]⟩, .int .i64 0, .string ⟨#[]⟩, .slice none 0 0]))
 (hg : w.grownBy w4 it.s.ownBlock) (hat : some g = it.s.ownBlock ∨ some g = some w.heap.size) :
 RSt w0 ((((((w4.setCell ⟨ob, L.length * 5 + 4, none⟩ (.slice (some ⟨g, 0, none⟩) (it.r.length + 1) c')).setCell ⟨g, it.r.length * 5, none⟩ (.int .i64 d.kind)).setCell ⟨g, it.r.length * 5 + 1, none⟩ (.string d.name)).setCell ⟨g, it.r.length * 5 + 2, none⟩ (.int .i64 d.op)).setCell ⟨g, it.r.length * 5 + 3, none⟩ (.string d.evr)).setCell ⟨g, it.r.length * 5 + 4, none⟩ t) S (.slice (some ⟨ob, 0, none⟩) (L.length + 1) c) (L ++ [⟨it.k, it.r ++ [(d, t)], .slice (some ⟨g, 0, none⟩) (it.r.length + 1) c'⟩]) drow := by
 have hne := h.g_ne hat
 obtain ⟨cg, hcg, _⟩ := own_blk hown
 obtain ⟨cs, hco, _⟩ := h.blks hg
 refine h.put hL hown hg hat hcg hco ((((((hcg.far hne _).set_ _ _).set_ _ _).set_ _ _).set_ _ _).set_ _ _) ((((((hco.set_ _ _).far (Ne.symm hne) _).far (Ne.symm hne) _).far (Ne.symm hne) _).far (Ne.symm hne) _).far (Ne.symm hne) _) ?_
 exact ((((((Turned.refl _ _).setCell (.inl (by simp)) _).setCell (.inl (by simp)) _).setCell (.inl (by simp)) _).setCell (.inl (by simp)) _).setCell (.inl (by simp)) _).setCell (.inl (by simp)) _
end
set_option maxHeartbeats 1000000 in
set_option maxRecDepth 1000000 in
theorem read_in (text : ByteArray) (hs : text.size ≤ 4194304) (w0 : World) (TGT : Option Dep) (n : Nat) (S : Nat → Prop) (ob co : Nat) (L : List OItem) (ik : Int) (ir : Rows5) (iA : Option Addr) (ic : Nat) (d : Dep) (A : Option Addr) (c : Nat) (word rest : ByteArray) (v7 : Value) (U : Nat → Value) (w : World)
 (HR : Hid (RSt w0 w S (.slice (some ⟨ob, 0, none⟩) (L.length + 1) co) (L ++ [⟨ik, ir, .slice iA ir.length ic⟩]) (rowD d (.slice A d.args.length c)))) (HKi : Hid (∀ it ∈ (L ++ [(⟨ik, ir, .slice iA ir.length ic⟩ : OItem)]), it.k = 0 ∨ (2 ≤ it.k ∧ it.k ≤ 6))) (HEm : Hid (word.data.toList = [] → rest.data.toList = [])) (HN : Hid (n = remB word rest))
 (HL : Hid (Lay w S d (.slice A d.args.length c))) (HGo : Hid (TGT = readM (stkOf (L ++ [⟨ik, ir, .slice iA ir.length ic⟩])) (some d) (abQt word.data.toList rest.data.toList))) (HM : Hid (openM (L ++ [(⟨ik, ir, .slice iA ir.length ic⟩ : OItem)]) + nodes d + remB word rest ≤ text.size))
 (HREST : Hid (∀ g c4 a w', ActR text w0.heap.size (w0.heap.size + 1) (.slice (some ⟨ob, 0, none⟩) (L.length + 1) co) word rest (.pointer (some ⟨ob, L.length * 5, none⟩)) a → RSt w0 w' S (.slice (some ⟨ob, 0, none⟩) (L.length + 1) co) (L ++ [⟨ik, ir ++ [(d, .slice A d.args.length c)], .slice (some ⟨g, 0, none⟩) (ir.length + 1) c4⟩]) (rowD d (.slice A d.args.length c)) → rC.wp Tryz.prog (jump2 (fun a' w' => ∃ m, m < n ∧ JA w0 text TGT m a' w') (fun a' w' => ∃ m, m < n ∧ JB w0 text TGT m a' w') (bodyPost Tryz.prog Tryz.f186 (aaQ0 w0 text TGT))) a w')) : rB.wp Tryz.prog (jump2 (fun a' w' => ∃ m, m < n ∧ JA w0 text TGT m a' w') (fun a' w' => ∃ m, m < n ∧ JB w0 text TGT m a' w') (bodyPost Tryz.prog Tryz.f186 (aaQ0 w0 text TGT))) { tmps := #[.string text, U 1, .pointer (some ⟨w0.heap.size, 0, none⟩), .slice (some ⟨ob, 0, none⟩) (L.length + 1) co, .pointer (some ⟨w0.heap.size + 1, 0, none⟩), .string word, .string rest, v7, U 8, U 9, U 10, U 11, U 12, U 13, U 14, U 15, U 16, U 17, U 18, U 19, U 20, U 21, U 22, U 23, U 24, U 25, U 26, U 27, U 28, U 29, U 30, U 31, U 32, U 33, U 34, U 35, U 36, U 37, U 38, U 39, U 40, U 41, U 42, U 43, U 44, U 45, U 46, U 47, U 48, U 49, U 50, U 51, U 52, U 53, U 54, U 55, U 56, U 57, U 58, U 59, U 60, U 61, U 62, U 63, U 64, U 65, U 66, U 67, U 68, U 69, U 70, U 71, U 72, U 73, U 74, U 75, U 76, U 77, U 78, U 79, U 80, U 81, U 82, U 83, U 84, U 85, U 86, U 87, U 88, U 89, U 90, U 91, U 92, U 93, U 94, U 95, U 96, U 97, U 98, U 99, U 100, U 101, U 102, U 103, U 104, U 105, U 106, U 107, U 108, U 109, U 110, U 111, U 112, U 113, U 114, U 115, U 116, U 117, U 118, U 119, U 120, U 121, U 122, U 123, U 124, U 125, U 126, U 127, U 128], defers := [] } w := by
 obtain ⟨i0, i1, i2, i3, i4, ifr, ic1, ic2⟩ := acQ5 HR.out.own
 have d0 := HR.out.dblk.cell 0
 have d1 := HR.out.dblk.cell 1
 have d2 := HR.out.dblk.cell 2
 have d3 := HR.out.dblk.cell 3
 have d4 := HR.out.dblk.cell 4
 unfold rowD at d0 d1 d2 d3 d4
 simp at d0 d1 d2 d3 d4 i0 i1 i2 i3 i4
 have if4 := ifr (L.length * 5 + 4)
 have IFR := hQQ ifr
 clear ifr
 have hsz : L.length < 4194304 ∧ ir.length < 4194304 := by
  have h1 := HM.out
  have h2 : openM (L ++ [(⟨ik, ir, .slice iA ir.length ic⟩ : OItem)]) = openM L + (1 + aaQk (ir.map Prod.fst)) := aeQh L _
  have h3 := ahQh L
  have h4 := abQ7 (ir.map Prod.fst)
  have h5 := abQ1 d
  rw [List.length_map] at h4
  omega
 obtain ⟨hsz, hsr⟩ := hsz
 unfold maxLen at ic2
 have HLd := HR.out.dblk
 have T0 : Till [(7, ⟨ob, L.length * 5 + 4, none⟩, .slice iA ir.length ic), (7, ⟨w0.heap.size + 1, 0, none⟩, .int .i64 d.kind), (7, ⟨w0.heap.size + 1, 1, none⟩, .string d.name), (7, ⟨w0.heap.size + 1, 2, none⟩, .int .i64 d.op), (7, ⟨w0.heap.size + 1, 3, none⟩, .string d.evr), (7, ⟨w0.heap.size + 1, 4, none⟩, .slice A d.args.length c)] (Array.replicate 13 false) w.drew := by
  intro x hx _
  simp at hx
  rcases hx with rfl | rfl | rfl | rfl | rfl | rfl
  ·exact i4
  ·exact d0
  ·exact d1
  ·exact d2
  ·exact d3
  ·exact d4
 have H6 : Hid (RSt w0 (w.alloc (.cells #[.int .i64 0, .string ⟨#[]⟩, .int .i64 0, .string ⟨#[]⟩, .slice none 0 0] 39)).drew S (.slice (some ⟨ob, 0, none⟩) (L.length + 1) co) (L ++ [⟨ik, ir, .slice iA ir.length ic⟩]) (rowD d (.slice A d.args.length c))) := (HR.out.below_ ((Below.refl _ _).alloc (Nat.le_refl _) _)).drew_ 1
 have HL6 : Hid (Lay (w.alloc (.cells #[.int .i64 0, .string ⟨#[]⟩, .int .i64 0, .string ⟨#[]⟩, .slice none 0 0] 39)).drew S d (.slice A d.args.length c)) := HL.out.stay (fun _ h => h) (StayS.below' (((Below.refl _ _).alloc (Nat.le_refl _) _).drew))
 have T6 : ∀ l, Till [(7, ⟨ob, L.length * 5 + 4, none⟩, .slice iA ir.length ic), (7, ⟨w0.heap.size + 1, 0, none⟩, .int .i64 d.kind), (7, ⟨w0.heap.size + 1, 1, none⟩, .string d.name), (7, ⟨w0.heap.size + 1, 2, none⟩, .int .i64 d.op), (7, ⟨w0.heap.size + 1, 3, none⟩, .string d.evr), (7, ⟨w0.heap.size + 1, 4, none⟩, .slice A d.args.length c)] l (w.alloc (.cells #[.int .i64 0, .string ⟨#[]⟩, .int .i64 0, .string ⟨#[]⟩, .slice none 0 0] 39)).drew := by
  intro l x hx _
  simp at hx
  rcases hx with rfl | rfl | rfl | rfl | rfl | rfl
  ·exact (acQ5 H6.out.own).2.2.2.2.1
  ·exact H6.out.dblk.cell 0
  ·exact H6.out.dblk.cell 1
  ·exact H6.out.dblk.cell 2
  ·exact H6.out.dblk.cell 3
  ·exact H6.out.dblk.cell 4
 obtain ⟨j0, z0, hi0, hz0, hz1, hz2, hz3⟩ := aaQ7
 have hi := hQQ hi0
 have HZ := hQQ (And.intro hz0 (And.intro hz1 (And.intro hz2 hz3)))
 clear hi0 hz0 hz1 hz2 hz3
 have OA := hQQ (H6.out.args ⟨ik, ir, .slice iA ir.length ic⟩ (by simp)).1
 conv in rB => whnf
 go_wp2_with fail
 rename_i K hK
 refine aaQu (Till [(7, ⟨ob, L.length * 5 + 4, none⟩, .slice iA ir.length ic), (7, ⟨w0.heap.size + 1, 0, none⟩, .int .i64 d.kind), (7, ⟨w0.heap.size + 1, 1, none⟩, .string d.name), (7, ⟨w0.heap.size + 1, 2, none⟩, .int .i64 d.op), (7, ⟨w0.heap.size + 1, 3, none⟩, .string d.evr), (7, ⟨w0.heap.size + 1, 4, none⟩, .slice A d.args.length c)]) (by kernel_rfl) T0 (fun hS => ?_)
 clear T0
 refine aaQa (i := 0) (fun _ => True) (v := .pointer (some ⟨ob, L.length * 5, none⟩)) rfl (by kernel_rfl) (by kernel_rfl) (by kernel_rfl) (fun _ _ _ h => h) (fun _ _ _ _ => trivial) (Till.io rfl) (by kernel_rfl) hS (fun w' hSw => ?_) (by rfl) (fun hS => ?_)
 ·go_simp
 try simp only [Act.put, List.setIfInBounds_toArray, List.set_cons_zero, List.set_cons_succ]
 refine aaQa (i := 1) (fun _ => True) (v := .pointer (some ⟨ob, L.length * 5, none⟩)) rfl (by kernel_rfl) (by kernel_rfl) (by kernel_rfl) (fun _ _ _ h => h) (fun _ _ _ _ => trivial) (Till.io rfl) (by kernel_rfl) hS (fun w' hSw => ?_) (by rfl) (fun hS => ?_)
 ·go_simp
 try simp only [Act.put, List.setIfInBounds_toArray, List.set_cons_zero, List.set_cons_succ]
 refine aaQa (i := 2) (fun _ => True) (v := .pointer (some ⟨ob, L.length * 5 + 4, none⟩)) rfl (by kernel_rfl) (by kernel_rfl) (by kernel_rfl) (fun _ _ _ h => h) (fun _ _ _ _ => trivial) (Till.io rfl) (by kernel_rfl) hS (fun w' hSw => ?_) (by rfl) (fun hS => ?_)
 ·go_simp
 try simp only [Act.put, List.setIfInBounds_toArray, List.set_cons_zero, List.set_cons_succ]
 refine aaQa (i := 3) (fun w' => w'.cell? ⟨ob, L.length * 5 + 4, none⟩ = some (.slice iA ir.length ic)) (v := .slice iA ir.length ic) rfl (by kernel_rfl) (by kernel_rfl) (by kernel_rfl) (fun _ _ _ h => h) (fun l w hw hS => hS.out (k := 7) (by simp) (hw 7 (by kernel_rfl))) (Till.io rfl) (by kernel_rfl) hS (fun w' hSw => ?_) (by rfl) (fun hS => ?_)
 ·go_simp
 try simp only [Act.put, List.setIfInBounds_toArray, List.set_cons_zero, List.set_cons_succ]
 refine aaQa (i := 4) (fun w' => w'.cell? ⟨w0.heap.size + 1, 0, none⟩ = some (.int .i64 d.kind) ∧ w'.cell? ⟨w0.heap.size + 1, 1, none⟩ = some (.string d.name) ∧ w'.cell? ⟨w0.heap.size + 1, 2, none⟩ = some (.int .i64 d.op) ∧ w'.cell? ⟨w0.heap.size + 1, 3, none⟩ = some (.string d.evr) ∧ w'.cell? ⟨w0.heap.size + 1, 4, none⟩ = some (.slice A d.args.length c)) (v := .agg #[.int .i64 d.kind, .string d.name, .int .i64 d.op, .string d.evr, .slice A d.args.length c]) rfl (by kernel_rfl) (by kernel_rfl) (by kernel_rfl) (fun _ _ _ h => h) (fun l w hw hS => ⟨hS.out (k := 7) (by simp) (hw 7 (by kernel_rfl)), hS.out (k := 7) (by simp) (hw 7 (by kernel_rfl)), hS.out (k := 7) (by simp) (hw 7 (by kernel_rfl)), hS.out (k := 7) (by simp) (hw 7 (by kernel_rfl)), hS.out (k := 7) (by simp) (hw 7 (by kernel_rfl))⟩) (Till.io rfl) (by kernel_rfl) hS (fun w' hSw => ?_) (by rfl) (fun hS => ?_)
 ·obtain ⟨e0, e1, e2, e3, e4⟩ := hSw
  go_simp
 try simp only [Act.put, List.setIfInBounds_toArray, List.set_cons_zero, List.set_cons_succ]
 refine aaQa (i := 5) (fun _ => True) (v := .int .i64 (ir.length : Int)) rfl (by kernel_rfl) (by kernel_rfl) (by kernel_rfl) (fun _ _ _ h => h) (fun _ _ _ _ => trivial) (Till.io rfl) (by kernel_rfl) hS (fun w' hSw => ?_) (by rfl) (fun hS => ?_)
 ·go_simp
 try simp only [Act.put, List.setIfInBounds_toArray, List.set_cons_zero, List.set_cons_succ]
 refine aaQb (i := 6) (by kernel_rfl) rfl (fun K6 hK6 => ?_)
 go_simp
 refine hK6.out _ _ (T6 _) (fun hS => ?_)
 clear hK6 K6 T6
 try simp only [Act.put, List.setIfInBounds_toArray, List.set_cons_zero, List.set_cons_succ]
 refine aaQb (i := 7) (by kernel_rfl) rfl (fun K7 hK7 => ?_)
 refine aaQo rfl (.tmp 70) (.tmp 73) 35 rfl (w0.heap.size + 1 + 1) 39 j0 z0 5 72 Tryz.underlying35 hi.out HZ.out.1 HZ.out.2.2.1 HZ.out.2.2.2 HZ.out.2.1 (by decide) (.slice iA ir.length ic) ir.length (cells5 ir) rfl OA.out ⟨w.heap.size, 0, none⟩ 1 1 [.int .i64 0, .string ⟨#[]⟩, .int .i64 0, .string ⟨#[]⟩, .slice none 0 0] rfl rfl (abQ8 (Blk.new' rfl).drew rfl) (fun u hu => by simp at hu; rcases hu with rfl | rfl | rfl | rfl | rfl <;> rfl) (by unfold maxLen; omega) (by omega) (by have := HR.out.dblk.lt; show w0.heap.size + 1 + 1 ≤ (w.alloc _).heap.size; rw [World.size_alloc]; omega) (fun v4 w4 hown4 hg4 hat4 => ?_)
 obtain ⟨g, c4, rfl⟩ : ∃ g c4, v4 = .slice (some ⟨g, 0, none⟩) (ir.length + 1) c4 := by
  rcases hown4.2 with ⟨_, h2⟩ | ⟨g', cap, cur, h1, _⟩
  ·omega
  ·exact ⟨g', cap, h1⟩
 have hat5 : some g = (OItem.mk ik ir (.slice iA ir.length ic)).s.ownBlock ∨ some g = some ((w.alloc (.cells #[.int .i64 0, .string ⟨#[]⟩, .int .i64 0, .string ⟨#[]⟩, .slice none 0 0] 39)).drew).heap.size := hat4
 have hne := H6.out.g_ne hat5
 have hne' : ¬ ob = g := fun e => hne e.symm
 have HA := hQQ (H6.out.putA (it := ⟨ik, ir, .slice iA ir.length ic⟩) HL6.out hown4 hg4 hat5)
 have HB := hQQ (H6.out.putB (it := ⟨ik, ir, .slice iA ir.length ic⟩) HL6.out hown4 hg4 hat5)
 obtain ⟨cs, hco4, _⟩ := H6.out.blks (it := ⟨ik, ir, .slice iA ir.length ic⟩) hg4
 obtain ⟨cg, hcg4, _, hg5, hg6, _, hg7⟩ := own_blk hown4
 have u0 := row_at (j := ir.length * 5) hcg4 hg7 (by rw [List.getElem?_append_right (by rw [cells5_len]; exact Nat.le_refl _), cells5_len, Nat.sub_self]; rfl)
 have u1 := row_at (j := ir.length * 5 + 1) hcg4 hg7 (by rw [List.getElem?_append_right (by rw [cells5_len]; omega), cells5_len, Nat.add_sub_cancel_left]; rfl)
 have u2 := row_at (j := ir.length * 5 + 2) hcg4 hg7 (by rw [List.getElem?_append_right (by rw [cells5_len]; omega), cells5_len, Nat.add_sub_cancel_left]; rfl)
 have u3 := row_at (j := ir.length * 5 + 3) hcg4 hg7 (by rw [List.getElem?_append_right (by rw [cells5_len]; omega), cells5_len, Nat.add_sub_cancel_left]; rfl)
 have u4 := row_at (j := ir.length * 5 + 4) hcg4 hg7 (by rw [List.getElem?_append_right (by rw [cells5_len]; omega), cells5_len, Nat.add_sub_cancel_left]; rfl)
 have uf0 := hcg4.free (ir.length * 5)
 have uf1 := hcg4.free (ir.length * 5 + 1)
 have uf2 := hcg4.free (ir.length * 5 + 2)
 have uf3 := hcg4.free (ir.length * 5 + 3)
 have uf4 := hcg4.free (ir.length * 5 + 4)
 have uo4 : w4.cell? ⟨ob, L.length * 5 + 4, none⟩ = some (.slice iA ir.length ic) := by
  obtain ⟨cs', h1, h2⟩ := H6.out.blks (it := ⟨ik, ir, .slice iA ir.length ic⟩) hg4
  rw [h1.cell, ← h2.cell]
  exact (acQ5 H6.out.own).2.2.2.2.1
 have ufo := hco4.free (L.length * 5 + 4)
 unfold maxLen at hg6
 clear hown4 hg4 hat4 hat5 hco4 hcg4 hg7
 try simp only [Act.put, List.setIfInBounds_toArray, List.set_cons_zero, List.set_cons_succ]
 refine hK7.out _ _ (Till.over (k := 7) (by rfl) (by kernel_rfl)) (fun hS => ?_)
 clear hK7 K7
 try simp only [Act.put, List.setIfInBounds_toArray, List.set_cons_zero, List.set_cons_succ]
 refine aaQa (i := 8) (fun _ => True) (v := .pointer (some ⟨g, ir.length * 5, none⟩)) rfl (by kernel_rfl) (by kernel_rfl) (by kernel_rfl) (fun _ _ _ h => h) (fun _ _ _ _ => trivial) (Till.io rfl) (by kernel_rfl) hS (fun w' hSw => ?_) (by rfl) (fun hS => ?_)
 ·go_simp
  exact fun h => absurd h (by omega)
 try simp only [Act.put, List.setIfInBounds_toArray, List.set_cons_zero, List.set_cons_succ]
 refine aaQa (i := 10) (fun _ => True) (v := .pointer (some ⟨ob, L.length * 5, none⟩)) rfl (by kernel_rfl) (by kernel_rfl) (by kernel_rfl) (fun _ _ _ h => h) (fun _ _ _ _ => trivial) (Till.io rfl) (by kernel_rfl) hS (fun w' hSw => ?_) (by rfl) (fun hS => ?_)
 ·go_simp
 try simp only [Act.put, List.setIfInBounds_toArray, List.set_cons_zero, List.set_cons_succ]
 refine aaQa (i := 11) (fun _ => True) (v := .pointer (some ⟨ob, L.length * 5 + 4, none⟩)) rfl (by kernel_rfl) (by kernel_rfl) (by kernel_rfl) (fun _ _ _ h => h) (fun _ _ _ _ => trivial) (Till.io rfl) (by kernel_rfl) hS (fun w' hSw => ?_) (by rfl) (fun hS => ?_)
 ·go_simp
 try simp only [Act.put, List.setIfInBounds_toArray, List.set_cons_zero, List.set_cons_succ]
 refine wpAnyS_two (i := 9) (j := 12) (by kernel_rfl) rfl rfl (fun K9 hK9 => ?_) (fun K9 hK9 => ?_)
 ·go_simp
  refine hK9.out _ _ (Till.over (k := 7) (by rfl) (by kernel_rfl)) (fun hS => ?_)
  clear hK9 K9
  try simp only [Act.put, List.setIfInBounds_toArray, List.set_cons_zero, List.set_cons_succ]
  refine aaQb (i := 12) (by kernel_rfl) rfl (fun K9 hK9 => ?_)
  go_simp
  refine hK9.out _ _ (Till.over (k := 7) (by rfl) (by kernel_rfl)) (fun hS => ?_)
  clear hK9 K9
  try simp only [Act.put, List.setIfInBounds_toArray, List.set_cons_zero, List.set_cons_succ]
  refine aaQh (by kernel_rfl) ?_ _
  exact hK _ _ (HREST.out g c4 _ _ (ActR.of _ (by kernel_rfl)) HA.out)
 ·go_simp
  refine hK9.out _ _ (Till.over (k := 7) (by rfl) (by kernel_rfl)) (fun hS => ?_)
  clear hK9 K9
  try simp only [Act.put, List.setIfInBounds_toArray, List.set_cons_zero, List.set_cons_succ]
  refine aaQb (i := 9) (by kernel_rfl) rfl (fun K9 hK9 => ?_)
  go_simp
  refine hK9.out _ _ (Till.over (k := 7) (by rfl) (by kernel_rfl)) (fun hS => ?_)
  clear hK9 K9
  try simp only [Act.put, List.setIfInBounds_toArray, List.set_cons_zero, List.set_cons_succ]
  refine aaQh (by kernel_rfl) ?_ _
  exact hK _ _ (HREST.out g c4 _ _ (ActR.of _ (by kernel_rfl)) HB.out)
end Go.Proofs.YtdhgiammfpjniaaGreatDoor.Ev
