/- A table of architectures in memory, as the list that it stands for; the contracts of Score and Better. -/
import Derived.Test.YtahodhodkgdgnaaCutW
import Derived.DeepKeys4
import Derived.WideKeyArgs2
namespace Go.Proofs.Ytahodhodkgdgnaa
set_option linter.unusedSimpArgs false
set_option linter.unusedVariables false
open Go.RowKit
open Go.Maps (Keyed string_keyed)

theorem lawS : Keyed Try.prog 9 := string_keyed Try.underlying9
theorem laidOut : laidOutB Try.prog = true := by kernel_rfl

/-! Small numbers as floats. -/
def fb (n : Nat) : Nat := ([0, 4607182418800017408, 4611686018427387904, 4613937818241073152, 4616189618054758400, 4617315517961601024, 4618441417868443648, 4619567317775286272, 4620693217682128896, 4621256167635550208, 4621819117588971520, 4622382067542392832, 4622945017495814144, 4623507967449235456, 4624070917402656768, 4624633867356078080, 4625196817309499392, 4625478292286210048, 4625759767262920704] : List Nat).getD n 0
theorem fb_add (n : Nat) (h : n ≤ 17) : floatBits .add .f64 (fb n) 4607182418800017408 = some (fb (n + 1)) := by
  have : ∀ m : Fin 18, floatBits .add .f64 (fb m.1) 4607182418800017408 = some (fb (m.1 + 1)) := by decide +kernel
  exact this ⟨n, by omega⟩
theorem fb_add0 (n : Nat) (h : n ≤ 18) : floatBits .add .f64 (fb n) 0 = some (fb n) := by
  have : ∀ m : Fin 19, floatBits .add .f64 (fb m.1) 0 = some (fb m.1) := by decide +kernel
  exact this ⟨n, by omega⟩
theorem fb_int (n : Nat) (h : n ≤ 18) : floatToIntVal .f64 (fb n) .i64 = some (n : Int) := by
  have : ∀ m : Fin 19, floatToIntVal .f64 (fb m.1) .i64 = some ((m.1 : Nat) : Int) := by decide +kernel
  exact this ⟨n, by omega⟩
theorem fb_gt (n : Nat) (h : n ≤ 18) : (FloatKind.f64.format.order (fb n) 4625196817309499392 == some .gt) = decide (16 < n) := by
  have : ∀ m : Fin 19, (FloatKind.f64.format.order (fb m.1) 4625196817309499392 == some .gt) = decide (16 < m.1) := by decide +kernel
  exact this ⟨n, by omega⟩

/-! Scores and places as complex numbers. -/
def cval (p : Nat × Nat) : Value := .complex .f64 (fb p.1) (fb p.2)
def cElem (v : Value) : Option (DataW Unit × List MemPlace) :=
  match v with
  | .complex .f64 a b => some (.agg [.lit (.float .f64 a), .lit (.float .f64 b)], [])
  | _ => none
def dC (p : Nat × Nat) : DataW Unit := .agg [.lit (.float .f64 (fb p.1)), .lit (.float .f64 (fb p.2))]
theorem cElem_val (p : Nat × Nat) : cElem (cval p) = some (dC p, []) := rfl
theorem cElem_inv {v : Value} {p : Nat × Nat} {ps : List MemPlace} (h : cElem v = some (dC p, ps)) : v = cval p := by
  unfold cElem at h
  split at h
  · simp only [Option.some.injEq, Prod.mk.injEq, dC, DataW.agg.injEq, List.cons.injEq, DataW.lit.injEq, Lit.float.injEq] at h
    obtain ⟨⟨⟨_, h1⟩, ⟨_, h2⟩, _⟩, _⟩ := h
    unfold cval
    rw [← h1, ← h2]
  · cases h
theorem zeroC (w : World) : (zeroValue 38).run Try.prog w = .ok (.complex .f64 0 0) w := by kernel_rfl

structure AgreesC (D : DataW Unit) (T : Tb) : Prop where
  map : Maps.IsMap D
  has : ∀ s : ByteArray, Maps.has D (kdS s) = (findT 0 T s.data.toList).isSome
  at_ : ∀ (s : ByteArray) (p : Nat × Nat), D.atKey (kdS s) (dC p) = dC ((findT 0 T s.data.toList).getD p)
theorem AgreesC.nil : AgreesC (.map []) [] := ⟨Maps.isMap_empty, fun _ => rfl, fun _ _ => rfl⟩
theorem AgreesC.put {D : DataW Unit} {T : Tb} (h : AgreesC D T) (n : ByteArray) (sc : Nat) (hn : findT 0 T n.data.toList = none) :
    AgreesC (D.put (kdS n) (dC (sc, T.length))) (T ++ [(n.data.toList, sc)]) := by
  refine ⟨h.map.put _ _, fun s => ?_, fun s p => ?_⟩
  · rw [find_snoc]
    by_cases hs : s = n
    · subst hs
      rw [Maps.has_put_same h.map (kdS_key _), if_pos rfl, hn]; rfl
    · rw [Maps.has_put_other (fun e => hs (kdS_inj _ _ e)), h.has s, if_neg (fun e => hs (s_ext e.symm)), Option.or_none]
  · rw [find_snoc]
    by_cases hs : s = n
    · subst hs
      rw [Maps.atKey_put_same h.map (kdS_key _), if_pos rfl, hn, Nat.zero_add]; rfl
    · rw [Maps.atKey_put_other (fun e => hs (kdS_inj _ _ e)), h.at_ s, if_neg (fun e => hs (s_ext e.symm)), Option.or_none]

/-- A table in memory. -/
def Tab (w : World) (bt : Nat) (T : Tb) : Prop :=
  GoodT T ∧ ∃ bm D, Blk w bt 47 #[.map (some bm)] ∧ w.ownsMap Try.prog 9 cElem bm T.length D ∧ AgreesC D T
theorem Tab.below {w w' : World} {bt : Nat} {T : Tb} (h : Tab w bt T) (hb : Below w.heap.size w w') : Tab w' bt T := by
  obtain ⟨hg, bm, D, hB, hM, hA⟩ := h
  exact ⟨hg, bm, D, hB.below hb hB.lt, map_turned (F := []) hM (Turned.of_below hb []) (by simp), hA⟩

set_option maxRecDepth 100000 in
theorem score_any (w : World) (bt : Nat) (T : Tb) (s : ByteArray) (hs : s.size ≤ maxLen) (h : Tab w bt T) :
    Calls Try.prog 11 #[.pointer (some ⟨bt, 0, none⟩), .string s] w fun e w' => e = .returned (.int .i64 (scoreT T s.data.toList)) ∧ w = w' := by
  obtain ⟨hg, bm, D, hB, hM, hA⟩ := h
  have c0 : w.cell? ⟨bt, 0, none⟩ = some (.map (some bm)) := hB.cell 0
  have hkey := Go.WideMaps.keyOf_string_mk (P := Try.prog) Try.underlying9 hs
  obtain ⟨v, ps, hrun, hv⟩ := hM.lookup lawS Try.underlying39 (zeroC w) (zd := dC (0, 0)) (zp := []) rfl hkey
  have hat := hA.at_ s (0, 0)
  unfold kdS at hat
  rw [hat] at hv
  obtain rfl := cElem_inv hv
  have hsc : ((findT 0 T s.data.toList).getD (0, 0)).1 = scoreT T s.data.toList := by
    unfold scoreT; cases findT 0 T s.data.toList <;> rfl
  have hle := hg.score_le s.data.toList
  have hcv : ∀ w, (convert 44 3 (.float .f64 (fb (scoreT T s.data.toList)))).run Try.prog w = .ok (.int .i64 (scoreT T s.data.toList)) w := fun w =>
    run_convert_float_int w _ _ _ _ _ _ (by kernel_rfl) Try.underlying3 (fb_int _ (by omega))
  unfold cval at hrun
  rw [hsc] at hrun
  generalize fb (scoreT T s.data.toList) = x at *
  generalize fb ((findT 0 T s.data.toList).getD (0, 0)).2 = y at *
  generalize scoreT T s.data.toList = z at *
  clear hM hA hB hg hkey hat hv hsc hs hle
  go_enter Try.func11, Try.ntmps11
  go_wp2_with fail
  go_ret
  exact ⟨rfl, rfl⟩
set_option maxRecDepth 100000 in
theorem score_nil (w : World) (s : ByteArray) :
    Calls Try.prog 11 #[.pointer none, .string s] w fun e w' => e = .returned (.int .i64 0) ∧ w = w' := by
  go_enter Try.func11, Try.ntmps11
  go_wp2_with fail
  go_ret
  exact ⟨rfl, rfl⟩

/-- What the two scores tell. -/
def better2 (x y : Nat) : Int := if x = y then 0 else if 0 < x ∧ (y = 0 ∨ x < y) then -1 else 1
theorem better2_zero {x y : Nat} (h : x = 0 ∨ y = 0) : Lib.compareInt (y : Int) (x : Int) = better2 x y := by
  unfold Lib.compareInt better2
  repeat' split
  all_goals omega
theorem better2_pos {x y : Nat} (h : ¬ x = 0) (h' : ¬ y = 0) : Lib.compareInt (x : Int) (y : Int) = better2 x y := by
  unfold Lib.compareInt better2
  repeat' split
  all_goals omega
set_option maxRecDepth 100000 in
theorem better_walk (w : World) (p : Option Addr) (a b : ByteArray) (x y : Nat)
    (ha : Calls Try.prog 11 #[.pointer p, .string a] w fun e w' => e = .returned (.int .i64 (x : Int)) ∧ w = w')
    (hb : Calls Try.prog 11 #[.pointer p, .string b] w fun e w' => e = .returned (.int .i64 (y : Int)) ∧ w = w') :
    Calls Try.prog 13 #[.pointer p, .string a, .string b] w fun e w' => e = .returned (.int .i64 (better2 x y)) ∧ w = w' := by
  have CA := Lib.hid ha
  have CB := Lib.hid hb
  clear ha hb
  by_cases h : x = 0
  · subst h
    have CC := Lib.hid (Try.cmp_Compare_int (y : Int) 0)
    have HE := Lib.hid (better2_zero (x := 0) (y := y) (.inl rfl))
    go_enter Try.func13, Try.ntmps13
    go_wp2_with fail
    refine CA.out.mono ?_
    rintro e w1 ⟨rfl, rfl⟩
    go_wp2_with fail
    refine CB.out.mono ?_
    rintro e w1 ⟨rfl, rfl⟩
    go_wp2_with fail
    refine (CC.out _).mono ?_
    rintro e w1 ⟨rfl, rfl⟩
    go_wp2_with fail
    go_ret
    exact ⟨by rw [← HE.out]; rfl, rfl⟩
  · by_cases h' : y = 0
    · subst h'
      have CC := Lib.hid (Try.cmp_Compare_int 0 (x : Int))
      have HE := Lib.hid (better2_zero (x := x) (y := 0) (.inr rfl))
      have t1 : ((x : Int) == 0) = false := by simpa using h
      clear h
      go_enter Try.func13, Try.ntmps13
      go_wp2_with fail
      refine CA.out.mono ?_
      rintro e w1 ⟨rfl, rfl⟩
      go_wp2_with fail
      refine CB.out.mono ?_
      rintro e w1 ⟨rfl, rfl⟩
      go_wp2_with fail
      refine (CC.out _).mono ?_
      rintro e w1 ⟨rfl, rfl⟩
      go_wp2_with fail
      go_ret
      exact ⟨by rw [← HE.out]; rfl, rfl⟩
    · have CC := Lib.hid (Try.cmp_Compare_int (x : Int) (y : Int))
      have HE := Lib.hid (better2_pos h h')
      have t1 : ((x : Int) == 0) = false := by simpa using h
      have t2 : ((y : Int) == 0) = false := by simpa using h'
      clear h h'
      go_enter Try.func13, Try.ntmps13
      go_wp2_with fail
      refine CA.out.mono ?_
      rintro e w1 ⟨rfl, rfl⟩
      go_wp2_with fail
      refine CB.out.mono ?_
      rintro e w1 ⟨rfl, rfl⟩
      go_wp2_with fail
      refine (CC.out _).mono ?_
      rintro e w1 ⟨rfl, rfl⟩
      go_wp2_with fail
      go_ret
      exact ⟨by rw [← HE.out]; rfl, rfl⟩
theorem better_any (w : World) (bt : Nat) (T : Tb) (a b : ByteArray) (ha : a.size ≤ maxLen) (hb : b.size ≤ maxLen) (h : Tab w bt T) :
    Calls Try.prog 13 #[.pointer (some ⟨bt, 0, none⟩), .string a, .string b] w fun e w' => e = .returned (.int .i64 (betterT T a.data.toList b.data.toList)) ∧ w = w' :=
  better_walk w _ a b _ _ (score_any w bt T a ha h) (score_any w bt T b hb h)
theorem better_nil (w : World) (a b : ByteArray) :
    Calls Try.prog 13 #[.pointer none, .string a, .string b] w fun e w' => e = .returned (.int .i64 0) ∧ w = w' :=
  better_walk w none a b 0 0 (score_nil w a) (score_nil w b)
end Go.Proofs.Ytahodhodkgdgnaa
