/- A stanza: what one more line makes of it, pure and in memory. A stanza is read: pure, and what its reading asks. A stanza is read: the walk. -/
import Derived.Test.YtljldbdjkjllhaaGreatDoorWpa
import Derived.Test.YtljldbdjkjllhaaGreatDoorWca
import Derived.Test.YtljldbdjkjllhaaGreatDoorWoa
import Derived.Test.YtljldbdjkjllhaaGreatDoorWdb
import Derived.Deep.LoopGhost
/- A stanza: what one more line makes of it, pure and in memory. -/
namespace Go.Proofs.YtljldbdjkjllhaaGreatDoor
set_option linter.unusedSimpArgs false
set_option linter.unusedVariables false
open Go.RowKit Go.MapKept

def putO (k : ByteArray) (v : Value) : List (ByteArray × Value) → List (ByteArray × Value)
  | [] => [(k, v)]
  | (a, u) :: r => if k = a then (a, v) :: r else (a, u) :: putO k v r
theorem find_put (k : ByteArray) (v : Value) : ∀ (l : List (ByteArray × Value)) (i j : Nat), (lookO k l = none ∧ Instr.findNow .string (.string k) (mapEs l i) j = some none ∧ putO k v l = l ++ [(k, v)]) ∨
    ∃ p u, lookO k l = some u ∧ Instr.findNow .string (.string k) (mapEs l i) j = some (some (j + p, u)) ∧ (mapEs l i)[p]? = some ⟨.string k, u, i + p⟩ ∧ mapEs (putO k v l) i = (mapEs l i).modify p (fun e => { e with key := .string k, val := v }) ∧ (putO k v l).length = l.length
  | [], i, j => .inl ⟨rfl, rfl, rfl⟩
  | (a, u) :: r, i, j => by
    by_cases h : k = a
    · subst h
      have hp : putO k v ((k, u) :: r) = (k, v) :: r := if_pos rfl
      rw [hp]
      refine .inr ⟨0, u, if_pos rfl, ?_, rfl, rfl, rfl⟩
      unfold mapEs Instr.findNow
      rw [same_str, decide_eq_true rfl]
      rfl
    · have hp : putO k v ((a, u) :: r) = (a, u) :: putO k v r := if_neg h
      have hl : lookO k ((a, u) :: r) = lookO k r := if_neg h
      have hf : Instr.findNow .string (.string k) (mapEs ((a, u) :: r) i) j = Instr.findNow .string (.string k) (mapEs r (i + 1)) (j + 1) := by
        show Instr.findNow .string (.string k) ((⟨.string a, u, i⟩ : MapEntry) :: mapEs r (i + 1)) j = _
        rw [Instr.findNow.eq_def]
        simp only [same_str]
        rw [decide_eq_false h]
      rw [hp, hl, hf]
      rcases find_put k v r (i + 1) (j + 1) with ⟨h1, h2, h3⟩ | ⟨p, u', h1, h2, h3, h4, h5⟩
      · exact .inl ⟨h1, h2, by rw [h3]; rfl⟩
      · refine .inr ⟨p + 1, u', h1, ?_, ?_, ?_, ?_⟩
        · rw [show j + (p + 1) = j + 1 + p from by omega]
          exact h2
        · rw [show i + (p + 1) = i + 1 + p from by omega]
          exact h3
        · show (⟨.string a, u, i⟩ : MapEntry) :: mapEs (putO k v r) (i + 1) = (⟨.string a, u, i⟩ : MapEntry) :: (mapEs r (i + 1)).modify p _
          rw [h4]
        · rw [List.length_cons, h5]
          rfl
section
variable {P : Program} {w : World} {mty kt et : TypeId} {m : Nat} {l : List (ByteArray × Value)} {k : ByteArray} {v : Value}
theorem run_putA (hm : P.underlying mty = some (.map kt et)) (hd : P.underlying kt = some .string) (hb : w.heap[m]? = some (mapO l)) :
    ∃ w', (Instr.mapUpdate mty (.map (some m)) (.string k) v).run P w = .ok () w' ∧ w'.heap[m]? = some (mapO (putO k v l)) ∧ Turned [m] w w' := by
  rcases find_put k v l 0 0 with ⟨h1, h2, h3⟩ | ⟨p, u, h1, h2, h3, h4, h5⟩
  · rw [h3]
    exact run_put hm hd hb h1
  · have hk : IsKey .string (.string k) := by simp [IsKey]
    have hb' := hb
    unfold mapO at hb
    refine ⟨{ w with heap := w.heap.setIfInBounds m (mapO (putO k v l)) }, ?_, (heap_set hb').1, ⟨rfl, rfl, rfl, by simp, fun j hj hjm => (heap_set hb').2 j (fun e => hjm (by simp [e]))⟩⟩
    have he : mapO (putO k v l) = .map ((mapEs l 0).toArray.modify p fun e => { e with key := .string k, val := v }) l.length := by
      unfold mapO
      rw [h4, h5]
      simp
    have hj : (mapEs l 0).toArray[p]? = some ⟨.string k, u, 0 + p⟩ := by simpa using h3
    rw [he]
    rw [Nat.zero_add] at h2
    simp [Instr.mapUpdate, run_underlying hm, Go.MapKept.run_getObj_map hb, run_checkKey hd hk, run_findKey hd h2, h3, run_keyThatStays hk, run_setObj_map _ hb, Result.andThen]
end
theorem wpList_put_map {P : Program} (w : World) {ops : Array Oper} {rest : List Oper} {o : Oper} {a : Act} {Q : Exit → Act → World → Prop}
    (hg : o.guard = none) (m x v : Operand) (t : TypeId) (hop : o.op = Op.mapUpdate t m x v)
    (kt et : TypeId) (ht : P.underlying t = some (.map kt et)) (hd : P.underlying kt = some .string) (b : Nat) (l : List (ByteArray × Value)) (hm : a.eval m = .map (some b)) (hb : w.heap[b]? = some (mapO l))
    (key : ByteArray) (val : Value) (hx : a.eval x = .string key) (hv : a.eval v = val)
    (hK : ∀ w', w'.heap[b]? = some (mapO (putO key val l)) → Turned [b] w w' → wpList P ops Q rest (a.put o.dst undef) w') :
    wpList P ops Q (o :: rest) a w := by
  refine wpList_plain hg fun K' hK' => ?_
  obtain ⟨w', hrun, r1, r2⟩ := run_putA (v := val) (k := key) ht hd hb
  unfold Oper.wp
  simp [execOp, hop, hm, hx, hv, hrun, Result.andThen]
  exact hK' _ _ (hK w' r1 r2)
/-! A stanza. -/
def addS : Stz → Bs → Bs → Stz
  | [], n, x => [(n, [x])]
  | (a, l) :: r, n, x => if n = a then (a, l ++ [x]) :: r else (a, l) :: addS r n x
def putV : Stz → List Value → Bs → Value → List Value
  | (a, _) :: r, v :: t, n, v' => if n = a then v' :: t else v :: putV r t n v'
  | _, _, _, v' => [v']
def ApV (vs : List Value) : Prop := vs.Pairwise fun a b => ∀ k, a.ownBlock = some k → b.ownBlock ≠ some k
section
variable {w w' : World} {B : Nat} {n x : Bs} {v v' : Value}
theorem szEs_put : ∀ {s : Stz} {vs : List Value}, RowsS w B s vs → szEs (addS s n x) (putV s vs n v') = putO (mkS n) v' (szEs s vs)
  | [], [], _ => rfl
  | (a, l) :: r, u :: t, ⟨h1, h2, h3⟩ => by
    show _ = if mkS n = mkS a then (mkS a, v') :: szEs r t else (mkS a, u) :: putO (mkS n) v' (szEs r t)
    by_cases h : n = a
    · subst h
      rw [show addS ((n, l) :: r) n x = (n, l ++ [x]) :: r from if_pos rfl, show putV ((n, l) :: r) (u :: t) n v' = v' :: t from if_pos rfl, if_pos rfl]
      rfl
    · rw [show addS ((a, l) :: r) n x = (a, l) :: addS r n x from if_neg h, show putV ((a, l) :: r) (u :: t) n v' = u :: putV r t n v' from if_neg h, if_neg (fun e => h (mkS_inj_ e)), ← szEs_put h3]
      rfl
theorem look_mem : ∀ {s : Stz} {vs : List Value}, RowsS w B s vs → lookO (mkS n) (szEs s vs) = none ∨ ∃ u ∈ vs, lookO (mkS n) (szEs s vs) = some u
  | [], [], _ => .inl rfl
  | (a, l) :: r, u :: t, ⟨h1, h2, h3⟩ => by
    show (if mkS n = mkS a then some u else lookO (mkS n) (szEs r t)) = none ∨ ∃ u' ∈ u :: t, (if mkS n = mkS a then some u else lookO (mkS n) (szEs r t)) = some u'
    by_cases h : mkS n = mkS a
    · rw [if_pos h]
      exact .inr ⟨u, by simp, rfl⟩
    · rw [if_neg h]
      rcases look_mem h3 with h4 | ⟨u', hu, h4⟩
      · exact .inl h4
      · exact .inr ⟨u', List.mem_cons_of_mem _ hu, h4⟩
theorem rows_lt : ∀ {s : Stz} {vs : List Value}, RowsS w B s vs → ∀ u ∈ vs, ∀ k, u.ownBlock = some k → k < w.heap.size
  | [], [], _ => fun u hu => by cases hu
  | (a, l) :: r, u0 :: t, ⟨h1, h2, h3⟩ => fun u hu k hk => by
    rcases List.mem_cons.1 hu with rfl | hu
    · exact own_lt h2 hk
    · exact rows_lt h3 u hu k hk
theorem rows_stay (hg : w.grownBy w' v.ownBlock) : ∀ {s : Stz} {vs : List Value}, RowsS w B s vs → (∀ u ∈ vs, ∀ k, u.ownBlock = some k → v.ownBlock ≠ some k) → RowsS w' B s vs
  | [], [], _, _ => trivial
  | (a, l) :: r, u :: t, ⟨h1, h2, h3⟩, hne => ⟨h1, own_turned h2 ((Turned.refl _ w).grown (F := v.ownBlock.toList) hg (fun k hk => .inl (by rw [hk]; simp))) (fun k hk hm => hne u (by simp) k hk (by simpa using hm)), rows_stay hg h3 (fun u' hu' => hne u' (List.mem_cons_of_mem _ hu'))⟩
theorem putV_mem : ∀ {s : Stz} {vs : List Value} {u : Value}, u ∈ putV s vs n v' → u = v' ∨ u ∈ vs
  | [], vs, u, h => by
    have h : u ∈ [v'] := by cases vs <;> exact h
    exact .inl (List.mem_singleton.1 h)
  | (a, l) :: r, [], u, h => .inl (List.mem_singleton.1 h)
  | (a, l) :: r, u0 :: t, u, h => by
    have h : u ∈ (if n = a then v' :: t else u0 :: putV r t n v') := h
    split at h
    · rcases List.mem_cons.1 h with e | h
      · exact .inl e
      · exact .inr (List.mem_cons_of_mem _ h)
    · rcases List.mem_cons.1 h with e | h
      · exact .inr (by rw [e]; simp)
      · rcases putV_mem h with e | h
        · exact .inl e
        · exact .inr (List.mem_cons_of_mem _ h)
theorem rows_put (hg : w.grownBy w' v.ownBlock) (hat : v'.ownBlock = v.ownBlock ∨ v'.ownBlock = some w.heap.size) : ∀ {s : Stz} {vs : List Value}, RowsS w B s vs → ApV vs → (lookO (mkS n) (szEs s vs)).getD (.slice none 0 0) = v →
    w'.ownsRow B 9 1 v' ((getS s n).length + 1) ((getS s n ++ [x]).map fun p => Value.string (mkS p)) → RowsS w' B (addS s n x) (putV s vs n v') ∧ ApV (putV s vs n v')
  | [], [], _, _, _, ho => ⟨⟨by simp, ho, trivial⟩, List.pairwise_singleton _ _⟩
  | (a, l) :: r, u :: t, ⟨h1, h2, h3⟩, hA, hv, ho => by
    obtain ⟨hA1, hA2⟩ := List.pairwise_cons.1 hA
    have hv : (if mkS n = mkS a then some u else lookO (mkS n) (szEs r t)).getD (.slice none 0 0) = v := hv
    have ho : w'.ownsRow B 9 1 v' ((if n = a then l else getS r n).length + 1) (((if n = a then l else getS r n) ++ [x]).map fun p => Value.string (mkS p)) := ho
    by_cases h : n = a
    · subst h
      rw [if_pos rfl] at hv ho
      have hv : u = v := hv
      subst hv
      rw [show addS ((n, l) :: r) n x = (n, l ++ [x]) :: r from if_pos rfl, show putV ((n, l) :: r) (u :: t) n v' = v' :: t from if_pos rfl]
      refine ⟨⟨by simp, by rw [List.length_append]; exact ho, rows_stay hg h3 (fun u' hu' k hk e => hA1 u' hu' k e hk)⟩, List.pairwise_cons.2 ⟨fun u' hu' k hk => ?_, hA2⟩⟩
      rcases hat with e | e
      · exact hA1 u' hu' k (by rw [← e]; exact hk)
      · intro hk'
        have := rows_lt h3 u' hu' k hk'
        rw [e] at hk
        injection hk with hk
        omega
    · rw [if_neg (fun e => h (mkS_inj_ e))] at hv
      rw [if_neg h] at ho
      obtain ⟨ih1, ih2⟩ := rows_put hg hat h3 hA2 hv ho
      have hne : ∀ k, u.ownBlock = some k → v.ownBlock ≠ some k := fun k hk => by
        rcases look_mem (n := n) h3 with e | ⟨u', hu', e⟩
        · rw [e] at hv
          rw [← hv]
          intro e
          cases e
        · rw [e] at hv
          have hv : u' = v := hv
          rw [← hv]
          exact hA1 u' hu' k hk
      rw [show addS ((a, l) :: r) n x = (a, l) :: addS r n x from if_neg h, show putV ((a, l) :: r) (u :: t) n v' = u :: putV r t n v' from if_neg h]
      refine ⟨⟨h1, own_turned h2 ((Turned.refl _ w).grown (F := v.ownBlock.toList) hg (fun k hk => .inl (by rw [hk]; simp))) (fun k hk hm => hne k hk (by simpa using hm)), ih1⟩, List.pairwise_cons.2 ⟨fun u' hu' k hk => ?_, ih2⟩⟩
      rcases putV_mem hu' with rfl | hu'
      · rcases hat with e | e
        · rw [e]
          exact hne k hk
        · rw [e]
          intro e'
          injection e' with e'
          have := own_lt h2 hk
          omega
      · exact hA1 u' hu' k hk
end
end Go.Proofs.YtljldbdjkjllhaaGreatDoor

/- A stanza is read: pure, and what its reading asks. -/
namespace Go.Proofs.YtljldbdjkjllhaaGreatDoor
set_option linter.unusedSimpArgs false
set_option linter.unusedVariables false
open Go.RowKit Go.MapKept

inductive RdS where
  | stop
  | bad
  | go (s : Stz) (last : Bs)
def badN (s : Stz) (c : Bs × Bs × Bool) : Bool := !c.2.2 || c.1.isEmpty || decide (plainN dLayS c.1 < c.1.length) || !(getS s c.1).isEmpty
def stepX (ln : Bs) (s : Stz) (last : Bs) : RdS :=
  if dTrim ln = [] then .stop
  else if ln.headD 0 = 35 then .go s last
  else if dLay (ln.headD 0) = false then
    if badN s (Lib.cut ln [58]) = true then .bad else .go (addS s (Lib.cut ln [58]).1 (dTrim (Lib.cut ln [58]).2.1)) (Lib.cut ln [58]).1
  else if last = [] then .bad
  else .go (addS s last (dTrim ln)) last
def readX : Nat → Bs → Stz → Bs → Option (Stz × Bs)
  | 0, _, s, _ => some (s, [])
  | n + 1, t, s, last => if t = [] then some (s, []) else match stepX (Lib.cut t [10]).1 s last with
    | .stop => some (s, (Lib.cut t [10]).2.1)
    | .bad => none
    | .go s' l' => readX n (Lib.cut t [10]).2.1 s' l'
/-! Weights. -/
def wtL (l : List Bs) : Nat := (l.map fun x => x.length + 1).sum
def wtS (s : Stz) : Nat := (s.map fun e => wtL e.2).sum
theorem wtL_app (l m : List Bs) : wtL (l ++ m) = wtL l + wtL m := by unfold wtL; simp
theorem wtS_add (n x : Bs) : ∀ s : Stz, wtS (addS s n x) = wtS s + (x.length + 1)
  | [] => by show wtS [(n, [x])] = _; simp [wtS, wtL]
  | (a, l) :: r => by
    by_cases h : n = a
    · rw [show addS ((a, l) :: r) n x = (a, l ++ [x]) :: r from if_pos h]
      show wtL (l ++ [x]) + wtS r = wtL l + wtS r + _
      rw [wtL_app]
      have : wtL [x] = x.length + 1 := by simp [wtL]
      omega
    · rw [show addS ((a, l) :: r) n x = (a, l) :: addS r n x from if_neg h]
      show wtL l + wtS (addS r n x) = wtL l + wtS r + _
      rw [wtS_add n x r]
      omega
theorem wt_get (n : Bs) : ∀ s : Stz, wtL (getS s n) ≤ wtS s
  | [] => by simp [getS, wtL, wtS]
  | (a, l) :: r => by
    show wtL (if n = a then l else getS r n) ≤ wtL l + wtS r
    by_cases h : n = a
    · rw [if_pos h]; omega
    · rw [if_neg h]; have := wt_get n r; omega
theorem wt_len : ∀ l : List Bs, l.length ≤ wtL l
  | [] => Nat.zero_le _
  | x :: r => by
    have := wt_len r
    show r.length + 1 ≤ (x.length + 1) + wtL r
    omega
theorem join_len : ∀ l : List Bs, (joinX l).length ≤ wtL l
  | [] => Nat.zero_le _
  | [x] => by
    unfold joinX
    rw [Lib.join_one]
    show x.length ≤ (x.length + 1) + 0
    omega
  | x :: y :: r => by
    have ih := join_len (y :: r)
    have e : joinX (x :: y :: r) = x ++ [32] ++ joinX (y :: r) := by
      unfold joinX Lib.join
      simp [List.intercalate, List.intersperse]
    rw [e]
    show _ ≤ (x.length + 1) + wtL (y :: r)
    simp only [List.length_append, List.length_singleton]
    omega
theorem cutc_len (c : UInt8) (l : Bs) : (Lib.cut l [c]).1.length ≤ l.length ∧ (Lib.cut l [c]).2.1.length ≤ l.length ∧ (l ≠ [] → (Lib.cut l [c]).2.1.length < l.length ∧ (Lib.cut l [c]).1.length + 1 + 2 * (Lib.cut l [c]).2.1.length ≤ 2 * l.length) := by
  unfold Lib.cut
  split
  · refine ⟨by show (l.take _).length ≤ _; simp; omega, by show (l.drop _).length ≤ _; simp, fun hne => ?_⟩
    have h0 : 0 < l.length := List.length_pos_iff.2 hne
    show (l.drop _).length < _ ∧ (l.take _).length + 1 + 2 * (l.drop _).length ≤ _
    simp only [List.length_drop, List.length_take, List.length_singleton]
    omega
  · refine ⟨Nat.le_refl _, Nat.zero_le _, fun hne => ?_⟩
    have h0 : 0 < l.length := List.length_pos_iff.2 hne
    show (0 : Nat) < _ ∧ l.length + 1 + 2 * 0 ≤ _
    omega
/-! The functions that it calls. -/
theorem cutc_any (c : UInt8) (t : Bs) (ht : t.length ≤ 40000) (w : World) (hM : MaxAt w) :
    Calls Tryz.prog 53 #[.string (mkS t), .string (mkS [c])] w fun e w' => e = .returned (.tuple #[.string (mkS (Lib.cut t [c]).1), .string (mkS (Lib.cut t [c]).2.1), .bool (Lib.cut t [c]).2.2]) ∧ Below w.heap.size w w' := by
  obtain ⟨m, hm⟩ := hM
  refine (Tryz.strings_Cut (mkS t) (mkS [c]) m w (by rw [mkS_size]; omega) hm).mono ?_
  rintro e w' ⟨rfl, n, rfl⟩
  exact ⟨rfl, below_drewN' (Below.refl _ _) n⟩
theorem contains_any {cs : Bs} (hse : Seps cs) (l : Bs) (hl : l.length ≤ 200000) (w : World) :
    Calls Tryz.prog 56 #[.string (mkS l), .string (mkS cs)] w fun e w' => e = .returned (.bool (decide (plainN cs l < l.length))) ∧ Below w.heap.size w w' := by
  have C := Lib.hid (indexAny_any hse (mkS l) (by rw [mkS_size]; unfold maxLen; omega) w)
  rw [mkS_list] at C
  unfold anyAt at C
  by_cases h : plainN cs l < l.length
  · rw [if_pos h] at C
    rw [decide_eq_true h]
    generalize plainN cs l = n at *
    clear h hl
    generalize mkS l = S at *
    generalize mkS cs = CS at *
    have hn : (0 : Int) ≤ (n : Int) := by omega
    go_enter Tryz.func56, Tryz.ntmps56
    go_wp2_with fail
    refine C.out.mono ?_
    rintro e w1 ⟨rfl, hb1⟩
    have HB := Lib.hid hb1
    clear hb1 C
    go_wp2_with fail
    go_ret
    exact ⟨by simp, HB.out⟩
  · rw [if_neg h] at C
    rw [decide_eq_false h]
    clear h hl
    generalize mkS l = S at *
    generalize mkS cs = CS at *
    go_enter Tryz.func56, Tryz.ntmps56
    go_wp2_with fail
    refine C.out.mono ?_
    rintro e w1 ⟨rfl, hb1⟩
    have HB := Lib.hid hb1
    clear hb1 C
    go_wp2_with fail
    go_ret
    exact ⟨rfl, HB.out⟩
theorem indexLay (b : UInt8) : (dLay b = true → 0 ≤ Lib.indexByte [32, 9] b) ∧ (dLay b = false → Lib.indexByte [32, 9] b = -1) := by
  unfold dLay
  constructor
  · intro h
    rcases Bool.or_eq_true_iff.1 h with h | h
    · rw [eq_of_beq h]; decide
    · rw [eq_of_beq h]; decide
  · intro h
    obtain ⟨h1, h2⟩ := Bool.or_eq_false_iff.1 h
    have e1 : ((32 : UInt8) == b) = false := by rw [Bool.beq_comm]; exact h1
    have e2 : ((9 : UInt8) == b) = false := by rw [Bool.beq_comm]; exact h2
    unfold Lib.indexByte Lib.indexByte Lib.indexByte
    rw [e1, e2]
    rfl
/-! Memory. -/
section
variable {w w7 w8 : World} {B sm : Nat} {s : Stz} {vs : List Value} {n x : Bs} {v v' : Value}
theorem look_own (n : Bs) : ∀ {s : Stz} {vs : List Value}, RowsS w B s vs → w.ownsRow B 9 1 ((lookO (mkS n) (szEs s vs)).getD (.slice none 0 0)) (getS s n).length ((getS s n).map fun p => Value.string (mkS p))
  | [], [], _ => World.ownsRow_nil _ _ _ _
  | (a, l) :: r, u :: t, ⟨h1, h2, h3⟩ => by
    show w.ownsRow B 9 1 ((if mkS n = mkS a then some u else lookO (mkS n) (szEs r t)).getD _) (if n = a then l else getS r n).length ((if n = a then l else getS r n).map _)
    by_cases h : n = a
    · rw [if_pos h, if_pos (by rw [h])]
      exact h2
    · rw [if_neg h, if_neg (fun e => h (mkS_inj_ e))]
      exact look_own n h3
theorem rowsT {F : List Nat} (ht : Turned F w w7) (hF : ∀ k ∈ F, ∀ cs, ¬ Blk w k 9 cs) : ∀ {s : Stz} {vs : List Value}, RowsS w B s vs → RowsS w7 B s vs
  | [], [], _ => trivial
  | (_, l) :: r, v :: t, ⟨h1, h2, h3⟩ => ⟨h1, own_turned h2 ht (fun k hk hm => by
    rcases h2.2 with ⟨rfl, _⟩ | ⟨g, cap, cur, rfl, _, hg, _⟩
    · cases hk
    · injection hk with hk
      subst hk
      exact hF _ hm _ hg), rowsT ht hF h3⟩
end
section
variable {w w7 w8 : World} {B sm k : Nat} {s : Stz} {vs : List Value} {n x : Bs} {v v' : Value} {xs : List Value}
theorem own_no_map (h : w.ownsRow B 9 1 v k xs) {l : List (ByteArray × Value)} (hm : w.heap[sm]? = some (mapO l)) : v.ownBlock ≠ some sm := by
  rcases h.2 with ⟨rfl, _⟩ | ⟨g, cap, cur, rfl, _, hg, _⟩
  · intro e; cases e
  · intro e
    injection e with e
    exact map_not_blk hm hg e.symm
theorem SzAt.map7 (h : SzAt w B sm s vs) (ho : w.ownsRow B 9 1 v k xs) (hg : w.grownBy w7 v.ownBlock) : w7.heap[sm]? = some (mapO (szEs s vs)) :=
  map_turned' h.map ((Turned.refl _ w).grown (F := v.ownBlock.toList) hg (fun k hk => .inl (by rw [hk]; simp))) (fun hm => own_no_map ho h.map (by simpa using hm))
theorem SzAt.put1 (h : SzAt w B sm s vs) (hA : ApV vs) (hv : (lookO (mkS n) (szEs s vs)).getD (.slice none 0 0) = v) (hg : w.grownBy w7 v.ownBlock) (hat : v'.ownBlock = v.ownBlock ∨ v'.ownBlock = some w.heap.size)
    (ho : w7.ownsRow B 9 1 v' ((getS s n).length + 1) ((getS s n ++ [x]).map fun p => Value.string (mkS p))) (hm7 : w7.heap[sm]? = some (mapO (szEs s vs))) (hm8 : w8.heap[sm]? = some (mapO (putO (mkS n) v' (szEs s vs)))) (ht : Turned [sm] w7 w8) :
    SzAt w8 B sm (addS s n x) (putV s vs n v') ∧ ApV (putV s vs n v') := by
  obtain ⟨h1, h2⟩ := rows_put (x := x) hg hat h.rows hA hv ho
  refine ⟨⟨by rw [szEs_put h.rows]; exact hm8, rowsT ht (fun k hk cs hb => ?_) h1⟩, h2⟩
  rw [List.mem_singleton.1 hk] at hb
  exact map_not_blk hm7 hb rfl
end
def ReadPost (w0 : World) (X : Option (Stz × Bs)) (e : Ending) (w' : World) : Prop := match X with
  | none => e = .returned (.tuple #[.map none, .string ⟨#[]⟩, .int .i64 120]) ∧ Below w0.heap.size w0 w'
  | some (s, rest) => ∃ sm vs, e = .returned (.tuple #[.map (some sm), .string (mkS rest), .int .i64 0]) ∧ SzAt w' w0.heap.size sm s vs ∧ w0.heap.size ≤ sm ∧ wtS s ≤ 80000 ∧ Below w0.heap.size w0 w'
end Go.Proofs.YtljldbdjkjllhaaGreatDoor

/- A stanza is read: the walk. -/
namespace Go.Proofs.YtljldbdjkjllhaaGreatDoor
set_option linter.unusedSimpArgs false
set_option linter.unusedVariables false
open Go.RowKit Go.MapKept

theorem dLay_ok : Seps dLayS := ⟨by decide, by decide, by decide⟩
theorem MaxAt.from {w w' : World} (h : MaxAt w) (hb : Below w.heap.size w w') : MaxAt w' := h.below hb
theorem readX_nil {n : Nat} {s : Stz} {last : Bs} : readX (n + 1) [] s last = some (s, []) := if_pos rfl
theorem readX_cons {n : Nat} {t : Bs} {s : Stz} {last : Bs} (h : t ≠ []) : readX (n + 1) t s last = match stepX (Lib.cut t [10]).1 s last with
    | .stop => some (s, (Lib.cut t [10]).2.1)
    | .bad => none
    | .go s' l' => readX n (Lib.cut t [10]).2.1 s' l' := if_neg h
theorem indexLay_any (b : UInt8) (w : World) : Calls Tryz.prog 55 #[.string ⟨#[32, 9]⟩, .int .u8 (b.toNat : Int)] w fun e w' => e = .returned (.int .i64 (Lib.indexByte [32, 9] b)) ∧ w' = w := by
  have := Tryz.strings_IndexByte ⟨#[32, 9]⟩ (b.toNat : Int) w
  have e : ((b.toNat : Int)).toNat.toUInt8 = b := by simp
  rw [e] at this
  exact this
set_option maxHeartbeats 8000000 in
set_option maxRecDepth 1000000 in
theorem read_any (l : Bs) (hl : l.length ≤ 40000) (w : World) (hM : MaxAt w) :
    Calls Tryz.prog 30 #[.string (mkS l)] w (ReadPost w (readX (l.length + 1) l [] [])) := by
  have hmm : ∀ w : World, (Instr.makeMap 77 none).run Tryz.prog w = .ok (.map (some w.heap.size)) (w.alloc (.map #[] 0)) := fun w => by simp [Instr.makeMap, Result.andThen]
  obtain ⟨is_, zs, his, hzs, hzs1, hzs2, hzs3⟩ := info_str
  have HIS := Lib.hid his
  have HM := Lib.hid hM
  have C1 := Lib.hid (fun (t : Bs) (ht : t.length ≤ 40000) wx (h : MaxAt wx) => cutc_any 10 t ht wx h)
  have C2 := Lib.hid (fun (t : Bs) (ht : t.length ≤ 40000) wx (h : MaxAt wx) => cutc_any 58 t ht wx h)
  have CT := Lib.hid (fun (p : Bs) (hp : p.length ≤ 40000) wx => dTrim_any p (by omega) wx)
  have CB := Lib.hid (fun (p : Bs) (hp : p.length ≤ 40000) wx => contains_any dLay_ok p (by omega) wx)
  have hnl : Hid (mkS [10] = ⟨#[10]⟩) := rfl
  have hco : Hid (mkS [58] = ⟨#[58]⟩) := rfl
  have hla : Hid (mkS dLayS = ⟨#[32, 9]⟩) := rfl
  have hel : Hid (mkS [] = ⟨#[]⟩) := rfl
  rw [hnl.out] at C1
  rw [hco.out] at C2
  rw [hla.out] at CT CB
  clear hnl hco hla hM his
  obtain ⟨X, hX⟩ : ∃ X, X = readX (l.length + 1) l [] [] := ⟨_, rfl⟩
  rw [← hX]
  have HX : Hid (readX (l.length + 1) l [] [] = X) := hX.symm
  clear hX
  obtain ⟨w1, hw1⟩ : ∃ w1, w1 = w.alloc (.map #[] 0) := ⟨_, rfl⟩
  have S1 : Hid (SzAt w1 w.heap.size w.heap.size [] []) := by rw [hw1]; exact ⟨map_new w, trivial⟩
  have HB1 : Hid (Below w.heap.size w w1) := by rw [hw1]; exact (Below.refl _ _).alloc (Nat.le_refl _) _
  have HA1 : Hid (ApV []) := List.Pairwise.nil
  have hN : l.length < l.length + 1 := by omega
  generalize l.length + 1 = N at *
  go_enter Tryz.func30, Tryz.ntmps30
  go_wp2_with fail
  go_step3
  go_wp2_with fail
  rw [← hw1]
  clear hw1
  go_step3
  go_wp2_with fail
  go_loopg [0, 6] N (fun gk v0 v6 wx => ∃ (t : Bs) (s : Stz) (vs : List Value) (last : Bs), v0 = .string (mkS t) ∧ v6 = .string (mkS last) ∧ Hid (SzAt wx w.heap.size w.heap.size s vs) ∧ Hid (ApV vs) ∧ Hid (Below w.heap.size w wx) ∧ wtS s + 2 * t.length ≤ 80000 ∧ t.length < gk ∧ Hid (readX gk t s last = X))
  case atStart => exact ⟨l, [], [], [], rfl, rfl, S1, HA1, HB1, by show 0 + _ ≤ _; omega, hN, HX⟩
  case round =>
    obtain ⟨t, s, vs, last, rfl, rfl, HS, HA, HB, hwt, hlt, HXk⟩ := hrel
    clear S1 HA1 HB1 HX hN
    obtain ⟨g1, hg1⟩ : ∃ g1, gk = g1 + 1 := ⟨gk - 1, by omega⟩
    have hXk := HXk.out
    rw [hg1] at hXk
    clear HXk
    by_cases ht0 : t = []
    · have he : (mkS t).toList.isEmpty = true := by rw [isEmpty_mkS, ht0]; rfl
      rw [ht0, readX_nil] at hXk
      have HXe := Lib.hid hXk.symm
      have HT : Hid (mkS t = mkS []) := by rw [ht0]; rfl
      clear hXk ht0
      generalize mkS t = T at *
      go_wp2_with fail
      try simp only [Exit.noGoto, Exit.inBlock, Exit.then, reduceIte]
      try go_wp2_with fail
      try rw [Exit.noGoto_ret]
      go_ret3
      show ReadPost w X _ _
      rw [HXe.out]
      exact ⟨w.heap.size, vs, (by rw [HT.out]; rfl), HS.out, Nat.le_refl _, by omega, HB.out⟩
    have he : (mkS t).toList.isEmpty = false := by rw [isEmpty_mkS]; simpa using ht0
    rw [readX_cons ht0] at hXk
    obtain ⟨l1, _, l3⟩ := cutc_len 10 t
    obtain ⟨l3, l4⟩ := l3 ht0
    have C1k := Lib.hid (C1.out t (by omega) wr (HM.out.from HB.out))
    have CTk := Lib.hid (CT.out (Lib.cut t [10]).1 (by omega))
    clear C1
    generalize (Lib.cut t [10]).1 = ln at *
    generalize (Lib.cut t [10]).2.1 = rest at *
    generalize (Lib.cut t [10]).2.2 = fnd at *
    go_wp2_with fail
    refine C1k.out.mono ?_
    rintro e w2 ⟨rfl, hb⟩
    have HS2 := Lib.hid (HS.out.below hb)
    have HB2 := Lib.hid (HB.out.trans (hb.mono HB.out.size))
    clear hb HS HB C1k
    go_wp2_with fail
    refine (CTk.out _).mono ?_
    rintro e w3 ⟨rfl, hb⟩
    have HS3 := Lib.hid (HS2.out.below hb)
    have HB3 := Lib.hid (HB2.out.trans (hb.mono HB2.out.size))
    clear hb HS2 HB2 CTk
    by_cases hsd : dTrim ln = []
    · have hst : stepX ln s last = .stop := if_pos hsd
      rw [hst] at hXk
      have HXe := Lib.hid hXk.symm
      have he2 : (mkS (dTrim ln)).toList.isEmpty = true := by rw [isEmpty_mkS, hsd]; rfl
      clear hXk hsd hst
      generalize mkS (dTrim ln) = SD at *
      go_wp2_with fail
      try simp only [Exit.noGoto, Exit.inBlock, Exit.then, reduceIte]
      try go_wp2_with fail
      try rw [Exit.noGoto_ret]
      go_ret3
      show ReadPost w X _ _
      rw [HXe.out]
      exact ⟨w.heap.size, vs, rfl, HS3.out, Nat.le_refl _, by omega, HB3.out⟩
    have he2 : (mkS (dTrim ln)).toList.isEmpty = false := by rw [isEmpty_mkS]; simpa using hsd
    have hdl := dTrim_len ln
    obtain ⟨b, ln2, hcons⟩ : ∃ b ln2, ln = b :: ln2 := by
      cases ln with
      | nil => exact absurd rfl hsd
      | cons b r => exact ⟨b, r, rfl⟩
    have hhd : ln.headD 0 = b := by rw [hcons]; rfl
    have hz : 0 < (mkS ln).size := by rw [mkS_size, hcons]; simp
    have hget : (mkS ln)[0]'hz = b := by
      have h1 := byte_at hz
      rw [mkS_list] at h1
      have h2 : ln[0]? = some b := by rw [hcons]; rfl
      rw [h2] at h1
      injection h1 with h1
      exact h1.symm
    by_cases h35 : b = 35
    · have hst : stepX ln s last = .go s last := by
        unfold stepX
        rw [if_neg hsd, if_pos (hhd.trans h35)]
      rw [hst] at hXk
      have HXk := Lib.hid hXk
      have t35 : (((mkS ln)[0].toNat : Int) == 35) = true := by rw [hget, h35]; rfl
      clear hXk hst h35 hget hhd hcons hsd
      generalize mkS (dTrim ln) = SD at *
      generalize mkS ln = LN at *
      go_wp2_with fail
      go_roundg g1
      case measure => omega
      case rel => exact ⟨rest, s, vs, last, rfl, rfl, HS3, HA, HB3, by omega, by omega, HXk⟩
    have t35 : (((mkS ln)[0].toNat : Int) == 35) = false := by
      rw [hget]
      have : b.toNat ≠ 35 := fun e => h35 (UInt8.toNat_inj.1 (by rw [e]; rfl))
      simp
      omega
    by_cases hly : dLay b = false
    · have CI := Lib.hid (fun w => indexLay_any b w)
      rw [(indexLay b).2 hly, ← hget] at CI
      have hst : stepX ln s last = if badN s (Lib.cut ln [58]) = true then .bad else .go (addS s (Lib.cut ln [58]).1 (dTrim (Lib.cut ln [58]).2.1)) (Lib.cut ln [58]).1 := by
        unfold stepX
        rw [if_neg hsd, if_neg (by rw [hhd]; exact h35), hhd, if_pos hly]
      rw [hst] at hXk
      have C2k := Lib.hid (C2.out ln (by omega))
      have CB2 := Lib.hid (CB.out (Lib.cut ln [58]).1 (Nat.le_trans (cutc_len 58 ln).1 (by omega)))
      have CT2 := Lib.hid (CT.out (Lib.cut ln [58]).2.1 (Nat.le_trans (cutc_len 58 ln).2.1 (by omega)))
      have hd2 : (dTrim (Lib.cut ln [58]).2.1).length ≤ ln.length := Nat.le_trans (dTrim_len _) (cutc_len 58 ln).2.1
      unfold badN at hXk
      clear hst h35 hget hhd hcons hsd hly C2 CB CT
      generalize mkS (dTrim ln) = SD at *
      generalize (Lib.cut ln [58]).1 = nm at *
      generalize (Lib.cut ln [58]).2.1 = bh at *
      generalize (Lib.cut ln [58]).2.2 = isd at *
      obtain ⟨LN, hLN⟩ : ∃ LN, LN = mkS ln := ⟨_, rfl⟩
      rw [← hLN] at C2k
      generalize mkS ln = LN' at *
      subst hLN
      go_wp2_with fail
      refine (CI.out _).mono ?_
      rintro e w4 ⟨rfl, rfl⟩
      go_wp2_with fail
      refine (C2k.out _ (HM.out.from HB3.out)).mono ?_
      rintro e w4 ⟨rfl, hb⟩
      have HS4 := Lib.hid (HS3.out.below hb)
      have HB4 := Lib.hid (HB3.out.trans (hb.mono HB3.out.size))
      clear hb HS3 HB3 C2k CI
      cases isd with
      | false =>
        have HXe := Lib.hid hXk.symm
        clear hXk CB2 CT2
        go_wp2_with fail
        try simp only [Exit.noGoto, Exit.inBlock, Exit.then, reduceIte]
        try go_wp2_with fail
        try rw [Exit.noGoto_ret]
        go_ret3
        show ReadPost w X _ _
        rw [HXe.out]
        exact ⟨rfl, HB4.out⟩
      | true =>
        by_cases hnm : nm = []
        · have he3 : (mkS nm).toList.isEmpty = true := by rw [isEmpty_mkS, hnm]; rfl
          rw [hnm] at hXk
          have HXe := Lib.hid hXk.symm
          clear hXk CB2 CT2 hnm
          go_wp2_with fail
          try simp only [Exit.noGoto, Exit.inBlock, Exit.then, reduceIte]
          try go_wp2_with fail
          try rw [Exit.noGoto_ret]
          go_ret3
          show ReadPost w X _ _
          rw [HXe.out]
          exact ⟨rfl, HB4.out⟩
        · have he3 : (mkS nm).toList.isEmpty = false := by rw [isEmpty_mkS]; simpa using hnm
          have he3' : nm.isEmpty = false := by simpa using hnm
          rw [he3'] at hXk
          clear he3' hnm
          generalize hdc : decide (plainN dLayS nm < nm.length) = dc at *
          cases dc with
          | true =>
            have HXe := Lib.hid hXk.symm
            clear hXk CT2 hdc
            go_wp2_with fail
            refine (CB2.out _).mono ?_
            rintro e w5 ⟨rfl, hb⟩
            have HB5 := Lib.hid (HB4.out.trans (hb.mono HB4.out.size))
            clear hb CB2 HS4 HB4
            go_wp2_with fail
            try simp only [Exit.noGoto, Exit.inBlock, Exit.then, reduceIte]
            try go_wp2_with fail
            try rw [Exit.noGoto_ret]
            go_ret3
            show ReadPost w X _ _
            rw [HXe.out]
            exact ⟨rfl, HB5.out⟩
          | false =>
            clear hdc
            have hgot := look_got nm HS4.out.rows
            have hlk := run_lookS (P := Tryz.prog) (k := mkS nm) Tryz.underlying77 Tryz.underlying9 zeroSs (HS4.out.map)
            by_cases hgs : getS s nm = []
            · rw [hgs] at hXk
              have HXk : Hid (readX g1 rest (addS s nm (dTrim bh)) nm = X) := Lib.hid hXk
              rcases hgot with ⟨-, hV⟩ | ⟨g, c, hV, -, -, hne, -⟩
              rotate_left
              · exact absurd hgs hne
              have hlk0 : Hid (∀ w5, Below w4.heap.size w4 w5 → (Instr.lookup 77 (.map (some w.heap.size)) (.string (mkS nm)) false).run Tryz.prog w5 = .ok (.slice none 0 0) w5) := fun w5 hb => by
                have h5 := run_lookS (P := Tryz.prog) (k := mkS nm) Tryz.underlying77 Tryz.underlying9 zeroSs (HS4.out.below hb).map
                rw [h5, hV]
              clear hXk hgs hV hlk
              go_wp2_with fail
              refine (CB2.out _).mono ?_
              rintro e w5 ⟨rfl, hb⟩
              have hlk5 := hlk0.out w5 hb
              have HS5 := Lib.hid (HS4.out.below hb)
              have HB5 := Lib.hid (HB4.out.trans (hb.mono HB4.out.size))
              clear hb CB2 HS4 HB4 hlk0
              go_wp2_with fail
              refine (CT2.out _).mono ?_
              rintro e w6 ⟨rfl, hb⟩
              have HS6 := Lib.hid (HS5.out.below hb)
              have HB6 := Lib.hid (HB5.out.trans (hb.mono HB5.out.size))
              clear hb CT2 HS5 HB5 hlk5
              have hlk := run_lookS (P := Tryz.prog) (k := mkS nm) Tryz.underlying77 Tryz.underlying9 zeroSs HS6.out.map
              have hown := look_own nm HS6.out.rows
              obtain ⟨Ag, cg, hAg, hcg1, hcg2⟩ := own_form' hown
              rw [hAg] at hlk hown
              have hbA : Below w6.heap.size w6 (w6.alloc (.cells #[.string (mkS (dTrim bh))] 9)) := (Below.refl _ _).alloc (Nat.le_refl _) _
              have HO := Lib.hid (own_turned hown (Turned.of_below hbA []) (fun _ _ => by simp))
              have hsa_ := Lib.hid (HS6.out.below hbA)
              have HCN := Lib.hid (cell_one_new w6 (.string (mkS (dTrim bh))) 9)
              have hgl : (getS s nm).length ≤ 80000 := Nat.le_trans (wt_len _) (Nat.le_trans (wt_get nm s) (by omega))
              have hgl2 : ((getS s nm).map fun p => Value.string (mkS p)).length = (getS s nm).length := List.length_map _
              have hba_ := Lib.hid (HB6.out.trans (hbA.mono HB6.out.size))
              have HM7 := Lib.hid (fun (w7 : World) (hg : (w6.alloc (.cells #[.string (mkS (dTrim bh))] 9)).grownBy w7 (Value.slice Ag (getS s nm).length cg).ownBlock) => hsa_.out.map7 HO.out hg)
              have HB7 := Lib.hid (fun (w7 : World) (hg : (w6.alloc (.cells #[.string (mkS (dTrim bh))] 9)).grownBy w7 (Value.slice Ag (getS s nm).length cg).ownBlock) => hba_.out.trans (((Turned.refl (Value.slice Ag (getS s nm).length cg).ownBlock.toList _).grown hg (fun k hk => .inl (by rw [hk]; simp))).below (B := w.heap.size) (fun k hk => (HO.out.lt k (by simpa using hk)).1) hba_.out.size))
              have HP8 := Lib.hid (fun (v7 : Value) (w7 w8 : World) ho hg hat hm7 hm8 ht => hsa_.out.put1 (x := (dTrim bh)) (n := nm) (w7 := w7) (w8 := w8) (v' := v7) HA.out hAg hg hat ho hm7 hm8 ht)
              have hszz : w.heap.size ≤ w6.heap.size := HB6.out.size
              have hwx : wtS (addS s nm (dTrim bh)) = wtS s + ((dTrim bh).length + 1) := wtS_add _ _ _
              clear hown hbA HS6 HB6 HA hsa_ hba_ hAg
              go_wp2_with (first | (at_builtin; refine wpList_append_own_at _ rfl (.tmp 67) (.tmp 69) 37 rfl w.heap.size 9 is_ zs 1 16 Tryz.underlying37 HIS.out hzs hzs2 hzs3 hzs1 (by decide) (.slice Ag (getS s nm).length cg) (getS s nm).length ((getS s nm).map fun p => Value.string (mkS p)) rfl HO.out ⟨w6.heap.size, 0, none⟩ 1 1 [.string (mkS (dTrim bh))] rfl rfl HCN.out (by intro u hu; simp at hu; subst hu; rfl) (by unfold maxLen; omega) (by omega) (by simp; omega) ?_; intro v7 w7 hown7 hg7 hnil7 hat7; have HM7k := Lib.hid (HM7.out w7 hg7); have HB7k := Lib.hid (HB7.out w7 hg7); have HP8k := Lib.hid (fun w8 hm8 ht => HP8.out v7 w7 w8 (by rw [List.map_append]; exact hown7) hg7 hat7 HM7k.out hm8 ht); obtain ⟨A7, c7, hv7, hn7, hm7⟩ := own_form' hown7; subst hv7; clear hown7 hg7 hnil7 hat7 HM7 HB7 HP8) | (at_mapUpdate; refine wpList_put_map _ rfl _ _ _ 77 rfl 9 37 Tryz.underlying77 Tryz.underlying9 w.heap.size (szEs s vs) rfl HM7k.out (mkS nm) _ rfl rfl ?_; intro w8 hm8 ht8; have HP9 := Lib.hid (HP8k.out w8 hm8 ht8); have HB9 := Lib.hid (HB7k.out.trans (ht8.below (B := w.heap.size) (fun k hk => Nat.le_of_eq (List.mem_singleton.1 hk).symm) HB7k.out.size)); clear hm8 ht8 HM7k HB7k HP8k))
              go_roundg g1
              case measure => omega
              case rel => exact ⟨rest, addS s nm (dTrim bh), _, nm, rfl, rfl, Lib.hid HP9.out.1, Lib.hid HP9.out.2, HB9, by rw [hwx]; omega, by omega, HXk⟩
            · have hnb : (!(getS s nm).isEmpty) = true := by simpa using hgs
              rw [hnb] at hXk
              have HXe : Hid (X = none) := Lib.hid (Eq.symm hXk)
              rcases hgot with ⟨h0, -⟩ | ⟨g, c, hV, -, -, -, -⟩
              · exact absurd h0 hgs
              have hlk0 : Hid (∀ w5, Below w4.heap.size w4 w5 → (Instr.lookup 77 (.map (some w.heap.size)) (.string (mkS nm)) false).run Tryz.prog w5 = .ok (.slice (some ⟨g, 0, none⟩) (getS s nm).length c) w5) := fun w5 hb => by
                have h5 := run_lookS (P := Tryz.prog) (k := mkS nm) Tryz.underlying77 Tryz.underlying9 zeroSs (HS4.out.below hb).map
                rw [h5, hV]
              clear hXk hgs hV hlk hnb CT2
              go_wp2_with fail
              refine (CB2.out _).mono ?_
              rintro e w5 ⟨rfl, hb⟩
              have hlk5 := hlk0.out w5 hb
              have HB5 := Lib.hid (HB4.out.trans (hb.mono HB4.out.size))
              clear hb CB2 HS4 HB4 hlk0
              go_wp2_with fail
              try simp only [Exit.noGoto, Exit.inBlock, Exit.then, reduceIte]
              try go_wp2_with fail
              try rw [Exit.noGoto_ret]
              go_ret3
              show ReadPost w X _ _
              rw [HXe.out]
              exact ⟨rfl, HB5.out⟩
    · have hly1 : dLay b = true := by simpa using hly
      obtain ⟨n, hn⟩ : ∃ n, n = Lib.indexByte [32, 9] b := ⟨_, rfl⟩
      have hn0 : 0 ≤ n := by rw [hn]; exact (indexLay b).1 hly1
      have CI := Lib.hid (fun w => indexLay_any b w)
      rw [← hn, ← hget] at CI
      have hn1 : ¬ n < 0 := by omega
      have hst : stepX ln s last = if last = [] then .bad else .go (addS s last (dTrim ln)) last := by
        unfold stepX
        rw [if_neg hsd, if_neg (by rw [hhd]; exact h35), hhd, if_neg hly]
      rw [hst] at hXk
      clear hst h35 hget hhd hcons hsd hly hly1 hn C2 CB CT
      by_cases hla0 : last = []
      · have he4 : (mkS last).toList.isEmpty = true := by rw [isEmpty_mkS, hla0]; rfl
        rw [if_pos hla0] at hXk
        have HXe : Hid (X = none) := Lib.hid (Eq.symm hXk)
        clear hXk hla0
        generalize mkS (dTrim ln) = SD at *
        generalize mkS ln = LN at *
        generalize mkS last = LA at *
        go_wp2_with fail
        refine (CI.out _).mono ?_
        rintro e w4 ⟨rfl, rfl⟩
        go_wp2_with fail
        try simp only [Exit.noGoto, Exit.inBlock, Exit.then, reduceIte]
        try go_wp2_with fail
        try rw [Exit.noGoto_ret]
        go_ret3
        show ReadPost w X _ _
        rw [HXe.out]
        exact ⟨rfl, HB3.out⟩
      · have he4 : (mkS last).toList.isEmpty = false := by rw [isEmpty_mkS]; simpa using hla0
        rw [if_neg hla0] at hXk
        have HXk : Hid (readX g1 rest (addS s last (dTrim ln)) last = X) := Lib.hid hXk
        clear hXk hla0
        generalize mkS ln = LN at *
        go_wp2_with fail
        refine (CI.out _).mono ?_
        rintro e w4 ⟨rfl, rfl⟩
        clear CI
        have hlk := run_lookS (P := Tryz.prog) (k := mkS last) Tryz.underlying77 Tryz.underlying9 zeroSs HS3.out.map
        have hown := look_own last HS3.out.rows
        obtain ⟨Ag, cg, hAg, hcg1, hcg2⟩ := own_form' hown
        rw [hAg] at hlk hown
        have hbA : Below w4.heap.size w4 (w4.alloc (.cells #[.string (mkS (dTrim ln))] 9)) := (Below.refl _ _).alloc (Nat.le_refl _) _
        have HO := Lib.hid (own_turned hown (Turned.of_below hbA []) (fun _ _ => by simp))
        have hsa_ := Lib.hid (HS3.out.below hbA)
        have HCN := Lib.hid (cell_one_new w4 (.string (mkS (dTrim ln))) 9)
        have hgl : (getS s last).length ≤ 80000 := Nat.le_trans (wt_len _) (Nat.le_trans (wt_get last s) (by omega))
        have hgl2 : ((getS s last).map fun p => Value.string (mkS p)).length = (getS s last).length := List.length_map _
        have hba_ := Lib.hid (HB3.out.trans (hbA.mono HB3.out.size))
        have HM7 := Lib.hid (fun (w7 : World) (hg : (w4.alloc (.cells #[.string (mkS (dTrim ln))] 9)).grownBy w7 (Value.slice Ag (getS s last).length cg).ownBlock) => hsa_.out.map7 HO.out hg)
        have HB7 := Lib.hid (fun (w7 : World) (hg : (w4.alloc (.cells #[.string (mkS (dTrim ln))] 9)).grownBy w7 (Value.slice Ag (getS s last).length cg).ownBlock) => hba_.out.trans (((Turned.refl (Value.slice Ag (getS s last).length cg).ownBlock.toList _).grown hg (fun k hk => .inl (by rw [hk]; simp))).below (B := w.heap.size) (fun k hk => (HO.out.lt k (by simpa using hk)).1) hba_.out.size))
        have HP8 := Lib.hid (fun (v7 : Value) (w7 w8 : World) ho hg hat hm7 hm8 ht => hsa_.out.put1 (x := (dTrim ln)) (n := last) (w7 := w7) (w8 := w8) (v' := v7) HA.out hAg hg hat ho hm7 hm8 ht)
        have hszz : w.heap.size ≤ w4.heap.size := HB3.out.size
        have hwx : wtS (addS s last (dTrim ln)) = wtS s + ((dTrim ln).length + 1) := wtS_add _ _ _
        clear hown hbA HS3 HB3 HA hsa_ hba_ hAg
        go_wp2_with (first | (at_builtin; refine wpList_append_own_at _ rfl (.tmp 67) (.tmp 69) 37 rfl w.heap.size 9 is_ zs 1 16 Tryz.underlying37 HIS.out hzs hzs2 hzs3 hzs1 (by decide) (.slice Ag (getS s last).length cg) (getS s last).length ((getS s last).map fun p => Value.string (mkS p)) rfl HO.out ⟨w4.heap.size, 0, none⟩ 1 1 [.string (mkS (dTrim ln))] rfl rfl HCN.out (by intro u hu; simp at hu; subst hu; rfl) (by unfold maxLen; omega) (by omega) (by simp; omega) ?_; intro v7 w7 hown7 hg7 hnil7 hat7; have HM7k := Lib.hid (HM7.out w7 hg7); have HB7k := Lib.hid (HB7.out w7 hg7); have HP8k := Lib.hid (fun w8 hm8 ht => HP8.out v7 w7 w8 (by rw [List.map_append]; exact hown7) hg7 hat7 HM7k.out hm8 ht); obtain ⟨A7, c7, hv7, hn7, hm7⟩ := own_form' hown7; subst hv7; clear hown7 hg7 hnil7 hat7 HM7 HB7 HP8) | (at_mapUpdate; refine wpList_put_map _ rfl _ _ _ 77 rfl 9 37 Tryz.underlying77 Tryz.underlying9 w.heap.size (szEs s vs) rfl HM7k.out (mkS last) _ rfl rfl ?_; intro w8 hm8 ht8; have HP9 := Lib.hid (HP8k.out w8 hm8 ht8); have HB9 := Lib.hid (HB7k.out.trans (ht8.below (B := w.heap.size) (fun k hk => Nat.le_of_eq (List.mem_singleton.1 hk).symm) HB7k.out.size)); clear hm8 ht8 HM7k HB7k HP8k))
        go_roundg g1
        case measure => omega
        case rel => exact ⟨rest, addS s last (dTrim ln), _, last, rfl, rfl, Lib.hid HP9.out.1, Lib.hid HP9.out.2, HB9, by rw [hwx]; omega, by omega, HXk⟩
end Go.Proofs.YtljldbdjkjllhaaGreatDoor
