/- A stanza: what one more line makes of it, pure and in memory. A stanza is read: pure, and what its reading asks. A region that draws its order: what is not wanted. What a text takes. -/
import Derived.Test.YtdhgiammfpjniaaGreatDoorZaas
import Derived.Test.YtdhgiammfpjniaaGreatDoorZaae
import Derived.Test.YtdhgiammfpjniaaGreatDoorZaap
/- A stanza: what one more line makes of it, pure and in memory. -/
namespace Go.Proofs.YtdhgiammfpjniaaGreatDoor
set_option linter.unusedSimpArgs false
set_option linter.unusedVariables false
open Go.RowKit Go.MapKept

def putO (k : ByteArray) (v : Value) : List (ByteArray × Value) → List (ByteArray × Value)
  | [] => [(k, v)]
  | (a, u) :: r => if k = a then (a, v) :: r else (a, u) :: putO k v r
theorem find_put (k : ByteArray) (v : Value) : ∀ (l : List (ByteArray × Value)) (i j : Nat), (lookO k l = none ∧ Instr.findNow .string (.string k) (mapEs l i) j = some none ∧ putO k v l = l ++ [(k, v)]) ∨
    ∃ p u, lookO k l = some u ∧ Instr.findNow .string (.string k) (mapEs l i) j = some (some (j + p, u)) ∧ (mapEs l i)[p]? = some ⟨.string k, u, i + p⟩ ∧ mapEs (putO k v l) i = (mapEs l i).modify p (fun e => { e with key := .string k, val := v }) ∧ (putO k v l).length = l.length
  | [], i, j => .inl ⟨rfl, rfl, rfl⟩
  | (a, u) :: r, i, j => by
    by_cases h : k = a
    · subst h
      have hp : putO k v ((k, u) :: r) = (k, v) :: r := if_pos rfl
      rw [hp]
      refine .inr ⟨0, u, if_pos rfl, ?_, rfl, rfl, rfl⟩
      unfold mapEs Instr.findNow
      rw [same_str, decide_eq_true rfl]
      rfl
    · have hp : putO k v ((a, u) :: r) = (a, u) :: putO k v r := if_neg h
      have hl : lookO k ((a, u) :: r) = lookO k r := if_neg h
      have hf : Instr.findNow .string (.string k) (mapEs ((a, u) :: r) i) j = Instr.findNow .string (.string k) (mapEs r (i + 1)) (j + 1) := by
        show Instr.findNow .string (.string k) ((⟨.string a, u, i⟩ : MapEntry) :: mapEs r (i + 1)) j = _
        rw [Instr.findNow.eq_def]
        simp only [same_str]
        rw [decide_eq_false h]
      rw [hp, hl, hf]
      rcases find_put k v r (i + 1) (j + 1) with ⟨h1, h2, h3⟩ | ⟨p, u', h1, h2, h3, h4, h5⟩
      · exact .inl ⟨h1, h2, by rw [h3]; rfl⟩
      · refine .inr ⟨p + 1, u', h1, ?_, ?_, ?_, ?_⟩
        · rw [show j + (p + 1) = j + 1 + p from by omega]
          exact h2
        · rw [show i + (p + 1) = i + 1 + p from by omega]
          exact h3
        · show (⟨.string a, u, i⟩ : MapEntry) :: mapEs (putO k v r) (i + 1) = (⟨.string a, u, i⟩ : MapEntry) :: (mapEs r (i + 1)).modify p _
          rw [h4]
        · rw [List.length_cons, h5]
          rfl
section
variable {P : Program} {w : World} {mty kt et : TypeId} {m : Nat} {l : List (ByteArray × Value)} {k : ByteArray} {v : Value}
theorem run_putA (hm : P.underlying mty = some (.map kt et)) (hd : P.underlying kt = some .string) (hb : w.heap[m]? = some (mapO l)) :
    ∃ w', (Instr.mapUpdate mty (.map (some m)) (.string k) v).run P w = .ok () w' ∧ w'.heap[m]? = some (mapO (putO k v l)) ∧ Turned [m] w w' := by
  rcases find_put k v l 0 0 with ⟨h1, h2, h3⟩ | ⟨p, u, h1, h2, h3, h4, h5⟩
  · rw [h3]
    exact run_put hm hd hb h1
  · have hk : IsKey .string (.string k) := by simp [IsKey]
    have hb' := hb
    unfold mapO at hb
    refine ⟨{ w with heap := w.heap.setIfInBounds m (mapO (putO k v l)) }, ?_, (heap_set hb').1, ⟨rfl, rfl, rfl, by simp, fun j hj hjm => (heap_set hb').2 j (fun e => hjm (by simp [e]))⟩⟩
    have he : mapO (putO k v l) = .map ((mapEs l 0).toArray.modify p fun e => { e with key := .string k, val := v }) l.length := by
      unfold mapO
      rw [h4, h5]
      simp
    have hj : (mapEs l 0).toArray[p]? = some ⟨.string k, u, 0 + p⟩ := by simpa using h3
    rw [he]
    rw [Nat.zero_add] at h2
    simp [Instr.mapUpdate, run_underlying hm, Go.MapKept.run_getObj_map hb, run_checkKey hd hk, run_findKey hd h2, h3, run_keyThatStays hk, run_setObj_map _ hb, Result.andThen]
end
theorem wpList_put_map {P : Program} (w : World) {ops : Array Oper} {rest : List Oper} {o : Oper} {a : Act} {Q : Exit → Act → World → Prop}
    (hg : o.guard = none) (m x v : Operand) (t : TypeId) (hop : o.op = Op.mapUpdate t m x v)
    (kt et : TypeId) (ht : P.underlying t = some (.map kt et)) (hd : P.underlying kt = some .string) (b : Nat) (l : List (ByteArray × Value)) (hm : a.eval m = .map (some b)) (hb : w.heap[b]? = some (mapO l))
    (key : ByteArray) (val : Value) (hx : a.eval x = .string key) (hv : a.eval v = val)
    (hK : ∀ w', w'.heap[b]? = some (mapO (putO key val l)) → Turned [b] w w' → wpList P ops Q rest (a.put o.dst undef) w') :
    wpList P ops Q (o :: rest) a w := by
  refine wpList_plain hg fun K' hK' => ?_
  obtain ⟨w', hrun, r1, r2⟩ := run_putA (v := val) (k := key) ht hd hb
  unfold Oper.wp
  simp [execOp, hop, hm, hx, hv, hrun, Result.andThen]
  exact hK' _ _ (hK w' r1 r2)
/-! A stanza. -/
def addS : Stz → Bs → Bs → Stz
  | [], n, x => [(n, [x])]
  | (a, l) :: r, n, x => if n = a then (a, l ++ [x]) :: r else (a, l) :: addS r n x
def putV : Stz → List Value → Bs → Value → List Value
  | (a, _) :: r, v :: t, n, v' => if n = a then v' :: t else v :: putV r t n v'
  | _, _, _, v' => [v']
def ApV (vs : List Value) : Prop := vs.Pairwise fun a b => ∀ k, a.ownBlock = some k → b.ownBlock ≠ some k
section
variable {w w' : World} {B : Nat} {n x : Bs} {v v' : Value}
theorem szEs_put : ∀ {s : Stz} {vs : List Value}, RowsS w B s vs → szEs (addS s n x) (putV s vs n v') = putO (mkS n) v' (szEs s vs)
  | [], [], _ => rfl
  | (a, l) :: r, u :: t, ⟨h1, h2, h3⟩ => by
    show _ = if mkS n = mkS a then (mkS a, v') :: szEs r t else (mkS a, u) :: putO (mkS n) v' (szEs r t)
    by_cases h : n = a
    · subst h
      rw [show addS ((n, l) :: r) n x = (n, l ++ [x]) :: r from if_pos rfl, show putV ((n, l) :: r) (u :: t) n v' = v' :: t from if_pos rfl, if_pos rfl]
      rfl
    · rw [show addS ((a, l) :: r) n x = (a, l) :: addS r n x from if_neg h, show putV ((a, l) :: r) (u :: t) n v' = u :: putV r t n v' from if_neg h, if_neg (fun e => h (mkS_inj_ e)), ← szEs_put h3]
      rfl
theorem look_mem : ∀ {s : Stz} {vs : List Value}, RowsS w B s vs → lookO (mkS n) (szEs s vs) = none ∨ ∃ u ∈ vs, lookO (mkS n) (szEs s vs) = some u
  | [], [], _ => .inl rfl
  | (a, l) :: r, u :: t, ⟨h1, h2, h3⟩ => by
    show (if mkS n = mkS a then some u else lookO (mkS n) (szEs r t)) = none ∨ ∃ u' ∈ u :: t, (if mkS n = mkS a then some u else lookO (mkS n) (szEs r t)) = some u'
    by_cases h : mkS n = mkS a
    · rw [if_pos h]
      exact .inr ⟨u, by simp, rfl⟩
    · rw [if_neg h]
      rcases look_mem h3 with h4 | ⟨u', hu, h4⟩
      · exact .inl h4
      · exact .inr ⟨u', List.mem_cons_of_mem _ hu, h4⟩
theorem rows_lt : ∀ {s : Stz} {vs : List Value}, RowsS w B s vs → ∀ u ∈ vs, ∀ k, u.ownBlock = some k → k < w.heap.size
  | [], [], _ => fun u hu => by cases hu
  | (a, l) :: r, u0 :: t, ⟨h1, h2, h3⟩ => fun u hu k hk => by
    rcases List.mem_cons.1 hu with rfl | hu
    · exact own_lt h2 hk
    · exact rows_lt h3 u hu k hk
theorem rows_stay (hg : w.grownBy w' v.ownBlock) : ∀ {s : Stz} {vs : List Value}, RowsS w B s vs → (∀ u ∈ vs, ∀ k, u.ownBlock = some k → v.ownBlock ≠ some k) → RowsS w' B s vs
  | [], [], _, _ => trivial
  | (a, l) :: r, u :: t, ⟨h1, h2, h3⟩, hne => ⟨h1, own_turned h2 ((Turned.refl _ w).grown (F := v.ownBlock.toList) hg (fun k hk => .inl (by rw [hk]; simp))) (fun k hk hm => hne u (by simp) k hk (by simpa using hm)), rows_stay hg h3 (fun u' hu' => hne u' (List.mem_cons_of_mem _ hu'))⟩
theorem putV_mem : ∀ {s : Stz} {vs : List Value} {u : Value}, u ∈ putV s vs n v' → u = v' ∨ u ∈ vs
  | [], vs, u, h => by
    have h : u ∈ [v'] := by cases vs <;> exact h
    exact .inl (List.mem_singleton.1 h)
  | (a, l) :: r, [], u, h => .inl (List.mem_singleton.1 h)
  | (a, l) :: r, u0 :: t, u, h => by
    have h : u ∈ (if n = a then v' :: t else u0 :: putV r t n v') := h
    split at h
    · rcases List.mem_cons.1 h with e | h
      · exact .inl e
      · exact .inr (List.mem_cons_of_mem _ h)
    · rcases List.mem_cons.1 h with e | h
      · exact .inr (by rw [e]; simp)
      · rcases putV_mem h with e | h
        · exact .inl e
        · exact .inr (List.mem_cons_of_mem _ h)
theorem rows_put (hg : w.grownBy w' v.ownBlock) (hat : v'.ownBlock = v.ownBlock ∨ v'.ownBlock = some w.heap.size) : ∀ {s : Stz} {vs : List Value}, RowsS w B s vs → ApV vs → (lookO (mkS n) (szEs s vs)).getD (.slice none 0 0) = v →
    w'.ownsRow B 9 1 v' ((getS s n).length + 1) ((getS s n ++ [x]).map fun p => Value.string (mkS p)) → RowsS w' B (addS s n x) (putV s vs n v') ∧ ApV (putV s vs n v')
  | [], [], _, _, _, ho => ⟨⟨by simp, ho, trivial⟩, List.pairwise_singleton _ _⟩
  | (a, l) :: r, u :: t, ⟨h1, h2, h3⟩, hA, hv, ho => by
    obtain ⟨hA1, hA2⟩ := List.pairwise_cons.1 hA
    have hv : (if mkS n = mkS a then some u else lookO (mkS n) (szEs r t)).getD (.slice none 0 0) = v := hv
    have ho : w'.ownsRow B 9 1 v' ((if n = a then l else getS r n).length + 1) (((if n = a then l else getS r n) ++ [x]).map fun p => Value.string (mkS p)) := ho
    by_cases h : n = a
    · subst h
      rw [if_pos rfl] at hv ho
      have hv : u = v := hv
      subst hv
      rw [show addS ((n, l) :: r) n x = (n, l ++ [x]) :: r from if_pos rfl, show putV ((n, l) :: r) (u :: t) n v' = v' :: t from if_pos rfl]
      refine ⟨⟨by simp, by rw [List.length_append]; exact ho, rows_stay hg h3 (fun u' hu' k hk e => hA1 u' hu' k e hk)⟩, List.pairwise_cons.2 ⟨fun u' hu' k hk => ?_, hA2⟩⟩
      rcases hat with e | e
      · exact hA1 u' hu' k (by rw [← e]; exact hk)
      · intro hk'
        have := rows_lt h3 u' hu' k hk'
        rw [e] at hk
        injection hk with hk
        omega
    · rw [if_neg (fun e => h (mkS_inj_ e))] at hv
      rw [if_neg h] at ho
      obtain ⟨ih1, ih2⟩ := rows_put hg hat h3 hA2 hv ho
      have hne : ∀ k, u.ownBlock = some k → v.ownBlock ≠ some k := fun k hk => by
        rcases look_mem (n := n) h3 with e | ⟨u', hu', e⟩
        · rw [e] at hv
          rw [← hv]
          intro e
          cases e
        · rw [e] at hv
          have hv : u' = v := hv
          rw [← hv]
          exact hA1 u' hu' k hk
      rw [show addS ((a, l) :: r) n x = (a, l) :: addS r n x from if_neg h, show putV ((a, l) :: r) (u :: t) n v' = u :: putV r t n v' from if_neg h]
      refine ⟨⟨h1, own_turned h2 ((Turned.refl _ w).grown (F := v.ownBlock.toList) hg (fun k hk => .inl (by rw [hk]; simp))) (fun k hk hm => hne k hk (by simpa using hm)), ih1⟩, List.pairwise_cons.2 ⟨fun u' hu' k hk => ?_, ih2⟩⟩
      rcases putV_mem hu' with rfl | hu'
      · rcases hat with e | e
        · rw [e]
          exact hne k hk
        · rw [e]
          intro e'
          injection e' with e'
          have := own_lt h2 hk
          omega
      · exact hA1 u' hu' k hk
end
end Go.Proofs.YtdhgiammfpjniaaGreatDoor

/- A stanza is read: pure, and what its reading asks. -/
namespace Go.Proofs.YtdhgiammfpjniaaGreatDoor
set_option linter.unusedSimpArgs false
set_option linter.unusedVariables false
open Go.RowKit Go.MapKept

inductive RdS where
  | stop
  | bad
  | go (s : Stz) (last : Bs)
def badN (s : Stz) (c : Bs × Bs × Bool) : Bool := !c.2.2 || c.1.isEmpty || decide (plainN dLayS c.1 < c.1.length) || !(getS s c.1).isEmpty
def stepX (ln : Bs) (s : Stz) (last : Bs) : RdS :=
  if dTrim ln = [] then .stop
  else if ln.headD 0 = 35 then .go s last
  else if dLay (ln.headD 0) = false then
    if badN s (Lib.cut ln [58]) = true then .bad else .go (addS s (Lib.cut ln [58]).1 (dTrim (Lib.cut ln [58]).2.1)) (Lib.cut ln [58]).1
  else if last = [] then .bad
  else .go (addS s last (dTrim ln)) last
def readX : Nat → Bs → Stz → Bs → Option (Stz × Bs)
  | 0, _, s, _ => some (s, [])
  | n + 1, t, s, last => if t = [] then some (s, []) else match stepX (Lib.cut t [10]).1 s last with
    | .stop => some (s, (Lib.cut t [10]).2.1)
    | .bad => none
    | .go s' l' => readX n (Lib.cut t [10]).2.1 s' l'
/-! Weights. -/
def wtL (l : List Bs) : Nat := (l.map fun x => x.length + 1).sum
def wtS (s : Stz) : Nat := (s.map fun e => wtL e.2).sum
theorem wtL_app (l m : List Bs) : wtL (l ++ m) = wtL l + wtL m := by unfold wtL; simp
theorem wtS_add (n x : Bs) : ∀ s : Stz, wtS (addS s n x) = wtS s + (x.length + 1)
  | [] => by show wtS [(n, [x])] = _; simp [wtS, wtL]
  | (a, l) :: r => by
    by_cases h : n = a
    · rw [show addS ((a, l) :: r) n x = (a, l ++ [x]) :: r from if_pos h]
      show wtL (l ++ [x]) + wtS r = wtL l + wtS r + _
      rw [wtL_app]
      have : wtL [x] = x.length + 1 := by simp [wtL]
      omega
    · rw [show addS ((a, l) :: r) n x = (a, l) :: addS r n x from if_neg h]
      show wtL l + wtS (addS r n x) = wtL l + wtS r + _
      rw [wtS_add n x r]
      omega
theorem wt_get (n : Bs) : ∀ s : Stz, wtL (getS s n) ≤ wtS s
  | [] => by simp [getS, wtL, wtS]
  | (a, l) :: r => by
    show wtL (if n = a then l else getS r n) ≤ wtL l + wtS r
    by_cases h : n = a
    · rw [if_pos h]; omega
    · rw [if_neg h]; have := wt_get n r; omega
theorem wt_len : ∀ l : List Bs, l.length ≤ wtL l
  | [] => Nat.zero_le _
  | x :: r => by
    have := wt_len r
    show r.length + 1 ≤ (x.length + 1) + wtL r
    omega
theorem cutc_len (c : UInt8) (l : Bs) : (Lib.cut l [c]).1.length ≤ l.length ∧ (Lib.cut l [c]).2.1.length ≤ l.length ∧ (l ≠ [] → (Lib.cut l [c]).2.1.length < l.length ∧ (Lib.cut l [c]).1.length + 1 + 2 * (Lib.cut l [c]).2.1.length ≤ 2 * l.length) := by
  unfold Lib.cut
  split
  · refine ⟨by show (l.take _).length ≤ _; simp; omega, by show (l.drop _).length ≤ _; simp, fun hne => ?_⟩
    have h0 : 0 < l.length := List.length_pos_iff.2 hne
    show (l.drop _).length < _ ∧ (l.take _).length + 1 + 2 * (l.drop _).length ≤ _
    simp only [List.length_drop, List.length_take, List.length_singleton]
    omega
  · refine ⟨Nat.le_refl _, Nat.zero_le _, fun hne => ?_⟩
    have h0 : 0 < l.length := List.length_pos_iff.2 hne
    show (0 : Nat) < _ ∧ l.length + 1 + 2 * 0 ≤ _
    omega
/-! The functions that it calls. -/
theorem cutc_any (c : UInt8) (t : Bs) (ht : t.length ≤ 40000) (w : World) (hM : MaxAt w) :
    Calls Tryz.prog 41 #[.string (mkS t), .string (mkS [c])] w fun e w' => e = .returned (.tuple #[.string (mkS (Lib.cut t [c]).1), .string (mkS (Lib.cut t [c]).2.1), .bool (Lib.cut t [c]).2.2]) ∧ Below w.heap.size w w' := by
  obtain ⟨m, hm⟩ := hM
  refine (Tryz.strings_Cut (mkS t) (mkS [c]) m w (by rw [mkS_size]; omega) hm).mono ?_
  rintro e w' ⟨rfl, n, rfl⟩
  exact ⟨rfl, below_drewN' (Below.refl _ _) n⟩
theorem contains_any {cs : Bs} (hse : Seps cs) (l : Bs) (hl : l.length ≤ 200000) (w : World) :
    Calls Tryz.prog 44 #[.string (mkS l), .string (mkS cs)] w fun e w' => e = .returned (.bool (decide (plainN cs l < l.length))) ∧ Below w.heap.size w w' := by
  have C := Lib.hid (indexAny_any hse (mkS l) (by rw [mkS_size]; unfold maxLen; omega) w)
  rw [mkS_list] at C
  unfold anyAt at C
  by_cases h : plainN cs l < l.length
  · rw [if_pos h] at C
    rw [decide_eq_true h]
    generalize plainN cs l = n at *
    clear h hl
    generalize mkS l = S at *
    generalize mkS cs = CS at *
    have hn : (0 : Int) ≤ (n : Int) := by omega
    go_enter Tryz.func44, Tryz.ntmps44
    go_wp2_with fail
    refine C.out.mono ?_
    rintro e w1 ⟨rfl, hb1⟩
    have HB := Lib.hid hb1
    clear hb1 C
    go_wp2_with fail
    go_ret
    exact ⟨by simp, HB.out⟩
  · rw [if_neg h] at C
    rw [decide_eq_false h]
    clear h hl
    generalize mkS l = S at *
    generalize mkS cs = CS at *
    go_enter Tryz.func44, Tryz.ntmps44
    go_wp2_with fail
    refine C.out.mono ?_
    rintro e w1 ⟨rfl, hb1⟩
    have HB := Lib.hid hb1
    clear hb1 C
    go_wp2_with fail
    go_ret
    exact ⟨rfl, HB.out⟩
theorem indexLay (b : UInt8) : (dLay b = true → 0 ≤ Lib.indexByte [32, 9] b) ∧ (dLay b = false → Lib.indexByte [32, 9] b = -1) := by
  unfold dLay
  constructor
  · intro h
    rcases Bool.or_eq_true_iff.1 h with h | h
    · rw [eq_of_beq h]; decide
    · rw [eq_of_beq h]; decide
  · intro h
    obtain ⟨h1, h2⟩ := Bool.or_eq_false_iff.1 h
    have e1 : ((32 : UInt8) == b) = false := by rw [Bool.beq_comm]; exact h1
    have e2 : ((9 : UInt8) == b) = false := by rw [Bool.beq_comm]; exact h2
    unfold Lib.indexByte Lib.indexByte Lib.indexByte
    rw [e1, e2]
    rfl
/-! Memory. -/
section
variable {w w7 w8 : World} {B sm : Nat} {s : Stz} {vs : List Value} {n x : Bs} {v v' : Value}
theorem look_own (n : Bs) : ∀ {s : Stz} {vs : List Value}, RowsS w B s vs → w.ownsRow B 9 1 ((lookO (mkS n) (szEs s vs)).getD (.slice none 0 0)) (getS s n).length ((getS s n).map fun p => Value.string (mkS p))
  | [], [], _ => World.ownsRow_nil _ _ _ _
  | (a, l) :: r, u :: t, ⟨h1, h2, h3⟩ => by
    show w.ownsRow B 9 1 ((if mkS n = mkS a then some u else lookO (mkS n) (szEs r t)).getD _) (if n = a then l else getS r n).length ((if n = a then l else getS r n).map _)
    by_cases h : n = a
    · rw [if_pos h, if_pos (by rw [h])]
      exact h2
    · rw [if_neg h, if_neg (fun e => h (mkS_inj_ e))]
      exact look_own n h3
theorem rowsT {F : List Nat} (ht : Turned F w w7) (hF : ∀ k ∈ F, ∀ cs, ¬ Blk w k 9 cs) : ∀ {s : Stz} {vs : List Value}, RowsS w B s vs → RowsS w7 B s vs
  | [], [], _ => trivial
  | (_, l) :: r, v :: t, ⟨h1, h2, h3⟩ => ⟨h1, own_turned h2 ht (fun k hk hm => by
    rcases h2.2 with ⟨rfl, _⟩ | ⟨g, cap, cur, rfl, _, hg, _⟩
    · cases hk
    · injection hk with hk
      subst hk
      exact hF _ hm _ hg), rowsT ht hF h3⟩
end
section
variable {w w7 w8 : World} {B sm k : Nat} {s : Stz} {vs : List Value} {n x : Bs} {v v' : Value} {xs : List Value}
theorem own_no_map (h : w.ownsRow B 9 1 v k xs) {l : List (ByteArray × Value)} (hm : w.heap[sm]? = some (mapO l)) : v.ownBlock ≠ some sm := by
  rcases h.2 with ⟨rfl, _⟩ | ⟨g, cap, cur, rfl, _, hg, _⟩
  · intro e; cases e
  · intro e
    injection e with e
    exact map_not_blk hm hg e.symm
theorem SzAt.map7 (h : SzAt w B sm s vs) (ho : w.ownsRow B 9 1 v k xs) (hg : w.grownBy w7 v.ownBlock) : w7.heap[sm]? = some (mapO (szEs s vs)) :=
  map_turned' h.map ((Turned.refl _ w).grown (F := v.ownBlock.toList) hg (fun k hk => .inl (by rw [hk]; simp))) (fun hm => own_no_map ho h.map (by simpa using hm))
theorem SzAt.put1 (h : SzAt w B sm s vs) (hA : ApV vs) (hv : (lookO (mkS n) (szEs s vs)).getD (.slice none 0 0) = v) (hg : w.grownBy w7 v.ownBlock) (hat : v'.ownBlock = v.ownBlock ∨ v'.ownBlock = some w.heap.size)
    (ho : w7.ownsRow B 9 1 v' ((getS s n).length + 1) ((getS s n ++ [x]).map fun p => Value.string (mkS p))) (hm7 : w7.heap[sm]? = some (mapO (szEs s vs))) (hm8 : w8.heap[sm]? = some (mapO (putO (mkS n) v' (szEs s vs)))) (ht : Turned [sm] w7 w8) :
    SzAt w8 B sm (addS s n x) (putV s vs n v') ∧ ApV (putV s vs n v') := by
  obtain ⟨h1, h2⟩ := rows_put (x := x) hg hat h.rows hA hv ho
  refine ⟨⟨by rw [szEs_put h.rows]; exact hm8, rowsT ht (fun k hk cs hb => ?_) h1⟩, h2⟩
  rw [List.mem_singleton.1 hk] at hb
  exact map_not_blk hm7 hb rfl
end
def ReadPost (w0 : World) (X : Option (Stz × Bs)) (e : Ending) (w' : World) : Prop := match X with
  | none => e = .returned (.tuple #[.map none, .string ⟨#[]⟩, .int .i64 120]) ∧ Below w0.heap.size w0 w'
  | some (s, rest) => ∃ sm vs, e = .returned (.tuple #[.map (some sm), .string (mkS rest), .int .i64 0]) ∧ SzAt w' w0.heap.size sm s vs ∧ w0.heap.size ≤ sm ∧ wtS s ≤ 80000 ∧ Below w0.heap.size w0 w'
end Go.Proofs.YtdhgiammfpjniaaGreatDoor

/- A region that draws its order: what is not wanted. -/
namespace Go.Proofs.YtdhgiammfpjniaaGreatDoor
set_option linter.unusedSimpArgs false
set_option linter.unusedVariables false
open Go
section
variable {P : Program} {ops : Array Oper} {Q : Exit → Act → World → Prop} {md : Region.Mode} {S : Array Bool → World → Prop}
/-- Take number i first, whose guard does not hold. -/
theorem wpAnyS_skip {i : Nat} {oi : Oper} {fuel : Nat} {listed : Array Bool} {a : Act} {w : World} (hi : ops[i]? = some oi)
    (hs : Region.noSelect ops = true) (hf : Region.free md ops listed i = true) (hr : (Region.ready md ops listed).contains i = true)
    (hQ : ∀ c a w, Q (.panic c) (a.put oi.dst undef) w → Q (.panic c) a w)
    (hio : ∀ l w, S (l.setIfInBounds i true) w ↔ S l w)
    (hwt : ((List.range ops.size).all fun k => !Region.waitsFor md ops k i || !listed.getD k true) = true)
    (hS : S listed w) (hw : Region.wanted oi (yielded ops a.tmps) = false)
    (h : S (listed.setIfInBounds i true) w → wpAnyS P md ops Q S fuel (listed.setIfInBounds i true) (a.put oi.dst undef) w) : wpAnyS P md ops Q S (fuel + 1) listed a w := by
  refine wpAnyS_first (S' := fun _ => True) hi (Region.noSelect_spec hs) hQ (fun _ _ _ _ => trivial) hio fuel listed a w (Region.free_spec hi hf) (fun k hk => ?_) (by simpa using hr) (.inr ⟨hw, rfl⟩) hS (h ((hio _ _).2 hS))
  obtain ⟨o', ho', _⟩ := Region.waitsFor_spec hk
  have h1 := List.all_eq_true.1 hwt k (List.mem_range.2 (Array.getElem?_eq_some_iff.1 ho').1)
  rw [hk] at h1
  simpa using h1
/-- Till number n, a store, nothing has turned. -/
def TillN (n : Nat) (w0 : World) (l : Array Bool) (w : World) : Prop := l.getD n true = false → w = w0
theorem TillN.io {n i : Nat} {w0 : World} (h : i ≠ n) (l : Array Bool) (w : World) : TillN n w0 (l.setIfInBounds i true) w ↔ TillN n w0 l w := by
  unfold TillN
  rw [getD_set_ne true h]
end
end Go.Proofs.YtdhgiammfpjniaaGreatDoor

/- What a text takes. -/
namespace Go.Proofs.YtdhgiammfpjniaaGreatDoor
set_option linter.unusedSimpArgs false
set_option linter.unusedVariables false
open Go.RowKit

theorem info_str : ∃ i z, Tryz.prog.info? 9 = some i ∧ i.zero = some z ∧ z.cells.size = 1 ∧ i.size = 1 ∧ i.bytes = 16 := by
  have h : (Tryz.prog.info? 9).map (fun i => (i.zero.map fun z => z.cells.size, i.size, i.bytes)) = some (some 1, 1, 16) := by kernel_rfl
  obtain ⟨i, hi, h2⟩ := Option.map_eq_some_iff.1 h
  simp only [Prod.mk.injEq] at h2
  obtain ⟨z, hz, hz1⟩ := Option.map_eq_some_iff.1 h2.1
  exact ⟨i, z, hi, hz, hz1, h2.2.1, h2.2.2⟩
end Go.Proofs.YtdhgiammfpjniaaGreatDoor
