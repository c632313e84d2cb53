/- A text of stanzas: pure, and the packages in memory. Parse as a fold over a text's lines: pure. The packages for the reference's comparison; a text's lines. -/
import Derived.Test.YtdhgiammfpjniaaGreatDoorZaay
import Derived.Test.YtdhgiammfpjniaaGreatDoorZabb
import Derived.Test.YtdhgiammfpjniaaGreatDoorZaax
import Derived.Deep.LoopGhost
/- A text of stanzas: pure, and the packages in memory. -/
namespace Go.Proofs.YtdhgiammfpjniaaGreatDoor
set_option linter.unusedSimpArgs false
set_option linter.unusedVariables false
open Go.RowKit Go.MapKept

def parseX : Nat → Bs → List Fs → Except Int (List Fs)
  | 0, _, acc => .ok acc
  | n + 1, t, acc => if t = [] then .ok acc else match readX (t.length + 1) t [] [] with
    | none => .error 120
    | some (s, rest) => if s = [] then parseX n rest acc else if 200 ≤ acc.length then .error 121 else match packX s with
      | .error e => .error e
      | .ok S => parseX n rest (acc ++ [S])
theorem readX_le : ∀ (n : Nat) (t : Bs) (s : Stz) (last : Bs) (s' : Stz) (rest : Bs), readX n t s last = some (s', rest) → rest.length ≤ t.length ∧ (0 < n → t ≠ [] → rest.length < t.length)
  | 0, t, s, last, s', rest, h => by
    injection h with h
    injection h with h1 h2
    subst h2
    exact ⟨Nat.zero_le _, fun h => absurd h (Nat.lt_irrefl _)⟩
  | n + 1, t, s, last, s', rest, h => by
    by_cases ht : t = []
    · subst ht
      rw [readX_nil] at h
      injection h with h
      injection h with h1 h2
      subst h2
      exact ⟨Nat.le_refl _, fun _ h => absurd rfl h⟩
    · rw [readX_cons ht] at h
      obtain ⟨_, l2, l3⟩ := cutc_len 10 t
      obtain ⟨l3, _⟩ := l3 ht
      cases hs : stepX (Lib.cut t [10]).1 s last with
      | stop =>
        rw [hs] at h
        injection h with h
        injection h with h1 h2
        subst h2
        exact ⟨l2, fun _ _ => l3⟩
      | bad => rw [hs] at h; cases h
      | go s1 l1 =>
        rw [hs] at h
        have := (readX_le n _ s1 l1 s' rest h).1
        exact ⟨by omega, fun _ _ => by omega⟩
theorem parseX_nil {n : Nat} {acc : List Fs} : parseX (n + 1) [] acc = .ok acc := if_pos rfl
theorem parseX_cons {n : Nat} {t : Bs} {acc : List Fs} (h : t ≠ []) : parseX (n + 1) t acc = match readX (t.length + 1) t [] [] with
    | none => .error 120
    | some (s, rest) => if s = [] then parseX n rest acc else if 200 ≤ acc.length then .error 121 else match packX s with
      | .error e => .error e
      | .ok S => parseX n rest (acc ++ [S]) := if_neg h
/-! The packages. -/
structure Pk5 where
  S : Fs
  ss : Nat → Value
  rs : Nat → Ev.Rows5
  F : List Nat
structure PkV (w : World) (x : Pk5) : Prop where
  own : ∀ i, i < 7 → w.ownsRow 0 39 5 (x.ss i) (x.rs i).length (Ev.cells5 (x.rs i))
  is : ∀ i, i < 7 → (x.rs i).map Prod.fst = x.S.D i
  lay : ∀ i, i < 7 → ∀ y ∈ x.rs i, Ev.Lay w (fun b => b ∈ x.F) y.1 y.2
  dep : ∀ b ∈ x.F, ∃ cs, Blk w b 39 cs
theorem own_zero {w : World} {base n sz : Nat} {e : TypeId} {v : Value} {xs : List Value} (h : w.ownsRow base e sz v n xs) : w.ownsRow 0 e sz v n xs := by
  refine ⟨h.1, ?_⟩
  rcases h.2 with h2 | ⟨g, cap, cur, h1, _, h3⟩
  · exact .inl h2
  · exact .inr ⟨g, cap, cur, h1, Nat.zero_le _, h3⟩
theorem PkM.val {w0 w : World} {pb : Nat} {T : Nat → Bs} {D : Nat → List Ev.Dep} {ss : Nat → Value} {rs : Nat → Ev.Rows5} {F : List Nat} (h : PkM w0 w pb T D ss rs F) : PkV w ⟨⟨T, D⟩, ss, rs, F⟩ :=
  ⟨fun i hi => own_zero (h.own i hi), h.is, h.lay, fun b hb => (h.dep b hb).2⟩
theorem PkV.turned {w w' : World} {x : Pk5} {R : List Nat} (h : PkV w x) (ht : Turned R w w') (hR : ∀ k ∈ R, w.heap.size ≤ k ∨ ∃ cs, Blk w k 37 cs) : PkV w' x := by
  have hn : ∀ b ∈ x.F, b ∉ R := fun b hb hm => by
    obtain ⟨cs', h2⟩ := h.dep b hb
    rcases hR b hm with h3 | ⟨cs, h3⟩
    · have := h2.lt
      omega
    · exact Blk.kind h2 h3 (by decide) rfl
  refine ⟨fun i hi => own_turned (h.own i hi) ht (fun k hk hm => ?_), h.is, fun i hi y hy => Ev.Lay.stay (fun _ h => h) (Ev.StayS.turned ht hn) y.1 y.2 (h.lay i hi y hy), fun b hb => ?_⟩
  · rcases hR k hm with h3 | ⟨cs, h3⟩
    · have := own_lt (h.own i hi) hk
      omega
    · exact own_kind (h.own i hi) h3 (by decide) hk
  · obtain ⟨cs', h2⟩ := h.dep b hb
    exact ⟨cs', h2.turned ht (hn b hb)⟩
theorem PkV.below {w w' : World} {x : Pk5} (h : PkV w x) (hb : Below w.heap.size w w') : PkV w' x := h.turned (Turned.of_below hb []) (fun k hk => by cases hk)
theorem PkV.list {w : World} {x : Pk5} (h : PkV w x) {i : Nat} (hi : i < 7) : Ev.ListAt w (DbB w) (x.S.D i) (x.ss i) := by
  have hD := h.is i hi
  have hlen : (x.S.D i).length = (x.rs i).length := by rw [← hD, List.length_map]
  rcases (h.own i hi).2 with ⟨hv, h0⟩ | ⟨g, cap, cur, hv, hb, hg, h1, h2, h3, ht⟩
  · have hr : x.rs i = [] := List.length_eq_zero_iff.1 h0
    rw [hr] at hD
    rw [← hD]
    exact ⟨none, 0, hv, Nat.le_refl _, by unfold maxLen; omega, fun _ => rfl, fun j a ha => by simp at ha⟩
  · refine ⟨some ⟨g, 0, none⟩, cap, by rw [hlen]; exact hv, by omega, h2, fun e => (by cases e), fun j a ha => ?_⟩
    rw [← hD, List.getElem?_map] at ha
    obtain ⟨y, hx, rfl⟩ := Option.map_eq_some_iff.1 ha
    obtain ⟨c0, c1, c2, c3, c4⟩ := Ev.cells5_at hx
    have hown := h.own i hi
    rw [hv] at hown
    have hat : ∀ {k : Nat} {u : Value}, (Ev.cells5 (x.rs i))[k]? = some u → w.cell? ⟨g, k, none⟩ = some u := fun {k u} hk => by
      obtain ⟨b, e, hc⟩ := own_ats hown hk
      injection e with e
      injection e with e
      subst e
      exact hc
    have hB : ∀ b, b ∈ x.F → DbB w b := fun b hb => h.dep b hb
    exact ⟨g, 0, y.2, rfl, ⟨cur, hg⟩, ⟨by rw [Nat.zero_add]; exact hat c0, by rw [Nat.zero_add]; exact hat c1, by rw [Nat.zero_add]; exact hat c2, by rw [Nat.zero_add]; exact hat c3, by rw [Nat.zero_add]; exact hat c4⟩, Ev.Lay.stay hB (Ev.StayS.refl _ _) y.1 y.2 (h.lay i hi y (List.mem_of_getElem? hx))⟩
theorem PkV.pkg {w : World} {x : Pk5} (h : PkV w x) : Ev.PkgAt w (DbB w) (fun _ => False) (pkgT x.S) x.ss (.slice none 0 0) :=
  ⟨fun i hi => by
    have e : (pkgT x.S).ls i = x.S.D i := if_pos hi
    rw [e]
    exact h.list hi, ⟨none, 0, rfl, Nat.le_refl _, by unfold maxLen; omega, fun _ => rfl, fun k s hk => by simp [pkgT] at hk⟩⟩
def rowsC : List Pk5 → List Value
  | [] => []
  | x :: r => (rowT x.S.T x.ss).toList ++ rowsC r
theorem rowsC_snoc (x : Pk5) : ∀ l : List Pk5, rowsC (l ++ [x]) = rowsC l ++ (rowT x.S.T x.ss).toList
  | [] => by show (rowT x.S.T x.ss).toList ++ [] = [] ++ _; rw [List.append_nil]; rfl
  | y :: r => by show _ ++ rowsC (r ++ [x]) = (_ ++ rowsC r) ++ _; rw [rowsC_snoc x r, List.append_assoc]
structure PsV (w0 w : World) (v : Value) (xs : List Pk5) : Prop where
  row : w.ownsRow w0.heap.size 37 12 v xs.length (rowsC xs)
  all : ∀ x ∈ xs, PkV w x
  bel : Below w0.heap.size w0 w
theorem PsV.below {w0 w w' : World} {v : Value} {xs : List Pk5} (h : PsV w0 w v xs) (hb : Below w.heap.size w w') : PsV w0 w' v xs :=
  ⟨own_turned h.row (Turned.of_below hb []) (fun k hk => by simp), fun x hx => (h.all x hx).below hb, h.bel.trans (hb.mono h.bel.size)⟩
theorem PsV.put {w0 w w2 : World} {v v' : Value} {xs : List Pk5} {x : Pk5} (h : PsV w0 w v xs) (hx : PkV w x) (hown : w2.ownsRow w0.heap.size 37 12 v' (xs.length + 1) (rowsC xs ++ (rowT x.S.T x.ss).toList)) (hg : w.grownBy w2 v.ownBlock) : PsV w0 w2 v' (xs ++ [x]) := by
  have ht : Turned v.ownBlock.toList w w2 := grown_turned hg
  have hR : ∀ k ∈ v.ownBlock.toList, w.heap.size ≤ k ∨ ∃ cs, Blk w k 37 cs := fun k hk => by
    have hk : v.ownBlock = some k := by simpa using hk
    rcases h.row.2 with ⟨rfl, _⟩ | ⟨g, cap, cur, rfl, _, hg, _⟩
    · cases hk
    · injection hk with hk
      subst hk
      exact .inr ⟨cur, hg⟩
  refine ⟨by rw [rowsC_snoc, List.length_append]; exact hown, fun y hy => ?_, h.bel.trans (ht.below (fun k hk => ?_) h.bel.size)⟩
  · rcases List.mem_append.1 hy with hy | hy
    · exact (h.all y hy).turned ht hR
    · rw [List.mem_singleton.1 hy]
      exact hx.turned ht hR
  · exact (h.row.lt k (by simpa using hk)).1
def ParsePost (w0 : World) (X : Except Int (List Fs)) (e : Ending) (w' : World) : Prop := match X with
  | .error n => e = .returned (.tuple #[.slice none 0 0, .int .i64 n]) ∧ n ≠ 0 ∧ Below w0.heap.size w0 w'
  | .ok l => ∃ v xs, e = .returned (.tuple #[v, .int .i64 0]) ∧ xs.map Pk5.S = l ∧ PsV w0 w' v xs
theorem szEs_len {w : World} {B : Nat} : ∀ {s : Stz} {vs : List Value}, RowsS w B s vs → (szEs s vs).length = s.length
  | [], [], _ => rfl
  | (a, l) :: r, v :: t, ⟨_, _, h⟩ => by show (szEs r t).length + 1 = r.length + 1; rw [szEs_len h]
theorem mapEs_len : ∀ (l : List (ByteArray × Value)) (i : Nat), (mapEs l i).length = l.length
  | [], _ => rfl
  | (a, v) :: r, i => by show (mapEs r (i + 1)).length + 1 = r.length + 1; rw [mapEs_len r]
theorem len_stz {w : World} {B sm : Nat} {s : Stz} {vs : List Value} (h : SzAt w B sm s vs) (ty : TypeId) : (Builtin.len_ #[41] ty #[.map (some sm)]).run Tryz.prog w = .ok (.int .i64 (s.length : Int)) w := by
  have hb := h.map
  unfold mapO at hb
  have hlen : (mapEs (szEs s vs) 0).toArray.size = s.length := by
    rw [List.size_toArray, mapEs_len, szEs_len h.rows]
  have := run_len_map (P := Tryz.prog) w 41 ty sm _ _ (by kernel_rfl) hb
  rw [this, hlen]
  rfl
end Go.Proofs.YtdhgiammfpjniaaGreatDoor

/- Parse as a fold over a text's lines: pure. -/
namespace Go.Proofs.YtdhgiammfpjniaaGreatDoor
set_option linter.unusedSimpArgs false
set_option linter.unusedVariables false
open Go.RowKit Go.MapKept

def linesG : Bs → Bs → List Bs
  | [], cur => if cur = [] then [] else [cur]
  | c :: r, cur => if c = 10 then cur :: linesG r [] else linesG r (cur ++ [c])
def linesX (t : Bs) : List Bs := linesG t []
theorem cut10_cons (c : UInt8) (r : Bs) : Lib.cut (c :: r) [10] = if c = 10 then ([], r, true) else (c :: (Lib.cut r [10]).1, (Lib.cut r [10]).2.1, (Lib.cut r [10]).2.2) := by
  have hi : Lib.index (c :: r) [10] = if c = 10 then 0 else if Lib.index r [10] = -1 then -1 else Lib.index r [10] + 1 := by
    show (if ([10] : Bs).isPrefixOf (c :: r) = true then (0 : Int) else if (Lib.index r [10] == -1) = true then -1 else Lib.index r [10] + 1) = _
    by_cases h : c = 10
    · subst h
      rw [if_pos rfl]
      rfl
    · rw [if_neg h]
      have h2 : ([10] : Bs).isPrefixOf (c :: r) = false := by
        show ((10 : UInt8) == c && _) = false
        have : ((10 : UInt8) == c) = false := beq_eq_false_iff_ne.2 (fun e => h e.symm)
        rw [this]
        rfl
      rw [h2]
      simp
  by_cases h : c = 10
  · subst h
    rw [if_pos rfl] at hi
    rw [if_pos rfl]
    unfold Lib.cut
    rw [hi]
    rfl
  · rw [if_neg h] at hi ⊢
    have hg := Lib.index_ge r [10]
    unfold Lib.cut
    by_cases h1 : Lib.index r [10] = -1
    · rw [if_pos h1] at hi
      rw [hi, h1]
      rfl
    · rw [if_neg h1] at hi
      have h0 : 0 ≤ Lib.index r [10] := by omega
      rw [hi, if_pos h0, if_pos (by omega)]
      obtain ⟨k, hk⟩ : ∃ k : Nat, Lib.index r [10] = (k : Int) := ⟨(Lib.index r [10]).toNat, by omega⟩
      rw [hk]
      have e1 : ((k : Int) + 1).toNat = k + 1 := by omega
      have e2 : ((k : Int)).toNat = k := by omega
      rw [e1, e2]
      simp
theorem linesG_cut : ∀ (t cur : Bs), t ≠ [] → linesG t cur = (cur ++ (Lib.cut t [10]).1) :: linesG (Lib.cut t [10]).2.1 []
  | [], cur, h => absurd rfl h
  | c :: r, cur, _ => by
    rw [cut10_cons]
    by_cases hc : c = 10
    · rw [if_pos hc]
      show (if c = 10 then cur :: linesG r [] else _) = (cur ++ []) :: linesG r []
      rw [if_pos hc, List.append_nil]
    · rw [if_neg hc]
      show (if c = 10 then _ else linesG r (cur ++ [c])) = (cur ++ c :: (Lib.cut r [10]).1) :: linesG (Lib.cut r [10]).2.1 []
      rw [if_neg hc]
      cases r with
      | nil =>
        have e : Lib.cut ([] : Bs) [10] = ([], [], false) := rfl
        rw [e]
        show (if cur ++ [c] = [] then [] else [cur ++ [c]]) = (cur ++ [c]) :: linesG [] []
        rw [if_neg (by simp)]
        rfl
      | cons d r' =>
        rw [linesG_cut (d :: r') (cur ++ [c]) (by simp), List.append_assoc]
        rfl
theorem linesX_cut {t : Bs} (h : t ≠ []) : linesX t = (Lib.cut t [10]).1 :: linesX (Lib.cut t [10]).2.1 := by
  unfold linesX
  rw [linesG_cut t [] h, List.nil_append]
/-! The fold. -/
def endS (s : Stz) (acc : List Fs) (k : List Fs → Except Int (List Fs)) : Except Int (List Fs) := if s = [] then k acc else if 200 ≤ acc.length then .error 121 else match packX s with
  | .error e => .error e
  | .ok S => k (acc ++ [S])
def parseL : List Bs → Stz → Bs → List Fs → Except Int (List Fs)
  | [], s, _, acc => endS s acc .ok
  | ln :: r, s, last, acc => match stepX ln s last with
    | .stop => endS s acc (parseL r [] [])
    | .bad => .error 120
    | .go s' l' => parseL r s' l' acc
def readK (X : Option (Stz × Bs)) (acc : List Fs) : Except Int (List Fs) := match X with
  | none => .error 120
  | some (s, rest) => endS s acc (parseL (linesX rest) [] [])
theorem endS_nil (acc : List Fs) (k : List Fs → Except Int (List Fs)) : endS [] acc k = k acc := if_pos rfl
theorem endS_ok (s : Stz) (acc : List Fs) (k k' : List Fs → Except Int (List Fs)) (h : ∀ a, k a = k' a) : endS s acc k = endS s acc k' := by
  have : k = k' := funext h
  rw [this]
theorem read_fold : ∀ (m : Nat) (t : Bs) (s : Stz) (last : Bs) (acc : List Fs), t.length < m → readK (readX m t s last) acc = parseL (linesX t) s last acc
  | 0, t, s, last, acc, h => absurd h (Nat.not_lt_zero _)
  | m + 1, t, s, last, acc, h => by
    by_cases ht : t = []
    · subst ht
      rw [readX_nil]
      show endS s acc (parseL [] [] []) = endS s acc .ok
      exact endS_ok s acc _ _ (fun a => endS_nil a .ok)
    · rw [readX_cons ht, linesX_cut ht]
      show _ = (match stepX (Lib.cut t [10]).1 s last with
        | .stop => endS s acc (parseL (linesX (Lib.cut t [10]).2.1) [] [])
        | .bad => .error 120
        | .go s' l' => parseL (linesX (Lib.cut t [10]).2.1) s' l' acc)
      obtain ⟨_, _, l3⟩ := cutc_len 10 t
      obtain ⟨l3, _⟩ := l3 ht
      cases stepX (Lib.cut t [10]).1 s last with
      | stop => rfl
      | bad => rfl
      | go s' l' => exact read_fold m _ s' l' acc (by omega)
theorem parse_fold : ∀ (n : Nat) (t : Bs) (acc : List Fs), t.length < n → parseX n t acc = parseL (linesX t) [] [] acc
  | 0, t, acc, h => absurd h (Nat.not_lt_zero _)
  | n + 1, t, acc, h => by
    by_cases ht : t = []
    · subst ht
      rw [parseX_nil]
      exact (endS_nil acc .ok).symm
    · rw [parseX_cons ht, ← read_fold (t.length + 1) t [] [] acc (by omega)]
      have hle := fun s' r' h => (readX_le (t.length + 1) t [] [] s' r' h).2 (by omega) ht
      generalize readX (t.length + 1) t [] [] = R at *
      match R, hle with
      | none, _ => rfl
      | some (s, rest), hle =>
        have hr := hle s rest rfl
        show (if s = [] then parseX n rest acc else if 200 ≤ acc.length then .error 121 else match packX s with
          | .error e => .error e
          | .ok S => parseX n rest (acc ++ [S])) = endS s acc (parseL (linesX rest) [] [])
        unfold endS
        rw [parse_fold n rest acc (by omega)]
        cases packX s with
        | error e => rfl
        | ok S =>
          have := parse_fold n rest (acc ++ [S]) (by omega)
          simp only [this]
def parseT' (l : Bs) : Except Int (List Fs) := if l.length ≤ 40000 then parseX (l.length + 1) l [] else .error 122
theorem parseT_fold {t : Bs} (h : t.length ≤ 40000) : parseT' t = parseL (linesX t) [] [] [] := by
  unfold parseT'
  rw [if_pos h, parse_fold _ _ _ (by omega)]
/-! Two texts, one behind the other. -/
def thenL (X : Except Int (List Fs)) (k : List Fs → Except Int (List Fs)) : Except Int (List Fs) := match X with
  | .error e => .error e
  | .ok l => k l
theorem endS_then (s : Stz) (acc : List Fs) (k : List Fs → Except Int (List Fs)) : endS s acc k = thenL (endS s acc .ok) k := by
  unfold endS
  split
  · rfl
  · split
    · rfl
    · cases packX s <;> rfl
theorem thenL_assoc (X : Except Int (List Fs)) (f g : List Fs → Except Int (List Fs)) : thenL (thenL X f) g = thenL X (fun a => thenL (f a) g) := by cases X <;> rfl
theorem nil_step (s : Stz) (last : Bs) : stepX [] s last = .stop := if_pos rfl
theorem parseL_join (R : List Bs) : ∀ (L : List Bs) (s : Stz) (last : Bs) (acc : List Fs), parseL (L ++ [] :: R) s last acc = thenL (parseL L s last acc) (parseL R [] [])
  | [], s, last, acc => by
    show (match stepX [] s last with
      | .stop => endS s acc (parseL R [] [])
      | .bad => .error 120
      | .go s' l' => parseL R s' l' acc) = thenL (endS s acc .ok) (parseL R [] [])
    rw [nil_step]
    exact endS_then s acc _
  | ln :: r, s, last, acc => by
    show (match stepX ln s last with
      | .stop => endS s acc (parseL (r ++ [] :: R) [] [])
      | .bad => .error 120
      | .go s' l' => parseL (r ++ [] :: R) s' l' acc) = thenL (match stepX ln s last with
      | .stop => endS s acc (parseL r [] [])
      | .bad => .error 120
      | .go s' l' => parseL r s' l' acc) (parseL R [] [])
    cases stepX ln s last with
    | stop =>
      show endS s acc (parseL (r ++ [] :: R) [] []) = thenL (endS s acc (parseL r [] [])) (parseL R [] [])
      rw [endS_then s acc (parseL (r ++ [] :: R) [] []), endS_then s acc (parseL r [] []), thenL_assoc]
      have : (fun a => parseL (r ++ [] :: R) [] [] a) = fun a => thenL (parseL r [] [] a) (parseL R [] []) := funext fun a => parseL_join R r [] [] a
      exact congrArg (thenL (endS s acc .ok)) this
    | bad => rfl
    | go s' l' => exact parseL_join R r s' l' acc
theorem parseL_blank (R : List Bs) (acc : List Fs) : parseL ([] :: R) [] [] acc = parseL R [] [] acc := by
  show (match stepX [] [] [] with
    | .stop => endS [] acc (parseL R [] [])
    | .bad => .error 120
    | .go s' l' => parseL R s' l' acc) = _
  rw [nil_step]
  exact if_pos rfl
theorem linesG_join (u : Bs) : ∀ (t cur : Bs), (∃ L, linesG t cur = L ∧ linesG (t ++ 10 :: 10 :: u) cur = L ++ [] :: linesX u) ∨ linesG (t ++ 10 :: 10 :: u) cur = linesG t cur ++ [] :: [] :: linesX u
  | [], cur => by
    by_cases h : cur = []
    · subst h
      exact .inr rfl
    · refine .inl ⟨_, rfl, ?_⟩
      show cur :: [] :: linesX u = (if cur = [] then [] else [cur]) ++ [] :: linesX u
      rw [if_neg h]
      rfl
  | c :: r, cur => by
    by_cases hc : c = 10
    · have e1 : linesG (c :: r) cur = cur :: linesG r [] := if_pos hc
      have e2 : linesG (c :: r ++ 10 :: 10 :: u) cur = cur :: linesG (r ++ 10 :: 10 :: u) [] := if_pos hc
      rcases linesG_join u r [] with ⟨L, h1, h2⟩ | h
      · exact .inl ⟨_, rfl, by rw [e1, e2, h1, h2]; rfl⟩
      · exact .inr (by rw [e1, e2, h]; rfl)
    · have e1 : linesG (c :: r) cur = linesG r (cur ++ [c]) := if_neg hc
      have e2 : linesG (c :: r ++ 10 :: 10 :: u) cur = linesG (r ++ 10 :: 10 :: u) (cur ++ [c]) := if_neg hc
      rw [e1, e2]
      exact linesG_join u r (cur ++ [c])
theorem parseL_two (t u : Bs) (acc : List Fs) : parseL (linesX (t ++ 10 :: 10 :: u)) [] [] acc = thenL (parseL (linesX t) [] [] acc) (parseL (linesX u) [] []) := by
  unfold linesX
  rcases linesG_join u t [] with ⟨L, h1, h2⟩ | h
  · rw [h1, h2, parseL_join]
    rfl
  · rw [h, parseL_join]
    have : (fun a => parseL ([] :: linesX u) [] [] a) = fun a => parseL (linesX u) [] [] a := funext fun a => parseL_blank _ a
    exact congrArg (thenL _) this
/-! Lines that begin with #. -/
end Go.Proofs.YtdhgiammfpjniaaGreatDoor

/- The packages for the reference's comparison; a text's lines. -/
namespace Go.Proofs.YtdhgiammfpjniaaGreatDoor
set_option linter.unusedSimpArgs false
set_option linter.unusedVariables false
open Go.RowKit Go.MapKept

theorem rowsC_at {j : Nat} (hj : j < 12) : ∀ (xs : List Pk5) (k : Nat) (x : Pk5), xs[k]? = some x → (rowsC xs)[k * 12 + j]? = (rowT x.S.T x.ss)[j]?
  | [], k, x, h => by simp at h
  | y :: r, 0, x, h => by
    injection h with h
    subst h
    show ((rowT y.S.T y.ss).toList ++ rowsC r)[0 * 12 + j]? = _
    rw [Nat.zero_mul, Nat.zero_add, List.getElem?_append_left (by show j < 12; exact hj), Array.getElem?_toList]
  | y :: r, k + 1, x, h => by
    show ((rowT y.S.T y.ss).toList ++ rowsC r)[(k + 1) * 12 + j]? = _
    have hl : (rowT y.S.T y.ss).toList.length = 12 := rfl
    rw [List.getElem?_append_right (by rw [hl]; omega), hl, show (k + 1) * 12 + j - 12 = k * 12 + j from by omega]
    exact rowsC_at hj r k x (by simpa using h)
theorem PsV.pks {w0 w : World} {A : Option Addr} {n c : Nat} {xs : List Pk5} (h : PsV w0 w (.slice A n c) xs) : Ev.PksAt w (xs.map fun x => pkgT x.S) A := fun k p hk => by
  rw [List.getElem?_map] at hk
  obtain ⟨x, hx, rfl⟩ := Option.map_eq_some_iff.1 hk
  have hV := h.all x (List.mem_of_getElem? hx)
  obtain ⟨b, rfl, _⟩ := own_ats h.row (k := k * 12 + 0) (u := .string (mkS (x.S.T 0))) (by rw [rowsC_at (by omega) xs k x hx]; rfl)
  refine ⟨b, 0, x.ss, .slice none 0 0, DbB w, fun _ => False, rfl, hV.pkg, by simp [pkgT], fun j hj => ?_⟩
  obtain ⟨u, hu⟩ : ∃ u, (rowT x.S.T x.ss)[j]? = some u := ⟨_, Array.getElem?_eq_getElem (by show j < 12; exact hj)⟩
  obtain ⟨b', e, hc⟩ := own_ats h.row (k := k * 12 + j) (u := u) (by rw [rowsC_at hj xs k x hx]; exact hu)
  injection e with e
  injection e with e
  subst e
  rw [Nat.zero_add, hc]
  exact hu.symm
end Go.Proofs.YtdhgiammfpjniaaGreatDoor
