/- Parse as a fold over a text's lines: pure. The packages for the reference's comparison; a text's lines. What all laws of debctl begin with: awake; the law of its names. DebctlNotes. DebctlNames: the law at the world that came in. DebctlNotes: the law at what came in. -/
import Derived.Test.YtljldbdjkjllhaaGreatDoorWta
import Derived.Test.YtljldbdjkjllhaaGreatDoorWdb
import Derived.Deep.LoopGhost
import Derived.Test.YtljldbdjkjllhaaGreatDoorWma
import Derived.Test.YtljldbdjkjllhaaGreatDoorWab
import Derived.Shelf.Vars
import Derived.LaidLaws
/- Parse as a fold over a text's lines: pure. -/
namespace Go.Proofs.YtljldbdjkjllhaaGreatDoor
set_option linter.unusedSimpArgs false
set_option linter.unusedVariables false
open Go.RowKit Go.MapKept

def linesG : Bs → Bs → List Bs
  | [], cur => if cur = [] then [] else [cur]
  | c :: r, cur => if c = 10 then cur :: linesG r [] else linesG r (cur ++ [c])
def linesX (t : Bs) : List Bs := linesG t []
theorem cut10_cons (c : UInt8) (r : Bs) : Lib.cut (c :: r) [10] = if c = 10 then ([], r, true) else (c :: (Lib.cut r [10]).1, (Lib.cut r [10]).2.1, (Lib.cut r [10]).2.2) := by
  have hi : Lib.index (c :: r) [10] = if c = 10 then 0 else if Lib.index r [10] = -1 then -1 else Lib.index r [10] + 1 := by
    show (if ([10] : Bs).isPrefixOf (c :: r) = true then (0 : Int) else if (Lib.index r [10] == -1) = true then -1 else Lib.index r [10] + 1) = _
    by_cases h : c = 10
    · subst h
      rw [if_pos rfl]
      rfl
    · rw [if_neg h]
      have h2 : ([10] : Bs).isPrefixOf (c :: r) = false := by
        show ((10 : UInt8) == c && _) = false
        have : ((10 : UInt8) == c) = false := beq_eq_false_iff_ne.2 (fun e => h e.symm)
        rw [this]
        rfl
      rw [h2]
      simp
  by_cases h : c = 10
  · subst h
    rw [if_pos rfl] at hi
    rw [if_pos rfl]
    unfold Lib.cut
    rw [hi]
    rfl
  · rw [if_neg h] at hi ⊢
    have hg := Lib.index_ge r [10]
    unfold Lib.cut
    by_cases h1 : Lib.index r [10] = -1
    · rw [if_pos h1] at hi
      rw [hi, h1]
      rfl
    · rw [if_neg h1] at hi
      have h0 : 0 ≤ Lib.index r [10] := by omega
      rw [hi, if_pos h0, if_pos (by omega)]
      obtain ⟨k, hk⟩ : ∃ k : Nat, Lib.index r [10] = (k : Int) := ⟨(Lib.index r [10]).toNat, by omega⟩
      rw [hk]
      have e1 : ((k : Int) + 1).toNat = k + 1 := by omega
      have e2 : ((k : Int)).toNat = k := by omega
      rw [e1, e2]
      simp
theorem linesG_cut : ∀ (t cur : Bs), t ≠ [] → linesG t cur = (cur ++ (Lib.cut t [10]).1) :: linesG (Lib.cut t [10]).2.1 []
  | [], cur, h => absurd rfl h
  | c :: r, cur, _ => by
    rw [cut10_cons]
    by_cases hc : c = 10
    · rw [if_pos hc]
      show (if c = 10 then cur :: linesG r [] else _) = (cur ++ []) :: linesG r []
      rw [if_pos hc, List.append_nil]
    · rw [if_neg hc]
      show (if c = 10 then _ else linesG r (cur ++ [c])) = (cur ++ c :: (Lib.cut r [10]).1) :: linesG (Lib.cut r [10]).2.1 []
      rw [if_neg hc]
      cases r with
      | nil =>
        have e : Lib.cut ([] : Bs) [10] = ([], [], false) := rfl
        rw [e]
        show (if cur ++ [c] = [] then [] else [cur ++ [c]]) = (cur ++ [c]) :: linesG [] []
        rw [if_neg (by simp)]
        rfl
      | cons d r' =>
        rw [linesG_cut (d :: r') (cur ++ [c]) (by simp), List.append_assoc]
        rfl
theorem linesX_cut {t : Bs} (h : t ≠ []) : linesX t = (Lib.cut t [10]).1 :: linesX (Lib.cut t [10]).2.1 := by
  unfold linesX
  rw [linesG_cut t [] h, List.nil_append]
/-! The fold. -/
def endS (s : Stz) (acc : List Fs) (k : List Fs → Except Int (List Fs)) : Except Int (List Fs) := if s = [] then k acc else if 200 ≤ acc.length then .error 121 else match packX s with
  | .error e => .error e
  | .ok S => k (acc ++ [S])
def parseL : List Bs → Stz → Bs → List Fs → Except Int (List Fs)
  | [], s, _, acc => endS s acc .ok
  | ln :: r, s, last, acc => match stepX ln s last with
    | .stop => endS s acc (parseL r [] [])
    | .bad => .error 120
    | .go s' l' => parseL r s' l' acc
def readK (X : Option (Stz × Bs)) (acc : List Fs) : Except Int (List Fs) := match X with
  | none => .error 120
  | some (s, rest) => endS s acc (parseL (linesX rest) [] [])
theorem endS_nil (acc : List Fs) (k : List Fs → Except Int (List Fs)) : endS [] acc k = k acc := if_pos rfl
theorem endS_ok (s : Stz) (acc : List Fs) (k k' : List Fs → Except Int (List Fs)) (h : ∀ a, k a = k' a) : endS s acc k = endS s acc k' := by
  have : k = k' := funext h
  rw [this]
theorem read_fold : ∀ (m : Nat) (t : Bs) (s : Stz) (last : Bs) (acc : List Fs), t.length < m → readK (readX m t s last) acc = parseL (linesX t) s last acc
  | 0, t, s, last, acc, h => absurd h (Nat.not_lt_zero _)
  | m + 1, t, s, last, acc, h => by
    by_cases ht : t = []
    · subst ht
      rw [readX_nil]
      show endS s acc (parseL [] [] []) = endS s acc .ok
      exact endS_ok s acc _ _ (fun a => endS_nil a .ok)
    · rw [readX_cons ht, linesX_cut ht]
      show _ = (match stepX (Lib.cut t [10]).1 s last with
        | .stop => endS s acc (parseL (linesX (Lib.cut t [10]).2.1) [] [])
        | .bad => .error 120
        | .go s' l' => parseL (linesX (Lib.cut t [10]).2.1) s' l' acc)
      obtain ⟨_, _, l3⟩ := cutc_len 10 t
      obtain ⟨l3, _⟩ := l3 ht
      cases stepX (Lib.cut t [10]).1 s last with
      | stop => rfl
      | bad => rfl
      | go s' l' => exact read_fold m _ s' l' acc (by omega)
theorem parse_fold : ∀ (n : Nat) (t : Bs) (acc : List Fs), t.length < n → parseX n t acc = parseL (linesX t) [] [] acc
  | 0, t, acc, h => absurd h (Nat.not_lt_zero _)
  | n + 1, t, acc, h => by
    by_cases ht : t = []
    · subst ht
      rw [parseX_nil]
      exact (endS_nil acc .ok).symm
    · rw [parseX_cons ht, ← read_fold (t.length + 1) t [] [] acc (by omega)]
      have hle := fun s' r' h => (readX_le (t.length + 1) t [] [] s' r' h).2 (by omega) ht
      generalize readX (t.length + 1) t [] [] = R at *
      match R, hle with
      | none, _ => rfl
      | some (s, rest), hle =>
        have hr := hle s rest rfl
        show (if s = [] then parseX n rest acc else if 200 ≤ acc.length then .error 121 else match packX s with
          | .error e => .error e
          | .ok S => parseX n rest (acc ++ [S])) = endS s acc (parseL (linesX rest) [] [])
        unfold endS
        rw [parse_fold n rest acc (by omega)]
        cases packX s with
        | error e => rfl
        | ok S =>
          have := parse_fold n rest (acc ++ [S]) (by omega)
          simp only [this]
/-! Two texts, one behind the other. -/
/-! Lines that begin with #. -/
theorem note_end : ∀ m : Bs, ∃ m' : Bs, (m ++ [35]).dropWhile dLay = m' ++ [35]
  | [] => ⟨[], rfl⟩
  | c :: r => by
    show ∃ m' : Bs, (c :: (r ++ [35])).dropWhile dLay = m' ++ [35]
    rw [List.dropWhile_cons]
    by_cases h : dLay c = true
    · rw [if_pos h]
      exact note_end r
    · rw [if_neg h]
      exact ⟨c :: r, rfl⟩
theorem note_trim (n : Bs) : ∃ m : Bs, dTrim (35 :: n) = 35 :: m := by
  obtain ⟨m', hm⟩ := note_end n.reverse
  refine ⟨m'.reverse, ?_⟩
  unfold dTrim dR dL
  rw [List.reverse_cons, hm, List.reverse_append]
  rfl
theorem note_step (n : Bs) (s : Stz) (last : Bs) : stepX (35 :: n) s last = .go s last := by
  obtain ⟨m, hm⟩ := note_trim n
  unfold stepX
  rw [if_neg (by rw [hm]; simp), if_pos (show (35 :: n).headD 0 = 35 from rfl)]
end Go.Proofs.YtljldbdjkjllhaaGreatDoor

/- The packages for the reference's comparison; a text's lines. -/
namespace Go.Proofs.YtljldbdjkjllhaaGreatDoor
set_option linter.unusedSimpArgs false
set_option linter.unusedVariables false
open Go.RowKit Go.MapKept

theorem rowsC_at {j : Nat} (hj : j < 12) : ∀ (xs : List Pk5) (k : Nat) (x : Pk5), xs[k]? = some x → (rowsC xs)[k * 12 + j]? = (rowT x.S.T x.ss)[j]?
  | [], k, x, h => by simp at h
  | y :: r, 0, x, h => by
    injection h with h
    subst h
    show ((rowT y.S.T y.ss).toList ++ rowsC r)[0 * 12 + j]? = _
    rw [Nat.zero_mul, Nat.zero_add, List.getElem?_append_left (by show j < 12; exact hj), Array.getElem?_toList]
  | y :: r, k + 1, x, h => by
    show ((rowT y.S.T y.ss).toList ++ rowsC r)[(k + 1) * 12 + j]? = _
    have hl : (rowT y.S.T y.ss).toList.length = 12 := rfl
    rw [List.getElem?_append_right (by rw [hl]; omega), hl, show (k + 1) * 12 + j - 12 = k * 12 + j from by omega]
    exact rowsC_at hj r k x (by simpa using h)
theorem PsV.pks {w0 w : World} {A : Option Addr} {n c : Nat} {xs : List Pk5} (h : PsV w0 w (.slice A n c) xs) : Ev.PksAt w (xs.map fun x => pkgT x.S) A := fun k p hk => by
  rw [List.getElem?_map] at hk
  obtain ⟨x, hx, rfl⟩ := Option.map_eq_some_iff.1 hk
  have hV := h.all x (List.mem_of_getElem? hx)
  obtain ⟨b, rfl, _⟩ := own_ats h.row (k := k * 12 + 0) (u := .string (mkS (x.S.T 0))) (by rw [rowsC_at (by omega) xs k x hx]; rfl)
  refine ⟨b, 0, x.ss, .slice none 0 0, DbB w, fun _ => False, rfl, hV.pkg, by simp [pkgT], fun j hj => ?_⟩
  obtain ⟨u, hu⟩ : ∃ u, (rowT x.S.T x.ss)[j]? = some u := ⟨_, Array.getElem?_eq_getElem (by show j < 12; exact hj)⟩
  obtain ⟨b', e, hc⟩ := own_ats h.row (k := k * 12 + j) (u := u) (by rw [rowsC_at hj xs k x hx]; exact hu)
  injection e with e
  injection e with e
  subst e
  rw [Nat.zero_add, hc]
  exact hu.symm
theorem linesG_go (t : Bs) (i fr : Nat) (c : UInt8) (hf : fr ≤ i) (hc : t[i]? = some c) : linesG (t.drop i) ((t.drop fr).take (i - fr)) = if c = 10 then (t.drop fr).take (i - fr) :: linesG (t.drop (i + 1)) ((t.drop (i + 1)).take (i + 1 - (i + 1))) else linesG (t.drop (i + 1)) ((t.drop fr).take (i + 1 - fr)) := by
  have hi := (List.getElem?_eq_some_iff.1 hc).1
  have hci := (List.getElem?_eq_some_iff.1 hc).2
  have hd : t.drop i = c :: t.drop (i + 1) := by rw [← hci]; exact List.drop_eq_getElem_cons hi
  rw [hd]
  show (if c = 10 then (t.drop fr).take (i - fr) :: linesG (t.drop (i + 1)) [] else linesG (t.drop (i + 1)) ((t.drop fr).take (i - fr) ++ [c])) = _
  by_cases h : c = 10
  · rw [if_pos h, if_pos h, Nat.sub_self]
    rfl
  · rw [if_neg h, if_neg h, show i + 1 - fr = (i - fr) + 1 from by omega, List.take_add_one]
    have : (t.drop fr)[i - fr]? = some c := by rw [List.getElem?_drop, show fr + (i - fr) = i from by omega]; exact hc
    rw [this]
    rfl
theorem mkS_cut (t : Bs) (a b : Nat) : (mkS t).extract a b = mkS ((t.drop a).take (b - a)) := by
  have : ((mkS t).extract a b).data.toList = (t.drop a).take (b - a) := by simp [mkS]
  have h2 : mkS (((mkS t).extract a b).data.toList) = (mkS t).extract a b := rfl
  rw [← h2, this]
set_option maxHeartbeats 8000000 in
set_option maxRecDepth 1000000 in
theorem lines_any (t : Bs) (ht : t.length ≤ 1048576) (w : World) : Calls Tryz.prog 20 #[.string (mkS t)] w fun e w' =>
    ∃ v, e = .returned v ∧ w'.ownsRow w.heap.size 9 1 v (linesX t).length ((linesX t).map fun p => Value.string (mkS p)) ∧ Below w.heap.size w w' := by
  obtain ⟨is_, zs, his, hzs, hzs1, hzs2, hzs3⟩ := info_str
  have HIS := Lib.hid his
  have hS : (mkS t).size = t.length := mkS_size t
  have HEX := Lib.hid (mkS_cut t)
  have HBY := Lib.hid (fun k (h : k < (mkS t).size) => byte_at h)
  rw [mkS_list] at HBY
  have HO0 : Hid (w.ownsRow w.heap.size 9 1 (.slice none 0 0) ([] : List Bs).length (([] : List Bs).map fun p => Value.string (mkS p))) := World.ownsRow_nil _ _ _ _
  have HB0 : Hid (Below w.heap.size w w) := Below.refl _ _
  have HL0 : Hid (linesX t = [] ++ linesG (t.drop 0) ((t.drop 0).take (0 - 0))) := rfl
  generalize mkS t = S at *
  clear his
  go_enter Tryz.func20, Tryz.ntmps20
  go_wp2_with fail
  go_loopg [3, 4, 5] t.length (fun gk v3 v4 v5 wx => ∃ (i fr : Nat) (L : List Bs), i + gk = t.length ∧ fr ≤ i ∧ L.length ≤ i ∧ v4 = .int .i64 (fr : Int) ∧ v5 = .int .i64 (i : Int) ∧ Hid (wx.ownsRow w.heap.size 9 1 v3 L.length (L.map fun p => Value.string (mkS p))) ∧ Hid (Below w.heap.size w wx) ∧ Hid (linesX t = L ++ linesG (t.drop i) ((t.drop fr).take (i - fr))))
  case atStart => exact ⟨0, 0, [], by omega, Nat.le_refl _, Nat.le_refl _, rfl, rfl, HO0, HB0, HL0⟩
  case round =>
    obtain ⟨i, fr, L, hig, hfi, hLi, rfl, rfl, HO, HB, HL⟩ := hrel
    clear HO0 HB0 HL0
    obtain ⟨Ag, cg, rfl, hcg1, hcg2⟩ := own_form' HO.out
    have hf0 : (0 : Int) ≤ (fr : Int) := by omega
    have hfiI : (fr : Int) ≤ (i : Int) := by omega
    have hgl2 : (L.map fun p => Value.string (mkS p)).length = L.length := List.length_map _
    by_cases hlt : i < t.length
    · have hltS : i < S.size := by omega
      have hltI : (i : Int) < (S.size : Int) := by omega
      have hiS : (i : Int) ≤ (S.size : Int) := by omega
      obtain ⟨c, hc⟩ : ∃ c, t[i]? = some c := ⟨_, List.getElem?_eq_getElem hlt⟩
      have hget : S[i]'hltS = c := by
        have h1 := HBY.out i hltS
        rw [hc] at h1
        injection h1 with h1
        exact h1.symm
      have hgo := linesG_go t i fr c hfi hc
      by_cases h10 : c = 10
      · have t10 : ((S[i].toNat : Int) == 10) = true := by rw [hget, h10]; rfl
        rw [if_pos h10] at hgo
        have HL2 : Hid (linesX t = (L ++ [(t.drop fr).take (i - fr)]) ++ linesG (t.drop (i + 1)) ((t.drop (i + 1)).take (i + 1 - (i + 1)))) := by
          rw [HL.out, hgo, List.append_assoc]
          rfl
        have hex := HEX.out fr i
        generalize (t.drop fr).take (i - fr) = cur at *
        have hbA : Below wr.heap.size wr (wr.alloc (.cells #[.string (mkS cur)] 9)) := (Below.refl _ _).alloc (Nat.le_refl _) _
        have HOA := Lib.hid (own_turned HO.out (Turned.of_below hbA []) (fun _ _ => by simp))
        have HBA := Lib.hid (HB.out.trans (hbA.mono HB.out.size))
        have HCN := Lib.hid (cell_one_new wr (.string (mkS cur)) 9)
        have hszz : w.heap.size ≤ wr.heap.size := HB.out.size
        clear hget h10 hgo hc HL HB HO hbA
        go_wp2_with (at_builtin; refine wpList_append_own_at _ rfl (.tmp 16) (.tmp 21) 37 rfl w.heap.size 9 is_ zs 1 16 Tryz.underlying37 HIS.out hzs hzs2 hzs3 hzs1 (by decide) (.slice Ag L.length cg) L.length (L.map fun p => Value.string (mkS p)) rfl HOA.out ⟨wr.heap.size, 0, none⟩ 1 1 [.string (mkS cur)] rfl rfl HCN.out (by intro u hu; simp at hu; subst hu; rfl) (by unfold maxLen; omega) (by omega) (by simp; omega) ?_; intro v7 w7 hown7 hg7 hnil7 hat7; have HO7 : Hid (w7.ownsRow w.heap.size 9 1 v7 (L ++ [cur]).length ((L ++ [cur]).map fun p => Value.string (mkS p))) := (by rw [List.length_append, List.map_append]; exact hown7); have HB7 := Lib.hid (HBA.out.trans ((grown_turned hg7).below (B := w.heap.size) (fun k hk => (HOA.out.lt k (by simpa using hk)).1) HBA.out.size)); clear hown7 hg7 hnil7 hat7)
        go_roundg (gk - 1)
        case measure => omega
        case rel => exact ⟨i + 1, i + 1, L ++ [cur], by omega, Nat.le_refl _, by simp; omega, by go_num, by go_num, HO7, HB7, HL2⟩
      · have t10 : ((S[i].toNat : Int) == 10) = false := by
          rw [hget]
          have : c.toNat ≠ 10 := fun e => h10 (UInt8.toNat_inj.1 (by rw [e]; rfl))
          simp
          omega
        rw [if_neg h10] at hgo
        have HL2 : Hid (linesX t = L ++ linesG (t.drop (i + 1)) ((t.drop fr).take (i + 1 - fr))) := by rw [HL.out, hgo]; rfl
        clear hget h10 hgo hc HL
        go_wp2_with fail
        go_roundg (gk - 1)
        case measure => omega
        case rel => exact ⟨i + 1, fr, L, by omega, by omega, by omega, rfl, by go_num, HO, HB, HL2⟩
    · have hltI : ¬ (i : Int) < (S.size : Int) := by omega
      have hil : i = t.length := by omega
      have hdr : t.drop i = [] := List.drop_eq_nil_of_le (by omega)
      have hcur : (t.drop fr).take (i - fr) = t.drop fr := List.take_of_length_le (by simp; omega)
      have hl := HL.out
      rw [hdr, hcur] at hl
      by_cases hfr : fr < t.length
      · have hfrI : (fr : Int) < (S.size : Int) := by omega
        have hfrS : (fr : Int) ≤ (S.size : Int) := by omega
        have hne : t.drop fr ≠ [] := fun e => by have := congrArg List.length e; simp at this; omega
        have HL2 : Hid (linesX t = L ++ [t.drop fr]) := by rw [hl]; show _ ++ (if t.drop fr = [] then [] else [t.drop fr]) = _; rw [if_neg hne]
        have hex := HEX.out fr t.length
        rw [List.take_of_length_le (by simp)] at hex
        generalize t.drop fr = cur at *
        have hbA : Below wr.heap.size wr (wr.alloc (.cells #[.string (mkS cur)] 9)) := (Below.refl _ _).alloc (Nat.le_refl _) _
        have HOA := Lib.hid (own_turned HO.out (Turned.of_below hbA []) (fun _ _ => by simp))
        have HBA := Lib.hid (HB.out.trans (hbA.mono HB.out.size))
        have HCN := Lib.hid (cell_one_new wr (.string (mkS cur)) 9)
        have hszz : w.heap.size ≤ wr.heap.size := HB.out.size
        clear hl hcur hdr HL HB HO hbA hil hne
        go_wp2_with (at_builtin; refine wpList_append_own_at _ rfl (.tmp 29) (.tmp 33) 37 rfl w.heap.size 9 is_ zs 1 16 Tryz.underlying37 HIS.out hzs hzs2 hzs3 hzs1 (by decide) (.slice Ag L.length cg) L.length (L.map fun p => Value.string (mkS p)) rfl HOA.out ⟨wr.heap.size, 0, none⟩ 1 1 [.string (mkS cur)] rfl rfl HCN.out (by intro u hu; simp at hu; subst hu; rfl) (by unfold maxLen; omega) (by omega) (by simp; omega) ?_; intro v7 w7 hown7 hg7 hnil7 hat7; have HO7 : Hid (w7.ownsRow w.heap.size 9 1 v7 (L ++ [cur]).length ((L ++ [cur]).map fun p => Value.string (mkS p))) := (by rw [List.length_append, List.map_append]; exact hown7); have HB7 := Lib.hid (HBA.out.trans ((grown_turned hg7).below (B := w.heap.size) (fun k hk => (HOA.out.lt k (by simpa using hk)).1) HBA.out.size)); clear hown7 hg7 hnil7 hat7)
        go_ret
        exact ⟨_, rfl, by rw [HL2.out]; exact HO7.out, HB7.out⟩
      · have hfrI : ¬ (fr : Int) < (S.size : Int) := by omega
        have he : t.drop fr = [] := List.drop_eq_nil_of_le (by omega)
        have HL2 : Hid (linesX t = L) := by rw [hl, he]; show L ++ [] = L; rw [List.append_nil]
        clear hl hcur hdr HL hil he
        go_wp2_with fail
        go_ret
        exact ⟨_, rfl, by rw [HL2.out]; exact HO.out, HB.out⟩
end Go.Proofs.YtljldbdjkjllhaaGreatDoor

/- What all laws of debctl begin with: awake; the law of its names. -/
namespace Go.Proofs.YtljldbdjkjllhaaGreatDoor
set_option linter.unusedSimpArgs false
set_option linter.unusedVariables false
open Go.RowKit Go.MapKept

def awD1 : Bs := [80, 97, 99, 107, 97, 103, 101, 58, 32, 97, 10, 86, 101, 114, 115, 105, 111, 110, 58, 32, 49, 45, 50, 10, 65, 114, 99, 104, 105, 116, 101, 99, 116, 117, 114, 101, 58, 32, 97, 108, 108, 10, 68, 101, 112, 101, 110, 100, 115, 58, 32, 98, 32, 40, 62, 61, 32, 51, 41, 44, 32, 99, 32, 124, 32, 100, 40, 60, 60, 49, 41, 10]
def awD2 : Bs := [120, 10]
def awChk : Bool := match parseT awD1 with
  | .ok [S] => decide (S.T 2 = noarN) && (match S.D 1 with
    | [.mk _ _ op _ _, .mk k _ _ _ _] => decide (op = 6) && decide (k = 3)
    | _ => false)
  | _ => false
set_option maxRecDepth 1000000 in
theorem awChk_is : awChk = true := by kernel_rfl
set_option maxRecDepth 1000000 in
theorem aw2_is : parseT awD2 = .error 120 := by kernel_rfl
theorem aw1_is : ∃ S, parseT awD1 = .ok [S] ∧ S.T 2 = noarN ∧ ∃ k1 n1 v1 a1 n2 o2 v2 a2, S.D 1 = [.mk k1 n1 6 v1 a1, .mk 3 n2 o2 v2 a2] := by
  have h := awChk_is
  unfold awChk at h
  generalize parseT awD1 = R at *
  match R, h with
  | .ok [S], h =>
    refine ⟨S, rfl, ?_⟩
    have h : (decide (S.T 2 = noarN) && (match S.D 1 with
      | [.mk _ _ op _ _, .mk k _ _ _ _] => decide (op = 6) && decide (k = 3)
      | _ => false)) = true := h
    rw [Bool.and_eq_true] at h
    obtain ⟨h1, h2⟩ := h
    refine ⟨of_decide_eq_true h1, ?_⟩
    generalize S.D 1 = L at *
    match L, h2 with
    | [.mk k1 n1 o1 v1 a1, .mk k2 n2 o2 v2 a2], h2 =>
      have h2 : (decide (o1 = 6) && decide (k2 = 3)) = true := h2
      rw [Bool.and_eq_true] at h2
      have e1 := of_decide_eq_true h2.1
      have e2 := of_decide_eq_true h2.2
      subst e1
      subst e2
      exact ⟨_, _, _, _, _, _, _, _, rfl⟩
set_option maxHeartbeats 8000000 in
set_option maxRecDepth 1000000 in
theorem dbAwake_any (W : World) (hE : DbW W) : Calls Tryz.prog 16 #[] W fun e w' => e = .returned (.bool true) ∧ Below W.heap.size W w' := by
  obtain ⟨S, hS, hT, k1, n1, v1, a1, n2, o2, v2, a2, hD⟩ := aw1_is
  have C1 := Lib.hid (fun (s : ByteArray) (h : s = mkS awD1) => (h.symm ▸ dparse_any awD1 W hE : Calls Tryz.prog 17 #[.string s] W (ParsePost W (parseT awD1))))
  have C2 := Lib.hid (fun (s : ByteArray) (h : s = mkS awD2) w' (hb : Below W.heap.size W w') => (h.symm ▸ dparse_any awD2 w' (hE.below hb) : Calls Tryz.prog 17 #[.string s] w' (ParsePost w' (parseT awD2))))
  rw [hS] at C1
  rw [aw2_is] at C2
  have HT := Lib.hid hT
  have HD := Lib.hid hD
  clear hE hS hT hD
  go_enter Tryz.func16, Tryz.ntmps16
  go_wp2_with fail
  refine (C1.out _ (by kernel_rfl)).mono ?_
  rintro e w1 ⟨v, xs, rfl, hxs, hP⟩
  have hx : ∃ x, xs = [x] ∧ x.S = S := by
    match xs, hxs with
    | [x], h =>
      injection h with h _
      exact ⟨x, rfl, h⟩
  obtain ⟨x, rfl, hxS⟩ := hx
  obtain ⟨A, m, rfl, hm1, hm2⟩ := own_form' hP.row
  have HP := Lib.hid hP
  have HXS := Lib.hid hxS
  have HB1 := Lib.hid hP.bel
  have hlen : List.length [x] = 1 := rfl
  rw [hlen] at hm1 ⊢
  clear hP hxs hxS hlen C1
  go_wp2_with fail
  refine (C2.out _ (by kernel_rfl) w1 HB1.out).mono ?_
  rintro e w2 ⟨rfl, -, hb2⟩
  have hP := HP.out.below hb2
  have hrow : w2.ownsRow W.heap.size 42 12 (.slice A 1 m) 1 (rowT x.S.T x.ss).toList := by
    have h := hP.row
    have e : rowsC [x] = (rowT x.S.T x.ss).toList := by show _ ++ [] = _; rw [List.append_nil]
    rw [e] at h
    exact h
  have hV := hP.all x (by simp)
  have h1 := hV.own 1 (by omega)
  have hD1 : (x.rs 1).map Prod.fst = [.mk k1 n1 6 v1 a1, .mk 3 n2 o2 v2 a2] := by rw [hV.is 1 (by omega), HXS.out, HD.out]
  have hrs : ∃ t1 t2, x.rs 1 = [(.mk k1 n1 6 v1 a1, t1), (.mk 3 n2 o2 v2 a2, t2)] := by
    match h : x.rs 1, hD1 with
    | [(d1, t1), (d2, t2)], h2 =>
      injection h2 with h2 h3
      injection h3 with h3 _
      have h2 : d1 = _ := h2
      have h3 : d2 = _ := h3
      subst h2
      subst h3
      exact ⟨t1, t2, rfl⟩
  obtain ⟨t1, t2, hrs⟩ := hrs
  obtain ⟨A1, m1, hv1, hn1, hn2⟩ := own_form' h1
  rw [hv1] at h1
  rw [hrs] at h1 hn1 hv1
  have hl2 : List.length [((.mk k1 n1 6 v1 a1 : Ev.Dep), t1), (.mk 3 n2 o2 v2 a2, t2)] = 2 := rfl
  rw [hl2] at h1 hn1 hv1
  obtain ⟨b, rfl, p2⟩ := own_ats hrow (k := 2) (u := .string (mkS (x.S.T 2))) rfl
  obtain ⟨b', e', p5⟩ := own_ats hrow (k := 5) (u := x.ss 1) rfl
  injection e' with e'
  injection e' with e'
  subst e'
  rw [hv1] at p5
  obtain ⟨g, rfl, d2⟩ := own_ats h1 (k := 2) (u := .int .i64 6) rfl
  obtain ⟨g', e', d5⟩ := own_ats h1 (k := 5) (u := .int .i64 3) rfl
  injection e' with e'
  injection e' with e'
  subst e'
  rw [HXS.out, HT.out, show mkS noarN = ⟨#[110, 111, 97, 114, 99, 104]⟩ from rfl] at p2
  have HB2 := Lib.hid (HB1.out.trans (hb2.mono HB1.out.size))
  have s1 : ((⟨#[110, 111, 97, 114, 99, 104]⟩ : ByteArray).toList == ([110, 111, 97, 114, 99, 104] : List UInt8)) = true := by decide +kernel
  unfold maxLen at hm2 hn2
  clear hb2 hP hrow hV h1 hD1 hrs hv1 hl2 HP HXS HT HD C2 HB1
  go_wp2_with fail
  go_ret
  exact ⟨rfl, HB2.out⟩
end Go.Proofs.YtljldbdjkjllhaaGreatDoor

/- DebctlNotes. -/
namespace Go.Proofs.YtljldbdjkjllhaaGreatDoor
set_option linter.unusedSimpArgs false
set_option linter.unusedVariables false
open Go.RowKit Go.MapKept

def wideX (nt : Bs) (e : Nat) : List Bs → Nat → Bs
  | [], _ => []
  | l :: r, i => (if i % e = 0 then 35 :: nt ++ [10] else []) ++ l ++ [10] ++ wideX nt e r (i + 1)
theorem parseX_len : ∀ (n : Nat) (t : Bs) (acc l : List Fs), parseX n t acc = .ok l → acc.length ≤ 200 → l.length ≤ 200
  | 0, t, acc, l, h, ha => by
    injection h with h
    rw [← h]
    exact ha
  | n + 1, t, acc, l, h, ha => by
    by_cases ht : t = []
    · subst ht
      rw [parseX_nil] at h
      injection h with h
      rw [← h]
      exact ha
    · rw [parseX_cons ht] at h
      cases hr : readX (t.length + 1) t [] [] with
      | none => rw [hr] at h; cases h
      | some sr =>
        obtain ⟨s, rest⟩ := sr
        rw [hr] at h
        have h : (if s = [] then parseX n rest acc else if 200 ≤ acc.length then .error 121 else match packX s with
          | .error e => .error e
          | .ok S => parseX n rest (acc ++ [S])) = .ok l := h
        split at h
        · exact parseX_len n rest acc l h ha
        · split at h
          · cases h
          · cases hp : packX s with
            | error e => rw [hp] at h; cases h
            | ok S =>
              rw [hp] at h
              exact parseX_len n rest (acc ++ [S]) l h (by simp; omega)
theorem parseT_len (t : Bs) : ∀ l, parseT t = .ok l → l.length ≤ 200 := fun l h => by
  unfold parseT at h
  split at h
  · exact parseX_len _ t [] l h (by simp)
  · cases h
def NoTen (l : Bs) : Prop := ∀ c ∈ l, c ≠ 10
theorem linesG_no : ∀ (t cur : Bs), NoTen cur → ∀ x ∈ linesG t cur, NoTen x
  | [], cur, h => fun x hx => by
    have hx : x ∈ (if cur = [] then [] else [cur]) := hx
    split at hx
    · cases hx
    · rw [List.mem_singleton.1 hx]
      exact h
  | c :: r, cur, h => fun x hx => by
    have hx : x ∈ (if c = 10 then cur :: linesG r [] else linesG r (cur ++ [c])) := hx
    split at hx
    · rcases List.mem_cons.1 hx with e | hx
      · rw [e]
        exact h
      · exact linesG_no r [] (fun c hc => by cases hc) x hx
    · rename_i hc
      exact linesG_no r (cur ++ [c]) (fun d hd => by
        rcases List.mem_append.1 hd with hd | hd
        · exact h d hd
        · rw [List.mem_singleton.1 hd]
          exact hc) x hx
theorem lines_no (t : Bs) : ∀ x ∈ linesX t, NoTen x := linesG_no t [] (fun c hc => by cases hc)
theorem linesG_line (rest : Bs) : ∀ (l cur : Bs), NoTen l → linesG (l ++ 10 :: rest) cur = (cur ++ l) :: linesG rest []
  | [], cur, _ => by
    show (if (10 : UInt8) = 10 then cur :: linesG rest [] else _) = _
    rw [if_pos rfl, List.append_nil]
  | c :: r, cur, h => by
    show (if c = 10 then _ else linesG (r ++ 10 :: rest) (cur ++ [c])) = _
    rw [if_neg (h c (by simp)), linesG_line rest r (cur ++ [c]) (fun d hd => h d (List.mem_cons_of_mem _ hd)), List.append_assoc]
    rfl
theorem wide_fold (nt : Bs) (e : Nat) (hn : NoTen nt) : ∀ (L : List Bs) (hL : ∀ x ∈ L, NoTen x) (i : Nat) {s : Stz} {last : Bs} {acc : List Fs}, parseL (linesX (wideX nt e L i)) s last acc = parseL L s last acc
  | [], _, _, _, _, _ => rfl
  | l :: r, hL, i, s, last, acc => by
    have hl : ∀ {s : Stz} {last : Bs} {acc : List Fs}, parseL (linesX (l ++ 10 :: wideX nt e r (i + 1))) s last acc = parseL (l :: r) s last acc := fun {s last acc} => by
      unfold linesX
      rw [linesG_line _ l [] (hL l (by simp)), List.nil_append]
      show (match stepX l s last with
        | .stop => endS s acc (parseL (linesX (wideX nt e r (i + 1))) [] [])
        | .bad => .error 120
        | .go s' l' => parseL (linesX (wideX nt e r (i + 1))) s' l' acc) = (match stepX l s last with
        | .stop => endS s acc (parseL r [] [])
        | .bad => .error 120
        | .go s' l' => parseL r s' l' acc)
      cases stepX l s last with
      | stop => exact endS_ok s acc _ _ (fun a => wide_fold nt e hn r (fun x hx => hL x (List.mem_cons_of_mem _ hx)) (i + 1))
      | bad => rfl
      | go s' l' => exact wide_fold nt e hn r (fun x hx => hL x (List.mem_cons_of_mem _ hx)) (i + 1)
    have hw : wideX nt e (l :: r) i = (if i % e = 0 then 35 :: nt ++ [10] else []) ++ (l ++ 10 :: wideX nt e r (i + 1)) := by
      show (if i % e = 0 then 35 :: nt ++ [10] else []) ++ l ++ [10] ++ wideX nt e r (i + 1) = _
      simp
    rw [hw]
    by_cases hm : i % e = 0
    · rw [if_pos hm]
      have e1 : (35 :: nt ++ [10]) ++ (l ++ 10 :: wideX nt e r (i + 1)) = (35 :: nt) ++ 10 :: (l ++ 10 :: wideX nt e r (i + 1)) := by simp
      rw [e1]
      unfold linesX
      rw [linesG_line _ (35 :: nt) [] (fun c hc => by
        rcases List.mem_cons.1 hc with rfl | hc
        · decide
        · exact hn c hc), List.nil_append]
      show (match stepX (35 :: nt) s last with
        | .stop => endS s acc (parseL (linesX (l ++ 10 :: wideX nt e r (i + 1))) [] [])
        | .bad => .error 120
        | .go s' l' => parseL (linesX (l ++ 10 :: wideX nt e r (i + 1))) s' l' acc) = _
      rw [note_step]
      exact hl
    · rw [if_neg hm]
      exact hl
theorem linesG_sum : ∀ (t cur : Bs), t.length + cur.length ≤ wtL (linesG t cur)
  | [], cur => by
    show 0 + cur.length ≤ wtL (if cur = [] then [] else [cur])
    by_cases h : cur = []
    · rw [if_pos h, h]
      simp
    · rw [if_neg h]
      show _ ≤ (cur.length + 1) + 0
      omega
  | c :: r, cur => by
    show r.length + 1 + cur.length ≤ wtL (if c = 10 then cur :: linesG r [] else linesG r (cur ++ [c]))
    by_cases h : c = 10
    · rw [if_pos h]
      have := linesG_sum r []
      show _ ≤ (cur.length + 1) + wtL (linesG r [])
      simp at this
      omega
    · rw [if_neg h]
      have := linesG_sum r (cur ++ [c])
      simp at this
      omega
theorem wideX_sum (nt : Bs) (e : Nat) : ∀ (L : List Bs) (i : Nat), wtL L ≤ (wideX nt e L i).length
  | [], _ => Nat.le_refl _
  | l :: r, i => by
    have := wideX_sum nt e r (i + 1)
    show (l.length + 1) + wtL r ≤ ((if i % e = 0 then 35 :: nt ++ [10] else []) ++ l ++ [10] ++ wideX nt e r (i + 1)).length
    simp only [List.length_append, List.length_singleton]
    omega
theorem wide_ge (nt : Bs) (e : Nat) (t : Bs) : t.length ≤ (wideX nt e (linesX t) 0).length := by
  have h1 := linesG_sum t []
  have h2 := wideX_sum nt e (linesX t) 0
  simp at h1
  exact Nat.le_trans h1 h2
theorem linesG_count : ∀ (t cur : Bs), (linesG t cur).length ≤ t.length + (if cur = [] then 0 else 1)
  | [], cur => by
    show (if cur = [] then [] else [cur]).length ≤ _
    by_cases h : cur = []
    · rw [if_pos h, if_pos h]; simp
    · rw [if_neg h, if_neg h]; simp
  | c :: r, cur => by
    show (if c = 10 then cur :: linesG r [] else linesG r (cur ++ [c])).length ≤ r.length + 1 + _
    by_cases h : c = 10
    · rw [if_pos h]
      have := linesG_count r []
      rw [if_pos rfl] at this
      simp
      omega
    · rw [if_neg h]
      have := linesG_count r (cur ++ [c])
      rw [if_neg (by simp)] at this
      omega
theorem lines_count (t : Bs) : (linesX t).length ≤ t.length := by
  have := linesG_count t []
  rw [if_pos rfl] at this
  exact this
theorem linesG_small : ∀ (t cur : Bs), ∀ x ∈ linesG t cur, x.length ≤ t.length + cur.length
  | [], cur => fun x hx => by
    have hx : x ∈ (if cur = [] then [] else [cur]) := hx
    split at hx
    · cases hx
    · rw [List.mem_singleton.1 hx]; omega
  | c :: r, cur => fun x hx => by
    have hx : x ∈ (if c = 10 then cur :: linesG r [] else linesG r (cur ++ [c])) := hx
    split at hx
    · rcases List.mem_cons.1 hx with e | hx
      · rw [e]; omega
      · have := linesG_small r [] x hx
        simp at this ⊢
        omega
    · have := linesG_small r (cur ++ [c]) x hx
      simp at this ⊢
      omega
theorem lines_small (t : Bs) : ∀ x ∈ linesX t, x.length ≤ t.length := fun x hx => by
  have := linesG_small t [] x hx
  simpa using this
theorem cat_on (a n x : Bs) : mkS a ++ ⟨#[35]⟩ ++ mkS n ++ ⟨#[10]⟩ ++ mkS x ++ ⟨#[10]⟩ = mkS (a ++ (35 :: n ++ [10]) ++ x ++ [10]) := s_ext (by simp [mkS])
theorem cat_off (a x : Bs) : mkS a ++ mkS x ++ ⟨#[10]⟩ = mkS (a ++ x ++ [10]) := s_ext (by simp [mkS])
theorem wrap_idD (n : Int) (h0 : -9223372036854775808 ≤ n) (h1 : n ≤ 9223372036854775807) : IntKind.i64.wrap n = n := by
  simp only [IntKind.wrap, IntKind.bits, IntKind.signed]
  simp
  split <;> omega
set_option maxHeartbeats 16000000 in
set_option maxRecDepth 1000000 in
theorem notes_any (t nt : Bs) (n : Int) (ht : t.length ≤ 1048576) (hnt : nt.length ≤ 1048576) (hn0 : -9223372036854775808 ≤ n) (hn1 : n ≤ 9223372036854775807) (W : World) (hE : DbW W) :
    Calls Tryz.prog 10 #[.string (mkS t), .string (mkS nt), .int .i64 n] W fun e w' => e = .returned (.bool true) ∧ Below W.heap.size W w' := by
  have C0 := Lib.hid (dbAwake_any W hE)
  have hW := Lib.hid hE
  have hNS : (mkS nt).size = nt.length := mkS_size nt
  have HBY := Lib.hid (fun k (h : k < (mkS nt).size) => byte_at h)
  rw [mkS_list] at HBY
  clear hE
  go_enter Tryz.func10, Tryz.ntmps10
  go_wp2_with fail
  refine C0.out.mono ?_
  rintro e w1 ⟨rfl, hb1⟩
  have HB1 := Lib.hid hb1
  have HNT0 : Hid (∀ c ∈ nt.take 0, c ≠ 10) := fun c hc => by simp at hc
  clear hb1 C0
  go_wp2_with fail
  go_loopg [8] nt.length (fun gk v8 wx => ∃ i : Nat, i + gk = nt.length ∧ v8 = .int .i64 (i : Int) ∧ Hid (∀ c ∈ nt.take i, c ≠ 10) ∧ Hid (Below W.heap.size W wx))
  case atStart => exact ⟨0, by omega, rfl, HNT0, HB1⟩
  case round =>
    obtain ⟨i, hig, rfl, HN, HB⟩ := hrel
    clear HNT0 HB1
    by_cases hlt : i < nt.length
    · have hltS : i < (mkS nt).size := by omega
      have hltI : (i : Int) < ((mkS nt).size : Int) := by omega
      obtain ⟨c, hc⟩ : ∃ c, nt[i]? = some c := ⟨_, List.getElem?_eq_getElem hlt⟩
      have hget : (mkS nt)[i]'hltS = c := by
        have h1 := HBY.out i hltS
        rw [hc] at h1
        injection h1 with h1
        exact h1.symm
      by_cases h10 : c = 10
      · have t10 : (((mkS nt)[i].toNat : Int) == 10) = true := by rw [hget, h10]; rfl
        clear hget h10 hc HN
        go_wp2_with fail
        go_ret
        exact ⟨rfl, HB.out⟩
      · have t10 : (((mkS nt)[i].toNat : Int) == 10) = false := by
          rw [hget]
          have : c.toNat ≠ 10 := fun e => h10 (UInt8.toNat_inj.1 (by rw [e]; rfl))
          simp
          omega
        have HN2 : Hid (∀ d ∈ nt.take (i + 1), d ≠ 10) := fun d hd => by
          rw [List.take_add_one, hc] at hd
          rcases List.mem_append.1 hd with hd | hd
          · exact HN.out d hd
          · simp at hd
            rw [hd]
            exact h10
        clear hget h10 hc HN
        go_wp2_with fail
        go_roundg (gk - 1)
        case measure => omega
        case rel => exact ⟨i + 1, by omega, by go_num, HN2, HB⟩
    have hltI : ¬ (i : Int) < ((mkS nt).size : Int) := by omega
    have HNT : Hid (NoTen nt) := by
      have h := HN.out
      rw [List.take_of_length_le (by omega)] at h
      exact h
    clear hlt
    by_cases hneg : n < 0
    · have hw1 : IntKind.i64.wrap (n + 1) = n + 1 := wrap_idD _ (by omega) (by omega)
      have hw2 : IntKind.i64.wrap (-(n + 1)) = -(n + 1) := wrap_idD _ (by omega) (by omega)
      go_upto_region 9 with fail
      obtain ⟨m, hm⟩ : ∃ m, m = -(n + 1) := ⟨_, rfl⟩
      have hm0 : 0 ≤ m := by omega
      have hm1 : m ≤ 9223372036854775807 := by omega
      rw [← hm]
      clear hw1 hw2 hneg hm hn0 hn1 hltI
      obtain ⟨ev, hev⟩ : ∃ ev : Nat, 1 + m % 4 = (ev : Int) := ⟨(1 + m % 4).toNat, by omega⟩
      have hev1 : 1 ≤ ev := by omega
      have hev4 : ev ≤ 4 := by omega
      have CL := Lib.hid (lines_any t ht wr)
      go_wp2_with fail
      refine CL.out.mono ?_
      rintro e w3 ⟨v, rfl, hown, hb3⟩
      have HB3 := Lib.hid (HB.out.trans (hb3.mono HB.out.size))
      obtain ⟨Ag, cg, rfl, hcg1, hcg2⟩ := own_form' hown
      have HOW := Lib.hid hown
      have HLL : Hid ((linesX t).length ≤ 1048576) := Nat.le_trans (lines_count t) ht
      have HLS : Hid (∀ x ∈ linesX t, x.length ≤ 1048576) := fun x hx => Nat.le_trans (lines_small t x hx) ht
      have HX0 : Hid (wideX nt ev (linesX t) 0 = [] ++ wideX nt ev ((linesX t).drop 0) 0) := rfl
      have HR3 : Hid (Below w3.heap.size w3 w3) := Below.refl _ _
      clear hown hb3 HB CL HN
      obtain ⟨L, hL⟩ : ∃ L, L = linesX t := ⟨_, rfl⟩
      have HLd := Lib.hid hL
      rw [← hL] at HOW HLL HLS HX0 hcg1 ⊢
      clear hL
      have hn0 : mkS ([] : Bs) = ⟨#[]⟩ := rfl
      go_wp2_with fail
      go_loopg [10, 11] L.length (fun gk v10 v11 wx => ∃ (i : Nat) (pre : Bs), i + gk = L.length ∧ v10 = .string (mkS pre) ∧ v11 = .int .i64 (i : Int) ∧ pre.length ≤ i * 4194304 ∧ Hid (wideX nt ev L 0 = pre ++ wideX nt ev (L.drop i) i) ∧ Hid (Below w3.heap.size w3 wx))
      case atStart => exact ⟨0, [], by omega, rfl, rfl, by simp, HX0, HR3⟩
      case round =>
        obtain ⟨i, pre, hig, rfl, rfl, hpl, HXi, HRi⟩ := hrel
        clear HX0 HR3
        by_cases hlt : i < L.length
        · have hltI : (i : Int) < (L.length : Int) := by omega
          obtain ⟨x, hx⟩ : ∃ x, L[i]? = some x := ⟨_, List.getElem?_eq_getElem hlt⟩
          obtain ⟨g, hAg, hcx⟩ := own_ats HOW.out (k := i) (u := .string (mkS x)) (by rw [List.getElem?_map, hx]; rfl)
          subst hAg
          have hcell := (World.cell?_of_block (HRi.out.block _ (cell_lt hcx))).trans hcx
          have hxs := HLS.out x (List.mem_of_getElem? hx)
          have hdr : L.drop i = x :: L.drop (i + 1) := by
            have h1 := (List.getElem?_eq_some_iff.1 hx).2
            rw [← h1]
            exact List.drop_eq_getElem_cons hlt
          have hXi := HXi.out
          rw [hdr] at hXi
          have hiB : i < 1048576 := by have := HLL.out; omega
          have hps : (mkS pre).size ≤ 4398046511104 := by rw [mkS_size]; have := HLL.out; omega
          have hxz : (mkS x).size ≤ 1048576 := by rw [mkS_size]; exact hxs
          have hnz : (mkS nt).size ≤ 1048576 := by rw [mkS_size]; exact hnt
          have hevI : (1 : Int) ≤ (ev : Int) := by omega
          have hevn : ¬ (ev : Int) = 0 := by omega
          have hevN : ¬ ev = 0 := by omega
          have hmd0 : (i : Int).tmod (ev : Int) = ((i % ev : Nat) : Int) := by
            rw [Int.tmod_eq_emod_of_nonneg (by omega)]
            simp
          have hrem : ∀ w, (Op.intDiv .rem .i64 (i : Int) (ev : Int)).run Tryz.prog w = .ok (.int .i64 ((i % ev : Nat) : Int)) w := fun w => by
            unfold Op.intDiv
            rw [if_neg hevn]
            show Result.ok (Value.int .i64 ((i : Int).tmod (ev : Int))) w = _
            rw [hmd0]
          have hrem2 : ∀ w, (Go.binOp .rem 3 (.int .i64 (i : Int)) (.int .i64 (ev : Int))).run Tryz.prog w = .ok (.int .i64 ((i % ev : Nat) : Int)) w := fun w => by
            rw [binOp_rem]
            exact hrem w
          by_cases hm : i % ev = 0
          · have t0 : (((i % ev : Nat) : Int) == 0) = true := by rw [hm]; rfl
            have hX2 : Hid (wideX nt ev L 0 = (pre ++ (35 :: nt ++ [10]) ++ x ++ [10]) ++ wideX nt ev (L.drop (i + 1)) (i + 1)) := by
              rw [hXi]
              show pre ++ ((if i % ev = 0 then 35 :: nt ++ [10] else []) ++ x ++ [10] ++ wideX nt ev (L.drop (i + 1)) (i + 1)) = _
              rw [if_pos hm]
              simp
            have hcat : mkS pre ++ ⟨#[35]⟩ ++ mkS nt ++ ⟨#[10]⟩ ++ mkS x ++ ⟨#[10]⟩ = mkS (pre ++ (35 :: nt ++ [10]) ++ x ++ [10]) := cat_on pre nt x
            have hpl2 : (pre ++ (35 :: nt ++ [10]) ++ x ++ [10]).length ≤ (i + 1) * 4194304 := by simp; omega
            generalize pre ++ (35 :: nt ++ [10]) ++ x ++ [10] = pre2 at *
            clear hXi hdr hx hcx hm
            go_wp2_with fail
            go_roundg (gk - 1)
            case measure => omega
            case rel => exact ⟨i + 1, pre2, by omega, (by first | rfl | rw [hcat]), by go_num, hpl2, hX2, HRi⟩
          · have t0 : (((i % ev : Nat) : Int) == 0) = false := by simp; omega
            have hX2 : Hid (wideX nt ev L 0 = (pre ++ x ++ [10]) ++ wideX nt ev (L.drop (i + 1)) (i + 1)) := by
              rw [hXi]
              show pre ++ ((if i % ev = 0 then 35 :: nt ++ [10] else []) ++ x ++ [10] ++ wideX nt ev (L.drop (i + 1)) (i + 1)) = _
              rw [if_neg hm]
              simp
            have hcat : mkS pre ++ mkS x ++ ⟨#[10]⟩ = mkS (pre ++ x ++ [10]) := cat_off pre x
            have hpl2 : (pre ++ x ++ [10]).length ≤ (i + 1) * 4194304 := by simp; omega
            generalize pre ++ x ++ [10] = pre2 at *
            clear hXi hdr hx hcx hm
            go_wp2_with fail
            go_roundg (gk - 1)
            case measure => omega
            case rel => exact ⟨i + 1, pre2, by omega, (by first | rfl | rw [hcat]), by go_num, hpl2, hX2, HRi⟩
        · have hltI : ¬ (i : Int) < (L.length : Int) := by omega
          have hw : wideX nt ev L 0 = pre := by
            have h := HXi.out
            rw [show L.drop i = [] from List.drop_eq_nil_of_le (by omega)] at h
            rw [h]
            show pre ++ [] = pre
            rw [List.append_nil]
          have hbW : Below W.heap.size W wr := HB3.out.trans (HRi.out.mono HB3.out.size)
          have hsz : (mkS pre).size = pre.length := mkS_size pre
          by_cases hbig : pre.length ≤ 40000
          · have hbI : ¬ (40000 : Int) < ((mkS pre).size : Int) := by omega
            have htl : t.length ≤ 40000 := by
              have := wide_ge nt ev t
              rw [← HLd.out, hw] at this
              omega
            have hsame : parseT pre = parseT t := by
              unfold parseT
              rw [if_pos hbig, if_pos htl, parse_fold _ _ _ (by omega), parse_fold _ _ _ (by omega), ← hw, HLd.out, wide_fold nt ev HNT.out (linesX t) (lines_no t) 0]
            have C1 := Lib.hid (dparse_any t wr (hW.out.below hbW))
            have C2 := Lib.hid (fun wx (hb : Below wr.heap.size wr wx) => dparse_any pre wx (hW.out.below (hbW.trans (hb.mono hbW.size))))
            rw [hsame] at C2
            have HBW := Lib.hid hbW
            clear HXi HRi hw hbW htl hsame HLL HLS HOW
            have hRl := parseT_len t
            generalize parseT t = R at *
            generalize mkS pre = PR at *
            cases R with
            | error n =>
              go_wp2_with fail
              refine C1.out.mono ?_
              rintro e w4 ⟨rfl, hn, hb4⟩
              have C2w := Lib.hid (C2.out w4 hb4)
              have HB4 := Lib.hid (HBW.out.trans (hb4.mono HBW.out.size))
              clear C1 C2 hb4 HBW
              go_wp2_with fail
              refine C2w.out.mono ?_
              rintro e w5 ⟨rfl, _, hb5⟩
              have HB5 := Lib.hid (HB4.out.trans (hb5.mono HB4.out.size))
              have CS := Lib.hid (Ev.same_any [] none none 0 0 0 w5 rfl (fun k p hk => by cases hk) (fun k p hk => by cases hk) (by omega))
              clear C2w hb5 HB4
              go_wp2_with fail
              refine CS.out.mono ?_
              rintro e w6 ⟨rfl, hb6⟩
              have HB6 := Lib.hid (HB5.out.trans (hb6.mono HB5.out.size))
              clear CS hb6 HB5
              go_wp2_with fail
              go_ret
              exact ⟨by simp, HB6.out⟩
            | ok l =>
              go_wp2_with fail
              refine C1.out.mono ?_
              rintro e w4 ⟨va, xs, rfl, hxs, hP4⟩
              have hb4 := hP4.bel
              have C2w := Lib.hid (C2.out w4 hb4)
              have HB4 := Lib.hid (HBW.out.trans (hb4.mono HBW.out.size))
              have HP4 := Lib.hid hP4
              obtain ⟨A1, k1, rfl, hk1, hk2⟩ := own_form' hP4.row
              clear C1 C2 hb4 HBW hP4
              go_wp2_with fail
              refine C2w.out.mono ?_
              rintro e w5 ⟨vb, ys, rfl, hys, hP5⟩
              have hb5 := hP5.bel
              obtain ⟨A2, k2, rfl, hk3, hk4⟩ := own_form' hP5.row
              have HB5 := Lib.hid (HB4.out.trans (hb5.mono HB4.out.size))
              have hlen : ys.length = xs.length := by
                have := congrArg List.length (hys.trans hxs.symm)
                simpa using this
              have hl2 : xs.length ≤ 1048576 := by
                have h1 := hRl l rfl
                rw [← hxs, List.length_map] at h1
                omega
              have hpk1 := (HP4.out.below hb5).pks
              have hpk2 := hP5.pks
              have hmm : (ys.map fun x => pkgT x.S) = xs.map fun x => pkgT x.S := by
                have h := congrArg (List.map pkgT) (hys.trans hxs.symm)
                rw [List.map_map, List.map_map] at h
                exact h
              rw [hmm] at hpk2
              have CS := Lib.hid (Ev.same_any (xs.map fun x => pkgT x.S) A1 A2 xs.length k1 k2 w5 (List.length_map _) hpk1 hpk2 hl2)
              clear C2w hb5 HB4 hpk1 hpk2 hmm hys hxs hP5 HP4
              rw [hlen]
              go_wp2_with fail
              refine CS.out.mono ?_
              rintro e w6 ⟨rfl, hb6⟩
              have HB6 := Lib.hid (HB5.out.trans (hb6.mono HB5.out.size))
              clear CS hb6 HB5
              go_wp2_with fail
              go_ret
              exact ⟨by simp, HB6.out⟩
          · have hbI : (40000 : Int) < ((mkS pre).size : Int) := by omega
            have HBW := Lib.hid hbW
            clear HXi HRi hw hbW HLL HLS HOW
            go_wp2_with fail
            go_ret
            exact ⟨rfl, HBW.out⟩
    · go_upto_region 9 with fail
      have hm0 : 0 ≤ n := by omega
      clear hneg hn0 hltI
      obtain ⟨ev, hev⟩ : ∃ ev : Nat, 1 + n % 4 = (ev : Int) := ⟨(1 + n % 4).toNat, by omega⟩
      have hev1 : 1 ≤ ev := by omega
      have hev4 : ev ≤ 4 := by omega
      have CL := Lib.hid (lines_any t ht wr)
      go_wp2_with fail
      refine CL.out.mono ?_
      rintro e w3 ⟨v, rfl, hown, hb3⟩
      have HB3 := Lib.hid (HB.out.trans (hb3.mono HB.out.size))
      obtain ⟨Ag, cg, rfl, hcg1, hcg2⟩ := own_form' hown
      have HOW := Lib.hid hown
      have HLL : Hid ((linesX t).length ≤ 1048576) := Nat.le_trans (lines_count t) ht
      have HLS : Hid (∀ x ∈ linesX t, x.length ≤ 1048576) := fun x hx => Nat.le_trans (lines_small t x hx) ht
      have HX0 : Hid (wideX nt ev (linesX t) 0 = [] ++ wideX nt ev ((linesX t).drop 0) 0) := rfl
      have HR3 : Hid (Below w3.heap.size w3 w3) := Below.refl _ _
      clear hown hb3 HB CL HN
      obtain ⟨L, hL⟩ : ∃ L, L = linesX t := ⟨_, rfl⟩
      have HLd := Lib.hid hL
      rw [← hL] at HOW HLL HLS HX0 hcg1 ⊢
      clear hL
      have hn0 : mkS ([] : Bs) = ⟨#[]⟩ := rfl
      go_wp2_with fail
      go_loopg [10, 11] L.length (fun gk v10 v11 wx => ∃ (i : Nat) (pre : Bs), i + gk = L.length ∧ v10 = .string (mkS pre) ∧ v11 = .int .i64 (i : Int) ∧ pre.length ≤ i * 4194304 ∧ Hid (wideX nt ev L 0 = pre ++ wideX nt ev (L.drop i) i) ∧ Hid (Below w3.heap.size w3 wx))
      case atStart => exact ⟨0, [], by omega, rfl, rfl, by simp, HX0, HR3⟩
      case round =>
        obtain ⟨i, pre, hig, rfl, rfl, hpl, HXi, HRi⟩ := hrel
        clear HX0 HR3
        by_cases hlt : i < L.length
        · have hltI : (i : Int) < (L.length : Int) := by omega
          obtain ⟨x, hx⟩ : ∃ x, L[i]? = some x := ⟨_, List.getElem?_eq_getElem hlt⟩
          obtain ⟨g, hAg, hcx⟩ := own_ats HOW.out (k := i) (u := .string (mkS x)) (by rw [List.getElem?_map, hx]; rfl)
          subst hAg
          have hcell := (World.cell?_of_block (HRi.out.block _ (cell_lt hcx))).trans hcx
          have hxs := HLS.out x (List.mem_of_getElem? hx)
          have hdr : L.drop i = x :: L.drop (i + 1) := by
            have h1 := (List.getElem?_eq_some_iff.1 hx).2
            rw [← h1]
            exact List.drop_eq_getElem_cons hlt
          have hXi := HXi.out
          rw [hdr] at hXi
          have hiB : i < 1048576 := by have := HLL.out; omega
          have hps : (mkS pre).size ≤ 4398046511104 := by rw [mkS_size]; have := HLL.out; omega
          have hxz : (mkS x).size ≤ 1048576 := by rw [mkS_size]; exact hxs
          have hnz : (mkS nt).size ≤ 1048576 := by rw [mkS_size]; exact hnt
          have hevI : (1 : Int) ≤ (ev : Int) := by omega
          have hevn : ¬ (ev : Int) = 0 := by omega
          have hevN : ¬ ev = 0 := by omega
          have hmd0 : (i : Int).tmod (ev : Int) = ((i % ev : Nat) : Int) := by
            rw [Int.tmod_eq_emod_of_nonneg (by omega)]
            simp
          have hrem : ∀ w, (Op.intDiv .rem .i64 (i : Int) (ev : Int)).run Tryz.prog w = .ok (.int .i64 ((i % ev : Nat) : Int)) w := fun w => by
            unfold Op.intDiv
            rw [if_neg hevn]
            show Result.ok (Value.int .i64 ((i : Int).tmod (ev : Int))) w = _
            rw [hmd0]
          have hrem2 : ∀ w, (Go.binOp .rem 3 (.int .i64 (i : Int)) (.int .i64 (ev : Int))).run Tryz.prog w = .ok (.int .i64 ((i % ev : Nat) : Int)) w := fun w => by
            rw [binOp_rem]
            exact hrem w
          by_cases hm : i % ev = 0
          · have t0 : (((i % ev : Nat) : Int) == 0) = true := by rw [hm]; rfl
            have hX2 : Hid (wideX nt ev L 0 = (pre ++ (35 :: nt ++ [10]) ++ x ++ [10]) ++ wideX nt ev (L.drop (i + 1)) (i + 1)) := by
              rw [hXi]
              show pre ++ ((if i % ev = 0 then 35 :: nt ++ [10] else []) ++ x ++ [10] ++ wideX nt ev (L.drop (i + 1)) (i + 1)) = _
              rw [if_pos hm]
              simp
            have hcat : mkS pre ++ ⟨#[35]⟩ ++ mkS nt ++ ⟨#[10]⟩ ++ mkS x ++ ⟨#[10]⟩ = mkS (pre ++ (35 :: nt ++ [10]) ++ x ++ [10]) := cat_on pre nt x
            have hpl2 : (pre ++ (35 :: nt ++ [10]) ++ x ++ [10]).length ≤ (i + 1) * 4194304 := by simp; omega
            generalize pre ++ (35 :: nt ++ [10]) ++ x ++ [10] = pre2 at *
            clear hXi hdr hx hcx hm
            go_wp2_with fail
            go_roundg (gk - 1)
            case measure => omega
            case rel => exact ⟨i + 1, pre2, by omega, (by first | rfl | rw [hcat]), by go_num, hpl2, hX2, HRi⟩
          · have t0 : (((i % ev : Nat) : Int) == 0) = false := by simp; omega
            have hX2 : Hid (wideX nt ev L 0 = (pre ++ x ++ [10]) ++ wideX nt ev (L.drop (i + 1)) (i + 1)) := by
              rw [hXi]
              show pre ++ ((if i % ev = 0 then 35 :: nt ++ [10] else []) ++ x ++ [10] ++ wideX nt ev (L.drop (i + 1)) (i + 1)) = _
              rw [if_neg hm]
              simp
            have hcat : mkS pre ++ mkS x ++ ⟨#[10]⟩ = mkS (pre ++ x ++ [10]) := cat_off pre x
            have hpl2 : (pre ++ x ++ [10]).length ≤ (i + 1) * 4194304 := by simp; omega
            generalize pre ++ x ++ [10] = pre2 at *
            clear hXi hdr hx hcx hm
            go_wp2_with fail
            go_roundg (gk - 1)
            case measure => omega
            case rel => exact ⟨i + 1, pre2, by omega, (by first | rfl | rw [hcat]), by go_num, hpl2, hX2, HRi⟩
        · have hltI : ¬ (i : Int) < (L.length : Int) := by omega
          have hw : wideX nt ev L 0 = pre := by
            have h := HXi.out
            rw [show L.drop i = [] from List.drop_eq_nil_of_le (by omega)] at h
            rw [h]
            show pre ++ [] = pre
            rw [List.append_nil]
          have hbW : Below W.heap.size W wr := HB3.out.trans (HRi.out.mono HB3.out.size)
          have hsz : (mkS pre).size = pre.length := mkS_size pre
          by_cases hbig : pre.length ≤ 40000
          · have hbI : ¬ (40000 : Int) < ((mkS pre).size : Int) := by omega
            have htl : t.length ≤ 40000 := by
              have := wide_ge nt ev t
              rw [← HLd.out, hw] at this
              omega
            have hsame : parseT pre = parseT t := by
              unfold parseT
              rw [if_pos hbig, if_pos htl, parse_fold _ _ _ (by omega), parse_fold _ _ _ (by omega), ← hw, HLd.out, wide_fold nt ev HNT.out (linesX t) (lines_no t) 0]
            have C1 := Lib.hid (dparse_any t wr (hW.out.below hbW))
            have C2 := Lib.hid (fun wx (hb : Below wr.heap.size wr wx) => dparse_any pre wx (hW.out.below (hbW.trans (hb.mono hbW.size))))
            rw [hsame] at C2
            have HBW := Lib.hid hbW
            clear HXi HRi hw hbW htl hsame HLL HLS HOW
            have hRl := parseT_len t
            generalize parseT t = R at *
            generalize mkS pre = PR at *
            cases R with
            | error n =>
              go_wp2_with fail
              refine C1.out.mono ?_
              rintro e w4 ⟨rfl, hn, hb4⟩
              have C2w := Lib.hid (C2.out w4 hb4)
              have HB4 := Lib.hid (HBW.out.trans (hb4.mono HBW.out.size))
              clear C1 C2 hb4 HBW
              go_wp2_with fail
              refine C2w.out.mono ?_
              rintro e w5 ⟨rfl, _, hb5⟩
              have HB5 := Lib.hid (HB4.out.trans (hb5.mono HB4.out.size))
              have CS := Lib.hid (Ev.same_any [] none none 0 0 0 w5 rfl (fun k p hk => by cases hk) (fun k p hk => by cases hk) (by omega))
              clear C2w hb5 HB4
              go_wp2_with fail
              refine CS.out.mono ?_
              rintro e w6 ⟨rfl, hb6⟩
              have HB6 := Lib.hid (HB5.out.trans (hb6.mono HB5.out.size))
              clear CS hb6 HB5
              go_wp2_with fail
              go_ret
              exact ⟨by simp, HB6.out⟩
            | ok l =>
              go_wp2_with fail
              refine C1.out.mono ?_
              rintro e w4 ⟨va, xs, rfl, hxs, hP4⟩
              have hb4 := hP4.bel
              have C2w := Lib.hid (C2.out w4 hb4)
              have HB4 := Lib.hid (HBW.out.trans (hb4.mono HBW.out.size))
              have HP4 := Lib.hid hP4
              obtain ⟨A1, k1, rfl, hk1, hk2⟩ := own_form' hP4.row
              clear C1 C2 hb4 HBW hP4
              go_wp2_with fail
              refine C2w.out.mono ?_
              rintro e w5 ⟨vb, ys, rfl, hys, hP5⟩
              have hb5 := hP5.bel
              obtain ⟨A2, k2, rfl, hk3, hk4⟩ := own_form' hP5.row
              have HB5 := Lib.hid (HB4.out.trans (hb5.mono HB4.out.size))
              have hlen : ys.length = xs.length := by
                have := congrArg List.length (hys.trans hxs.symm)
                simpa using this
              have hl2 : xs.length ≤ 1048576 := by
                have h1 := hRl l rfl
                rw [← hxs, List.length_map] at h1
                omega
              have hpk1 := (HP4.out.below hb5).pks
              have hpk2 := hP5.pks
              have hmm : (ys.map fun x => pkgT x.S) = xs.map fun x => pkgT x.S := by
                have h := congrArg (List.map pkgT) (hys.trans hxs.symm)
                rw [List.map_map, List.map_map] at h
                exact h
              rw [hmm] at hpk2
              have CS := Lib.hid (Ev.same_any (xs.map fun x => pkgT x.S) A1 A2 xs.length k1 k2 w5 (List.length_map _) hpk1 hpk2 hl2)
              clear C2w hb5 HB4 hpk1 hpk2 hmm hys hxs hP5 HP4
              rw [hlen]
              go_wp2_with fail
              refine CS.out.mono ?_
              rintro e w6 ⟨rfl, hb6⟩
              have HB6 := Lib.hid (HB5.out.trans (hb6.mono HB5.out.size))
              clear CS hb6 HB5
              go_wp2_with fail
              go_ret
              exact ⟨by simp, HB6.out⟩
          · have hbI : (40000 : Int) < ((mkS pre).size : Int) := by omega
            have HBW := Lib.hid hbW
            clear HXi HRi hw hbW HLL HLS HOW
            go_wp2_with fail
            go_ret
            exact ⟨rfl, HBW.out⟩
end Go.Proofs.YtljldbdjkjllhaaGreatDoor

/- DebctlNames: the law at the world that came in. -/
namespace Go.Proofs.YtljldbdjkjllhaaGreatDoor
set_option linter.unusedSimpArgs false
set_option linter.unusedVariables false
open Go.RowKit

theorem dmax_of {W : World} (hS : W.ShapedOpen Tryz.prog) : MaxAt W := Go.Proofs.cell_of_shapedOpen_int (zero := #[.int .i64 0]) (t := 3) hS (of_decide_eq_true (by kernel_rfl)) (by kernel_rfl) rfl (by kernel_rfl) (by kernel_rfl) Tryz.underlying3
theorem dbW_of {W : World} {laid : List (String × DataW Unit)} (hL : laidMet Tryz.prog laid W) (hd1 : ("chandler/dep.signs", Rows.laid_chandler_dep_signs) ∈ laid) (hd2 : ("chandler/dep.words", Rows.laid_chandler_dep_words) ∈ laid)
    (hf : ("chandler/debctl.fields", Rows.laid_chandler_debctl_fields) ∈ laid) (hs : ("chandler/debctl.signs", Rows.laid_chandler_debctl_signs) ∈ laid) (hS : W.ShapedOpen Tryz.prog) : DbW W :=
  ⟨⟨dmax_of hS, Ev.tab_blk (l := [[], [60, 60], [61], [60, 61], [62, 62], [], [62, 61], []]) hL hs (by kernel_rfl) (by kernel_rfl) Tryz.underlying161 Tryz.underlying9 (by kernel_rfl) (by kernel_rfl) (by decide)⟩,
    Ev.tab_blk (l := [[80, 97, 99, 107, 97, 103, 101], [86, 101, 114, 115, 105, 111, 110], [65, 114, 99, 104, 105, 116, 101, 99, 116, 117, 114, 101], [79, 114, 105, 103, 105, 110], [80, 114, 111, 118, 105, 100, 101, 115], [68, 101, 112, 101, 110, 100, 115], [80, 114, 101, 45, 68, 101, 112, 101, 110, 100, 115], [67, 111, 110, 102, 108, 105, 99, 116, 115], [66, 114, 101, 97, 107, 115], [82, 101, 112, 108, 97, 99, 101, 115], [82, 101, 99, 111, 109, 109, 101, 110, 100, 115], [69, 110, 104, 97, 110, 99, 101, 115]]) hL hf (by kernel_rfl) (by kernel_rfl) Tryz.underlying112 Tryz.underlying9 (by kernel_rfl) (by kernel_rfl) (by decide), Ev.tabs_of hL hd1 hd2⟩
end Go.Proofs.YtljldbdjkjllhaaGreatDoor

/- DebctlNotes: the law at what came in. -/
namespace Go.Proofs.YtljldbdjkjllhaaGreatDoor
set_option linter.unusedSimpArgs false
set_option linter.unusedVariables false
open Go.RowKit

theorem mk_ofD (s : ByteArray) : mkS s.data.toList = s := s_ext (by rw [mkS_list])
theorem small_strD {H : Type} {s : ByteArray} {d : DataW H} {ds : List (DataW H)} (hd : d = .lit (.string s.data.toList)) (hm : d ∈ ds) (hk : Rows.uptoBulkAll ds ≤ 1048576) : s.data.toList.length ≤ 1048576 := by
  have h1 : ∀ (l : List (DataW H)) x, x ∈ l → Rows.uptoBulk x ≤ Rows.uptoBulkAll l := by
    intro l
    induction l with
    | nil => intro x hx; cases hx
    | cons y l ih =>
      intro x hx
      rw [Rows.uptoBulkAll]
      rcases List.mem_cons.1 hx with rfl | hx
      · omega
      · have := ih x hx; omega
  have h2 := h1 ds d hm
  rw [hd, Rows.uptoBulk] at h2
  omega
theorem debctlNotes_walk {H : Type} {enc : TypeId × Value → H} (W : World) {v0 v1 v2 : Value} {d0 d1 d2 : DataW H} (h0 : In enc Tryz.prog W 9 v0 d0) (h1 : In enc Tryz.prog W 9 v1 d1) (h2 : In enc Tryz.prog W 3 v2 d2)
    (hL : laidMetH Tryz.prog Rows.debctlNotesUptoRow.laid W) (hk : Rows.uptoBulkAll ([d0, d1, d2] ++ []) ≤ 1048576) (hSh : W.ShapedOpen Tryz.prog) :
    Calls Tryz.prog 10 #[v0, v1, v2] W (TrueBelow W) := by
  obtain ⟨s0, rfl, e0, -⟩ := h0.string Tryz.underlying9
  obtain ⟨s1, rfl, e1, -⟩ := h1.string Tryz.underlying9
  obtain ⟨n, rfl, -, hwf⟩ := h2.int Tryz.underlying3
  simp [Lit.wf, IntKind.min, IntKind.max, IntKind.signed, IntKind.bits] at hwf
  have l0 := small_strD e0 (by simp) hk
  have l1 := small_strD e1 (by simp) hk
  rw [MakeChecks.laidMetH_plain _ _ _ (by kernel_rfl)] at hL
  have hE := dbW_of hL (by simp [Rows.debctlNotesUptoRow]) (by simp [Rows.debctlNotesUptoRow]) (by simp [Rows.debctlNotesUptoRow]) (by simp [Rows.debctlNotesUptoRow]) hSh
  rw [← mk_ofD s0, ← mk_ofD s1]
  exact notes_any _ _ n l0 l1 (by omega) (by omega) W hE
end Go.Proofs.YtljldbdjkjllhaaGreatDoor
