/- Parts of the proof. -/
import Derived.Test.YtdhgiammfpjniaaGreatDoorZrao
import Derived.Lib.FieldsP
import Derived.Test.YtdhgiammfpjniaaGreatDoorZrac
import Derived.Laws.RangeAny
import Derived.Test.YtdhgiammfpjniaaGreatDoorZran
import Derived.Deep.LoopGhost
namespace Go.Proofs.YtdhgiammfpjniaaGreatDoor
set_option linter.unusedSimpArgs false
set_option linter.unusedVariables false
open Go.RowKit Go.MapKept
structure Sk where
 T : Nat → Bs
 D : Nat → List Ev.Dep
 fl : List Bs
def pkgS (S : Sk) : Ev.Pkg := ⟨mkS (S.T 0), mkS (S.T 1), mkS (S.T 2), mkS (S.T 3), fun i => if i < 7 then S.D i else [], S.fl.map mkS⟩
def chkS (S : Sk) : Int := chkD (pkgS S)
def pkgN : Bs := [80, 107, 103]
def verN_ : Bs := [86, 101, 114]
def vndN : Bs := [86, 110, 100]
def flsN : Bs := [70, 108, 115]
def tagsN : List Bs := [[80, 114, 118], [82, 101, 113], [80, 114, 113], [67, 111, 110], [79, 98, 115], [82, 101, 99], [83, 117, 112]]
def ixIn : List Bs → Bs → Nat → Option Nat
 | [], _, _ => none
 | a :: r, t, i => if t = a then some i else ixIn r t (i + 1)
inductive Mg where
 | none
 | vnd
 | fls
 | dep (i : Nat)
def mgOf (t : Bs) : Mg := if t = vndN then .vnd else if t = flsN then .fls else match ixIn tagsN t 0 with
 | some i => .dep i
 | none => .none
def actM (m : Mg) (S : Sk) (v : Bs) : Option Sk := match m with
 | .none => some S
 | .vnd => some ⟨updF S.T 3 v, S.D, S.fl⟩
 | .fls => some ⟨S.T, S.D, S.fl ++ [dTrim v]⟩
 | .dep i => match (Ev.parseD v).1 with
   | some d => some ⟨S.T, updF S.D i (S.D i ++ [d]), S.fl⟩
   | none => none
def putM (m : Mg) : List Bs → Sk → Option Sk
 | [], S => some S
 | v :: r, S => match actM m S v with
   | some S' => putM m r S'
   | none => none
def putT (t : Bs) (vs : List Bs) (S : Sk) : Option Sk := putM (mgOf t) vs S
def lastT (t : Bs) (vs : List Bs) : List Sk → Option (List Sk)
 | [] => none
 | [S] => match putT t vs S with
   | some S' => some [S']
   | none => none
 | S :: r => match lastT t vs r with
   | some r' => some (S :: r')
   | none => none
def aaQ4 : List Sk → Int
 | [] => 0
 | [S] => chkS S
 | _ :: r => aaQ4 r
def abQ9 (n : Nat) : Bool := decide (n = 32)
def adQw (v : Bs) : List Bs := (Go.Lib.goFieldsP abQ9 (mkS v)).map fun s => s.data.toList
def newS (a b d : Bs) : Sk := ⟨fun i => if i = 0 then a else if i = 1 then b else if i = 2 then d else [], fun _ => [], []⟩
def headS (l : List Bs) : Option Sk := match l with
 | [a, b, c, d] => some (newS a (if c = [45] then b else b ++ 45 :: c) d)
 | _ => none
def abQk (acc : List Sk) (v : Bs) : Except Int (List Sk) :=
 if aaQ4 acc ≠ 0 then .error (aaQ4 acc) else if 200 ≤ acc.length then .error 131 else match headS (adQw v) with
 | some S => .ok (acc ++ [S])
 | none => .error 130
inductive LnR where
 | skip
 | bad
 | pack (v : Bs)
 | one (t v : Bs)
 | blk (t : Bs)
def isLay (l : Bs) : Bool := (dTrim l).isEmpty
def tagOk (c : Bs × Bs × Bool) : Bool := c.2.2 && !c.1.isEmpty && !decide (adQ3 dLayS c.1 < c.1.length)
def aaQ2 (l : Bs) : Bs := if Lib.hasPrefix l [32] = true then l.drop 1 else l
def acQl (l : Bs) : UInt8 × Bs × Bs × Bool :=
 let c := Lib.cut (l.drop 1) [58]
 if l.headD 0 = 61 then (61, c.1, aaQ2 c.2.1, tagOk c)
 else if l.headD 0 = 43 then (43, c.1, c.2.1, tagOk c && isLay c.2.1)
 else (l.headD 0, c.1, c.2.1, false)
def lineP (x : UInt8 × Bs × Bs × Bool) (none_ : Bool) : LnR :=
 if x.2.2.2 = false then .bad
 else if x.1 = 61 ∧ x.2.1 = pkgN then .pack x.2.2.1
 else if (x.1 = 61 ∧ x.2.1 = verN_) ∧ none_ = true then .skip
 else if none_ = true then .bad
 else if x.1 = 43 then .blk x.2.1
 else .one x.2.1 x.2.2.1
def lineS (l : Bs) (none_ : Bool) : LnR := if isLay l = true ∨ l.headD 0 = 35 then .skip else lineP (acQl l) none_
def endB (t l : Bs) : Bool := Lib.hasPrefix l (45 :: t ++ [58]) && isLay (l.drop (t.length + 2))
def abQj (t : Bs) : List Bs → List Bs → Option (List Bs × List Bs)
 | [], _ => none
 | l :: r, vs => if endB t l = true then some (vs, r) else if isLay l = true then abQj t r vs else abQj t r (vs ++ [l])
def thenS (x : Option (List Sk)) (k : List Sk → Except Int (List Sk)) : Except Int (List Sk) := match x with
 | some a => k a
 | none => .error 130
def readS : Nat → List Bs → List Sk → Except Int (List Sk)
 | 0, _, acc => .ok acc
 | _ + 1, [], acc => if aaQ4 acc = 0 then .ok acc else .error (aaQ4 acc)
 | n + 1, l :: ls, acc => match lineS l acc.isEmpty with
   | .skip => readS n ls acc
   | .bad => .error 130
   | .pack v => match abQk acc v with
     | .error e => .error e
     | .ok a => readS n ls a
   | .one t v => thenS (lastT t [v] acc) (readS n ls)
   | .blk t => match abQj t ls [] with
     | none => .error 130
     | some (vs, ls') => thenS (lastT t vs acc) (readS n ls')
def acQx (text : Bs) : Except Int (List Sk) := if text.length ≤ 40000 then readS ((aaQm text).length + 1) (aaQm text) [] else .error 132
theorem afQf (t : Bs) : ∀ (ls vs : List Bs) (vs' ls' : List Bs), abQj t ls vs = some (vs', ls') → ls'.length < ls.length
 | [], _, _, _, h => by cases h
 | l :: r, vs, vs', ls', h => by
   have h : (if endB t l = true then some (vs, r) else if isLay l = true then abQj t r vs else abQj t r (vs ++ [l])) = some (vs', ls') := h
   by_cases h1 : endB t l = true
   ·rw [if_pos h1] at h
    injection h with h
    injection h with _ h
    rw [← h]
    exact Nat.lt_succ_self _
   ·rw [if_neg h1] at h
    by_cases h2 : isLay l = true
    ·rw [if_pos h2] at h
     exact Nat.lt_succ_of_lt (afQf t r _ _ _ h)
    ·rw [if_neg h2] at h
     exact Nat.lt_succ_of_lt (afQf t r _ _ _ h)
def refW (l : Bs) : Nat → Nat → Nat → List Bs → List Bs
 | 0, _, _, out => out
 | n + 1, i, fr, out => if i = l.length ∨ l[i]? = some 32 then refW l n (i + 1) (i + 1) (if fr < i then out ++ [(l.drop fr).take (i - fr)] else out) else refW l n (i + 1) fr out
def aeQm (l : Bs) : List Bs := refW l (l.length + 1) 0 0 []
theorem akQf (l : Bs) (m fr : Nat) (out : List Bs) : ∀ (n i : Nat), (∀ j, i ≤ j → j < i + n → j < l.length ∧ l[j]? ≠ some 32) → refW l (n + m) i fr out = refW l m (i + n) fr out
 | 0, i, _ => by rw [Nat.zero_add, Nat.add_zero]
 | n + 1, i, h => by
   obtain ⟨h1, h2⟩ := h i (Nat.le_refl _) (by omega)
   rw [show n + 1 + m = (n + m) + 1 by omega]
   show (if i = l.length ∨ l[i]? = some 32 then _ else refW l (n + m) (i + 1) fr out) = _
   rw [if_neg (by rintro (e | e); omega; exact h2 e), akQf l m fr out n (i + 1) (fun j h3 h4 => h j (by omega) (by omega)), show i + 1 + n = i + (n + 1) by omega]
theorem aoQl : Seps [32, 9] := ⟨by decide, by decide, by decide⟩
def adQ4 (s : ByteArray) (x : Nat × Nat) : Bs := (s.extract x.1 x.2).data.toList
theorem akQs (s : ByteArray) (a b : Nat) : adQ4 s (a, b) = (s.data.toList.drop a).take (b - a) := by
 unfold adQ4
 simp [ByteArray.data_extract]
theorem ajQ9 (s : ByteArray) (pos f : Nat) (st : Option Nat) (acc : List (Nat × Nat)) (hlt : pos < s.size) {r n : Nat} (hrn : Utf8.decode s pos = (r, n)) :
 Lib.spansFromP abQ9 s (f + 1) pos st acc = if abQ9 r = true then Lib.spansFromP abQ9 s f (pos + n) none (match st with | some a => acc ++ [(a, pos)] | none => acc) else Lib.spansFromP abQ9 s f (pos + n) (some (st.getD pos)) acc := by
 rw [Lib.spansFromP.eq_def]
 show (if pos < s.size then _ else _) = _
 rw [if_pos hlt, hrn]
 cases st <;> rfl
theorem abQy (s : ByteArray) : ∀ (f pos : Nat) (st : Option Nat) (acc : List (Nat × Nat)), s.size ≤ pos + f → pos ≤ s.size → (∀ a, st = some a → a < pos) →
 (Lib.closeSpans s (Lib.spansFromP abQ9 s f pos st acc)).map (adQ4 s) = refW s.data.toList (s.data.toList.length + 1 - pos) pos (st.getD pos) (acc.map (adQ4 s))
 | f, pos, st, acc, hf, hp, hst => by
   have hl := aaQd s
   by_cases hlt : pos < s.size
   ·obtain ⟨f, rfl⟩ : ∃ f', f = f' + 1 := ⟨f - 1, by omega⟩
    have hb := aaQw hlt
    obtain ⟨n0, hn0⟩ : ∃ n0, s.data.toList.length + 1 - pos = n0 + 1 := ⟨s.data.toList.length - pos, by omega⟩
    by_cases h128 : (s[pos]'hlt).toNat < 128
    ·have hd := decode_ascii s pos hlt h128
     have hstep := ajQ9 s pos f st acc hlt hd
     rw [hstep, hn0]
     show _ = (if pos = s.data.toList.length ∨ s.data.toList[pos]? = some 32 then refW s.data.toList n0 (pos + 1) (pos + 1) (if st.getD pos < pos then acc.map (adQ4 s) ++ [(s.data.toList.drop (st.getD pos)).take (pos - st.getD pos)] else acc.map (adQ4 s)) else refW s.data.toList n0 (pos + 1) (st.getD pos) (acc.map (adQ4 s)))
     have hn1 : s.data.toList.length + 1 - (pos + 1) = n0 := by omega
     by_cases h32 : s[pos]'hlt = 32
     ·rw [if_pos (by rw [h32]; rfl), if_pos (.inr (by rw [hb, h32]))]
      cases st with
      | some a =>
        have ha := hst a rfl
        rw [Option.getD_some, if_pos ha]
        have := abQy s f (pos + 1) none (acc ++ [(a, pos)]) (by omega) (by omega) (fun a h => by cases h)
        rw [hn1] at this
        rw [this, List.map_append, List.map_cons, List.map_nil, akQs]
        rfl
      | none =>
        rw [Option.getD_none, if_neg (Nat.lt_irrefl _)]
        have := abQy s f (pos + 1) none acc (by omega) (by omega) (fun a h => by cases h)
        rw [hn1] at this
        exact this
     ·have hnb : ¬ abQ9 (s[pos]'hlt).toNat = true := by
       unfold abQ9
       simp
       intro e
       exact h32 (UInt8.toNat_inj.1 e)
      rw [if_neg hnb, if_neg (by rintro (e | e); omega; (rw [hb] at e; injection e with e; exact h32 e))]
      cases st with
      | some a =>
        have ha := hst a rfl
        have := abQy s f (pos + 1) (some a) acc (by omega) (by omega) (fun b h => by injection h with h; omega)
        rw [hn1] at this
        exact this
      | none =>
        have := abQy s f (pos + 1) (some pos) acc (by omega) (by omega) (fun b h => by injection h with h; omega)
        rw [hn1] at this
        exact this
    ·obtain ⟨h1, h2⟩ := Go.decode_high s pos hlt (by omega)
     obtain ⟨h3, h4⟩ := ahQp aoQl s pos hlt (by omega)
     obtain ⟨r, n, hrn⟩ : ∃ r n, Utf8.decode s pos = (r, n) := ⟨_, _, rfl⟩
     rw [hrn] at h1 h2 h3 h4
     have h1 : 128 ≤ r := h1
     have h2 : 1 ≤ n := h2
     have h3 : pos + n ≤ s.size := h3
     have hnb : ¬ abQ9 r = true := by unfold abQ9; simp; omega
     have hstep := ajQ9 s pos f st acc hlt hrn
     rw [if_neg hnb] at hstep
     have hskip := akQf s.data.toList (s.data.toList.length + 1 - (pos + n)) (st.getD pos) (acc.map (adQ4 s)) n pos (fun j h5 h6 => ⟨by omega, fun e => by
      have := h4 j 32 h5 h6 e
      cases this⟩)
     rw [show n + (s.data.toList.length + 1 - (pos + n)) = s.data.toList.length + 1 - pos by omega] at hskip
     rw [hstep, hskip]
     cases st with
     | some a =>
       have ha := hst a rfl
       exact abQy s f (pos + n) (some a) acc (by omega) (by omega) (fun b h => by injection h with h; omega)
     | none => exact abQy s f (pos + n) (some pos) acc (by omega) (by omega) (fun b h => by injection h with h; omega)
   ·have hps : pos = s.data.toList.length := by omega
    rw [Lib.spansFromP_end abQ9 s f pos st acc hlt, show s.data.toList.length + 1 - pos = 0 + 1 by omega]
    show _ = (if pos = s.data.toList.length ∨ s.data.toList[pos]? = some 32 then (if st.getD pos < pos then acc.map (adQ4 s) ++ [(s.data.toList.drop (st.getD pos)).take (pos - st.getD pos)] else acc.map (adQ4 s)) else _)
    rw [if_pos (.inl hps)]
    cases st with
    | some a =>
      have ha := hst a rfl
      rw [Option.getD_some, if_pos ha]
      show (acc ++ [(a, s.size)]).map (adQ4 s) = _
      rw [List.map_append, List.map_cons, List.map_nil, akQs, show pos = s.size by omega]
    | none =>
      rw [Option.getD_none, if_neg (Nat.lt_irrefl _)]
      rfl
termination_by f _ _ _ _ _ _ => f
theorem afQm (v : Bs) : adQw v = aeQm v := by
 unfold adQw aeQm Lib.goFieldsP Lib.spansOfP
 have h := abQy (mkS v) (mkS v).size 0 none [] (by omega) (Nat.zero_le _) (fun a h => by cases h)
 rw [List.map_map]
 exact h
theorem arQb (t : Bs) (i fr : Nat) (c : UInt8) (hf : fr ≤ i) (hc : t[i]? = some c) : abQn (t.drop i) ((t.drop fr).take (i - fr)) = if c = 10 then (t.drop fr).take (i - fr) :: abQn (t.drop (i + 1)) ((t.drop (i + 1)).take (i + 1 - (i + 1))) else abQn (t.drop (i + 1)) ((t.drop fr).take (i + 1 - fr)) := by
 have hi := (List.getElem?_eq_some_iff.1 hc).1
 have hci := (List.getElem?_eq_some_iff.1 hc).2
 have hd : t.drop i = c :: t.drop (i + 1) := by rw [← hci]; exact List.drop_eq_getElem_cons hi
 rw [hd]
 show (if c = 10 then (t.drop fr).take (i - fr) :: abQn (t.drop (i + 1)) [] else abQn (t.drop (i + 1)) ((t.drop fr).take (i - fr) ++ [c])) = _
 by_cases h : c = 10
 ·rw [if_pos h, if_pos h, Nat.sub_self]
  rfl
 ·rw [if_neg h, if_neg h, show i + 1 - fr = (i - fr) + 1 from by omega, List.take_add_one]
  have : (t.drop fr)[i - fr]? = some c := by rw [List.getElem?_drop, show fr + (i - fr) = i from by omega]; exact hc
  rw [this]
  rfl
theorem ajQb (t : Bs) (a b : Nat) : (mkS t).extract a b = mkS ((t.drop a).take (b - a)) := by
 have : ((mkS t).extract a b).data.toList = (t.drop a).take (b - a) := by simp [mkS]
 have h2 : mkS (((mkS t).extract a b).data.toList) = (mkS t).extract a b := rfl
 rw [← h2, this]
set_option maxHeartbeats 8000000 in
set_option maxRecDepth 1000000 in
theorem arQa (t : Bs) (ht : t.length ≤ 1048576) (w : World) : Calls Tryz.prog 23 #[.string (mkS t)] w fun e w' =>
 ∃ v, e = .returned v ∧ w'.ownsRow w.heap.size 9 1 v (aaQm t).length ((aaQm t).map fun p => Value.string (mkS p)) ∧ Below w.heap.size w w' := by
 obtain ⟨is_, zs, his, hzs, hzs1, hzs2, hzs3⟩ := adQs
 have HIS := hQQ his
 have hS : (mkS t).size = t.length := aaQg t
 have HEX := hQQ (ajQb t)
 have HBY := hQQ (fun k (h : k < (mkS t).size) => aaQw h)
 rw [aaQn] at HBY
 have HO0 : Hid (w.ownsRow w.heap.size 9 1 (.slice none 0 0) ([] : List Bs).length (([] : List Bs).map fun p => Value.string (mkS p))) := World.ownsRow_nil _ _ _ _
 have HB0 : Hid (Below w.heap.size w w) := Below.refl _ _
 have HL0 : Hid (aaQm t = [] ++ abQn (t.drop 0) ((t.drop 0).take (0 - 0))) := rfl
 generalize mkS t = S at *
 clear his
 go_enter Tryz.func23, Tryz.ntmps23
 go_wp2_with fail
 go_loopg [3, 4, 5] t.length (fun gk v3 v4 v5 wx => ∃ (i fr : Nat) (L : List Bs), i + gk = t.length ∧ fr ≤ i ∧ L.length ≤ i ∧ v4 = .int .i64 (fr : Int) ∧ v5 = .int .i64 (i : Int) ∧ Hid (wx.ownsRow w.heap.size 9 1 v3 L.length (L.map fun p => Value.string (mkS p))) ∧ Hid (Below w.heap.size w wx) ∧ Hid (aaQm t = L ++ abQn (t.drop i) ((t.drop fr).take (i - fr))))
 case atStart => exact ⟨0, 0, [], by omega, Nat.le_refl _, Nat.le_refl _, rfl, rfl, HO0, HB0, HL0⟩
 case round =>
  obtain ⟨i, fr, L, hig, hfi, hLi, rfl, rfl, HO, HB, HL⟩ := hrel
  clear HO0 HB0 HL0
  obtain ⟨Ag, cg, rfl, hcg1, hcg2⟩ := aaQc HO.out
  have hf0 : (0 : Int) ≤ (fr : Int) := by omega
  have hfiI : (fr : Int) ≤ (i : Int) := by omega
  have hgl2 : (L.map fun p => Value.string (mkS p)).length = L.length := List.length_map _
  by_cases hlt : i < t.length
  ·have hltS : i < S.size := by omega
   have hltI : (i : Int) < (S.size : Int) := by omega
   have hiS : (i : Int) ≤ (S.size : Int) := by omega
   obtain ⟨c, hc⟩ : ∃ c, t[i]? = some c := ⟨_, List.getElem?_eq_getElem hlt⟩
   have hget : S[i]'hltS = c := by
    have h1 := HBY.out i hltS
    rw [hc] at h1
    injection h1 with h1
    exact h1.symm
   have hgo := arQb t i fr c hfi hc
   by_cases h10 : c = 10
   ·have t10 : ((S[i].toNat : Int) == 10) = true := by rw [hget, h10]; rfl
    rw [if_pos h10] at hgo
    have HL2 : Hid (aaQm t = (L ++ [(t.drop fr).take (i - fr)]) ++ abQn (t.drop (i + 1)) ((t.drop (i + 1)).take (i + 1 - (i + 1)))) := by
     rw [HL.out, hgo, List.append_assoc]
     rfl
    have hex := HEX.out fr i
    generalize (t.drop fr).take (i - fr) = cur at *
    have hbA : Below wr.heap.size wr (wr.alloc (.cells #[.string (mkS cur)] 9)) := (Below.refl _ _).alloc (Nat.le_refl _) _
    have HOA := hQQ (aaQf HO.out (Turned.of_below hbA []) (fun _ _ => by simp))
    have HBA := hQQ (HB.out.trans (hbA.mono HB.out.size))
    have HCN := hQQ (cell_one_new wr (.string (mkS cur)) 9)
    have hszz : w.heap.size ≤ wr.heap.size := HB.out.size
    clear hget h10 hgo hc HL HB HO hbA
    go_wp2_with (at_builtin; refine wpList_append_own_at _ rfl (.tmp 16) (.tmp 21) 32 rfl w.heap.size 9 is_ zs 1 16 Tryz.underlying32 HIS.out hzs hzs2 hzs3 hzs1 (by decide) (.slice Ag L.length cg) L.length (L.map fun p => Value.string (mkS p)) rfl HOA.out ⟨wr.heap.size, 0, none⟩ 1 1 [.string (mkS cur)] rfl rfl HCN.out (by intro u hu; simp at hu; subst hu; rfl) (by unfold maxLen; omega) (by omega) (by simp; omega) ?_; intro v7 w7 hown7 hg7 hnil7 hat7; have HO7 : Hid (w7.ownsRow w.heap.size 9 1 v7 (L ++ [cur]).length ((L ++ [cur]).map fun p => Value.string (mkS p))) := (by rw [List.length_append, List.map_append]; exact hown7); have HB7 := hQQ (HBA.out.trans ((aaQi hg7).below (B := w.heap.size) (fun k hk => (HOA.out.lt k (by simpa using hk)).1) HBA.out.size)); clear hown7 hg7 hnil7 hat7)
    go_roundg (gk - 1)
    case measure => omega
    case rel => exact ⟨i + 1, i + 1, L ++ [cur], by omega, Nat.le_refl _, by simp; omega, by go_num, by go_num, HO7, HB7, HL2⟩
   ·have t10 : ((S[i].toNat : Int) == 10) = false := by
     rw [hget]
     have : c.toNat ≠ 10 := fun e => h10 (UInt8.toNat_inj.1 (by rw [e]; rfl))
     simp
     omega
    rw [if_neg h10] at hgo
    have HL2 : Hid (aaQm t = L ++ abQn (t.drop (i + 1)) ((t.drop fr).take (i + 1 - fr))) := by rw [HL.out, hgo]; rfl
    clear hget h10 hgo hc HL
    go_wp2_with fail
    go_roundg (gk - 1)
    case measure => omega
    case rel => exact ⟨i + 1, fr, L, by omega, by omega, by omega, rfl, by go_num, HO, HB, HL2⟩
  ·have hltI : ¬ (i : Int) < (S.size : Int) := by omega
   have hil : i = t.length := by omega
   have hdr : t.drop i = [] := List.drop_eq_nil_of_le (by omega)
   have hcur : (t.drop fr).take (i - fr) = t.drop fr := List.take_of_length_le (by simp; omega)
   have hl := HL.out
   rw [hdr, hcur] at hl
   by_cases hfr : fr < t.length
   ·have hfrI : (fr : Int) < (S.size : Int) := by omega
    have hfrS : (fr : Int) ≤ (S.size : Int) := by omega
    have hne : t.drop fr ≠ [] := fun e => by have := congrArg List.length e; simp at this; omega
    have HL2 : Hid (aaQm t = L ++ [t.drop fr]) := by rw [hl]; show _ ++ (if t.drop fr = [] then [] else [t.drop fr]) = _; rw [if_neg hne]
    have hex := HEX.out fr t.length
    rw [List.take_of_length_le (by simp)] at hex
    generalize t.drop fr = cur at *
    have hbA : Below wr.heap.size wr (wr.alloc (.cells #[.string (mkS cur)] 9)) := (Below.refl _ _).alloc (Nat.le_refl _) _
    have HOA := hQQ (aaQf HO.out (Turned.of_below hbA []) (fun _ _ => by simp))
    have HBA := hQQ (HB.out.trans (hbA.mono HB.out.size))
    have HCN := hQQ (cell_one_new wr (.string (mkS cur)) 9)
    have hszz : w.heap.size ≤ wr.heap.size := HB.out.size
    clear hl hcur hdr HL HB HO hbA hil hne
    go_wp2_with (at_builtin; refine wpList_append_own_at _ rfl (.tmp 29) (.tmp 33) 32 rfl w.heap.size 9 is_ zs 1 16 Tryz.underlying32 HIS.out hzs hzs2 hzs3 hzs1 (by decide) (.slice Ag L.length cg) L.length (L.map fun p => Value.string (mkS p)) rfl HOA.out ⟨wr.heap.size, 0, none⟩ 1 1 [.string (mkS cur)] rfl rfl HCN.out (by intro u hu; simp at hu; subst hu; rfl) (by unfold maxLen; omega) (by omega) (by simp; omega) ?_; intro v7 w7 hown7 hg7 hnil7 hat7; have HO7 : Hid (w7.ownsRow w.heap.size 9 1 v7 (L ++ [cur]).length ((L ++ [cur]).map fun p => Value.string (mkS p))) := (by rw [List.length_append, List.map_append]; exact hown7); have HB7 := hQQ (HBA.out.trans ((aaQi hg7).below (B := w.heap.size) (fun k hk => (HOA.out.lt k (by simpa using hk)).1) HBA.out.size)); clear hown7 hg7 hnil7 hat7)
    go_ret
    exact ⟨_, rfl, by rw [HL2.out]; exact HO7.out, HB7.out⟩
   ·have hfrI : ¬ (fr : Int) < (S.size : Int) := by omega
    have he : t.drop fr = [] := List.drop_eq_nil_of_le (by omega)
    have HL2 : Hid (aaQm t = L) := by rw [hl, he]; show L ++ [] = L; rw [List.append_nil]
    clear hl hcur hdr HL hil he
    go_wp2_with fail
    go_ret
    exact ⟨_, rfl, by rw [HL2.out]; exact HO.out, HB.out⟩
theorem adQe (n : Nat) (l : Bs) (ls : List Bs) (acc : List Sk) : readS (n + 1) (l :: ls) acc = match lineS l acc.isEmpty with
 | .skip => readS n ls acc
 | .bad => .error 130
 | .pack v => match abQk acc v with
   | .error e => .error e
   | .ok a => readS n ls a
 | .one t v => thenS (lastT t [v] acc) (readS n ls)
 | .blk t => match abQj t ls [] with
   | none => .error 130
   | some (vs, ls') => thenS (lastT t vs acc) (readS n ls') := rfl
theorem agQ7 (n : Nat) (acc : List Sk) : readS (n + 1) [] acc = if aaQ4 acc = 0 then .ok acc else .error (aaQ4 acc) := rfl
theorem adQ8 (t : Bs) (vs : List Bs) : ∀ (acc a : List Sk), lastT t vs acc = some a → a.length = acc.length
 | [], a, h => by cases h
 | [S], a, h => by
   have h : (match putT t vs S with | some S' => some [S'] | none => none) = some a := h
   cases hp : putT t vs S with
   | none => rw [hp] at h; cases h
   | some S' => rw [hp] at h; injection h with h; rw [← h]; rfl
 | S :: S2 :: r, a, h => by
   have h : (match lastT t vs (S2 :: r) with | some r' => some (S :: r') | none => none) = some a := h
   cases hp : lastT t vs (S2 :: r) with
   | none => rw [hp] at h; cases h
   | some r' =>
     rw [hp] at h
     injection h with h
     rw [← h]
     show r'.length + 1 = (S2 :: r).length + 1
     rw [adQ8 t vs _ _ hp]
theorem ahQk (t : Bs) (vs : List Bs) : ∀ (p acc : List Sk), acc ≠ [] → lastT t vs (p ++ acc) = (lastT t vs acc).map (p ++ ·)
 | [], acc, _ => by
   show lastT t vs acc = _
   cases lastT t vs acc <;> rfl
 | S :: r, acc, h => by
   have hne : r ++ acc ≠ [] := by simp [h]
   obtain ⟨x, y, hxy⟩ : ∃ x y, r ++ acc = x :: y := by
    cases hr : r ++ acc with
    | nil => exact absurd hr hne
    | cons x y => exact ⟨x, y, rfl⟩
   have e : lastT t vs (S :: (r ++ acc)) = match lastT t vs (r ++ acc) with | some r' => some (S :: r') | none => none := by rw [hxy]; rfl
   rw [List.cons_append, e, ahQk t vs r acc h]
   cases lastT t vs acc <;> rfl
theorem aeQf : ∀ (p acc : List Sk), acc ≠ [] → aaQ4 (p ++ acc) = aaQ4 acc
 | [], _, _ => rfl
 | S :: r, acc, h => by
   have hne : r ++ acc ≠ [] := by simp [h]
   have e : aaQ4 (S :: (r ++ acc)) = aaQ4 (r ++ acc) := by
    cases hr : r ++ acc with
    | nil => exact absurd hr hne
    | cons x y => rfl
   rw [List.cons_append, e]
   exact aeQf r acc h
theorem alQr {acc a : List Sk} {v : Bs} (h : abQk acc v = .ok a) : aaQ4 acc = 0 ∧ acc.length < 200 ∧ ∃ S, headS (adQw v) = some S ∧ a = acc ++ [S] := by
 unfold abQk at h
 by_cases h1 : aaQ4 acc ≠ 0
 ·rw [if_pos h1] at h; cases h
 rw [if_neg h1] at h
 by_cases h2 : 200 ≤ acc.length
 ·rw [if_pos h2] at h; cases h
 rw [if_neg h2] at h
 cases hs : headS (adQw v) with
 | none => rw [hs] at h; cases h
 | some S =>
   rw [hs] at h
   injection h with h
   exact ⟨by simpa using h1, by omega, S, rfl, h.symm⟩
theorem agQh {x : Option (List Sk)} {k : List Sk → Except Int (List Sk)} {b : List Sk} (h : thenS x k = .ok b) : ∃ a, x = some a ∧ k a = .ok b := by
 cases x with
 | none => cases h
 | some a => exact ⟨a, rfl, h⟩
theorem adQd : ∀ (n : Nat) (ls : List Bs) (acc b : List Sk), readS n ls acc = .ok b → acc.length ≤ b.length ∧ (acc.length ≤ 200 → b.length ≤ 200)
 | 0, _, acc, b, h => by injection h with h; rw [h]; exact ⟨Nat.le_refl _, fun h => h⟩
 | n + 1, [], acc, b, h => by
   rw [agQ7] at h
   split at h
   ·injection h with h; rw [h]; exact ⟨Nat.le_refl _, fun h => h⟩
   ·cases h
 | n + 1, l :: ls, acc, b, h => by
   rw [adQe] at h
   cases hl : lineS l acc.isEmpty with
   | skip => rw [hl] at h; exact adQd n ls acc b h
   | bad => rw [hl] at h; cases h
   | pack v =>
     rw [hl] at h
     dsimp only at h
     cases hb : abQk acc v with
     | error e => rw [hb] at h; cases h
     | ok a =>
       rw [hb] at h
       obtain ⟨_, h2, S, _, rfl⟩ := alQr hb
       obtain ⟨h3, h4⟩ := adQd n ls _ b h
       rw [List.length_append] at h3 h4
       simp only [List.length_singleton] at h3 h4
       exact ⟨by omega, fun _ => h4 (by omega)⟩
   | one t v =>
     rw [hl] at h
     obtain ⟨a, h1, h2⟩ := agQh h
     obtain ⟨h3, h4⟩ := adQd n ls a b h2
     rw [adQ8 _ _ _ _ h1] at h3 h4
     exact ⟨h3, h4⟩
   | blk t =>
     rw [hl] at h
     dsimp only at h
     cases hb : abQj t ls [] with
     | none => rw [hb] at h; cases h
     | some x =>
       obtain ⟨vs, ls'⟩ := x
       rw [hb] at h
       obtain ⟨a, h1, h2⟩ := agQh h
       obtain ⟨h3, h4⟩ := adQd n ls' a b h2
       rw [adQ8 _ _ _ _ h1] at h3 h4
       exact ⟨h3, h4⟩
theorem aoQ9 {t : Bs} {b : List Sk} (h : acQx t = .ok b) : b.length ≤ 200 := by
 unfold acQx at h
 split at h
 ·exact (adQd _ _ _ _ h).2 (Nat.zero_le _)
 ·cases h
theorem aiQk (t v : Bs) (h : mgOf t = .none) : ∀ acc : List Sk, acc ≠ [] → lastT t [v] acc = some acc
 | [], h => absurd rfl h
 | [S], _ => by
   show (match putM (mgOf t) [v] S with | some S' => some [S'] | none => none) = _
   rw [h]
   rfl
 | S :: S2 :: r, _ => by
   show (match lastT t [v] (S2 :: r) with | some r' => some (S :: r') | none => none) = _
   rw [aiQk t v h (S2 :: r) (by simp)]
theorem ajQ5 {p : UInt8 → Bool} : ∀ {l : Bs}, (∀ c ∈ l, p c = true) → l.takeWhile p = l
 | [], _ => rfl
 | c :: r, h => by
   rw [List.takeWhile_cons, if_pos (h c (by simp)), ajQ5 (fun d hd => h d (List.mem_cons_of_mem _ hd))]
theorem afQc (k c : UInt8) (r : Bs) : Lib.cut (c :: r) [k] = if c = k then ([], r, true) else (c :: (Lib.cut r [k]).1, (Lib.cut r [k]).2.1, (Lib.cut r [k]).2.2) := by
 have hi : Lib.index (c :: r) [k] = if c = k then 0 else if Lib.index r [k] = -1 then -1 else Lib.index r [k] + 1 := by
  show (if ([k] : Bs).isPrefixOf (c :: r) = true then (0 : Int) else if (Lib.index r [k] == -1) = true then -1 else Lib.index r [k] + 1) = _
  by_cases h : c = k
  ·subst h
   rw [if_pos rfl, if_pos (by simp [List.isPrefixOf])]
  ·rw [if_neg h]
   have h2 : ([k] : Bs).isPrefixOf (c :: r) = false := by
    show (k == c && _) = false
    have : (k == c) = false := beq_eq_false_iff_ne.2 (fun e => h e.symm)
    rw [this]
    rfl
   rw [h2]
   simp
 by_cases h : c = k
 ·subst h
  rw [if_pos rfl] at hi
  rw [if_pos rfl]
  unfold Lib.cut
  rw [hi]
  rfl
 ·rw [if_neg h] at hi ⊢
  have hg := Lib.index_ge r [k]
  unfold Lib.cut
  by_cases h1 : Lib.index r [k] = -1
  ·rw [if_pos h1] at hi
   rw [hi, h1]
   rfl
  ·rw [if_neg h1] at hi
   have h0 : 0 ≤ Lib.index r [k] := by omega
   rw [hi, if_pos h0, if_pos (by omega)]
   obtain ⟨m, hm⟩ : ∃ m : Nat, Lib.index r [k] = (m : Int) := ⟨(Lib.index r [k]).toNat, by omega⟩
   rw [hm]
   have e1 : ((m : Int) + 1).toNat = m + 1 := by omega
   have e2 : ((m : Int)).toNat = m := by omega
   rw [e1, e2]
   simp
theorem arQn (k : UInt8) (u : Bs) : ∀ t : Bs, (∀ c ∈ t, c ≠ k) → Lib.cut (t ++ k :: u) [k] = (t, u, true)
 | [], _ => by rw [List.nil_append, afQc, if_pos rfl]
 | c :: r, h => by
   rw [List.cons_append, afQc, if_neg (h c (by simp)), arQn k u r (fun d hd => h d (List.mem_cons_of_mem _ hd))]
theorem alQg {p : UInt8 → Bool} (b : Bs) : ∀ {a : Bs}, a.all p = true → (a ++ b).dropWhile p = b.dropWhile p
 | [], _ => rfl
 | c :: r, h => by
   rw [List.all_cons, Bool.and_eq_true] at h
   rw [List.cons_append, List.dropWhile_cons, if_pos h.1]
   exact alQg b h.2
theorem alQf {p : UInt8 → Bool} (b : Bs) : ∀ {a : Bs}, a.all p = false → (a ++ b).dropWhile p = a.dropWhile p ++ b
 | [], h => by cases h
 | c :: r, h => by
   rw [List.cons_append, List.dropWhile_cons, List.dropWhile_cons]
   by_cases hc : p c = true
   ·rw [if_pos hc, if_pos hc]
    rw [List.all_cons, hc, Bool.true_and] at h
    exact alQf b h
   ·rw [if_neg hc, if_neg hc]
    rfl
theorem ahQr {c : UInt8} {r : Bs} (h : r.all dLay = true) : dR (c :: r) = if dLay c = true then [] else [c] := by
 unfold dR
 rw [List.reverse_cons, alQg [c] (by rw [ajQy]; exact h), List.dropWhile_cons]
 split <;> rfl
theorem ahQq {c : UInt8} {r : Bs} (h : r.all dLay = false) : dR (c :: r) = c :: dR r := by
 unfold dR
 rw [List.reverse_cons, alQf [c] (by rw [ajQy]; exact h), List.reverse_append]
 rfl
theorem agQw : ∀ l : Bs, dR (dL l) = dTrim l
 | [] => rfl
 | c :: r => by
   have ih := agQw r
   unfold dTrim at ih ⊢
   have hL : dL (c :: r) = if dLay c = true then dL r else c :: r := List.dropWhile_cons
   by_cases hc : dLay c = true
   ·rw [hL, if_pos hc, ih]
    by_cases hr : r.all dLay = true
    ·rw [ahQr hr, if_pos hc, ajQk hr]
    ·rw [ahQq (by simpa using hr)]
     show dL (dR r) = List.dropWhile dLay (c :: dR r)
     rw [List.dropWhile_cons, if_pos hc]
     rfl
   ·rw [hL, if_neg hc]
    by_cases hr : r.all dLay = true
    ·rw [ahQr hr, if_neg hc]
     show _ = List.dropWhile dLay [c]
     rw [List.dropWhile_cons, if_neg hc]
    ·rw [ahQq (by simpa using hr)]
     show _ = List.dropWhile dLay (c :: dR r)
     rw [List.dropWhile_cons, if_neg hc]
end Go.Proofs.YtdhgiammfpjniaaGreatDoor
