/- Elements whose texts and values are escaped, piece by piece. -/
import Derived.Test.YtoifibnmincodaaGreatDoorXesA
import Derived.Test.YtoifibnmincodaaGreatDoorXal
namespace Go.Proofs.YtoifibnmincodaaGreatDoor
set_option linter.unusedSimpArgs false
set_option linter.unusedVariables false
open Go.RowKit

theorem allN_fuel : ∀ (k j : Nat) {s : XS}, XOk s → muX s < k → muX s < j → allN k s = allN j s
  | 0, _, _, _, h, _ => by omega
  | _, 0, _, _, _, h => by omega
  | k + 1, j + 1, s, ho, hk, hj => by
    cases hn : nextR s with
    | error e => rw [allN_err hn, allN_err hn]
    | ok x =>
      by_cases h4 : x.1.kind = 4
      · rw [allN_done hn h4, allN_done hn h4]
      · obtain ⟨ho', hm⟩ := nextR_mu ho (s' := x.2) (pc := x.1) hn
        have := hm h4
        rw [allN_more hn h4, allN_more hn h4, allN_fuel k j ho' (by omega) (by omega)]
def allS (s : XS) : List Pc × Int := allN (muX s + 1) s
/-- From s on just these pieces are told, then it goes on at s'. -/
def Tells (s : XS) (ps : List Pc) (s' : XS) : Prop := XOk s → XOk s' ∧ allS s = (ps ++ (allS s').1, (allS s').2)
theorem Tells.refl (s : XS) : Tells s [] s := fun h => ⟨h, rfl⟩
theorem Tells.trans {s s' s'' : XS} {a b : List Pc} (h : Tells s a s') (h' : Tells s' b s'') : Tells s (a ++ b) s'' := fun ho => by
  obtain ⟨h1, h2⟩ := h ho
  obtain ⟨h3, h4⟩ := h' h1
  exact ⟨h3, by rw [h2, h4, List.append_assoc]⟩
theorem Tells.one {s s' : XS} {p : Pc} (h : nextR s = .ok (p, s')) (h4 : p.kind ≠ 4) : Tells s [p] s' := fun ho => by
  obtain ⟨ho', hm⟩ := nextR_mu ho h
  have := hm h4
  refine ⟨ho', ?_⟩
  unfold allS
  rw [allN_more (x := (p, s')) h h4, allN_fuel (muX s) (muX s' + 1) ho' this (Nat.lt_succ_self _)]
  rfl
theorem allS_err {s : XS} {e : Int} (h : nextR s = .error e) : allS s = ([], e) := allN_err h
theorem allS_done {s s' : XS} {p : Pc} (h : nextR s = .ok (p, s')) (h4 : p.kind = 4) : allS s = ([], 0) := allN_done (x := (p, s')) h h4
theorem allX_short {l : Bs} (h : l.length ≤ 40000) : allX l = allS (s0X l) := by unfold allX; rw [if_neg (by omega)]; rfl
theorem ok0 {l : Bs} (h : l.length ≤ 40000) : XOk (s0X l) := ⟨h, Nat.zero_le _, fun h => by cases h⟩

/-! Names and attributes. -/
theorem bindOk {α β : Type} (x : α) (f : α → Except Int β) : (Except.ok x).bind f = f x := rfl
theorem mapOk {α β : Type} (x : α) (f : α → β) : (Except.ok x : Except Int α).map f = .ok (f x) := rfl
theorem bindErr {α β : Type} (e : Int) (f : α → Except Int β) : (Except.error e : Except Int α).bind f = .error e := rfl
def NmOk (nm : Bs) : Bool := match nm with
  | [] => false
  | c :: r => xFirst c && (c :: r).all xOf && decide ((c :: r).length ≤ 60)
theorem of_may (c : UInt8) : xOf c = true → xMay c = true := by
  revert c
  refine all_u8 ?_
  decide +kernel
theorem take_all {nm r : Bs} (h : nm.all xMay = true) : takeR nm.length (nm ++ r) = .ok (nm, r) := by
  unfold takeR
  rw [List.take_left' rfl, List.drop_left' rfl, if_pos h]
theorem while_of {nm r : Bs} {p : UInt8 → Bool} {c : UInt8} (h : nm.all p = true) (hc : p c = false) : (nm ++ c :: r).takeWhile p = nm := by
  rw [List.takeWhile_append_of_pos (by simpa using h), List.takeWhile_cons, hc]
  simp
theorem nameR_ok {nm r : Bs} {c : UInt8} (h : NmOk nm = true) (hc : xOf c = false) : nameR (nm ++ c :: r) = .ok (nm, c :: r) := by
  cases nm with
  | nil => cases h
  | cons a t =>
    simp only [NmOk, Bool.and_eq_true, decide_eq_true_eq] at h
    obtain ⟨⟨h1, h2⟩, h3⟩ := h
    have hN : nameN ((a :: t) ++ c :: r) = (a :: t).length := by
      show (if xFirst a = true then (List.takeWhile xOf ((a :: t) ++ c :: r)).length else 0) = _
      rw [if_pos h1, while_of h2 hc]
    unfold nameR
    rw [hN, if_pos ⟨by simp, h3⟩]
    refine take_all ?_
    rw [List.all_eq_true] at h2 ⊢
    exact fun b hb => of_may b (h2 b hb)
theorem lay_none {c : UInt8} {r : Bs} (h : xLay c = false) : layoutR (c :: r) = .ok (false, c :: r) := by
  unfold layoutR
  rw [List.takeWhile_cons, h]
  rfl
theorem lay_one {c : UInt8} {r : Bs} (h : xLay c = false) : layoutR (32 :: c :: r) = .ok (true, c :: r) := by
  unfold layoutR
  rw [List.takeWhile_cons, List.takeWhile_cons, h]
  rfl
theorem first_not_lay (c : UInt8) : xFirst c = true → xLay c = false ∧ c ≠ 62 ∧ c ≠ 47 ∧ c ≠ 33 ∧ c ≠ 63 := by
  revert c
  refine all_u8 ?_
  decide +kernel
theorem esc_head_lay (q : UInt8) (hq : q = 39 ∨ q = 34) : xLay q = false ∧ xOf q = false := by rcases hq with rfl | rfl <;> decide
/-- An attribute. -/
def attrF (al : Al) (nm : Bs) (n2 : Bs) : RR (Bs × Bs) :=
  if al.length < 16 then
    if al.any (fun a => decide (a.1 = nm)) = true then .error 100 else
    (layoutR n2).bind fun a => (wantR [61] a.2).bind fun b => (layoutR b.2).bind fun c =>
      if Lib.hasPrefix c.2 [39] = true then (valueQ [39] (Lib.trimPrefix c.2 [39])).map fun v => ((nm, v.1), v.2)
      else (wantR [34] c.2).bind fun d => (valueQ [34] d.2).map fun v => ((nm, v.1), v.2)
  else .error 104
theorem attrR_F (al : Al) (l : Bs) : attrR al l = (nameR l).bind fun n => attrF al n.1 n.2 := rfl
def quoteF (nm : Bs) (c2 : Bs) : RR (Bs × Bs) :=
      if Lib.hasPrefix c2 [39] = true then (valueQ [39] (Lib.trimPrefix c2 [39])).map fun v => ((nm, v.1), v.2)
      else (wantR [34] c2).bind fun d => (valueQ [34] d.2).map fun v => ((nm, v.1), v.2)
theorem attr_esc {nm v r : Bs} {q : UInt8} {al : Al} (hn : NmOk nm = true) (hq : q = 39 ∨ q = 34) (hl : al.length < 16) (ha : al.any (fun a => decide (a.1 = nm)) = false) :
    attrR al (nm ++ 61 :: q :: (escX v ++ q :: r)) = if v.all xMay = true then .ok ((nm, v), r) else .error 103 := by
  rw [attrR_F, nameR_ok hn (by decide)]
  show attrF al nm (61 :: q :: (escX v ++ q :: r)) = _
  unfold attrF
  rw [if_pos hl, ha, if_neg (by decide), lay_none (by decide), bindOk]
  dsimp only
  rw [want_one, bindOk]
  dsimp only
  rw [lay_none (esc_head_lay q hq).1, bindOk]
  show quoteF nm (q :: (escX v ++ q :: r)) = _
  unfold quoteF
  rcases hq with rfl | rfl
  · rw [if_pos (pre_one _ _), trim_one]
    by_cases hv : v.all xMay = true
    · rw [valQ_esc 39 (.inl rfl) v r hv, if_pos hv]; rfl
    · rw [valQ_bad 39 (.inl rfl) v _ (by simpa using hv), if_neg hv]; rfl
  · rw [if_neg (pre_no' (by decide)), want_one, bindOk]
    dsimp only
    by_cases hv : v.all xMay = true
    · rw [valQ_esc 34 (.inr rfl) v r hv, if_pos hv]; rfl
    · rw [valQ_bad 34 (.inr rfl) v _ (by simpa using hv), if_neg hv]; rfl
def attrsF (k : Nat) (al : Al) (a : Bool × Bs) : RR (Al × Bool) :=
    if Lib.hasPrefix a.2 [62] = true then .ok ((al, false), Lib.trimPrefix a.2 [62])
    else if Lib.hasPrefix a.2 [47, 62] = true then .ok ((al, true), Lib.trimPrefix a.2 [47, 62])
    else if a.1 = true then (attrR al a.2).bind fun x => attrsR k (al ++ [x.1]) x.2 else .error 100
theorem attrsR_F (k : Nat) (al : Al) (l : Bs) : attrsR (k + 1) al l = (layoutR l).bind (attrsF k al) := by rw [attrsR]; rfl
theorem attrs_one {k : Nat} {nm v r : Bs} {q : UInt8} {al : Al} (hn : NmOk nm = true) (hq : q = 39 ∨ q = 34) (hl : al.length < 16) (ha : al.any (fun a => decide (a.1 = nm)) = false) :
    attrsR (k + 1) al (32 :: (nm ++ 61 :: q :: (escX v ++ q :: r))) = if v.all xMay = true then attrsR k (al ++ [(nm, v)]) r else .error 103 := by
  have hh := attr_esc (v := v) (r := r) hn hq hl ha
  cases nm with
  | nil => cases hn
  | cons a t =>
    simp only [NmOk, Bool.and_eq_true, decide_eq_true_eq] at hn
    obtain ⟨hL, h62, h47, -, -⟩ := first_not_lay a hn.1.1
    rw [attrsR_F]
    show Except.bind (layoutR (32 :: a :: (t ++ 61 :: q :: (escX v ++ q :: r)))) _ = _
    rw [lay_one hL]
    show attrsF k al (true, (a :: t) ++ 61 :: q :: (escX v ++ q :: r)) = _
    unfold attrsF
    dsimp only
    have n1 : ¬ Lib.hasPrefix (a :: t ++ 61 :: q :: (escX v ++ q :: r)) [62] = true := pre_no' (Ne.symm h62)
    have n2 : ¬ Lib.hasPrefix (a :: t ++ 61 :: q :: (escX v ++ q :: r)) [47, 62] = true := pre_no' (Ne.symm h47)
    rw [if_neg n1, if_neg n2, if_pos rfl, hh]
    by_cases hv : v.all xMay = true
    · rw [if_pos hv, if_pos hv]; rfl
    · rw [if_neg hv, if_neg hv]; rfl
theorem attrs_end {k : Nat} {al : Al} {r : Bs} : attrsR (k + 1) al (62 :: r) = .ok ((al, false), r) := by
  rw [attrsR_F, lay_none (by decide)]
  show attrsF k al (false, 62 :: r) = _
  unfold attrsF
  dsimp only
  rw [if_pos (pre_one _ _), trim_one]
theorem attrs_slash {k : Nat} {al : Al} {r : Bs} : attrsR (k + 1) al (47 :: 62 :: r) = .ok ((al, true), r) := by
  rw [attrsR_F, lay_none (by decide)]
  show attrsF k al (false, 47 :: 62 :: r) = _
  unfold attrsF
  dsimp only
  rw [if_neg (pre_no' (by decide)), if_pos (by simp [Lib.hasPrefix, List.isPrefixOf])]
  simp [Lib.trimPrefix, Lib.hasPrefix, List.isPrefixOf]

/-! Starts, texts and ends. -/
def SX (r : Bs) (o : List Bs) (b : Bool) : XS := ⟨r, o, b, false⟩
theorem run_lt {k : Nat} {out l : Bs} {c : UInt8} (h1 : c ≠ 33) (h2 : c ≠ 63) : runR (k + 1) out (60 :: c :: l) = .ok (out, 60 :: c :: l) := by
  rw [runR_F, plain_stop (by decide)]
  show runF k out ([], 60 :: c :: l) = _
  unfold runF
  dsimp only
  rw [if_neg (pre_no' (by decide)), if_neg (by simp [cdataB, Lib.hasPrefix, List.isPrefixOf, Ne.symm h1]), if_neg (by simp [Lib.hasPrefix, List.isPrefixOf, Ne.symm h1]), if_neg (by simp [Lib.hasPrefix, List.isPrefixOf, Ne.symm h2]), if_neg (by simp [Lib.hasPrefix, List.isPrefixOf, Ne.symm h1]), List.append_nil]
def nextF (s : XS) (x : Bs × Bs) : Except Int (Pc × XS) :=
    if 0 < s.opn.length then
      if x.1 ≠ [] then .ok (⟨3, [], [], x.1⟩, { s with rest := x.2 })
      else if x.2 = [] then .error 100
      else nextT s x
    else if allLay x.1 = true then
      if x.2 = [] then if s.begun = true then .ok (⟨4, [], [], []⟩, { s with rest := [] }) else .error 100
      else nextT s x
    else .error 100
theorem nextR_F {s : XS} (h : s.short = false) : nextR s = (runR (s.rest.length + 1) [] s.rest).bind (nextF s) := nextR_eq h
theorem nextF_T {s : XS} {c : UInt8} {l : Bs} : nextF s ([], c :: l) = nextT s ([], c :: l) := by
  have h1 : ¬ (c :: l : Bs) = [] := by simp
  have h2 : allLay ([] : Bs) = true := rfl
  have h3 : ¬ ([] : Bs) ≠ [] := by simp
  unfold nextF
  dsimp only
  by_cases ho : 0 < s.opn.length
  · rw [if_pos ho, if_neg h3, if_neg h1]
  · rw [if_neg ho, if_pos h2, if_neg h1]
theorem next_lt {s : XS} {c : UInt8} {l : Bs} (hs : s.short = false) (hr : s.rest = 60 :: c :: l) (h1 : c ≠ 33) (h2 : c ≠ 63) : nextR s = nextT s ([], 60 :: c :: l) := by
  rw [nextR_F hs, hr, run_lt h1 h2]
  exact nextF_T
theorem next_start {o : List Bs} {b : Bool} {c : UInt8} {l : Bs} (h1 : c ≠ 33) (h2 : c ≠ 63) (h3 : c ≠ 47) : nextR (SX (60 :: c :: l) o b) = startR (SX (c :: l) o b) := by
  rw [next_lt rfl rfl h1 h2]
  unfold nextT
  rw [if_neg (by simp [Lib.hasPrefix, List.isPrefixOf, Ne.symm h3])]
  show Except.bind (wantR [60] (60 :: c :: l)) _ = _
  rw [want_one]
  rfl
theorem next_endX {o : List Bs} {b : Bool} {l : Bs} : nextR (SX (60 :: 47 :: l) o b) = endR (SX l o b) := by
  rw [next_lt rfl rfl (by decide) (by decide)]
  unfold nextT
  rw [if_pos (by simp [Lib.hasPrefix, List.isPrefixOf])]
  simp [Lib.trimPrefix, Lib.hasPrefix, List.isPrefixOf, SX]
def startP (nm : Bs) (al : Al) : Pc := ⟨1, nm, al, []⟩
def endP_ (nm : Bs) : Pc := ⟨2, nm, [], []⟩
def textP (t : Bs) : List Pc := if t = [] then [] else [⟨3, [], [], t⟩]
theorem start_is {nm r : Bs} {c : UInt8} {o : List Bs} {b : Bool} (hn : NmOk nm = true) (hc : xOf c = false) (ho : o.length < 16) (hb : 0 < o.length ∨ b = false) :
    nextR (SX (60 :: (nm ++ c :: r)) o b) = (attrsR ((c :: r).length + 1) [] (c :: r)).map fun a => (startP nm a.1.1, ⟨a.2, o ++ [nm], true, a.1.2⟩) := by
  have hnm := nameR_ok (r := r) hn hc
  cases nm with
  | nil => cases hn
  | cons a t =>
    have hn' := hn
    simp only [NmOk, Bool.and_eq_true, decide_eq_true_eq] at hn'
    obtain ⟨-, h62, h47, h33, h63⟩ := first_not_lay a hn'.1.1
    show nextR (SX (60 :: a :: (t ++ c :: r)) o b) = _
    rw [next_start h33 h63 h47]
    unfold startR
    show Except.bind (nameR (a :: t ++ c :: r)) _ = _
    rw [hnm]
    have hm : ∀ (A B C : Except Int (Pc × XS)), (if o.length < 16 then if 0 < o.length ∨ b = false then A else B else C) = A := fun A B C => by rw [if_pos ho, if_pos hb]
    exact hm _ _ _
/-- <nm> -/
theorem open_ {nm r : Bs} {o : List Bs} {b : Bool} (hn : NmOk nm = true) (ho : o.length < 16) (hb : 0 < o.length ∨ b = false) : Tells (SX (60 :: (nm ++ 62 :: r)) o b) [startP nm []] (SX r (o ++ [nm]) true) := by
  refine Tells.one ?_ (by intro h; cases h)
  rw [start_is hn (by decide) ho hb, attrs_end]
  rfl
/-- <nm a="v"> -/
theorem open1 {nm at_ v r : Bs} {q : UInt8} {o : List Bs} {b : Bool} (hn : NmOk nm = true) (ha : NmOk at_ = true) (hq : q = 39 ∨ q = 34) (ho : o.length < 16) (hb : 0 < o.length ∨ b = false) (hv : v.all xMay = true) :
    Tells (SX (60 :: (nm ++ 32 :: (at_ ++ 61 :: q :: (escX v ++ q :: 62 :: r)))) o b) [startP nm [(at_, v)]] (SX r (o ++ [nm]) true) := by
  refine Tells.one ?_ (by intro h; cases h)
  rw [start_is hn (by decide) ho hb, attrs_one ha hq (by simp) (by simp), if_pos hv]
  rw [show (32 :: (at_ ++ 61 :: q :: (escX v ++ q :: 62 :: r))).length = (at_ ++ 61 :: q :: (escX v ++ q :: 62 :: r)).length + 1 from rfl, attrs_end]
  rfl
theorem open1_bad {nm at_ v r : Bs} {q : UInt8} {o : List Bs} {b : Bool} (hn : NmOk nm = true) (ha : NmOk at_ = true) (hq : q = 39 ∨ q = 34) (ho : o.length < 16) (hb : 0 < o.length ∨ b = false) (hv : v.all xMay = false) :
    allS (SX (60 :: (nm ++ 32 :: (at_ ++ 61 :: q :: (escX v ++ q :: r)))) o b) = ([], 103) := by
  refine allS_err ?_
  rw [start_is hn (by decide) ho hb, attrs_one ha hq (by simp) (by simp), if_neg (by rw [hv]; decide)]
  rfl
/-- <nm a="v"/> -/
theorem empty1 {nm at_ v r : Bs} {q : UInt8} {o : List Bs} {b : Bool} (hn : NmOk nm = true) (ha : NmOk at_ = true) (hq : q = 39 ∨ q = 34) (ho : o.length < 16) (hb : 0 < o.length ∨ b = false) (hv : v.all xMay = true) :
    Tells (SX (60 :: (nm ++ 32 :: (at_ ++ 61 :: q :: (escX v ++ q :: 47 :: 62 :: r)))) o b) [startP nm [(at_, v)], endP_ nm] (SX r o true) := by
  have h1 : Tells (SX (60 :: (nm ++ 32 :: (at_ ++ 61 :: q :: (escX v ++ q :: 47 :: 62 :: r)))) o b) [startP nm [(at_, v)]] ⟨r, o ++ [nm], true, true⟩ := by
    refine Tells.one ?_ (by intro h; cases h)
    rw [start_is hn (by decide) ho hb, attrs_one ha hq (by simp) (by simp), if_pos hv]
    rw [show (32 :: (at_ ++ 61 :: q :: (escX v ++ q :: 47 :: 62 :: r))).length = (at_ ++ 61 :: q :: (escX v ++ q :: 47 :: 62 :: r)).length + 1 from rfl, attrs_slash]
    rfl
  refine h1.trans (Tells.one ?_ (by intro h; cases h))
  rw [nextR_short rfl]
  simp [leaveR, endP_, SX]
/-- <nm/> -/
theorem empty0 {nm r : Bs} {o : List Bs} {b : Bool} (hn : NmOk nm = true) (ho : o.length < 16) (hb : 0 < o.length ∨ b = false) : Tells (SX (60 :: (nm ++ 47 :: 62 :: r)) o b) [startP nm [], endP_ nm] (SX r o true) := by
  have h1 : Tells (SX (60 :: (nm ++ 47 :: 62 :: r)) o b) [startP nm []] ⟨r, o ++ [nm], true, true⟩ := by
    refine Tells.one ?_ (by intro h; cases h)
    rw [start_is hn (by decide) ho hb, attrs_slash]
    rfl
  refine h1.trans (Tells.one ?_ (by intro h; cases h))
  rw [nextR_short rfl]
  simp [leaveR, endP_, SX]
/-- </nm> -/
theorem close_ {nm r : Bs} {o : List Bs} (hn : NmOk nm = true) : Tells (SX (60 :: 47 :: (nm ++ 62 :: r)) (o ++ [nm]) true) [endP_ nm] (SX r o true) := by
  refine Tells.one ?_ (by intro h; cases h)
  rw [next_endX, endR_eq]
  show Except.bind (nameR (nm ++ 62 :: r)) _ = _
  rw [nameR_ok hn (by decide), bindOk]
  dsimp only
  rw [lay_none (by decide), bindOk]
  dsimp only
  rw [want_one, bindOk]
  show endRest _ nm = _
  unfold endRest
  rw [if_pos (by show (o ++ [nm]).getLast? = _; simp)]
  simp [leaveR, endP_, SX]
theorem allS_same {s s' : XS} (h : XOk s) (h' : XOk s') (hn : nextR s = nextR s') : allS s = allS s' := by
  cases hx : nextR s' with
  | error e => rw [allS_err (hn.trans hx), allS_err hx]
  | ok x =>
    by_cases h4 : x.1.kind = 4
    · rw [allS_done (p := x.1) (s' := x.2) (hn.trans hx) h4, allS_done (p := x.1) (s' := x.2) hx h4]
    · have a := (Tells.one (p := x.1) (s' := x.2) (hn.trans hx) h4 h).2
      have b := (Tells.one (p := x.1) (s' := x.2) hx h4 h').2
      rw [a, b]
/-- A text, up to where its run ends. -/
theorem text_ {T t l : Bs} {c : UInt8} {o : List Bs} (ho : 0 < o.length) (h : runR (T.length + 1) [] T = .ok (t, 60 :: c :: l)) (h1 : c ≠ 33) (h2 : c ≠ 63) : Tells (SX T o true) (textP t) (SX (60 :: c :: l) o true) := by
  have hlen := runR_len _ h
  by_cases ht : t = []
  · subst ht
    intro hk
    have hk' : XOk (SX (60 :: c :: l) o true) := ⟨Nat.le_trans hlen hk.rest, hk.opn, fun h => by cases h⟩
    refine ⟨hk', ?_⟩
    show _ = (_, _)
    refine allS_same hk hk' ?_
    rw [next_lt (s := SX (60 :: c :: l) o true) rfl rfl h1 h2, nextR_F rfl]
    show Except.bind (runR (T.length + 1) [] T) _ = _
    rw [h]
    show nextF _ ([], 60 :: c :: l) = _
    rw [nextF_T]
    rfl
  · unfold textP
    rw [if_neg ht]
    refine Tells.one ?_ (by intro h; cases h)
    rw [nextR_F rfl]
    show Except.bind (runR (T.length + 1) [] T) _ = _
    rw [h]
    show nextF (SX T o true) (t, 60 :: c :: l) = _
    unfold nextF
    dsimp only
    rw [if_pos (by exact ho), if_pos ht]
    rfl
theorem text_err {T : Bs} {o : List Bs} {e : Int} (h : runR (T.length + 1) [] T = .error e) : allS (SX T o true) = ([], e) := by
  refine allS_err ?_
  rw [nextR_eq rfl]
  show Except.bind (runR (T.length + 1) [] T) _ = _
  rw [h]
  rfl
theorem len_fuel (t r : Bs) : t.length ≤ (escX t ++ r).length := by have := (escX_len t).1; simp; omega
theorem text_close {nm t r : Bs} {o : List Bs} (hn : NmOk nm = true) (ht : t.all xMay = true) : Tells (SX (escX t ++ 60 :: 47 :: (nm ++ 62 :: r)) (o ++ [nm]) true) (textP t ++ [endP_ nm]) (SX r o true) := by
  obtain ⟨j, -, -, hj⟩ := run_esc t (k := (escX t ++ 60 :: 47 :: (nm ++ 62 :: r)).length) (out := []) (r := 60 :: 47 :: (nm ++ 62 :: r)) ht (len_fuel _ _)
  rw [run_lt (by decide) (by decide)] at hj
  rw [List.nil_append] at hj
  exact (text_ (o := o ++ [nm]) (by simp) hj (by decide) (by decide)).trans (close_ hn)
theorem text_bad {t r : Bs} {o : List Bs} (ht : t.all xMay = false) : allS (SX (escX t ++ r) o true) = ([], 103) :=
  text_err (run_bad t ht (len_fuel _ _))
theorem done_ : allS (SX [] [] true) = ([], 0) := by
  refine allS_done (p := ⟨4, [], [], []⟩) (s' := SX [] [] true) ?_ rfl
  first | rfl | kernel_rfl
end Go.Proofs.YtoifibnmincodaaGreatDoor
