/- The package that a stanza tells: pack. -/
import Derived.Test.YtdhgiammfpjniaaGreatDoorZaaw
import Derived.Test.YtdhgiammfpjniaaGreatDoorZaaz
import Derived.Deep.LoopGhost
/- The package that a stanza tells: pack. -/
namespace Go.Proofs.YtdhgiammfpjniaaGreatDoor
set_option linter.unusedSimpArgs false
set_option linter.unusedVariables false
open Go.RowKit

def txF (s : Stz) (k : Nat) : Bs := joinX (getS s (fldL.getD k []))
def relI (k : Nat) : Nat := if k ≤ 7 then k - 4 else k - 5
structure Fs where
  T : Nat → Bs
  D : Nat → List Ev.Dep
def stepF (s : Stz) (k : Nat) (S : Fs) : Option Fs := if k < 4 then some ⟨updF S.T k (txF s k), S.D⟩ else match depsX (txF s k) with
  | none => none
  | some ds => some ⟨S.T, updF S.D (relI k) (S.D (relI k) ++ ds)⟩
def foldF (s : Stz) : Nat → Option Fs
  | 0 => some ⟨fun _ => [], fun _ => []⟩
  | k + 1 => (foldF s k).bind (stepF s k)
theorem foldF_none {s : Stz} {k : Nat} (h : foldF s k = none) : ∀ j, foldF s (k + j) = none
  | 0 => h
  | j + 1 => by
    show (foldF s (k + j)).bind _ = none
    rw [foldF_none h j]
    rfl
def allN : Bs := [97, 108, 108]
def noarN : Bs := [110, 111, 97, 114, 99, 104]
def finS (S : Fs) : Fs := if S.T 2 = allN then ⟨updF S.T 2 noarN, S.D⟩ else S
def pkgT (S : Fs) : Ev.Pkg := ⟨mkS (S.T 0), mkS (S.T 1), mkS (S.T 2), mkS (S.T 3), fun i => if i < 7 then S.D i else [], []⟩
def okD (p : Ev.Pkg) : Bool := (List.range 7).all fun i => decide ((p.ls i).length ≤ 16) && (p.ls i).all fun d => decide (Ev.checkN d = 0)
def chkD (p : Ev.Pkg) : Int := Ev.chkN p (okD p && Ev.offersOk p)
def packX (s : Stz) : Except Int Fs := match foldF s 12 with
  | none => .error 120
  | some S => if chkD (pkgT (finS S)) = 0 then .ok (finS S) else .error (chkD (pkgT (finS S)))
def QD (d : Ev.Dep) (n : Int) : Prop := n = Ev.checkN d
theorem okD_iff (p : Ev.Pkg) : okD p = true ↔ ∀ i, i < 7 → (p.ls i).length ≤ 16 ∧ ∀ d ∈ p.ls i, Ev.checkN d = 0 := by
  unfold okD
  rw [List.all_eq_true]
  constructor
  · intro h i hi
    have := h i (List.mem_range.2 hi)
    rw [Bool.and_eq_true, List.all_eq_true] at this
    exact ⟨of_decide_eq_true this.1, fun d hd => of_decide_eq_true (this.2 d hd)⟩
  · intro h i hi
    obtain ⟨h1, h2⟩ := h i (List.mem_range.1 hi)
    rw [Bool.and_eq_true, List.all_eq_true]
    exact ⟨decide_eq_true h1, fun d hd => decide_eq_true (h2 d hd)⟩
theorem chkD_det {p : Ev.Pkg} {n : Int} (h : Ev.ChkR QD p n) : n = chkD p := by
  obtain ⟨b, hb, rfl⟩ := h
  unfold chkD
  by_cases hh : Ev.headN p = 0
  · rcases hb hh with ⟨rfl, i, hi, hbad⟩ | ⟨hok, rfl⟩
    · have hf : okD p = false := by
        cases ho : okD p with
        | false => rfl
        | true =>
          obtain ⟨h1, h2⟩ := (okD_iff p).1 ho i hi
          rcases hbad with h3 | ⟨d, hd, n, hn, hb⟩
          · omega
          · rw [show n = 0 from hn.trans (h2 d hd)] at hb
            simp at hb
      rw [hf]
      rfl
    · have ht : okD p = true := (okD_iff p).2 fun i hi => by
        obtain ⟨h1, h2⟩ := hok i hi
        refine ⟨h1, fun d hd => ?_⟩
        obtain ⟨n, hn, hb⟩ := h2 d hd
        rw [← hn]
        simpa using hb
      rw [ht, Bool.true_and]
  · unfold Ev.chkN
    rw [if_pos hh, if_pos hh]
/-! Their size. -/
theorem nodes_leaf (q : Rl) : Ev.nodes (depR q) = 1 := by
  show Ev.nodes (.mk 1 (mkS q.nm) q.op (mkS q.ev) []) = 1
  unfold Ev.nodes
  unfold Ev.nodesA
  rfl
theorem some_nodes : ∀ (ps : List Bs) (ds : List Ev.Dep), someX ps = some ds → Ev.nodesA ds ≤ ps.length ∧ ∀ d ∈ ds, Ev.nodes d = 1
  | [], ds, h => by
    injection h with h
    subst h
    exact ⟨by unfold Ev.nodesA; exact Nat.le_refl _, fun d hd => by cases hd⟩
  | p :: r, ds, h => by
    have h : (if (relX (dTrim p)).ok = true then (someX r).map fun ds => depR (relX (dTrim p)) :: ds else none) = some ds := h
    split at h
    · obtain ⟨d2, h2, rfl⟩ := Option.map_eq_some_iff.1 h
      obtain ⟨h3, h4⟩ := some_nodes r d2 h2
      refine ⟨?_, fun d hd => ?_⟩
      · show Ev.nodesA (depR (relX (dTrim p)) :: d2) ≤ r.length + 1
        unfold Ev.nodesA
        rw [nodes_leaf]
        omega
      · rcases List.mem_cons.1 hd with rfl | hd
        · exact nodes_leaf _
        · exact h4 d hd
    · cases h
theorem one_nodes {ds : List Ev.Dep} {n : Nat} (h : Ev.nodesA ds ≤ n) (h1 : ∀ d ∈ ds, Ev.nodes d = 1) : Ev.nodes (oneX ds) ≤ n + 1 := by
  match ds, h, h1 with
  | [], h, h1 => show Ev.nodes (.mk 3 ⟨#[]⟩ 0 ⟨#[]⟩ []) ≤ _; unfold Ev.nodes; unfold Ev.nodesA; omega
  | [d], h, h1 => show Ev.nodes d ≤ _; rw [h1 d (by simp)]; omega
  | a :: b :: r, h, h1 =>
    show Ev.nodes (.mk 3 ⟨#[]⟩ 0 ⟨#[]⟩ (a :: b :: r)) ≤ _
    unfold Ev.nodes
    omega
theorem list_nodes {L : Nat} : ∀ (ps : List Bs) (ds : List Ev.Dep), (∀ p ∈ ps, p.length ≤ L) → listX ps = some ds → ∀ d ∈ ds, Ev.nodes d ≤ L + 2
  | [], ds, _, h => by
    injection h with h
    subst h
    intro d hd
    cases hd
  | p :: r, ds, hp, h => by
    have h : (match someX (partsX 124 p) with
      | none => none
      | some ds => (listX r).map fun l => oneX ds :: l) = some ds := h
    cases hs : someX (partsX 124 p) with
    | none => rw [hs] at h; cases h
    | some d0 =>
      rw [hs] at h
      obtain ⟨d2, h2, rfl⟩ := Option.map_eq_some_iff.1 h
      obtain ⟨h3, h4⟩ := some_nodes _ _ hs
      intro d hd
      rcases List.mem_cons.1 hd with rfl | hd
      · have := parts_many 124 p
        have h5 := hp p (by simp)
        exact one_nodes (n := L + 1) (by omega) h4
      · exact list_nodes r d2 (fun q hq => hp q (by simp [hq])) h2 d hd
theorem deps_nodes {l : Bs} {ds : List Ev.Dep} (hl : l.length ≤ 100000) (h : depsX l = some ds) : ∀ d ∈ ds, Ev.nodes d ≤ 100002 := by
  unfold depsX at h
  split at h
  · injection h with h
    subst h
    intro d hd
    cases hd
  · exact list_nodes _ _ (fun p hp => Nat.le_trans (parts_short hp) hl) h
theorem fold_nodes {s : Stz} (hz : ∀ n, (joinX (getS s n)).length ≤ 100000) : ∀ (k : Nat) (S : Fs), foldF s k = some S → ∀ i, ∀ d ∈ S.D i, Ev.nodes d ≤ 100002
  | 0, S, h => by
    injection h with h
    subst h
    intro i d hd
    cases hd
  | k + 1, S, h => by
    obtain ⟨S0, h0, h1⟩ := Option.bind_eq_some_iff.1 h
    have ih := fold_nodes hz k S0 h0
    unfold stepF at h1
    split at h1
    · injection h1 with h1
      subst h1
      exact ih
    · cases hd0 : depsX (txF s k) with
      | none => rw [hd0] at h1; cases h1
      | some ds =>
        rw [hd0] at h1
        injection h1 with h1
        subst h1
        intro i d hd
        have hd : d ∈ updF S0.D (relI k) (S0.D (relI k) ++ ds) i := hd
        by_cases e : i = relI k
        · subst e
          rw [updF_same] at hd
          rcases List.mem_append.1 hd with hd | hd
          · exact ih _ d hd
          · exact deps_nodes (hz _) hd0 d hd
        · rw [updF_other _ _ e] at hd
          exact ih i d hd
theorem fin_nodes {S : Fs} (h : ∀ i, ∀ d ∈ S.D i, Ev.nodes d ≤ 100002) : ∀ i, ∀ d ∈ (finS S).D i, Ev.nodes d ≤ 100002 := by
  unfold finS
  split
  · exact h
  · exact h
/-! The check, in memory. -/
def DbB (w : World) (b : Nat) : Prop := ∃ cs, Blk w b 39 cs
section
variable {w0 w : World} {pb : Nat} {T : Nat → Bs} {D : Nat → List Ev.Dep} {ss : Nat → Value} {rs : Nat → Ev.Rows5} {F : List Nat}
theorem PkM.list (h : PkM w0 w pb T D ss rs F) {i : Nat} (hi : i < 7) : Ev.ListAt w (DbB w) (D i) (ss i) := by
  have hD := h.is i hi
  have hlen : (D i).length = (rs i).length := by rw [← hD, List.length_map]
  rcases (h.own i hi).2 with ⟨hv, h0⟩ | ⟨g, cap, cur, hv, hb, hg, h1, h2, h3, ht⟩
  · have hr : rs i = [] := List.length_eq_zero_iff.1 h0
    rw [hr] at hD
    rw [← hD]
    exact ⟨none, 0, hv, Nat.le_refl _, by unfold maxLen; omega, fun _ => rfl, fun j a ha => by simp at ha⟩
  · refine ⟨some ⟨g, 0, none⟩, cap, by rw [hlen]; exact hv, by omega, h2, fun e => (by cases e), fun j a ha => ?_⟩
    rw [← hD, List.getElem?_map] at ha
    obtain ⟨x, hx, rfl⟩ := Option.map_eq_some_iff.1 ha
    obtain ⟨c0, c1, c2, c3, c4⟩ := Ev.cells5_at hx
    have hown := h.own i hi
    rw [hv] at hown
    have hat : ∀ {k : Nat} {u : Value}, (Ev.cells5 (rs i))[k]? = some u → w.cell? ⟨g, k, none⟩ = some u := fun {k u} hk => by
      obtain ⟨b, e, hc⟩ := own_ats hown hk
      injection e with e
      injection e with e
      subst e
      exact hc
    have hB : ∀ b, b ∈ F → DbB w b := fun b hb => (h.dep b hb).2
    exact ⟨g, 0, x.2, rfl, ⟨cur, hg⟩, ⟨by rw [Nat.zero_add]; exact hat c0, by rw [Nat.zero_add]; exact hat c1, by rw [Nat.zero_add]; exact hat c2, by rw [Nat.zero_add]; exact hat c3, by rw [Nat.zero_add]; exact hat c4⟩, Ev.Lay.stay hB (Ev.StayS.refl _ _) x.1 x.2 (h.lay i hi x (List.mem_of_getElem? hx))⟩
theorem PkM.pkg (h : PkM w0 w pb T D ss rs F) : Ev.PkgAt w (DbB w) (fun _ => False) (pkgT ⟨T, D⟩) ss (.slice none 0 0) :=
  ⟨fun i hi => by
    have e : (pkgT ⟨T, D⟩).ls i = D i := if_pos hi
    rw [e]
    exact h.list hi, ⟨none, 0, rfl, Nat.le_refl _, by unfold maxLen; omega, fun _ => rfl, fun k s hk => by simp [pkgT] at hk⟩⟩
theorem PkM.check (h : PkM w0 w pb T D ss rs F) (hT : Ev.Tabs w) (hn : ∀ i, ∀ d ∈ D i, Ev.nodes d ≤ 100002) :
    Calls Tryz.prog 29 #[.agg (rowT T ss)] w fun e w' => e = .returned (.int .i64 (chkD (pkgT ⟨T, D⟩))) ∧ Below w.heap.size w w' := by
  have hC : Ev.ChecksAt QD (DbB w) (pkgT ⟨T, D⟩) w := by
    intro i hi d hdm t w2 hb2 hL
    have e : (pkgT ⟨T, D⟩).ls i = D i := if_pos hi
    rw [e] at hdm
    refine (Ev.depCheck_any d t (DbB w) w2 hL (fun b hb => ?_) (hT.turned (Turned.of_below hb2 []) (fun x hx => by cases hx)) (by have := hn i d hdm; omega)).mono ?_
    · obtain ⟨cs, h⟩ := hb
      exact ⟨cs, Blk.mono h hb2⟩
    · rintro e w3 ⟨rfl, hb3⟩
      exact ⟨⟨_, rfl, rfl⟩, hb3⟩
  refine (Ev.poolCheck_any QD (pkgT ⟨T, D⟩) ss (.slice none 0 0) (DbB w) (fun _ => False) w h.pkg hC hT).mono ?_
  rintro e w2 ⟨⟨n, hn, rfl⟩, hb2⟩
  exact ⟨by rw [chkD_det hn], hb2⟩
end
def zero12 : Array Value := #[.string ⟨#[]⟩, .string ⟨#[]⟩, .string ⟨#[]⟩, .string ⟨#[]⟩, .slice none 0 0, .slice none 0 0, .slice none 0 0, .slice none 0 0, .slice none 0 0, .slice none 0 0, .slice none 0 0, .slice none 0 0]
theorem pkg_get {w : World} {g : Nat} {a0 a1 a2 a3 a4 a5 a6 a7 a8 a9 a10 a11 : Value} (h : Blk w g 37 #[a0, a1, a2, a3, a4, a5, a6, a7, a8, a9, a10, a11]) : (loadVar 37 ⟨g, 0, none⟩).run Tryz.prog w = .ok (.agg #[a0, a1, a2, a3, a4, a5, a6, a7, a8, a9, a10, a11]) w := by
  have b0 := h.cell 0
  have b1 := h.cell 1
  have b2 := h.cell 2
  have b3 := h.cell 3
  have b4 := h.cell 4
  have b5 := h.cell 5
  have b6 := h.cell 6
  have b7 := h.cell 7
  have b8 := h.cell 8
  have b9 := h.cell 9
  have b10 := h.cell 10
  have b11 := h.cell 11
  simp at b0 b1 b2 b3 b4 b5 b6 b7 b8 b9 b10 b11
  clear h
  go_simp
def PackPost (w0 : World) (X : Except Int Fs) (e : Ending) (w' : World) : Prop := match X with
  | .error n => e = .returned (.tuple #[.agg zero12, .int .i64 n]) ∧ n ≠ 0 ∧ Below w0.heap.size w0 w'
  | .ok S => ∃ ss rs F pb, e = .returned (.tuple #[.agg (rowT S.T ss), .int .i64 0]) ∧ PkM w0 w' pb S.T S.D ss rs F
end Go.Proofs.YtdhgiammfpjniaaGreatDoor
