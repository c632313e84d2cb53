/- What Parse answers of documents of a package. What all laws of rpmmd begin with: awake. RpmmdNames: the law at the world that came in. -/
import Derived.Test.YtljldbdjkjllhaaGreatDoorZde
import Derived.Test.YtljldbdjkjllhaaGreatDoorZbd
import Derived.Test.YtljldbdjkjllhaaGreatDoorZbe
/- What Parse answers of documents of a package. -/
namespace Go.Proofs.YtljldbdjkjllhaaGreatDoor
set_option linter.unusedSimpArgs false
set_option linter.unusedVariables false
open Go.RowKit

theorem pks_nil {w : World} {A : Option Addr} : Ev.PksAt w [] A := fun k p hk => by cases hk
theorem pks_one {w : World} {B n c : Nat} {A : Option Addr} {p : Px} {v : Value} (h : w.ownsRow B 42 12 (.slice A n c) n (rowX p v).toList) (hr : RqAt w p.rq v) : Ev.PksAt w [pkgOf p] A := fun k q hk => by
  match k, hk with
  | 0, hk =>
    injection hk with hk
    subst hk
    obtain ⟨b, rfl, _⟩ := own_ats h (k := 0) (u := .string (mkS p.nm)) rfl
    refine ⟨b, 0, ssX v, .slice none 0 0, DepB w, fun _ => False, rfl, ⟨fun i hi => ?_, ⟨none, 0, rfl, Nat.le_refl _, by unfold maxLen; omega, fun _ => rfl, fun k s hk => by simp [pkgOf] at hk⟩⟩, by simp [pkgOf], fun j hj => ?_⟩
    · by_cases h1 : i = 1
      · subst h1
        exact list_of hr
      · have e1 : (pkgOf p).ls i = [] := if_neg h1
        have e2 : ssX v i = .slice none 0 0 := if_neg h1
        rw [e1, e2]
        exact ⟨none, 0, rfl, Nat.le_refl _, by unfold maxLen; omega, fun _ => rfl, fun j a ha => by cases ha⟩
    · have hrow : Ev.rowP (pkgOf p) (ssX v) (.slice none 0 0) = rowX p v := rfl
      rw [hrow]
      obtain ⟨u, hu⟩ : ∃ u, (rowX p v)[j]? = some u := ⟨_, Array.getElem?_eq_getElem (by show j < 12; exact hj)⟩
      obtain ⟨b', e, hc⟩ := own_ats h (k := j) (u := u) (by rw [Array.getElem?_toList]; exact hu)
      injection e with e
      injection e with e
      subst e
      rw [hu, ← hc]
      congr 2
      omega
  | k + 1, hk => simp at hk
/-- The packages, and the error, of a document of one package. -/
def outL (g : Bool) (c : Px) : List Ev.Pkg := if g = true then (if chkX c = 0 then [pkgOf c] else []) else []
def outN (g : Bool) (c : Px) : Int := if g = true then chkX c else 103
def OnePost (W : World) (g : Bool) (c : Px) (e : Ending) (w' : World) : Prop := ∃ A m, e = .returned (.tuple #[.slice A (outL g c).length m, .int .i64 (outN g c)]) ∧ Ev.PksAt w' (outL g c) A ∧ Below W.heap.size W w'
theorem outL_le (g : Bool) (c : Px) : (outL g c).length ≤ 1 := by
  unfold outL
  split
  · split <;> simp
  · simp
theorem post_out {W : World} {er : Int} {X : Rx} {g : Bool} {c : Px} {e : Ending} {w' : World} (h : PPost W er X e w') (h0 : g = true → er = 0 ∧ X = outX c) (h1 : g = false → er = 103 ∧ ∃ s, X = .go s) : OnePost W g c e w' := by
  obtain ⟨hb, h⟩ := h
  cases g with
  | false =>
    obtain ⟨rfl, s, rfl⟩ := h1 rfl
    have h : (if (103 : Int) = 0 then _ else e = .returned (.tuple #[.slice none 0 0, .int .i64 103])) := h
    rw [if_neg (by decide)] at h
    exact ⟨none, 0, h, pks_nil, hb⟩
  | true =>
    obtain ⟨rfl, rfl⟩ := h0 rfl
    unfold outX at h
    have e1 : outN true c = chkX c := rfl
    have e2 : outL true c = if chkX c = 0 then [pkgOf c] else [] := rfl
    by_cases hz : chkX c = 0
    · rw [if_pos hz] at h e2
      have h : (if (0 : Int) = 0 then ∃ B vp ov, e = .returned (.tuple #[vp, .int .i64 0]) ∧ W.heap.size ≤ B ∧ w'.ownsRow B 42 12 vp [c].length (gotC [c] ov) ∧ GotAt w' [c] ov else _) := h
      rw [if_pos rfl] at h
      obtain ⟨B, vp, ov, rfl, _, hrow, hgot⟩ := h
      obtain ⟨A, m, rfl, _, _⟩ := own_form' hrow
      cases ov with
      | nil => exact hgot.elim
      | cons v t =>
        obtain ⟨hv, ht⟩ := hgot
        cases t with
        | cons _ _ => exact ht.elim
        | nil =>
          refine ⟨A, m, by rw [e1, e2, hz]; rfl, ?_, hb⟩
          rw [e2]
          have : gotC [c] [v] = (rowX c v).toList := by show (rowX c v).toList ++ [] = _; rw [List.append_nil]
          rw [this] at hrow
          exact pks_one hrow hv
    · rw [if_neg hz] at h e2
      have h : e = .returned (.tuple #[.slice none 0 0, .int .i64 (chkX c)]) ∧ chkX c ≠ 0 := h
      refine ⟨none, 0, by rw [e1, e2]; exact h.1, ?_, hb⟩
      rw [e2]
      exact pks_nil
/-- The pieces of a part are small. -/
def SmallG (g : Sg) : Prop := (∀ p ∈ g.ps, SmallP p) ∧ ∀ p ∈ g.pre, SmallP p
theorem small_0 (nm : Bs) : SmallP (startP nm []) := ⟨fun a ha => (by cases ha), by simp [startP]⟩
theorem small_e (nm : Bs) : SmallP (endP_ nm) := ⟨fun a ha => (by cases ha), by simp [endP_]⟩
theorem small_1 (nm at_ v : Bs) (hv : v.length ≤ 100000) : SmallP (startP nm [(at_, v)]) := ⟨fun a ha => by
  have ha : a ∈ [(at_, v)] := ha
  rw [List.mem_singleton] at ha
  subst ha
  exact hv, by simp [startP]⟩
theorem small_t (t : Bs) (ht : t.length ≤ 100000) : ∀ p ∈ textP t, SmallP p := fun p hp => by
  unfold textP at hp
  split at hp
  · cases hp
  · rw [List.mem_singleton] at hp
    subst hp
    exact ⟨fun a ha => (by cases ha), ht⟩
theorem small_app {a b : List Pc} (ha : ∀ p ∈ a, SmallP p) (hb : ∀ p ∈ b, SmallP p) : ∀ p ∈ a ++ b, SmallP p := fun p hp => by
  rcases List.mem_append.1 hp with h | h
  · exact ha p h
  · exact hb p h
theorem small_cons {a : Pc} {b : List Pc} (ha : SmallP a) (hb : ∀ p ∈ b, SmallP p) : ∀ p ∈ a :: b, SmallP p := fun p hp => by
  rcases List.mem_cons.1 hp with rfl | h
  · exact ha
  · exact hb p h
theorem small_nil : ∀ p ∈ ([] : List Pc), SmallP p := fun p hp => by cases hp
theorem smallT (nm t : Bs) (ht : t.length ≤ 100000) : SmallG (segT nm t) := ⟨small_cons (small_0 nm) (small_app (small_t t ht) (small_cons (small_e nm) small_nil)), small_cons (small_0 nm) small_nil⟩
theorem smallA (nm at_ v : Bs) (hv : v.length ≤ 100000) : SmallG (segA nm at_ v) := ⟨small_cons (small_1 nm at_ v hv) (small_cons (small_e nm) small_nil), small_nil⟩
theorem smallE (nm : Bs) : SmallG (segE nm) := ⟨small_cons (small_0 nm) (small_cons (small_e nm) small_nil), small_nil⟩
theorem smallIn (nm : Bs) {g : Sg} (hg : SmallG g) : SmallG (segIn nm g) := ⟨small_cons (small_0 nm) (small_app hg.1 (small_cons (small_e nm) small_nil)), small_cons (small_0 nm) hg.2⟩
theorem smallAt (nm at_ v : Bs) (hv : v.length ≤ 100000) {g : Sg} (hg : SmallG g) : SmallG (segAt nm at_ v g) := by
  refine ⟨small_cons (small_1 nm at_ v hv) (small_app hg.1 (small_cons (small_e nm) small_nil)), ?_⟩
  show ∀ p ∈ (if v.all xMay = true then startP nm [(at_, v)] :: g.pre else []), SmallP p
  split
  · exact small_cons (small_1 nm at_ v hv) hg.2
  · exact small_nil
theorem small2 {a b : Sg} (ha : SmallG a) (hb : SmallG b) : SmallG (seg2 a b) := by
  refine ⟨small_app ha.1 hb.1, ?_⟩
  show ∀ p ∈ (if a.good = true then a.ps ++ b.pre else a.pre), SmallP p
  split
  · exact small_app ha.1 hb.2
  · exact ha.2
theorem one_any {g : Sg} {f : Px → Px} (hg : SgRun g f) (hq : (f px0).rq = none) (hk : SgOk [metaN] (pkX g)) (hs : SmallG (pkX g)) (hl : (docN metaN (pkX g)).length ≤ 40000) {W : World} {B0 : Nat} (hE : XEnv B0 W) (hT : Ev.Tabs W) (hF : FlagsAt W) :
    Calls Tryz.prog 13 #[.string (mkS (docN metaN (pkX g)))] W (OnePost W g.good (f px0)) := by
  have hgd : (pkX g).good = g.good := by show (rpmN.all xMay && g.good) = _; rw [show rpmN.all xMay = true from by decide, Bool.true_and]
  have hnm : NmOk metaN = true := by decide
  cases hgg : g.good with
  | true =>
    have ha := doc_good hnm hl hk (hgd.trans hgg)
    have hz : ∀ p ∈ (allX (docN metaN (pkX g))).1, SmallP p := by rw [ha]; exact small_cons (small_0 _) (small_app hs.1 (small_cons (small_e _) small_nil))
    have hx : runX (allX (docN metaN (pkX g))).1 s0S = some (outX (f px0)) := by rw [ha]; exact run_one hg hq
    refine (parse_any _ _ hE hT hF hz hx).mono ?_
    intro e w' h
    rw [ha] at h
    exact post_out h (fun _ => ⟨rfl, rfl⟩) (fun e => by cases e)
  | false =>
    have ha := doc_bad hnm hl hk (hgd.trans hgg)
    have hz : ∀ p ∈ (allX (docN metaN (pkX g))).1, SmallP p := by rw [ha]; exact small_cons (small_0 _) hs.2
    obtain ⟨s', hrun⟩ := run_pre_pk hg [] (by simp)
    have hx : runX (allX (docN metaN (pkX g))).1 s0S = some (.go s') := by rw [ha]; exact hrun
    refine (parse_any _ _ hE hT hF hz hx).mono ?_
    intro e w' h
    rw [ha] at h
    exact post_out h (fun e => by cases e) (fun _ => ⟨rfl, s', rfl⟩)
end Go.Proofs.YtljldbdjkjllhaaGreatDoor

/- What all laws of rpmmd begin with: awake. -/
namespace Go.Proofs.YtljldbdjkjllhaaGreatDoor
set_option linter.unusedSimpArgs false
set_option linter.unusedVariables false
open Go.RowKit

def pA : Px := ⟨[97], [49, 45, 50], noarchN, some ([98], [51])⟩
theorem awRun1 : runX awP1 s0S = some (.go ⟨[(.top, [])], none, [pA]⟩) := by kernel_rfl
theorem awRun2 : runX awP2 s0S = some (.bad 110) := by kernel_rfl
def smallB (p : Pc) : Bool := p.attrs.all (fun a => decide (a.2.length ≤ 100000)) && decide (p.text.length ≤ 100000)
theorem small_of {ps : List Pc} (h : ps.all smallB = true) : ∀ p ∈ ps, SmallP p := fun p hp => by
  have h1 := List.all_eq_true.1 h p hp
  unfold smallB at h1
  rw [Bool.and_eq_true, List.all_eq_true] at h1
  exact ⟨fun a ha => of_decide_eq_true (h1.1 a ha), of_decide_eq_true h1.2⟩
theorem awSm1 : ∀ p ∈ awP1, SmallP p := small_of (by kernel_rfl)
theorem awSm2 : ∀ p ∈ awP2, SmallP p := small_of (by kernel_rfl)
/-- The world's tables that the package reads. -/
structure MdEnv (B : Nat) (w : World) : Prop where
  xml : XEnv B w
  tabs : Ev.Tabs w
  flags : FlagsAt w
theorem MdEnv.below {B : Nat} {w w' : World} (h : MdEnv B w) (hb : Below w.heap.size w w') : MdEnv B w' :=
  ⟨h.xml.below (hb.mono (by have := h.xml.size; omega)), h.tabs.turned (Turned.of_below hb []) (fun x hx => by cases hx), h.flags.turned (Turned.of_below hb []) (by simp)⟩
theorem one_row {w : World} {B n c : Nat} {A : Option Addr} {p : Px} {v : Value} (h : w.ownsRow B 42 12 (.slice A n c) n (rowX p v).toList) : ∃ b, A = some ⟨b, 0, none⟩ ∧ ∀ j, j < 12 → w.cell? ⟨b, j, none⟩ = (rowX p v)[j]? := by
  obtain ⟨b, rfl, _⟩ := own_ats h (k := 0) (u := .string (mkS p.nm)) rfl
  refine ⟨b, rfl, fun j hj => ?_⟩
  obtain ⟨u, hu⟩ : ∃ u, (rowX p v)[j]? = some u := ⟨_, Array.getElem?_eq_getElem (by show j < 12; exact hj)⟩
  obtain ⟨b', e, hc⟩ := own_ats h (k := j) (u := u) (by rw [Array.getElem?_toList]; exact hu)
  injection e with e
  injection e with e
  subst e
  rw [hu, hc]
set_option maxHeartbeats 8000000 in
set_option maxRecDepth 1000000 in
theorem mdAwake_any (W : World) {B : Nat} (hE : MdEnv B W) : Calls Tryz.prog 11 #[] W fun e w' => e = .returned (.bool true) ∧ Below W.heap.size W w' := by
  have C1 := Lib.hid (parse_any awS1 (.go ⟨[(.top, [])], none, [pA]⟩) hE.xml hE.tabs hE.flags (by rw [awAll1]; exact awSm1) (by rw [awAll1]; exact awRun1))
  have C2 := Lib.hid (fun w' (hb : Below W.heap.size W w') => parse_any awS2 (.bad 110) (hE.below hb).xml (hE.below hb).tabs (hE.below hb).flags (by rw [awAll2]; exact awSm2) (by rw [awAll2]; exact awRun2))
  rw [awAll1] at C1
  rw [awAll2] at C2
  clear hE
  unfold PPost at C1 C2
  simp only at C1 C2
  have C1s := Lib.hid (fun (s : ByteArray) (h : s = mkS awS1) => h.symm ▸ C1.out)
  have C2s : Hid (∀ (s : ByteArray) (h : s = mkS awS2) w' (hb : Below W.heap.size W w'), Calls Tryz.prog 13 #[.string s] w' (fun e w'' => Below w'.heap.size w' w'' ∧ e = .returned (.tuple #[.slice none 0 0, .int .i64 110]) ∧ (110 : Int) ≠ 0)) := fun s h => h ▸ C2.out
  clear C1 C2
  go_enter Tryz.func11, Tryz.ntmps11
  go_wp2_with fail
  refine (C1s.out _ (by kernel_rfl)).mono ?_
  rintro e w1 ⟨hb1, h1⟩
  rw [if_pos trivial] at h1
  obtain ⟨B1, vp, ov, rfl, -, hrow, hgot⟩ := h1
  have HB1 := Lib.hid hb1
  have C2w := Lib.hid (fun s h => C2s.out s h w1 HB1.out)
  obtain ⟨A, m, rfl, hm1, hm2⟩ := own_form' hrow
  have HROW : Hid (∃ v, RqAt w1 (some ([98], [51])) v ∧ w1.ownsRow B1 42 12 (.slice A 1 m) 1 (rowX pA v).toList) := by
    cases ov with
    | nil => exact hgot.elim
    | cons v t =>
      obtain ⟨hv, ht⟩ := hgot
      cases t with
      | cons _ _ => exact ht.elim
      | nil => exact ⟨v, hv, by have : gotC [pA] [v] = (rowX pA v).toList := (by show (rowX pA v).toList ++ [] = _; rw [List.append_nil]); rw [← this]; exact hrow⟩
  have hlen : List.length [pA] = 1 := rfl
  rw [hlen] at hm1 ⊢
  clear hb1 hrow hgot C1s C2s hlen
  go_wp2_with fail
  refine (C2w.out _ (by kernel_rfl)).mono ?_
  rintro e w2 ⟨hb2, rfl, -⟩
  obtain ⟨v, hv, hrow⟩ := HROW.out
  obtain ⟨g, cc, cur, rfl, hc1, hc2, hd, hcur⟩ := hv
  obtain ⟨b, rfl, hcell⟩ := one_row hrow
  have HB2 := Lib.hid (HB1.out.trans (hb2.mono HB1.out.size))
  have p0 := cell_below hb2 (hcell 0 (by omega))
  have p1 := cell_below hb2 (hcell 1 (by omega))
  have p5 := cell_below hb2 (hcell 5 (by omega))
  have d2 := cell_below hb2 ((hd.cell 2).trans (hcur 2 (by omega)))
  have e1 : mkS pA.nm = ⟨#[97]⟩ := rfl
  have e2 : mkS pA.ev = ⟨#[49, 45, 50]⟩ := rfl
  unfold rowX at p0 p1 p5
  simp at p0 p1 p5 d2
  rw [e1] at p0
  rw [e2] at p1
  clear e1 e2
  have s1 : ((⟨#[97]⟩ : ByteArray).toList == ([97] : List UInt8)) = true := by decide +kernel
  have s2 : ((⟨#[49, 45, 50]⟩ : ByteArray).toList == ([49, 45, 50] : List UInt8)) = true := by decide +kernel
  clear hb2 hcell hd hcur hrow HROW C2w HB1
  unfold maxLen at hc2 hm2
  go_wp2_with fail
  go_ret
  exact ⟨rfl, HB2.out⟩
theorem mdEnv_of {W : World} {laid : List (String × DataW Unit)} (hL : laidMet Tryz.prog laid W) (hm : ("chandler/xmlpull.entities", (Rows.laid_chandler_xmlpull_entities : DataW Unit)) ∈ laid) (hm2 : ("strconv.ErrSyntax", (Rows.laid_strconv_ErrSyntax : DataW Unit)) ∈ laid)
    (hd1 : ("chandler/dep.signs", Rows.laid_chandler_dep_signs) ∈ laid) (hd2 : ("chandler/dep.words", Rows.laid_chandler_dep_words) ∈ laid) (hf : ("chandler/rpmmd.flags", Rows.laid_chandler_rpmmd_flags) ∈ laid) (hS : W.ShapedOpen Tryz.prog) : MdEnv W.heap.size W :=
  ⟨xenv_of hL hm hm2 hS, Ev.tabs_of hL hd1 hd2, Ev.tab_blk (l := [[], [76, 84], [69, 81], [76, 69], [71, 84], [], [71, 69], []]) hL hf (by kernel_rfl) (by kernel_rfl) Tryz.underlying161 Tryz.underlying9 (by kernel_rfl) (by kernel_rfl) (by decide)⟩
set_option maxHeartbeats 2000000 in
set_option maxRecDepth 100000 in
theorem mdNames_law (W : World) {B : Nat} (hE : MdEnv B W) : Calls Tryz.prog 3 #[] W fun e w' => e = .returned (.bool true) ∧ Below W.heap.size W w' := by
  have C := Lib.hid (mdAwake_any W hE)
  clear hE
  go_enter Tryz.func3, Tryz.ntmps3
  go_wp2_with fail
  refine C.out.mono ?_
  rintro e w1 ⟨rfl, hb1⟩
  have HB := Lib.hid hb1
  clear hb1 C
  go_wp2_with fail
  go_ret
  exact ⟨rfl, HB.out⟩
end Go.Proofs.YtljldbdjkjllhaaGreatDoor

/- RpmmdNames: the law at the world that came in. -/
namespace Go.Proofs.YtljldbdjkjllhaaGreatDoor
set_option linter.unusedSimpArgs false
set_option linter.unusedVariables false
open Go.RowKit

theorem rpmmdNames_walk (W : World) (hL : laidMetH Tryz.prog Rows.rpmmdNamesRow.laid W) (hSh : W.ShapedOpen Tryz.prog) : Calls Tryz.prog 3 #[] W (TrueBelow W) := by
  rw [MakeChecks.laidMetH_plain _ _ _ (by kernel_rfl)] at hL
  exact mdNames_law W (mdEnv_of hL (by simp [Rows.rpmmdNamesRow]) (by simp [Rows.rpmmdNamesRow]) (by simp [Rows.rpmmdNamesRow]) (by simp [Rows.rpmmdNamesRow]) (by simp [Rows.rpmmdNamesRow]) hSh)
end Go.Proofs.YtljldbdjkjllhaaGreatDoor
