/- A tag's values are put to the last package. The last package, and whether it is whole. Whether the last package is whole; a package begins. -/
import Derived.Test.YtdhgiammfpjniaaGreatDoorZaba
import Derived.Test.YtdhgiammfpjniaaGreatDoorZaar
import Derived.Test.YtdhgiammfpjniaaGreatDoorZaav
import Derived.Deep.RegionLaw
/- A tag's values are put to the last package. -/
namespace Go.Proofs.YtdhgiammfpjniaaGreatDoor
set_option linter.unusedSimpArgs false
set_option linter.unusedVariables false
open Go.RowKit Go.MapKept

/-- How many values a package has. -/
def wtK (S : Sk) : Nat := S.fl.length + ((S.D 0).length + ((S.D 1).length + ((S.D 2).length + ((S.D 3).length + ((S.D 4).length + ((S.D 5).length + (S.D 6).length))))))
theorem wt_dep (S : Sk) : ∀ i, i < 7 → (S.D i).length ≤ wtK S
  | 0, _ => by unfold wtK; omega
  | 1, _ => by unfold wtK; omega
  | 2, _ => by unfold wtK; omega
  | 3, _ => by unfold wtK; omega
  | 4, _ => by unfold wtK; omega
  | 5, _ => by unfold wtK; omega
  | 6, _ => by unfold wtK; omega
  | n + 7, h => by omega
theorem wt_updD (S : Sk) (d : Ev.Dep) : ∀ i, i < 7 → wtK ⟨S.T, updF S.D i (S.D i ++ [d]), S.fl⟩ = wtK S + 1
  | 0, _ => by simp [wtK, updF]; omega
  | 1, _ => by simp [wtK, updF]; omega
  | 2, _ => by simp [wtK, updF]; omega
  | 3, _ => by simp [wtK, updF]; omega
  | 4, _ => by simp [wtK, updF]; omega
  | 5, _ => by simp [wtK, updF]; omega
  | 6, _ => by simp [wtK, updF]; omega
  | n + 7, h => by omega
theorem wt_act {m : Mg} (hm : ∀ i, m = .dep i → i < 7) {S S' : Sk} {v : Bs} (h : actM m S v = some S') : wtK S' ≤ wtK S + 1 := by
  cases m with
  | none => injection h with h; rw [← h]; omega
  | vnd => injection h with h; rw [← h]; exact Nat.le_succ _
  | fls =>
    injection h with h
    rw [← h]
    unfold wtK
    simp
    omega
  | dep i =>
    have h : (match (Ev.parseD v).1 with | some d => some (⟨S.T, updF S.D i (S.D i ++ [d]), S.fl⟩ : Sk) | none => none) = some S' := h
    cases hp : (Ev.parseD v).1 with
    | none => rw [hp] at h; cases h
    | some d =>
      rw [hp] at h
      injection h with h
      rw [← h, wt_updD S d i (hm i rfl)]
      exact Nat.le_refl _
/-- The values in memory. -/
def VsAt (w : World) (A : Option Addr) (vs : List Bs) (fs : Value) : Prop := vs = [] ∨ ∃ hb, A = some ⟨hb, 0, none⟩ ∧ (∃ cs, Blk w hb 9 cs) ∧ (∀ (j : Nat) (p : Bs), vs[j]? = some p → w.cell? ⟨hb, j, none⟩ = some (.string (mkS p))) ∧ fs.ownBlock ≠ some hb
section
variable {w0 w w' : World} {B g b1 m Bm : Nat} {r : Bs} {pb cap : Nat} {ys : List Sk5} {x x' : Sk5} {A : Option Addr} {vs : List Bs}
theorem Moved.kinds (h : Moved w w' pb x x') (hS : SuM w0 w B g b1 r pb cap ys x) : ∃ R, Turned R w w' ∧ (∀ k ∈ R, ∃ t cs, Blk w k t cs ∧ (t = 37 ∨ t = 9 ∨ t = 39)) ∧ ∀ k ∈ R, ∀ cs, Blk w k 9 cs → x.fs.ownBlock = some k := by
  obtain ⟨⟨R, h1, h2⟩, _⟩ := h
  obtain ⟨_, cs, hpk⟩ := hS.pkB
  refine ⟨pb :: R, h1, fun k hk => ?_, fun k hk cs' hb => ?_⟩
  · rcases List.mem_cons.1 hk with rfl | hk
    · exact ⟨_, cs, hpk, .inl rfl⟩
    · rcases h2 k hk with h3 | ⟨i, hi, h3⟩
      · obtain ⟨cs', hb⟩ := own_blk hS.last.fil h3
        exact ⟨_, cs', hb, .inr (.inl rfl)⟩
      · obtain ⟨cs', hb⟩ := own_blk (hS.last.own i hi) h3
        exact ⟨_, cs', hb, .inr (.inr rfl)⟩
  · rcases List.mem_cons.1 hk with rfl | hk
    · exact absurd rfl (Blk.kind hb hpk (by decide))
    · rcases h2 k hk with h3 | ⟨i, hi, h3⟩
      · exact h3
      · obtain ⟨cs'', hd⟩ := own_blk (hS.last.own i hi) h3
        exact absurd rfl (Blk.kind hb hd (by decide))
theorem Moved.vals (h : Moved w w' pb x x') (hS : SuM w0 w B g b1 r pb cap ys x) (hv : VsAt w A vs x.fs) : VsAt w' A vs x'.fs := by
  rcases hv with hv | ⟨hb, h1, ⟨cs, h2⟩, h3, h4⟩
  · exact .inl hv
  · obtain ⟨R, ht, _, hk⟩ := h.kinds hS
    have hn : hb ∉ R := fun hm => h4 (hk hb hm cs h2)
    refine .inr ⟨hb, h1, ⟨cs, h2.turned ht hn⟩, fun j p hp => ?_, fun e => ?_⟩
    · rw [(h2.turned ht hn).cell, ← h2.cell]
      exact h3 j p hp
    · rcases h.2 hb e with h5 | h5
      · exact h4 h5
      · have := h2.lt; omega
theorem Moved.mean (h : Moved w w' pb x x') (hS : SuM w0 w B g b1 r pb cap ys x) (hm : MeanM w Bm m) : MeanM w' Bm m := by
  obtain ⟨R, ht, hk, _⟩ := h.kinds hS
  refine hm.turned ht (fun b cs hb hbR => ?_) (fun hmR => ?_)
  · obtain ⟨t, cs', hb', h3⟩ := hk b hbR
    refine Blk.kind hb hb' ?_ rfl
    rcases h3 with rfl | rfl | rfl <;> decide
  · obtain ⟨l, hl, _⟩ := hm
    obtain ⟨t, cs', hb', _⟩ := hk m hmR
    exact map_not_blk hl hb' rfl
theorem Moved.meaning {mg : Mg} {fv : Value} (h : Moved w w' pb x x') (hS : SuM w0 w B g b1 r pb cap ys x) (hm : MgV w Bm mg fv) : MgV w' Bm mg fv := by
  obtain ⟨R, ht, hk, _⟩ := h.kinds hS
  refine hm.turned ht (fun b cs hb hbR => ?_)
  obtain ⟨t, cs', hb', h3⟩ := hk b hbR
  refine Blk.kind hb hb' ?_ rfl
  rcases h3 with rfl | rfl | rfl <;> decide
end
/-- What doing it leaves. -/
def ActPost (w0 : World) (B g b1 : Nat) (r : Bs) (pb cap : Nat) (ys : List Sk5) (x : Sk5) (wx : World) (X : Option Sk) (e : Ending) (w' : World) : Prop := match X with
  | some S' => e = .returned (.bool true) ∧ ∃ x', x'.S = S' ∧ SuM w0 w' B g b1 r pb cap ys x' ∧ Moved wx w' pb x x'
  | none => e = .returned (.bool false) ∧ Below B w0 w'
/-- The last package's state, the maps, the values. -/
structure PutM (w0 w : World) (B g b1 : Nat) (r : Bs) (pb cap : Nat) (ys : List Sk5) (x : Sk5) (m Bm : Nat) (mg : Mg) (fv : Value) (A : Option Addr) (vs : List Bs) : Prop where
  su : SuM w0 w B g b1 r pb cap ys x
  mean : MeanM w Bm m
  mg : MgV w Bm mg fv
  vs : VsAt w A vs x.fs
theorem PutM.moved {w0 w w' : World} {B g b1 m Bm : Nat} {r : Bs} {pb cap : Nat} {ys : List Sk5} {x x' : Sk5} {A : Option Addr} {vs : List Bs} {mg : Mg} {fv : Value} (h : PutM w0 w B g b1 r pb cap ys x m Bm mg fv A vs) (hs : SuM w0 w' B g b1 r pb cap ys x') (hm : Moved w w' pb x x') : PutM w0 w' B g b1 r pb cap ys x' m Bm mg fv A vs :=
  ⟨hs, hm.mean h.su h.mean, hm.meaning h.su h.mg, hm.vals h.su h.vs⟩
/-- What putting leaves. -/
def PutPost (w0 : World) (B g b1 : Nat) (r : Bs) (pb cap : Nat) (ys : List Sk5) (m Bm : Nat) (X : Option Sk) (e : Ending) (w' : World) : Prop := match X with
  | some S' => e = .returned (.bool true) ∧ ∃ x', x'.S = S' ∧ SuM w0 w' B g b1 r pb cap ys x' ∧ MeanM w' Bm m
  | none => e = .returned (.bool false) ∧ Below B w0 w'
/-- What a meaning's function answers. -/
theorem act_any {w0 : World} {B g b1 m Bm : Nat} {r : Bs} {pb cap : Nat} {ys : List Sk5} (hD : ActDepOk) (hT : Ev.Tabs w0) (hB : B = w0.heap.size) {mg : Mg} {fv : Value} (hne : fv ≠ .nilFunc) {ww : World} (hmg : MgV ww Bm mg fv) :
    ∃ fc K, fv = .func (.func fc) #[] K ∧ Enters Tryz.prog fc ∧ (∀ i, mg = .dep i → i < 7) ∧ ∀ (w : World) (x : Sk5) (v : Bs), SuM w0 w B g b1 r pb cap ys x → MgV w Bm mg fv → v.length ≤ 40000 → wtK x.S ≤ 100000 → Calls Tryz.prog fc (#[.pointer (some ⟨pb, ys.length * 12, none⟩), .string (mkS v)] ++ K) w (ActPost w0 B g b1 r pb cap ys x w (actM mg x.S v)) := by
  cases mg with
  | none => exact absurd hmg hne
  | vnd => exact ⟨_, #[], hmg, enters_of Tryz.func134 (by kernel_rfl) rfl, (fun i h => by cases h), fun w x v hS _ hv _ => act_vnd hS v hv⟩
  | fls => exact ⟨_, #[], hmg, enters_of Tryz.func135 (by kernel_rfl) rfl, (fun i h => by cases h), fun w x v hS _ hv hw => act_fls hS v hv (by unfold wtK at hw; omega)⟩
  | dep i =>
    obtain ⟨hi, b, hb1, hfv, hb2⟩ := hmg
    refine ⟨_, _, hfv, enters_of Tryz.func136 (by kernel_rfl) rfl, (fun j h => by injection h with h; rw [← h]; exact hi), fun w x v hS hm hv hw => ?_⟩
    obtain ⟨_, b', hb1', hfv', hb2'⟩ := hm
    have : b' = b := by
      have e := hfv'.symm.trans hfv
      unfold cloV at e
      injection e with _ _ e
      simpa using e
    subst this
    have hTw : Ev.Tabs w := hT.below (by have := hS.bel; rw [hB] at this; exact this) hT.two
    have hlen : (x.rs i).length ≤ 100000 := by
      have h1 := congrArg List.length (hS.last.is i hi)
      rw [List.length_map] at h1
      have h2 := wt_dep x.S i hi
      omega
    refine (hD _ _ _ _ _ _ _ _ _ _ _ _ v hS hi hb2' hv hlen hTw).mono ?_
    intro e w' h
    unfold ActPost actM
    dsimp only
    revert h
    cases (Ev.parseD v).1 with
    | none => exact fun h => h
    | some d => exact fun h => h
theorem eqlMn (f : Fn) (C K : Array Value) (w : World) : (Go.binOp .eql 121 (.func f C K) .nilFunc).run Tryz.prog w = .ok (.bool false) w := by kernel_rfl
theorem eqlMn0 (w : World) : (Go.binOp .eql 121 .nilFunc .nilFunc).run Tryz.prog w = .ok (.bool true) w := by kernel_rfl
set_option maxHeartbeats 4000000 in
set_option maxRecDepth 100000 in
theorem put_any {w0 w : World} {B g b1 m Bm : Nat} {r : Bs} {pb cap : Nat} {ys : List Sk5} {x : Sk5} (hD : ActDepOk) (hT : Ev.Tabs w0) (hB : B = w0.heap.size) {mg : Mg} {fv : Value} {A : Option Addr} {c : Nat} {vs : List Bs} (h : PutM w0 w B g b1 r pb cap ys x m Bm mg fv A vs) (hlen : ∀ p ∈ vs, p.length ≤ 40000) (hw : wtK x.S + vs.length ≤ 100000) (hmgn : fv = .nilFunc → mg = .none) :
    Calls Tryz.prog 76 #[.pointer (some ⟨pb, ys.length * 12, none⟩), fv, .slice A vs.length c] w (PutPost w0 B g b1 r pb cap ys m Bm (putM mg vs x.S)) := by
  by_cases hf : fv = .nilFunc
  · have hmn := hmgn hf
    subst hf hmn
    have hput : putM .none vs x.S = some x.S := by
      clear h hlen hw
      induction vs with
      | nil => rfl
      | cons a l ih => exact ih
    rw [hput]
    have H := Lib.hid h
    clear h hlen hw hput hB hT hD hmgn
    have e0 := eqlMn0 w
    go_enter Tryz.func76, Tryz.ntmps76
    go_wp2_with fail
    go_ret
    exact ⟨rfl, x, rfl, H.out.su, H.out.mean⟩
  obtain ⟨fc, K, hfv, ef, hmi, hact⟩ := act_any (m := m) (b1 := b1) (g := g) (r := r) (pb := pb) (cap := cap) (ys := ys) hD hT hB hf h.mg
  subst hfv
  have HA := Lib.hid hact
  have HLN := Lib.hid hlen
  have H := Lib.hid h
  have HMI := Lib.hid hmi
  obtain ⟨X, hX⟩ : ∃ X, X = putM mg vs x.S := ⟨_, rfl⟩
  rw [← hX]
  have HX : Hid (putM mg (vs.drop 0) x.S = X) := hX.symm
  clear hX hact hlen h hT hB hmgn hmi hD
  have e0 := eqlMn (.func fc) #[] K w
  have hnI : ((vs.length : Nat) : Int) ≤ 100000 := by omega
  go_enter Tryz.func76, Tryz.ntmps76
  go_wp2_with fail
  go_loopg [13] (vs.length + 1) (fun gk v13 wx => ∃ (k : Nat) (x1 : Sk5), v13 = .int .i64 (k : Int) ∧ k ≤ vs.length ∧ vs.length - k < gk ∧ wtK x1.S + (vs.length - k) ≤ 100000 ∧ Hid (PutM w0 wx B g b1 r pb cap ys x1 m Bm mg (.func (.func fc) #[] K) A vs) ∧ Hid (putM mg (vs.drop k) x1.S = X))
  case atStart => exact ⟨0, x, rfl, Nat.zero_le _, by omega, by omega, H, HX⟩
  case round =>
    obtain ⟨k, x1, rfl, hk, hlt, hwt, HM, HXk⟩ := hrel
    clear H HX
    by_cases hkn : k < vs.length
    · obtain ⟨p, hp⟩ : ∃ p, vs[k]? = some p := ⟨_, List.getElem?_eq_getElem hkn⟩
      have hkI : (k : Int) < (vs.length : Int) := by omega
      obtain ⟨hb, hA, _, hcl, _⟩ : ∃ hb, A = some ⟨hb, 0, none⟩ ∧ (∃ cs, Blk wr hb 9 cs) ∧ (∀ (j : Nat) (p : Bs), vs[j]? = some p → wr.cell? ⟨hb, j, none⟩ = some (.string (mkS p))) ∧ x1.fs.ownBlock ≠ some hb := by
        rcases HM.out.vs with h | h
        · rw [h] at hkn; cases hkn
        · exact h
      subst hA
      have c0 := hcl k p hp
      have hpl := HLN.out p (List.mem_of_getElem? hp)
      have HC := Lib.hid (HA.out wr x1 p HM.out.su HM.out.mg hpl (by omega))
      have hdr : vs.drop k = p :: vs.drop (k + 1) := by
        rw [List.drop_eq_getElem_cons hkn]
        congr 1
        rw [List.getElem?_eq_getElem hkn] at hp
        injection hp
      have hXk := HXk.out
      rw [hdr] at hXk
      have hXk : (match actM mg x1.S p with | some S' => putM mg (vs.drop (k + 1)) S' | none => none) = X := hXk
      have hwa := fun S' h => wt_act (S' := S') HMI.out (S := x1.S) (v := p) h
      have hcf := ef (#[.pointer (some ⟨pb, ys.length * 12, none⟩), .string (mkS p)] ++ K) wr
      clear hcl HXk hdr hp
      generalize actM mg x1.S p = Y at *
      go_wp2_with fail
      refine HC.out.mono ?_
      intro e w2 hpost
      cases Y with
      | some S' =>
        obtain ⟨rfl, x2, hx2, hs2, hm2⟩ := hpost
        have HM2 := Lib.hid (HM.out.moved hs2 hm2)
        have HXn : Hid (putM mg (vs.drop (k + 1)) x2.S = X) := by rw [hx2]; exact hXk
        have hw2 : wtK x2.S ≤ wtK x1.S + 1 := by rw [hx2]; exact hwa S' rfl
        clear hs2 hm2 HM HC hXk hwa hx2
        go_wp2_with fail
        go_roundg (gk - 1)
        case measure => omega
        case rel => exact ⟨k + 1, x2, by first | rfl | simp, by omega, by omega, by omega, HM2, HXn⟩
      | none =>
        obtain ⟨rfl, hb2⟩ := hpost
        have HB2 := Lib.hid hb2
        have HXe : Hid (X = none) := hXk.symm
        clear hb2 HM HC hXk hwa
        go_wp2_with fail
        go_ret
        show PutPost _ _ _ _ _ _ _ _ _ _ X _ _
        rw [HXe.out]
        exact ⟨rfl, HB2.out⟩
    · have hkI : ¬ (k : Int) < (vs.length : Int) := by omega
      have hdr : vs.drop k = [] := List.drop_eq_nil_of_le (by omega)
      have hXk := HXk.out
      rw [hdr] at hXk
      have HXe : Hid (X = some x1.S) := hXk.symm
      clear hXk HXk hdr
      go_wp2_with fail
      go_ret
      show PutPost _ _ _ _ _ _ _ _ _ _ X _ _
      rw [HXe.out]
      exact ⟨rfl, x1, rfl, HM.out.su, HM.out.mean⟩
end Go.Proofs.YtdhgiammfpjniaaGreatDoor

/- The last package, and whether it is whole. -/
namespace Go.Proofs.YtdhgiammfpjniaaGreatDoor
set_option linter.unusedSimpArgs false
set_option linter.unusedVariables false
open Go.RowKit Go.MapKept

theorem nodes_le {d : Ev.Dep} (h : Ev.checkN d = 0) : Ev.nodes d ≤ 100002 := by
  unfold Ev.checkN at h
  split at h
  · next hf =>
    split at h
    · cases h
    · have := Ev.nodes_leaves d hf
      omega
  · cases h
def GoodK (S : Sk) : Prop := ∀ i, i < 7 → ∀ d ∈ S.D i, Ev.nodes d ≤ 100002
theorem parse_good {v : Bs} {d : Ev.Dep} (h : (Ev.parseD v).1 = some d) : Ev.checkN d = 0 := by
  unfold Ev.parseD at h
  split at h
  · cases h
  · split at h
    · next hc => injection h with h; rw [← h]; exact hc
    · cases h
theorem good_act {m : Mg} {S S' : Sk} {v : Bs} (hS : GoodK S) (h : actM m S v = some S') : GoodK S' := by
  cases m with
  | none => injection h with h; rw [← h]; exact hS
  | vnd => injection h with h; rw [← h]; exact hS
  | fls => injection h with h; rw [← h]; exact hS
  | dep i =>
    have h : (match (Ev.parseD v).1 with | some d => some (⟨S.T, updF S.D i (S.D i ++ [d]), S.fl⟩ : Sk) | none => none) = some S' := h
    cases hp : (Ev.parseD v).1 with
    | none => rw [hp] at h; cases h
    | some d =>
      rw [hp] at h
      injection h with h
      rw [← h]
      intro j hj a ha
      have ha : a ∈ updF S.D i (S.D i ++ [d]) j := ha
      by_cases e : j = i
      · subst e
        rw [updF_same] at ha
        rcases List.mem_append.1 ha with ha | ha
        · exact hS j hj a ha
        · rw [List.mem_singleton.1 ha]
          exact nodes_le (parse_good hp)
      · rw [updF_other _ _ e] at ha
        exact hS j hj a ha
theorem good_put {m : Mg} : ∀ {vs : List Bs} {S S' : Sk}, GoodK S → putM m vs S = some S' → GoodK S'
  | [], S, S', hS, h => by injection h with h; rw [← h]; exact hS
  | v :: r, S, S', hS, h => by
    have h : (match actM m S v with | some S1 => putM m r S1 | none => none) = some S' := h
    cases ha : actM m S v with
    | none => rw [ha] at h; cases h
    | some S1 =>
      rw [ha] at h
      exact good_put (good_act hS ha) h
/-- A package as the check and the reference see it. -/
def StB (w : World) (b : Nat) : Prop := ∃ cs, Blk w b 9 cs
section
variable {w0 w w' : World} {B g b1 m Bm : Nat} {r : Bs} {pb cap : Nat} {ys : List Sk5} {x x' : Sk5}
theorem OldM.list (h : OldM w b1 x) {i : Nat} (hi : i < 7) : Ev.ListAt w (DbB w) (x.S.D i) (x.ss i) := by
  have hD := h.is i hi
  have hlen : (x.S.D i).length = (x.rs i).length := by rw [← hD, List.length_map]
  rcases (h.own i hi).2 with ⟨hv, h0⟩ | ⟨g, cap, cur, hv, hb, hg, h1, h2, h3, ht⟩
  · have hr : x.rs i = [] := List.length_eq_zero_iff.1 h0
    rw [hr] at hD
    rw [← hD]
    exact ⟨none, 0, hv, Nat.le_refl _, by unfold maxLen; omega, fun _ => rfl, fun j a ha => by simp at ha⟩
  · refine ⟨some ⟨g, 0, none⟩, cap, by rw [hlen]; exact hv, by omega, h2, fun e => (by cases e), fun j a ha => ?_⟩
    rw [← hD, List.getElem?_map] at ha
    obtain ⟨y, hx, rfl⟩ := Option.map_eq_some_iff.1 ha
    obtain ⟨c0, c1, c2, c3, c4⟩ := Ev.cells5_at hx
    have hown := h.own i hi
    rw [hv] at hown
    have hat : ∀ {k : Nat} {u : Value}, (Ev.cells5 (x.rs i))[k]? = some u → w.cell? ⟨g, k, none⟩ = some u := fun {k u} hk => by
      obtain ⟨b, e, hc⟩ := own_ats hown hk
      injection e with e
      injection e with e
      subst e
      exact hc
    have hB : ∀ b, b ∈ x.F → DbB w b := fun b hb => (h.dep b hb).2
    exact ⟨g, 0, y.2, rfl, ⟨cur, hg⟩, ⟨by rw [Nat.zero_add]; exact hat c0, by rw [Nat.zero_add]; exact hat c1, by rw [Nat.zero_add]; exact hat c2, by rw [Nat.zero_add]; exact hat c3, by rw [Nat.zero_add]; exact hat c4⟩, Ev.Lay.stay hB (Ev.StayS.refl _ _) y.1 y.2 (h.lay i hi y (List.mem_of_getElem? hx))⟩
theorem OldM.pkg (h : OldM w b1 x) : Ev.PkgAt w (DbB w) (StB w) (pkgS x.S) x.ss x.fs := by
  refine ⟨fun i hi => ?_, ?_⟩
  · have e : (pkgS x.S).ls i = x.S.D i := if_pos hi
    rw [e]
    exact h.list hi
  · have e : (pkgS x.S).files = x.S.fl.map mkS := rfl
    rw [e]
    obtain ⟨A, c, hv, hn, hm⟩ := own_form' h.fil
    have hlen : (x.S.fl.map mkS).length = x.S.fl.length := List.length_map _
    refine ⟨A, c, by rw [hlen]; exact hv, by omega, hm, fun e => ?_, fun k s hk => ?_⟩
    · rcases h.fil.2 with ⟨h1, _⟩ | ⟨g, cap, cur, h1, _⟩
      · rw [hv] at h1
        injection h1
      · rw [hv, e] at h1
        injection h1 with h1 _ _
        cases h1
    · rw [List.getElem?_map] at hk
      obtain ⟨p, hp, rfl⟩ := Option.map_eq_some_iff.1 hk
      have hf := h.fil
      rw [hv] at hf
      obtain ⟨b, e, hc⟩ := own_at_ hf (k := k) (u := .string (mkS p)) (by unfold strR; rw [List.getElem?_map, hp]; rfl)
      rw [e] at hv
      obtain ⟨cs, hb⟩ := own_blk h.fil (k := b) (by rw [hv]; rfl)
      exact ⟨b, 0, e, ⟨cs, hb⟩, by rw [Nat.zero_add]; exact hc⟩
theorem SuM.check (h : SuM w0 w B g b1 r pb cap ys x) (hT : Ev.Tabs w) (hn : GoodK x.S) :
    Calls Tryz.prog 29 #[.agg (x.row).toArray] w fun e w' => e = .returned (.int .i64 (chkS x.S)) ∧ Below w.heap.size w w' := by
  have hC : Ev.ChecksAt QD (DbB w) (pkgS x.S) w := by
    intro i hi d hdm t w2 hb2 hL
    have e : (pkgS x.S).ls i = x.S.D i := if_pos hi
    rw [e] at hdm
    refine (Ev.depCheck_any d t (DbB w) w2 hL (fun b hb => ?_) (hT.turned (Turned.of_below hb2 []) (fun x hx => by cases hx)) (by have := hn i hi d hdm; omega)).mono ?_
    · obtain ⟨cs, h⟩ := hb
      exact ⟨cs, Blk.mono h hb2⟩
    · rintro e w3 ⟨rfl, hb3⟩
      exact ⟨⟨_, rfl, rfl⟩, hb3⟩
  refine (Ev.poolCheck_any QD (pkgS x.S) x.ss x.fs (DbB w) (StB w) w h.last.old.pkg hC hT).mono ?_
  rintro e w2 ⟨⟨n, hn, rfl⟩, hb2⟩
  exact ⟨by rw [chkD_det hn]; rfl, hb2⟩
set_option maxHeartbeats 1000000 in
set_option maxRecDepth 100000 in
theorem last_any (h : SuM w0 w B g b1 r pb cap ys x) : Calls Tryz.prog 77 #[.pointer (some ⟨g, 0, none⟩)] w fun e w' => e = .returned (.pointer (some ⟨pb, ys.length * 12, none⟩)) ∧ ∃ n, w' = w.drewN n := by
  have r1 := Blk.cell h.rd 1
  simp at r1
  have hn : ((ys.length : Nat) : Int) + 1 - 1 = (ys.length : Int) := by omega
  have hlt : (ys.length : Int) < (ys.length : Int) + 1 := by omega
  have h0 : (0 : Int) ≤ (ys.length : Int) := by omega
  have hc2 : ys.length + 1 ≤ maxLen := by
    obtain ⟨A', c', e', hc1, hc2⟩ := own_form' h.row
    omega
  unfold maxLen at hc2
  have hwr : IntKind.i64.wrap (ys.length : Int) = (ys.length : Int) := by
    rw [IntKind.wrap_i64]
    omega
  clear h
  generalize ys.length = n at *
  go_enter Tryz.func77, Tryz.ntmps77
  go_wp2_with fail
  go_region
  go_wp2_with fail
  go_ret
  exact ⟨by simp, _, rfl⟩
end
end Go.Proofs.YtdhgiammfpjniaaGreatDoor

/- Whether the last package is whole; a package begins. -/
namespace Go.Proofs.YtdhgiammfpjniaaGreatDoor
set_option linter.unusedSimpArgs false
set_option linter.unusedVariables false
open Go.RowKit Go.MapKept

section
variable {w0 w w' : World} {B g b1 m Bm : Nat} {r : Bs} {pb cap : Nat} {ys : List Sk5} {x x' : Sk5}
set_option maxHeartbeats 1000000 in
set_option maxRecDepth 100000 in
theorem whole_any (h : SuM w0 w B g b1 r pb cap ys x) (hT : Ev.Tabs w) (hn : GoodK x.S) : Calls Tryz.prog 71 #[.pointer (some ⟨g, 0, none⟩)] w fun e w' => e = .returned (.int .i64 (chkS x.S)) ∧ Below w.heap.size w w' := by
  have r1 := Blk.cell h.rd 1
  simp at r1
  have C1 := Lib.hid (last_any h)
  have HC := Lib.hid (fun n => SuM.check (h.below (below_drewN' (Below.refl _ _) n)) (hT.turned (Turned.of_below (below_drewN' (Below.refl _ _) n) []) (fun x hx => by cases hx)) hn)
  have HL := Lib.hid (fun n => h.below (below_drewN' (n := n) (Below.refl w.heap.size w)))
  clear h hT hn
  go_enter Tryz.func71, Tryz.ntmps71
  go_wp2_with fail
  refine C1.out.mono ?_
  rintro e w1 ⟨rfl, n, rfl⟩
  have b0 := (HL.out n).cell (j := 0) rfl
  have b1 := (HL.out n).cell (j := 1) rfl
  have b2 := (HL.out n).cell (j := 2) rfl
  have b3 := (HL.out n).cell (j := 3) rfl
  have b4 := (HL.out n).cell (j := 4) rfl
  have b5 := (HL.out n).cell (j := 5) rfl
  have b6 := (HL.out n).cell (j := 6) rfl
  have b7 := (HL.out n).cell (j := 7) rfl
  have b8 := (HL.out n).cell (j := 8) rfl
  have b9 := (HL.out n).cell (j := 9) rfl
  have b10 := (HL.out n).cell (j := 10) rfl
  have b11 := (HL.out n).cell (j := 11) rfl
  rw [Nat.add_zero] at b0
  have hc := Lib.hid (HC.out n)
  unfold Sk5.row rowK at hc
  have HB : Hid (Below w.heap.size w (w.drewN n)) := below_drewN' (Below.refl _ _) n
  clear HL HC C1 r1
  generalize w.drewN n = w1 at *
  go_wp2_with fail
  refine hc.out.mono ?_
  rintro e w2 ⟨rfl, hb⟩
  have HB2 := Lib.hid (HB.out.trans (hb.mono HB.out.size))
  clear hb hc HB
  go_wp2_with fail
  go_ret
  exact ⟨rfl, HB2.out⟩
set_option maxHeartbeats 1000000 in
set_option maxRecDepth 100000 in
theorem whole_none (h : RdR w g r (.slice none 0 0)) : Calls Tryz.prog 71 #[.pointer (some ⟨g, 0, none⟩)] w fun e w' => e = .returned (.int .i64 0) ∧ Below w.heap.size w w' := by
  have r1 := Blk.cell h 1
  simp at r1
  clear h
  go_enter Tryz.func71, Tryz.ntmps71
  go_wp2_with fail
  go_ret
  exact ⟨rfl, Below.refl _ _⟩
end
/-- All packages so far, whole or not. -/
structure AllM (w0 w : World) (B g : Nat) (r : Bs) (v : Value) (xs : List Sk5) : Prop where
  rd : RdR w g r v
  row : w.ownsRow B 37 12 v xs.length (rowsK xs)
  old : ∀ y ∈ xs, OldM w w.heap.size y
  le : B ≤ g ∧ B ≤ w.heap.size
  bel : Below B w0 w
theorem SuM.all {w0 w : World} {B g b1 : Nat} {r : Bs} {pb cap : Nat} {ys : List Sk5} {x : Sk5} (h : SuM w0 w B g b1 r pb cap ys x) : AllM w0 w B g r (.slice (some ⟨pb, 0, none⟩) (ys.length + 1) cap) (ys ++ [x]) :=
  ⟨h.rd, by
    rw [List.length_append, rowsK_app]
    have : rowsK [x] = x.row := List.append_nil _
    rw [this]
    exact h.row, fun y hy => by
    rcases List.mem_append.1 hy with hy | hy
    · exact (h.old y hy).mono h.le.2.2
    · rw [List.mem_singleton.1 hy]
      exact h.last.old, ⟨h.le.1, Nat.le_trans h.le.2.1 h.le.2.2⟩, h.bel⟩
theorem AllM.below {w0 w w' : World} {B g : Nat} {r : Bs} {v : Value} {xs : List Sk5} (h : AllM w0 w B g r v xs) (hb : Below w.heap.size w w') : AllM w0 w' B g r v xs :=
  ⟨Blk.mono h.rd hb, own_turned h.row (Turned.of_below hb []) (fun k hk hm => by cases hm), fun y hy => ((h.old y hy).below hb).mono hb.size, ⟨h.le.1, Nat.le_trans h.le.2 hb.size⟩, h.bel.trans (hb.mono h.le.2)⟩
def newX (a b d : Bs) : Sk5 := ⟨newS a b d, fun _ => .slice none 0 0, fun _ => [], [], .slice none 0 0⟩
/-- A package more. -/
theorem AllM.push {w0 w w' : World} {B g : Nat} {r : Bs} {v v' : Value} {xs : List Sk5} (h : AllM w0 w B g r v xs) {a b d : Bs} (hown : w'.ownsRow B 37 12 v' (xs.length + 1) (rowsK xs ++ (newX a b d).row)) (hg : w.grownBy w' v.ownBlock) :
    ∃ pb cap, v' = .slice (some ⟨pb, 0, none⟩) (xs.length + 1) cap ∧ SuM w0 (w'.setCell ⟨g, 1, none⟩ v') B g w.heap.size r pb cap xs (newX a b d) := by
  rcases hown.2 with ⟨_, h0⟩ | ⟨pb, cap, cur, rfl, hpB, hpk, _⟩
  · omega
  have hpk : Blk w' pb 37 cur := hpk
  have ht := grown_turned hg
  have hgR : g ∉ v.ownBlock.toList := fun hm => by
    obtain ⟨cs', hb⟩ := own_blk h.row (by simpa using hm)
    exact Blk.kind hb h.rd (by decide) rfl
  have hrd := h.rd.turned ht hgR
  have hne : pb ≠ g := Blk.kind hpk hrd (by decide)
  have hT : Turned (g :: v.ownBlock.toList) w (w'.setCell ⟨g, 1, none⟩ (.slice (some ⟨pb, 0, none⟩) (xs.length + 1) cap)) := (ht.more (fun k hk => List.mem_cons_of_mem _ hk)).setCell (.inl (by simp)) _
  refine ⟨pb, cap, rfl, hrd.set_ 1 _, own_setCell hown (fun e => by injection e with e; exact hne e) _, fun y hy => (h.old y hy).turned hT (fun k hk => .inr ?_), ?_, ⟨h.le.1, h.le.2, hT.size⟩, h.bel.trans (hT.below (fun k hk => ?_) h.le.2)⟩
  · rcases List.mem_cons.1 hk with rfl | hk
    · exact NoRow.of h.rd (by decide) (by decide)
    · obtain ⟨cs', hb⟩ := own_blk h.row (k := k) (by simpa using hk)
      exact NoRow.of hb (by decide) (by decide)
  · refine ⟨fun i hi => World.ownsRow_nil _ _ _ _, fun i hi => rfl, fun i hi y hy => (by cases hy), fun i hi b hb => (by cases hb), fun i j _ _ _ k hk => (by cases hk), fun b hb => (by cases hb), World.ownsRow_nil _ _ _ _⟩
  · rcases List.mem_cons.1 hk with rfl | hk
    · exact h.le.1
    · exact (h.row.lt k (by simpa using hk)).1
end Go.Proofs.YtdhgiammfpjniaaGreatDoor
