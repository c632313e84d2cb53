/- A pool's repositories with their packages: whole. A reader's list of packages; its repository. A reader's repository. -/
import Derived.Test.YtpmfmkpfjomgnaaGreatDoorZcd
import Derived.Test.YtpmfmkpfjomgnaaGreatDoorZap
/- A pool's repositories with their packages: whole. -/
namespace Go.Proofs.YtpmfmkpfjomgnaaGreatDoor
set_option linter.unusedSimpArgs false
set_option linter.unusedVariables false
open Go.RowKit

def SB2 (m n : Nat) (w : World) (l : Array Bool) (w' : World) : Prop := (l.getD m true = false → Below w.heap.size w w') ∧ (l.getD n true = false → Below w.heap.size w w')
theorem SB2.io {m n i : Nat} {w0 : World} (h : i ≠ m ∧ i ≠ n) (l : Array Bool) (w : World) : SB2 m n w0 (l.setIfInBounds i true) w ↔ SB2 m n w0 l w := by
  unfold SB2
  rw [getD_set_ne true h.1, getD_set_ne true h.2]
def cells12 (l : List PkE) : List Value := l.flatMap fun e => (rowP e.p e.ss e.fs).toList
theorem cells12_append (a b : List PkE) : cells12 (a ++ b) = cells12 a ++ cells12 b := by simp [cells12]
theorem cells12_at {l : List PkE} {k : Nat} {x : PkE} (h : l[k]? = some x) {j : Nat} (hj : j < 12) : (cells12 l)[k * 12 + j]? = (rowP x.p x.ss x.fs)[j]? := by
  induction l generalizing k with
  | nil => cases h
  | cons y r ih =>
    have e0 : cells12 (y :: r) = (rowP y.p y.ss y.fs).toList ++ cells12 r := rfl
    rw [e0]
    have hlen : (rowP y.p y.ss y.fs).toList.length = 12 := rfl
    cases k with
    | zero =>
      injection h with h
      subst h
      rw [List.getElem?_append_left (by rw [hlen]; omega), Nat.zero_mul, Nat.zero_add, Array.getElem?_toList]
    | succ k =>
      rw [List.getElem?_append_right (by rw [hlen]; omega), hlen]
      have := ih (k := k) (by simpa using h)
      rw [show (k + 1) * 12 + j - 12 = k * 12 + j by omega]
      exact this
theorem info_pack12 : ∃ i z, Tryz.prog.info? 44 = some i ∧ i.zero = some z ∧ z.cells.size = 12 ∧ i.size = 12 ∧ i.bytes = 256 := by
  have h : (Tryz.prog.info? 44).map (fun i => (i.zero.map fun z => z.cells.size, i.size, i.bytes)) = some (some 12, 12, 256) := by kernel_rfl
  obtain ⟨i, hi, h2⟩ := Option.map_eq_some_iff.1 h
  simp only [Prod.mk.injEq] at h2
  obtain ⟨z, hz, hz1⟩ := Option.map_eq_some_iff.1 h2.1
  exact ⟨i, z, hi, hz, hz1, h2.2.1, h2.2.2⟩
/-- The repositories of a pool, copied. -/
def ReposNew (w : World) (reps : List Rep) (e : Ending) (w' : World) : Prop := Below w.heap.size w w' ∧ ∃ v, e = .returned v ∧ w'.ownsRow w.heap.size 33 4 v reps.length (cells4 reps)
set_option maxHeartbeats 1000000 in
set_option maxRecDepth 100000 in
theorem cloneRepos_any {w : World} {base : Nat} {v : Value} {rs : List Rep} (h : w.ownsRow base 33 4 v rs.length (cells4 rs)) (hn : rs.length ≤ 1000000) :
    Calls Tryz.prog 96 #[v] w (ReposNew w rs) := by
  rcases own_handle h with ⟨rfl, h0⟩ | ⟨b, c, rfl⟩
  · obtain rfl := List.eq_nil_of_length_eq_zero h0
    have qn := nil_none 22 33 Tryz.underlying22 0 0 w
    have HP : Hid (ReposNew w [] (.returned (.slice none 0 0)) w) := ⟨Below.refl _ _, _, rfl, World.ownsRow_nil _ _ _ _⟩
    clear h h0 hn
    go_enter Tryz.func96, Tryz.ntmps96
    go_wp2_with fail
    go_ret
    exact HP.out
  · have qn := nil_some 22 33 Tryz.underlying22 ⟨b, 0, none⟩ rs.length c w
    have HI := Lib.hid info_repo
    have HO : Hid ((w.alloc (.cells #[] 33)).ownsRow w.heap.size 33 4 (.slice (some ⟨w.heap.size, 0, none⟩) 0 0) 0 []) :=
      ⟨rfl, .inr ⟨w.heap.size, 0, #[], rfl, Nat.le_refl _, Blk.new _ _ _, Nat.le_refl _, by simp [maxLen], rfl, rfl⟩⟩
    have HCl : Hid (∀ j u, (cells4 rs)[j]? = some u → (w.alloc (.cells #[] 33)).cell? ((⟨b, 0, none⟩ : Addr).add j) = some u) := fun j u hu => by
      obtain ⟨b', e, hc⟩ := own_ats h hu
      injection e with e
      injection e with e
      subst e
      have e2 : (⟨b, 0, none⟩ : Addr).add j = ⟨b, j, none⟩ := by unfold Addr.add; split <;> simp_all
      rw [e2]
      have hba : Below w.heap.size w (w.alloc (.cells #[] 33)) := (Below.refl _ _).alloc (Nat.le_refl _) _
      exact (World.cell?_of_block (hba.block b (cell_lt hc))).trans hc
    have HB : Hid (Below w.heap.size w (w.alloc (.cells #[] 33))) := (Below.refl _ _).alloc (Nat.le_refl _) _
    have HL : Hid ((cells4 rs).length = rs.length * 4) := cells4_len rs
    have HO1 : Hid (∀ u ∈ cells4 rs, u.oneCell' = true) := cells4_one rs
    clear h
    go_enter Tryz.func96, Tryz.ntmps96
    obtain ⟨i0, z0, hi0, hz0, hz1, hz2, hz3⟩ := HI.out
    have HI' := Lib.hid (And.intro hi0 (And.intro hz0 (And.intro hz1 (And.intro hz2 hz3))))
    clear hi0 hz0 hz1 hz2 hz3 HI
    go_wp2_with (at_builtin; refine wpList_append_own_at _ rfl (.tmp 5) (.tmp 6) 22 rfl w.heap.size 33 i0 z0 4 56 Tryz.underlying22 HI'.out.1 HI'.out.2.1 HI'.out.2.2.2.1 HI'.out.2.2.2.2 HI'.out.2.2.1 (by decide) (.slice (some ⟨w.heap.size, 0, none⟩) 0 0) 0 [] rfl HO.out ⟨b, 0, none⟩ rs.length c (cells4 rs) rfl HL.out HCl.out HO1.out (by unfold maxLen; omega) (by omega) (by simp) ?_; intro v' w' hown' hg' _ _)
    have HP : Hid (ReposNew w rs (.returned v') w') := by
      refine ⟨HB.out.grown hg' HB.out.size (fun k hk => ?_), v', rfl, ?_⟩
      · simp [Value.ownBlock] at hk; omega
      · have h := hown'
        rw [Nat.zero_add, List.nil_append] at h
        exact h
    clear hown' hg' HB HO HCl HL HO1 HI'
    go_wp2_with fail
    go_ret
    exact HP.out
set_option maxHeartbeats 1000000 in
set_option maxRecDepth 100000 in
theorem repos_any {w : World} {base g : Nat} {O S T : Nat → Prop} {kind : Int} {reps : List Rep} {ks : List Kep} (h : PoolAt w base g O S T kind reps ks) (hn : reps.length ≤ 1000000) :
    Calls Tryz.prog 50 #[.pointer (some ⟨g, 0, none⟩)] w (ReposNew w reps) := by
  obtain ⟨vr, vp, bm, f, h⟩ := h
  have k1 := h.blk.cell 1
  have CC := Lib.hid (cloneRepos_any h.repo hn)
  obtain ⟨A, c, rfl, h1, h2⟩ := own_form' h.repo
  simp at k1
  clear h h1 h2
  go_enter Tryz.func50, Tryz.ntmps50
  go_wp2_with fail
  refine CC.out.mono ?_
  intro e w1 hw
  have HV := Lib.hid hw
  obtain ⟨hb, v, rfl, hv⟩ := hw
  obtain ⟨Av, cv, rfl, -, -⟩ := own_form' hv
  clear hb hv CC
  go_wp2_with fail
  go_ret
  exact HV.out
/-- While packages are put into their repositories: block gR is the repositories, whose packages are pk. -/
structure WhSt (w wx : World) (gR : Nat) (reps : List Rep) (pk : Nat → List PkE) (rows : Nat → Value) (S T : Nat → Prop) : Prop where
  below : Below w.heap.size w wx
  blk : reps ≠ [] → ∃ cur, Blk wx gR 33 cur ∧ reps.length * 4 ≤ cur.size ∧ ∀ i r, reps[i]? = some r → cur[i * 4]? = some (.string r.name) ∧ cur[i * 4 + 1]? = some (.int .i64 r.prio) ∧ cur[i * 4 + 2]? = some (.bool r.inst) ∧ cur[i * 4 + 3]? = some (rows i)
  far : reps ≠ [] → w.heap.size ≤ gR
  own : ∀ i, wx.ownsRow w.heap.size 44 12 (rows i) (pk i).length (cells12 (pk i))
  apart : ∀ i j k, i ≠ j → (rows i).ownBlock = some k → (rows j).ownBlock ≠ some k
  lays : ∀ i, ∀ e ∈ pk i, PkgAt wx S T e.p e.ss e.fs
  clean : CleanS wx S
  cleanT : CleanT wx T
  farS : ∀ b, S b ∨ T b → w.heap.size ≤ b
section
variable {w wx w2 : World} {gR : Nat} {reps : List Rep} {pk : Nat → List PkE} {rows : Nat → Value} {S T : Nat → Prop}
theorem WhSt.later (h : WhSt w wx gR reps pk rows S T) (hb : Below wx.heap.size wx w2) : WhSt w w2 gR reps pk rows S T :=
  ⟨h.below.trans (hb.mono h.below.size), fun hr => by obtain ⟨cur, h1, h2⟩ := h.blk hr; exact ⟨cur, h1.below hb h1.lt, h2⟩, h.far, fun i => own_turnedP (h.own i) (TurnedP.of_below hb fun _ => False) fun _ _ h => h, h.apart, fun i e he => (h.lays i e he).below hb, h.clean.stay (StayS.below' hb), h.cleanT.stay (StayS.below' hb), h.farS⟩
/-- One package more in repository r. -/
theorem WhSt.next {w4 : World} {r : Nat} {e : PkE} {S2 T2 : Nat → Prop} {v4 : Value} (h : WhSt w wx gR reps pk rows S T) (hr : r < reps.length) (hP : PkgAt wx S2 T2 e.p e.ss e.fs) (hC : CleanS wx S2) (hT : CleanT wx T2) (hf : ∀ b, S2 b ∨ T2 b → w.heap.size ≤ b)
    (hg : wx.grownBy w4 (rows r).ownBlock) (hown : w4.ownsRow w.heap.size 44 12 v4 ((pk r).length + 1) (cells12 (pk r) ++ (rowP e.p e.ss e.fs).toList)) (hat : v4.ownBlock = (rows r).ownBlock ∨ v4.ownBlock = some wx.heap.size) :
    (∃ cur, Blk w4 gR 33 cur ∧ r * 4 + 3 < cur.size ∧ cur[r * 4 + 3]? = some (rows r)) ∧ WhSt w (w4.setCell ⟨gR, r * 4 + 3, none⟩ v4) gR reps (fun i => if i = r then pk r ++ [e] else pk i) (fun i => if i = r then v4 else rows i) (fun b => S b ∨ S2 b) (fun b => T b ∨ T2 b) := by
  have hne : reps ≠ [] := fun e => by rw [e] at hr; simp at hr
  obtain ⟨cur, hB, hsz, hcur⟩ := h.blk hne
  have hgR := h.far hne
  have ht1 : TurnedP (fun k => (rows r).ownBlock = some k) wx w4 := (TurnedP.refl _ _).grown hg fun k _ hk => hk
  have hB4 : Blk w4 gR 33 cur := hB.turnedP ht1 (own_kind (h.own r) hB (by decide))
  have hr1 : reps[r]? = some reps[r] := List.getElem?_eq_getElem hr
  have hvg : v4.ownBlock ≠ some gR := own_kind hown hB4 (by decide)
  have htQ : TurnedP (fun k => (rows r).ownBlock = some k ∨ k = gR) wx (w4.setCell ⟨gR, r * 4 + 3, none⟩ v4) := (ht1.more fun k _ hk => .inl hk).setCell (fun _ => .inr rfl) _
  have hst : ∀ U : Nat → Prop, (∀ b, U b → ∃ t cs, Blk wx b t cs ∧ t ≠ 33 ∧ t ≠ 44) → StayS U wx (w4.setCell ⟨gR, r * 4 + 3, none⟩ v4) := fun U hU b hb hl => htQ.block b hl fun hm => by
    obtain ⟨t, cs, hc, n1, n2⟩ := hU b hb
    rcases hm with hm | rfl
    · exact own_kind (h.own r) hc (Ne.symm n2) hm
    · exact Blk.kind hc hB n1 rfl
  have hSs := hst S fun b hb => by obtain ⟨cs, hc⟩ := h.clean b hb; exact ⟨_, cs, hc, by decide, by decide⟩
  have hTs := hst T fun b hb => by obtain ⟨cs, hc⟩ := h.cleanT b hb; exact ⟨_, cs, hc, by decide, by decide⟩
  have hS2 := hst S2 fun b hb => by obtain ⟨cs, hc⟩ := hC b hb; exact ⟨_, cs, hc, by decide, by decide⟩
  have hT2 := hst T2 fun b hb => by obtain ⟨cs, hc⟩ := hT b hb; exact ⟨_, cs, hc, by decide, by decide⟩
  have hbl4 : Below w.heap.size w w4 := h.below.grown hg h.below.size (fun k hk => ((h.own r).lt k hk).1)
  refine ⟨⟨cur, hB4, by omega, (hcur r _ hr1).2.2.2⟩, hbl4.setCell hgR _, fun _ => ⟨_, hB4.set_ (r * 4 + 3) v4, by simp; exact hsz, fun i x hx => ?_⟩, fun _ => hgR, fun i => ?_, fun i j k hij hk => ?_, fun i x hx => ?_, fun b hb => ?_, fun b hb => ?_, fun b hb => ?_⟩
  · obtain ⟨a0, a1, a2, a3⟩ := hcur i x hx
    refine ⟨?_, ?_, ?_, ?_⟩
    · rw [Array.getElem?_setIfInBounds_ne (by omega)]; exact a0
    · rw [Array.getElem?_setIfInBounds_ne (by omega)]; exact a1
    · rw [Array.getElem?_setIfInBounds_ne (by omega)]; exact a2
    · by_cases hi : i = r
      · subst hi
        rw [if_pos rfl, Array.getElem?_setIfInBounds_self_of_lt (by omega)]
      · rw [if_neg hi, Array.getElem?_setIfInBounds_ne (by omega)]; exact a3
  · by_cases hi : i = r
    · subst hi
      simp only [if_pos]
      rw [List.length_append, cells12_append]
      have : cells12 [e] = (rowP e.p e.ss e.fs).toList := by simp [cells12]
      rw [this]
      exact own_setCell (p := ⟨gR, i * 4 + 3, none⟩) hown hvg _
    · simp only [if_neg hi]
      exact own_setCell (p := ⟨gR, r * 4 + 3, none⟩) (own_turnedP (h.own i) ht1 fun k hk hm => h.apart r i k (fun e => hi e.symm) hm hk) (own_kind (h.own i) hB (by decide)) _
  · by_cases hi : i = r
    · subst hi
      simp only [if_pos] at hk
      rw [if_neg (fun e => hij e.symm)]
      intro hj
      rcases hat with e1 | e1
      · rw [hk] at e1; exact h.apart i j k hij e1.symm hj
      · rw [hk] at e1; injection e1 with e1; have := ((h.own j).lt k hj).2; omega
    · simp only [if_neg hi] at hk
      by_cases hj : j = r
      · subst hj
        simp only [if_pos]
        intro hv
        rcases hat with e1 | e1
        · rw [hv] at e1; exact h.apart i j k hij hk e1.symm
        · rw [hv] at e1; injection e1 with e1; have := ((h.own i).lt k hk).2; omega
      · simp only [if_neg hj]
        exact h.apart i j k hij hk
  · by_cases hi : i = r
    · subst hi
      simp only [if_pos] at hx
      rcases List.mem_append.1 hx with hx | hx
      · exact (h.lays i x hx).stay (fun _ h => .inl h) (fun _ h => .inl h) hSs hTs
      · simp at hx; subst hx
        exact hP.stay (fun _ h => .inr h) (fun _ h => .inr h) hS2 hT2
    · simp only [if_neg hi] at hx
      exact (h.lays i x hx).stay (fun _ h => .inl h) (fun _ h => .inl h) hSs hTs
  · rcases hb with hb | hb
    · exact h.clean.stay hSs b hb
    · exact hC.stay hS2 b hb
  · rcases hb with hb | hb
    · exact h.cleanT.stay hTs b hb
    · exact hT.stay hT2 b hb
  · rcases hb with (hb | hb) | (hb | hb)
    · exact h.farS b (.inl hb)
    · exact hf b (.inl hb)
    · exact h.farS b (.inr hb)
    · exact hf b (.inr hb)
end
/-- The packages of repository i. -/
def ofRep (ks : List Kep) (i : Nat) : List Pkg := (ks.filter fun k => k.rep == i).map Kep.p
theorem ofRep_snoc (ks : List Kep) (k : Kep) (i : Nat) : ofRep (ks ++ [k]) i = ofRep ks i ++ if i = k.rep then [k.p] else [] := by
  unfold ofRep
  rw [List.filter_append, List.map_append]
  by_cases h : i = k.rep
  · subst h; simp
  · have : (k.rep == i) = false := by simp; exact fun e => h e.symm
    simp [this, h]
/-- The repositories as they are laid. -/
def repEs (reps : List Rep) (pk : Nat → List PkE) : List RepE := reps.mapIdx fun i r => ⟨r, pk i⟩
theorem repEs_at {reps : List Rep} {pk : Nat → List PkE} {i : Nat} {e : RepE} (h : (repEs reps pk)[i]? = some e) : ∃ r, reps[i]? = some r ∧ e = ⟨r, pk i⟩ := by
  unfold repEs at h
  rw [List.getElem?_mapIdx, Option.map_eq_some_iff] at h
  obtain ⟨r, h1, h2⟩ := h
  exact ⟨r, h1, h2.symm⟩
def WholeNew (w : World) (reps : List Rep) (ks : List Kep) (e : Ending) (w' : World) : Prop :=
  Below w.heap.size w w' ∧ ∃ A c V S T U pk, e = .returned (.slice A reps.length c) ∧ reps.length ≤ c ∧ c ≤ maxLen ∧ ReposAt w' V S T U (repEs reps pk) A ∧ (∀ i, (pk i).map PkE.p = ofRep ks i) ∧ ∀ b, AllB V S T U b → w.heap.size ≤ b ∧ b < w'.heap.size
theorem WhSt.done {w wx : World} {gR c : Nat} {reps : List Rep} {pk : Nat → List PkE} {rows : Nat → Value} {S T : Nat → Prop} {A : Option Addr} {ks : List Kep} (h : WhSt w wx gR reps pk rows S T) (hA : reps ≠ [] → A = some ⟨gR, 0, none⟩) (hc1 : reps.length ≤ c) (hc2 : c ≤ maxLen) (hpk : ∀ i, (pk i).map PkE.p = ofRep ks i) :
    WholeNew w reps ks (.returned (.slice A reps.length c)) wx := by
  refine ⟨h.below, A, c, (fun b => b = gR ∧ reps ≠ []), S, T, (fun b => ∃ i, (rows i).ownBlock = some b), pk, rfl, hc1, hc2, fun i e he => ?_, hpk, fun b hb => ?_⟩
  · obtain ⟨r, hr, rfl⟩ := repEs_at he
    have hne : reps ≠ [] := fun e => by subst e; cases hr
    obtain ⟨cur, hB, hsz, hcur⟩ := h.blk hne
    obtain ⟨a0, a1, a2, a3⟩ := hcur i r hr
    obtain ⟨Ap, cp, hrow, hp1, hp2⟩ := own_form' (h.own i)
    have z0 := (hB.cell (i * 4)).trans a0
    have z1 := (hB.cell (i * 4 + 1)).trans a1
    have z2 := (hB.cell (i * 4 + 2)).trans a2
    have z3 := (hB.cell (i * 4 + 3)).trans a3
    rw [hrow] at z3
    have hO := h.own i
    rw [hrow] at hO
    refine ⟨gR, 0, Ap, cp, hA hne, ⟨rfl, hne⟩, by rw [Nat.zero_add]; exact z0, by rw [Nat.zero_add]; exact z1, by rw [Nat.zero_add]; exact z2, by rw [Nat.zero_add]; exact z3, hp1, hp2, fun j x hx => ?_⟩
    have hcell := fun (t : Nat) (ht : t < 12) => cells12_at hx ht
    have h0 : (cells12 (pk i))[j * 12 + 0]? = some (.string x.p.name) := (hcell 0 (by omega)).trans rfl
    obtain ⟨b, e1, -⟩ := own_ats hO h0
    subst e1
    refine ⟨b, 0, rfl, ⟨i, by rw [hrow]; rfl⟩, fun t ht => ?_, h.lays i x (List.mem_of_getElem? hx)⟩
    have hs : ∃ u, (rowP x.p x.ss x.fs)[t]? = some u := ⟨_, Array.getElem?_eq_getElem (show t < (rowP x.p x.ss x.fs).size from ht)⟩
    obtain ⟨u, hu⟩ := hs
    rw [hu, Nat.zero_add]
    obtain ⟨b', e2, hcx⟩ := own_ats hO ((hcell t ht).trans hu)
    injection e2 with e2
    injection e2 with e2
    subst e2
    exact hcx
  · rcases hb with (((hb | hb) | ⟨i, hb⟩) | ⟨rfl, hb⟩)
    · obtain ⟨cs, hc⟩ := h.clean b hb
      exact ⟨h.farS b (.inl hb), hc.lt⟩
    · obtain ⟨cs, hc⟩ := h.cleanT b hb
      exact ⟨h.farS b (.inr hb), hc.lt⟩
    · exact (h.own i).lt b hb
    · obtain ⟨cur, hB, -⟩ := h.blk hb
      exact ⟨h.far hb, hB.lt⟩
set_option maxHeartbeats 8000000 in
set_option maxRecDepth 100000 in
theorem whole_any {w : World} {base g : Nat} {O S0 T0 : Nat → Prop} {kind : Int} {reps : List Rep} {ks : List Kep} (h : PoolAt w base g O S0 T0 kind reps ks) (hk : ∀ k ∈ ks, k.rep < reps.length ∧ PkgSmall k.p) (hks : ks.length ≤ 200) (hreps : reps.length ≤ 8) :
    Calls Tryz.prog 70 #[.pointer (some ⟨g, 0, none⟩)] w (WholeNew w reps ks) := by
  have CR := Lib.hid (repos_any h (by omega))
  have HP := Lib.hid h
  have HK := Lib.hid hk
  have HKS := Lib.hid hks
  clear h hk hreps
  go_enter Tryz.func70, Tryz.ntmps70
  go_wp2_with fail
  refine CR.out.mono ?_
  rintro e w1 ⟨hb1, v3, rfl, hv3⟩
  obtain ⟨gR, A3, c3, rfl, hc1, hc2, hA3, hW1⟩ : ∃ gR A c, v3 = .slice A reps.length c ∧ reps.length ≤ c ∧ c ≤ maxLen ∧ (reps ≠ [] → A = some ⟨gR, 0, none⟩) ∧ WhSt w w1 gR reps (fun _ => []) (fun _ => .slice none 0 0) (fun _ => False) (fun _ => False) := by
    rcases hv3.2 with ⟨rfl, h0⟩ | ⟨g1, cap, cur, rfl, hbg, hg1, hcl, hcm, hcs, htk⟩
    · obtain rfl := List.eq_nil_of_length_eq_zero h0
      exact ⟨0, none, 0, rfl, Nat.le_refl _, by simp [maxLen], fun h => absurd rfl h, ⟨hb1, fun h => absurd rfl h, fun h => absurd rfl h, fun _ => World.ownsRow_nil _ _ _ _, (fun _ _ _ _ h => by simp [Value.ownBlock] at h), (fun _ _ h => by cases h), (fun _ h => h.elim), (fun _ h => h.elim), (fun _ h => (h.elim id id).elim)⟩⟩
    · refine ⟨g1, _, cap, rfl, hcl, hcm, fun _ => rfl, ⟨hb1, fun _ => ⟨cur, hg1, by rw [hcs]; exact Nat.mul_le_mul_right _ hcl, fun i r hr => ?_⟩, fun _ => hbg, fun _ => World.ownsRow_nil _ _ _ _, (fun _ _ _ _ h => by simp [Value.ownBlock] at h), (fun _ _ h => by cases h), (fun _ h => h.elim), (fun _ h => h.elim), (fun _ h => (h.elim id id).elim)⟩⟩
      obtain ⟨a0, a1, a2, a3⟩ := cells4_at hr
      have hcv : ∀ (j : Nat) (u : Value), (cells4 reps)[j]? = some u → cur[j]? = some u := fun j u hu => by
        rw [← htk, List.getElem?_take] at hu
        split at hu
        · simpa using hu
        · cases hu
      exact ⟨hcv _ _ a0, hcv _ _ a1, hcv _ _ a2, hcv _ _ a3⟩
  have CL := Lib.hid (len_any (HP.out.below hb1))
  have H0 : Hid (∃ pk rows S T, WhSt w w1 gR reps pk rows S T ∧ ∀ i, (pk i).map PkE.p = ofRep (ks.take 0) i) := ⟨_, _, _, _, hW1, fun i => by simp [ofRep]⟩
  have HA3 := Lib.hid (And.intro hA3 (And.intro hc1 hc2))
  obtain ⟨n, hn⟩ : ∃ n, n = reps.length := ⟨_, rfl⟩
  have HN0 := Lib.hid hn
  rw [← hn] at HA3 ⊢
  clear hb1 hv3 hW1 hA3 hc1 hc2 CR hn
  go_wp2_with fail
  refine CL.out.mono ?_
  rintro e w2 ⟨rfl, rfl⟩
  clear CL
  go_wp2_with fail
  go_loopw [12] (fun v wx => ∃ k : Nat, k ≤ ks.length ∧ v = .int .i64 (k : Int) ∧ Hid (∃ pk rows S T, WhSt w wx gR reps pk rows S T ∧ ∀ i, (pk i).map PkE.p = ofRep (ks.take k) i)) (fun v _ => ks.length - (intOf v).toNat)
  case atStart => exact ⟨0, Nat.zero_le _, rfl, H0⟩
  case round =>
    clear H0
    obtain ⟨q, hq, rfl, HB⟩ := hrel
    by_cases hlt : q < ks.length
    · obtain ⟨k, hk⟩ : ∃ k, ks[q]? = some k := ⟨_, List.getElem?_eq_getElem hlt⟩
      obtain ⟨pk, rows, S, T, hW, hpk⟩ := HB.out
      obtain ⟨hrk, hsm⟩ := HK.out k (List.mem_of_getElem? hk)
      have CP := Lib.hid (package_any (HP.out.below hW.below) q k hk hsm)
      have HW := Lib.hid hW
      have HPk := Lib.hid hpk
      have HKq := Lib.hid hk
      obtain ⟨r, hr⟩ : ∃ r, r = k.rep := ⟨_, rfl⟩
      have HR := Lib.hid hr
      rw [← hr] at CP hrk
      have hrn : r < n := by rw [HN0.out]; exact hrk
      have HRn := Lib.hid hrk
      obtain ⟨rfl, -, -⟩ : A3 = some ⟨gR, 0, none⟩ ∧ True ∧ True := ⟨HA3.out.1 (fun e => by rw [e] at hrk; simp at hrk), trivial, trivial⟩
      clear hW hpk hk hsm hr hrk HB
      go_wp2_with fail
      refine CP.out.mono ?_
      rintro e w2 ⟨hb2, ss', fs', S2, T2, rfl, hP2, hC2, hT2, hfS, hfT⟩
      obtain ⟨C0, n0, t0, -⟩ := hP2.lists 0 (by omega)
      obtain ⟨C1, n1, t1, -⟩ := hP2.lists 1 (by omega)
      obtain ⟨C2, n2, t2, -⟩ := hP2.lists 2 (by omega)
      obtain ⟨C3, n3, t3, -⟩ := hP2.lists 3 (by omega)
      obtain ⟨C4, n4, t4, -⟩ := hP2.lists 4 (by omega)
      obtain ⟨C5, n5, t5, -⟩ := hP2.lists 5 (by omega)
      obtain ⟨C6, n6, t6, -⟩ := hP2.lists 6 (by omega)
      obtain ⟨C7, n7, t7, -⟩ := hP2.files
      have HRw : Hid (rowP k.p ss' fs' = #[.string k.p.name, .string k.p.evr, .string k.p.arch, .string k.p.vendor, .slice C0 (k.p.ls 0).length n0, .slice C1 (k.p.ls 1).length n1, .slice C2 (k.p.ls 2).length n2, .slice C3 (k.p.ls 3).length n3, .slice C4 (k.p.ls 4).length n4, .slice C5 (k.p.ls 5).length n5, .slice C6 (k.p.ls 6).length n6, .slice C7 k.p.files.length n7]) := by
        show rowP _ _ _ = _
        unfold rowP
        rw [t0, t1, t2, t3, t4, t5, t6, t7]
      rw [HRw.out]
      obtain ⟨wb, hwb⟩ : ∃ wb, wb = w2.alloc (.cells #[.string k.p.name, .string k.p.evr, .string k.p.arch, .string k.p.vendor, .slice C0 (k.p.ls 0).length n0, .slice C1 (k.p.ls 1).length n1, .slice C2 (k.p.ls 2).length n2, .slice C3 (k.p.ls 3).length n3, .slice C4 (k.p.ls 4).length n4, .slice C5 (k.p.ls 5).length n5, .slice C6 (k.p.ls 6).length n6, .slice C7 k.p.files.length n7] 44) := ⟨_, rfl⟩
      have hbb : Below w2.heap.size w2 wb := by rw [hwb]; exact (Below.refl _ _).alloc (Nat.le_refl _) _
      have K5 : Blk wb w2.heap.size 44 #[.string k.p.name, .string k.p.evr, .string k.p.arch, .string k.p.vendor, .slice C0 (k.p.ls 0).length n0, .slice C1 (k.p.ls 1).length n1, .slice C2 (k.p.ls 2).length n2, .slice C3 (k.p.ls 3).length n3, .slice C4 (k.p.ls 4).length n4, .slice C5 (k.p.ls 5).length n5, .slice C6 (k.p.ls 6).length n6, .slice C7 k.p.files.length n7] := by rw [hwb]; exact Blk.new _ _ _
      have hWb := (HW.out.later hb2).later hbb
      have HBW := Lib.hid hWb.below
      obtain ⟨Ai, ci, hrow, hi1, hi2⟩ := own_form' (hWb.own r)
      obtain ⟨m, hm⟩ : ∃ m, m = (pk r).length := ⟨_, rfl⟩
      rw [← hm] at hrow hi1
      have hmq : m ≤ 200 := by
        have h1 := congrArg List.length (HPk.out r)
        rw [List.length_map, ← hm] at h1
        unfold ofRep at h1
        rw [List.length_map] at h1
        have h2 := List.length_filter_le (fun k => k.rep == r) (ks.take q)
        have h3 := List.length_take_le q ks
        have h4 := HKS.out
        omega
      have HM := Lib.hid hmq
      have HC : Hid (∀ w', Below wb.heap.size wb w' → w'.cell? ⟨gR, r * 4 + 3, none⟩ = some (.slice Ai m ci) ∧ Blk w' w2.heap.size 44 #[.string k.p.name, .string k.p.evr, .string k.p.arch, .string k.p.vendor, .slice C0 (k.p.ls 0).length n0, .slice C1 (k.p.ls 1).length n1, .slice C2 (k.p.ls 2).length n2, .slice C3 (k.p.ls 3).length n3, .slice C4 (k.p.ls 4).length n4, .slice C5 (k.p.ls 5).length n5, .slice C6 (k.p.ls 6).length n6, .slice C7 k.p.files.length n7]) := fun w' hb => by
        obtain ⟨cur, hB, hsz, hcur⟩ := (hWb.later hb).blk (fun e => by have := HRn.out; rw [e] at this; simp at this)
        have := (hcur r _ (List.getElem?_eq_getElem HRn.out)).2.2.2
        rw [hrow] at this
        exact ⟨(hB.cell _).trans this, K5.below hb K5.lt⟩
      have hba : Below wb.heap.size wb (wb.drew.alloc (.cells #[.string k.p.name, .string k.p.evr, .string k.p.arch, .string k.p.vendor, .slice C0 (k.p.ls 0).length n0, .slice C1 (k.p.ls 1).length n1, .slice C2 (k.p.ls 2).length n2, .slice C3 (k.p.ls 3).length n3, .slice C4 (k.p.ls 4).length n4, .slice C5 (k.p.ls 5).length n5, .slice C6 (k.p.ls 6).length n6, .slice C7 k.p.files.length n7] 44)) := (Below.refl _ _).drew.alloc (Nat.le_refl _) _
      have HBA := Lib.hid hba
      have hWa := hWb.later hba
      have HO4 : Hid ((wb.drew.alloc (.cells #[.string k.p.name, .string k.p.evr, .string k.p.arch, .string k.p.vendor, .slice C0 (k.p.ls 0).length n0, .slice C1 (k.p.ls 1).length n1, .slice C2 (k.p.ls 2).length n2, .slice C3 (k.p.ls 3).length n3, .slice C4 (k.p.ls 4).length n4, .slice C5 (k.p.ls 5).length n5, .slice C6 (k.p.ls 6).length n6, .slice C7 k.p.files.length n7] 44)).ownsRow w.heap.size 44 12 (.slice Ai m ci) m (cells12 (pk r))) := by
        have := hWa.own r
        rw [hrow, ← hm] at this
        exact this
      have HN : Hid (∀ v4 w4, w4.ownsRow w.heap.size 44 12 v4 (m + 1) (cells12 (pk r) ++ [.string k.p.name, .string k.p.evr, .string k.p.arch, .string k.p.vendor, .slice C0 (k.p.ls 0).length n0, .slice C1 (k.p.ls 1).length n1, .slice C2 (k.p.ls 2).length n2, .slice C3 (k.p.ls 3).length n3, .slice C4 (k.p.ls 4).length n4, .slice C5 (k.p.ls 5).length n5, .slice C6 (k.p.ls 6).length n6, .slice C7 k.p.files.length n7]) → (wb.drew.alloc (.cells #[.string k.p.name, .string k.p.evr, .string k.p.arch, .string k.p.vendor, .slice C0 (k.p.ls 0).length n0, .slice C1 (k.p.ls 1).length n1, .slice C2 (k.p.ls 2).length n2, .slice C3 (k.p.ls 3).length n3, .slice C4 (k.p.ls 4).length n4, .slice C5 (k.p.ls 5).length n5, .slice C6 (k.p.ls 6).length n6, .slice C7 k.p.files.length n7] 44)).grownBy w4 (Value.slice Ai m ci).ownBlock → (v4.ownBlock = (Value.slice Ai m ci).ownBlock ∨ v4.ownBlock = some (wb.drew.alloc (.cells #[.string k.p.name, .string k.p.evr, .string k.p.arch, .string k.p.vendor, .slice C0 (k.p.ls 0).length n0, .slice C1 (k.p.ls 1).length n1, .slice C2 (k.p.ls 2).length n2, .slice C3 (k.p.ls 3).length n3, .slice C4 (k.p.ls 4).length n4, .slice C5 (k.p.ls 5).length n5, .slice C6 (k.p.ls 6).length n6, .slice C7 k.p.files.length n7] 44)).heap.size) →
          (∃ cur, Blk w4 gR 33 cur ∧ r * 4 + 3 < cur.size ∧ cur[r * 4 + 3]? = some (.slice Ai m ci)) ∧ ∃ pk' rows' S' T', WhSt w (w4.setCell ⟨gR, r * 4 + 3, none⟩ v4) gR reps pk' rows' S' T' ∧ ∀ i, (pk' i).map PkE.p = ofRep (ks.take (q + 1)) i) := fun v4 w4 hown hg hat => by
        have h2a : Below w2.heap.size w2 (wb.drew.alloc (.cells #[.string k.p.name, .string k.p.evr, .string k.p.arch, .string k.p.vendor, .slice C0 (k.p.ls 0).length n0, .slice C1 (k.p.ls 1).length n1, .slice C2 (k.p.ls 2).length n2, .slice C3 (k.p.ls 3).length n3, .slice C4 (k.p.ls 4).length n4, .slice C5 (k.p.ls 5).length n5, .slice C6 (k.p.ls 6).length n6, .slice C7 k.p.files.length n7] 44)) := hbb.trans (hba.mono hbb.size)
        have hnx := WhSt.next (e := ⟨k.p, ss', fs'⟩) (r := r) hWa HRn.out (hP2.below h2a) (hC2.stay (StayS.below' h2a)) (hT2.stay (StayS.below' h2a)) (fun b hb => by
          have z1 := HW.out.below.size
          have z2 := hb2.size
          rcases hb with hb | hb
          · have := hfS b hb; omega
          · have := hfT b hb; omega) (by rw [hrow]; exact hg) (by rw [← hm]; show w4.ownsRow _ _ 12 v4 (m + 1) (cells12 (pk r) ++ (rowP k.p ss' fs').toList); rw [HRw.out]; exact hown) (by rw [hrow]; exact hat)
        rw [hrow] at hnx
        refine ⟨hnx.1, _, _, _, _, hnx.2, fun i => ?_⟩
        have htk : ks.take (q + 1) = ks.take q ++ [k] := by rw [List.take_add_one, HKq.out]; rfl
        rw [htk, ofRep_snoc, ← HR.out, ← HPk.out i]
        by_cases hi : i = r
        · subst hi; simp
        · simp [hi]
      have HIP := Lib.hid info_pack12
      have HWb := Lib.hid hwb
      clear t0 t1 t2 t3 t4 t5 t6 t7 hP2 hC2 hT2 hfS hfT hb2 hbb K5 hWb hWa hba hrow hi1 hi2 hm hmq CP HW HPk HRw HKq HR
      go_upto_region 6 with fail
      rw [← HWb.out]
      clear HWb hwb
      rename_i K hK
      refine wp_region_S (SB2 9 8 wb) (by kernel_rfl) ⟨fun _ => (Below.refl _ _).drew, fun _ => (Below.refl _ _).drew⟩ (fun hS => ?_)
      refine wpAnyS_take (i := 0) (fun w' => True) (v := .slice (some ⟨gR, 0, none⟩) n c3) rfl (by kernel_rfl) (by kernel_rfl) (by kernel_rfl) (fun _ _ _ h => h) (fun _ _ _ _ => trivial) (SB2.io (by decide)) (by kernel_rfl) hS (fun w' hSw => ?_) (by rfl) (fun hS => ?_)
      · go_simp
      try simp only [List.getElem_toArray, List.getElem_cons_zero, List.getElem_cons_succ, Act.put, List.setIfInBounds_toArray, List.set_cons_zero, List.set_cons_succ]
      refine wpAnyS_take (i := 1) (fun w' => True) (v := .int .i64 (r : Int)) rfl (by kernel_rfl) (by kernel_rfl) (by kernel_rfl) (fun _ _ _ h => h) (fun _ _ _ _ => trivial) (SB2.io (by decide)) (by kernel_rfl) hS (fun w' hSw => ?_) (by rfl) (fun hS => ?_)
      · go_simp
      try simp only [List.getElem_toArray, List.getElem_cons_zero, List.getElem_cons_succ, Act.put, List.setIfInBounds_toArray, List.set_cons_zero, List.set_cons_succ]
      refine wpAnyS_take (i := 2) (fun w' => True) (v := .slice (some ⟨gR, 0, none⟩) n c3) rfl (by kernel_rfl) (by kernel_rfl) (by kernel_rfl) (fun _ _ _ h => h) (fun _ _ _ _ => trivial) (SB2.io (by decide)) (by kernel_rfl) hS (fun w' hSw => ?_) (by rfl) (fun hS => ?_)
      · go_simp
      try simp only [List.getElem_toArray, List.getElem_cons_zero, List.getElem_cons_succ, Act.put, List.setIfInBounds_toArray, List.set_cons_zero, List.set_cons_succ]
      refine wpAnyS_take (i := 3) (fun w' => True) (v := .int .i64 (r : Int)) rfl (by kernel_rfl) (by kernel_rfl) (by kernel_rfl) (fun _ _ _ h => h) (fun _ _ _ _ => trivial) (SB2.io (by decide)) (by kernel_rfl) hS (fun w' hSw => ?_) (by rfl) (fun hS => ?_)
      · go_simp
      try simp only [List.getElem_toArray, List.getElem_cons_zero, List.getElem_cons_succ, Act.put, List.setIfInBounds_toArray, List.set_cons_zero, List.set_cons_succ]
      refine wpAnyS_take (i := 4) (fun w' => True) (v := .pointer (some ⟨gR, r * 4, none⟩)) rfl (by kernel_rfl) (by kernel_rfl) (by kernel_rfl) (fun _ _ _ h => h) (fun _ _ _ _ => trivial) (SB2.io (by decide)) (by kernel_rfl) hS (fun w' hSw => ?_) (by rfl) (fun hS => ?_)
      · go_simp
      try simp only [List.getElem_toArray, List.getElem_cons_zero, List.getElem_cons_succ, Act.put, List.setIfInBounds_toArray, List.set_cons_zero, List.set_cons_succ]
      refine wpAnyS_take (i := 5) (fun w' => True) (v := .pointer (some ⟨gR, r * 4 + 3, none⟩)) rfl (by kernel_rfl) (by kernel_rfl) (by kernel_rfl) (fun _ _ _ h => h) (fun _ _ _ _ => trivial) (SB2.io (by decide)) (by kernel_rfl) hS (fun w' hSw => ?_) (by rfl) (fun hS => ?_)
      · go_simp
      try simp only [List.getElem_toArray, List.getElem_cons_zero, List.getElem_cons_succ, Act.put, List.setIfInBounds_toArray, List.set_cons_zero, List.set_cons_succ]
      refine wpAnyS_take (i := 6) (fun w' => w'.cell? ⟨gR, r * 4 + 3, none⟩ = some (.slice Ai m ci)) (v := .slice Ai m ci) rfl (by kernel_rfl) (by kernel_rfl) (by kernel_rfl) (fun _ _ _ h => h) (fun l w' hw hS => (HC.out w' (hS.1 (hw 9 (by kernel_rfl)))).1) (SB2.io (by decide)) (by kernel_rfl) hS (fun w' hSw => ?_) (by rfl) (fun hS => ?_)
      · go_simp
      try simp only [List.getElem_toArray, List.getElem_cons_zero, List.getElem_cons_succ, Act.put, List.setIfInBounds_toArray, List.set_cons_zero, List.set_cons_succ]
      refine wpAnyS_take (i := 7) (fun w' => Blk w' w2.heap.size 44 #[.string k.p.name, .string k.p.evr, .string k.p.arch, .string k.p.vendor, .slice C0 (k.p.ls 0).length n0, .slice C1 (k.p.ls 1).length n1, .slice C2 (k.p.ls 2).length n2, .slice C3 (k.p.ls 3).length n3, .slice C4 (k.p.ls 4).length n4, .slice C5 (k.p.ls 5).length n5, .slice C6 (k.p.ls 6).length n6, .slice C7 k.p.files.length n7]) (v := .agg #[.string k.p.name, .string k.p.evr, .string k.p.arch, .string k.p.vendor, .slice C0 (k.p.ls 0).length n0, .slice C1 (k.p.ls 1).length n1, .slice C2 (k.p.ls 2).length n2, .slice C3 (k.p.ls 3).length n3, .slice C4 (k.p.ls 4).length n4, .slice C5 (k.p.ls 5).length n5, .slice C6 (k.p.ls 6).length n6, .slice C7 k.p.files.length n7]) rfl (by kernel_rfl) (by kernel_rfl) (by kernel_rfl) (fun _ _ _ h => h) (fun l w' hw hS => (HC.out w' (hS.2 (hw 8 (by kernel_rfl)))).2) (SB2.io (by decide)) (by kernel_rfl) hS (fun w' hSw => ?_) (by rfl) (fun hS => ?_)
      · have q0 := hSw.cell 0
        have q1 := hSw.cell 1
        have q2 := hSw.cell 2
        have q3 := hSw.cell 3
        have q4 := hSw.cell 4
        have q5 := hSw.cell 5
        have q6 := hSw.cell 6
        have q7 := hSw.cell 7
        have q8 := hSw.cell 8
        have q9 := hSw.cell 9
        have q10 := hSw.cell 10
        have q11 := hSw.cell 11
        simp at q0 q1 q2 q3 q4 q5 q6 q7 q8 q9 q10 q11
        clear hSw
        go_simp
      try simp only [List.getElem_toArray, List.getElem_cons_zero, List.getElem_cons_succ, Act.put, List.setIfInBounds_toArray, List.set_cons_zero, List.set_cons_succ]
      refine wpAnyS_one (i := 8) (by kernel_rfl) rfl (fun K7 hK7 => ?_)
      go_simp
      refine hK7.out _ _ ⟨fun _ => HBA.out, fun h => by cases h⟩ (fun hS => ?_)
      clear hK7 K7
      try simp only [List.getElem_toArray, List.getElem_cons_zero, List.getElem_cons_succ, Act.put, List.setIfInBounds_toArray, List.set_cons_zero, List.set_cons_succ]
      obtain ⟨i0, z0, hi0, hz0, hz1, hz2, hz3⟩ := HIP.out
      refine wpAnyS_one (i := 9) (by kernel_rfl) rfl (fun K7 hK7 => ?_)
      refine step_append_at rfl (.tmp 28) (.tmp 30) 31 rfl w.heap.size 44 i0 z0 12 256 Tryz.underlying31 hi0 hz0 hz2 hz3 hz1 (by decide) (.slice Ai m ci) m (cells12 (pk r)) rfl HO4.out ⟨wb.heap.size, 0, none⟩ 1 1 ([.string k.p.name, .string k.p.evr, .string k.p.arch, .string k.p.vendor, .slice C0 (k.p.ls 0).length n0, .slice C1 (k.p.ls 1).length n1, .slice C2 (k.p.ls 2).length n2, .slice C3 (k.p.ls 3).length n3, .slice C4 (k.p.ls 4).length n4, .slice C5 (k.p.ls 5).length n5, .slice C6 (k.p.ls 6).length n6, .slice C7 k.p.files.length n7]) rfl rfl (cells_new wb.drew #[.string k.p.name, .string k.p.evr, .string k.p.arch, .string k.p.vendor, .slice C0 (k.p.ls 0).length n0, .slice C1 (k.p.ls 1).length n1, .slice C2 (k.p.ls 2).length n2, .slice C3 (k.p.ls 3).length n3, .slice C4 (k.p.ls 4).length n4, .slice C5 (k.p.ls 5).length n5, .slice C6 (k.p.ls 6).length n6, .slice C7 k.p.files.length n7] _) (by intro u hu; simp at hu; rcases hu with rfl | rfl | rfl | rfl | rfl | rfl | rfl | rfl | rfl | rfl | rfl | rfl <;> rfl) (by have := HM.out; unfold maxLen; omega) (by have := HM.out; omega) (by have h1 := HBW.out.size; show w.heap.size ≤ _; simp; omega) ?_
      intro v4 w4 hown4 hg4 hat4
      obtain ⟨A4, c4, rfl, _, _⟩ := own_form' hown4
      have hnx := HN.out _ _ hown4 hg4 hat4
      obtain ⟨cur, hcur, hne, hcz⟩ := hnx.1
      have f3 := hcur.free (r * 4 + 3)
      have q3 := (hcur.cell (r * 4 + 3)).trans hcz
      have HV := Lib.hid hnx.2
      clear hnx hown4 hg4 hat4 hcur
      refine hK7.out _ _ ⟨(fun h => by cases h), (fun h => by cases h)⟩ (fun hS => ?_)
      clear hK7 K7
      try simp only [List.getElem_toArray, List.getElem_cons_zero, List.getElem_cons_succ, Act.put, List.setIfInBounds_toArray, List.set_cons_zero, List.set_cons_succ]
      refine wpAnyS_one (i := 10) (by kernel_rfl) rfl (fun K7 hK7 => ?_)
      go_simp
      refine hK7.out _ _ ⟨(fun h => by cases h), (fun h => by cases h)⟩ (fun hS => ?_)
      clear hK7 K7
      try simp only [List.getElem_toArray, List.getElem_cons_zero, List.getElem_cons_succ, Act.put, List.setIfInBounds_toArray, List.set_cons_zero, List.set_cons_succ]
      refine wpAnyS_one (i := 11) (by kernel_rfl) rfl (fun K7 hK7 => ?_)
      go_simp
      refine hK7.out _ _ ⟨(fun h => by cases h), (fun h => by cases h)⟩ (fun hS => ?_)
      clear hK7 K7
      try simp only [List.getElem_toArray, List.getElem_cons_zero, List.getElem_cons_succ, Act.put, List.setIfInBounds_toArray, List.set_cons_zero, List.set_cons_succ]
      refine wpAnyS_one (i := 12) (by kernel_rfl) rfl (fun K7 hK7 => ?_)
      go_simp
      refine hK7.out _ _ ⟨(fun h => by cases h), (fun h => by cases h)⟩ (fun hS => ?_)
      clear hK7 K7
      try simp only [List.getElem_toArray, List.getElem_cons_zero, List.getElem_cons_succ, Act.put, List.setIfInBounds_toArray, List.set_cons_zero, List.set_cons_succ]
      refine wpAnyS_done (by kernel_rfl) ?_ _
      clear hS
      refine hK _ _ ?_
      clear hK K
      go_wp2_with fail
      go_roundw
      case rel => exact ⟨q + 1, by omega, by go_num, HV⟩
      case measure => simp [intOf]; omega
    · obtain rfl : q = ks.length := by omega
      have HV : Hid (WholeNew w reps ks (.returned (.slice A3 n c3)) wr) := by
        obtain ⟨pk, rows, S, T, hW, hpk⟩ := HB.out
        rw [HN0.out]
        rw [List.take_length] at hpk
        exact hW.done HA3.out.1 (by have := HA3.out.2.1; rw [HN0.out] at this; exact this) HA3.out.2.2 hpk
      clear hlt HB
      go_wp2_with fail
      go_ret
      exact HV.out
end Go.Proofs.YtpmfmkpfjomgnaaGreatDoor

/- A reader's list of packages; its repository. -/
namespace Go.Proofs.YtpmfmkpfjomgnaaGreatDoor
set_option linter.unusedSimpArgs false
set_option linter.unusedVariables false
open Go.RowKit

/-- Packages that were read, in memory of their own. -/
def PListV (n0 : Nat) (ps : List Pkg) (v : Value) (w : World) (O : Nat → Prop) : Prop := ∃ A c S T U l, v = .slice A l.length c ∧ l.map PkE.p = ps ∧ l.length ≤ c ∧ c ≤ maxLen ∧ PacksAt w S T U l A ∧ CleanS w S ∧ CleanT w T ∧ OutS w O (fun b => (S b ∨ T b) ∨ U b) ∧ ∀ b, (S b ∨ T b) ∨ U b → n0 ≤ b
structure RLp (w wx : World) (base g : Nat) (O O' : Nat → Prop) (bs : ByteArray) (b0 o0 : Nat) (s' : RS) (r : List PkE) (vo : Value) (S T : Nat → Prop) : Prop where
  acc : Racc w wx base g O O' bs b0 o0 s'
  row : wx.ownsRow w.heap.size 44 12 vo r.length (cells12 r)
  lays : ∀ e ∈ r, PkgAt wx S T e.p e.ss e.fs
  clean : CleanS wx S
  cleanT : CleanT wx T
  outS : OutS wx O' S
  outT : OutS wx O' T
  far : ∀ b, S b ∨ T b → w.heap.size ≤ b
  bw : base ≤ w.heap.size
section
variable {w wx w2 w4 : World} {base g b0 o0 : Nat} {O O' O2 S T : Nat → Prop} {bs : ByteArray} {s' s2 : RS} {r : List PkE} {vo : Value}
theorem RLp.later (h : RLp w wx base g O O' bs b0 o0 s' r vo S T) (hb : Below wx.heap.size wx w2) : RLp w w2 base g O O' bs b0 o0 s' r vo S T :=
  ⟨h.acc.later hb, own_turnedP h.row (TurnedP.of_below hb fun _ => False) fun _ _ h => h, fun e he => (h.lays e he).below hb, h.clean.stay (StayS.below' hb), h.cleanT.stay (StayS.below' hb), OutS.below h.outS hb.size, OutS.below h.outT hb.size, h.far, h.bw⟩
theorem RLp.took (h : RLp w wx base g O O' bs b0 o0 s' r vo S T) (ht : TurnedP O' wx w2) (hA : RdAt w2 base g O2 bs b0 o0 s2) (ho : ∀ k, O2 k → O' k ∨ wx.heap.size ≤ k) : RLp w w2 base g O O2 bs b0 o0 s2 r vo S T :=
  ⟨h.acc.next ht hA ho, own_turnedP h.row ht (h.acc.at_.not_own h.row (by decide) (by decide)), fun e he => (h.lays e he).stay (fun _ h => h) (fun _ h => h) (out_stay h.outS ht) (out_stay h.outT ht), h.clean.stay (out_stay h.outS ht), h.cleanT.stay (out_stay h.outT ht), out_next h.outS ht ho, out_next h.outT ht ho, h.far, h.bw⟩
theorem RLp.put {S2 T2 : Nat → Prop} {e : PkE} {v4 : Value} (h : RLp w wx base g O O' bs b0 o0 s' r vo S T) (hP : PkgAt wx S2 T2 e.p e.ss e.fs) (hC : CleanS wx S2) (hT : CleanT wx T2) (hOS : OutS wx O' S2) (hOT : OutS wx O' T2) (hF : ∀ b, S2 b ∨ T2 b → w.heap.size ≤ b)
    (hg : wx.grownBy w4 vo.ownBlock) (hown : w4.ownsRow w.heap.size 44 12 v4 (r.length + 1) (cells12 r ++ (rowP e.p e.ss e.fs).toList)) : RLp w w4 base g O O' bs b0 o0 s' (r ++ [e]) v4 (fun b => S b ∨ S2 b) (fun b => T b ∨ T2 b) := by
  have ht1 : TurnedP (fun k => vo.ownBlock = some k) wx w4 := (TurnedP.refl _ _).grown hg fun k _ hk => hk
  have hno := h.acc.at_.not_own h.row (by decide) (by decide)
  have hst : ∀ U : Nat → Prop, (∀ b, U b → ∃ t cs, Blk wx b t cs ∧ t ≠ 44) → StayS U wx w4 := fun U hU b hb hl => ht1.block b hl fun hm => by
    obtain ⟨t, cs, hc, n1⟩ := hU b hb
    exact own_kind h.row hc (Ne.symm n1) hm
  have hS1 := hst S fun b hb => by obtain ⟨cs, hc⟩ := h.clean b hb; exact ⟨_, cs, hc, by decide⟩
  have hT1 := hst T fun b hb => by obtain ⟨cs, hc⟩ := h.cleanT b hb; exact ⟨_, cs, hc, by decide⟩
  have hS2 := hst S2 fun b hb => by obtain ⟨cs, hc⟩ := hC b hb; exact ⟨_, cs, hc, by decide⟩
  have hT2 := hst T2 fun b hb => by obtain ⟨cs, hc⟩ := hT b hb; exact ⟨_, cs, hc, by decide⟩
  refine ⟨h.acc.grown hg (fun k hk => ⟨hno k hk, (h.row.lt k hk).1⟩) h.bw, ?_, fun x hx => ?_, fun b hb => hb.elim (h.clean.stay hS1 b) (hC.stay hS2 b), fun b hb => hb.elim (h.cleanT.stay hT1 b) (hT.stay hT2 b), fun b hb => hb.elim ((OutS.below h.outS hg.size) b) ((OutS.below hOS hg.size) b), fun b hb => hb.elim ((OutS.below h.outT hg.size) b) ((OutS.below hOT hg.size) b), fun b hb => ?_, h.bw⟩
  · rw [List.length_append, cells12_append]
    have : cells12 [e] = (rowP e.p e.ss e.fs).toList := by simp [cells12]
    rw [this]
    exact hown
  · rcases List.mem_append.1 hx with hx | hx
    · exact (h.lays x hx).stay (fun _ h => .inl h) (fun _ h => .inl h) hS1 hT1
    · simp at hx; subst hx
      exact hP.stay (fun _ h => .inr h) (fun _ h => .inr h) hS2 hT2
  · rcases hb with (hb | hb) | (hb | hb)
    · exact h.far b (.inl hb)
    · exact hF b (.inl hb)
    · exact h.far b (.inr hb)
    · exact hF b (.inr hb)
theorem RLp.done (h : RLp w wx base g O O' bs b0 o0 s' r vo S T) : PListV w.heap.size (r.map PkE.p) vo wx O' := by
  have hno := h.acc.at_.not_own h.row (by decide) (by decide)
  obtain ⟨A, c, hv, h1, h2⟩ := own_form' h.row
  refine ⟨A, c, S, T, fun b => vo.ownBlock = some b, r, hv, rfl, h1, h2, fun j x hx => ?_, h.clean, h.cleanT, fun b hb => ?_, fun b hb => ?_⟩
  · have hO := h.row
    rw [hv] at hO
    have hcell := fun (t : Nat) (ht : t < 12) => cells12_at hx ht
    have h0 : (cells12 r)[j * 12 + 0]? = some (.string x.p.name) := (hcell 0 (by omega)).trans rfl
    obtain ⟨b, e1, -⟩ := own_ats hO h0
    subst e1
    refine ⟨b, 0, rfl, by rw [hv]; rfl, fun t ht => ?_, h.lays x (List.mem_of_getElem? hx)⟩
    obtain ⟨u, hu⟩ : ∃ u, (rowP x.p x.ss x.fs)[t]? = some u := ⟨_, Array.getElem?_eq_getElem (show t < (rowP x.p x.ss x.fs).size from ht)⟩
    rw [hu, Nat.zero_add]
    obtain ⟨b', e2, hcx⟩ := own_ats hO ((hcell t ht).trans hu)
    injection e2 with e2
    injection e2 with e2
    subst e2
    exact hcx
  · rcases hb with (hb | hb) | hb
    · exact h.outS b hb
    · exact h.outT b hb
    · exact ⟨hno b hb, (h.row.lt b hb).2⟩
  · rcases hb with (hb | hb) | hb
    · exact h.far b (.inl hb)
    · exact h.far b (.inr hb)
    · exact (h.row.lt b hb).1
end
set_option maxHeartbeats 8000000 in
set_option maxRecDepth 100000 in
theorem readPacks_any {w : World} {base g b0 o0 : Nat} {O : Nat → Prop} {bs : ByteArray} {s : RS} (h : RdAt w base g O bs b0 o0 s) (hz : bs.size ≤ 1048576) :
    Calls Tryz.prog 171 #[.pointer (some ⟨g, 0, none⟩), .int .i64 200, .func (.func 172) #[.pointer (some ⟨g, 0, none⟩)] #[]] w (TookM w base g O bs b0 o0 (decList bs (decPkg bs) 200 s) (PListV w.heap.size)) := by
  have C := Lib.hid (rcount_any h hz 200)
  have ef := enters_of Tryz.func172 (by kernel_rfl) rfl
  have HID := Lib.hid info_pack12
  have HBw : Hid (base ≤ w.heap.size) := by obtain ⟨A, c, vt, hS⟩ := h; have h1 := hS.gfar; have h2 := hS.blk.lt; show base ≤ _; omega
  clear h
  cases hd : decCount bs 200 s with
  | none =>
    rw [hd] at C
    have HE : Hid (decList bs (decPkg bs) 200 s = none) := by show decList bs (decPkg bs) 200 s = none; unfold decList; rw [hd]; rfl
    clear hd
    go_enter Tryz.func171, Tryz.ntmps171
    go_wp2_with fail
    refine C.out.mono ?_
    rintro e w1 ⟨ht, he⟩
    have HV : Hid (TookM w base g O bs b0 o0 (decList bs (decPkg bs) 200 s) (PListV w.heap.size) (gaveUp 90) w1) := by rw [HE.out]; exact ⟨ht, rfl⟩
    obtain rfl := he
    clear ht C
    unfold gaveUp
    go_wp2_with fail
    exact ⟨rfl, HV.out⟩
  | some x =>
    obtain ⟨n, s1⟩ := x
    rw [hd] at C
    have HE : Hid (decList bs (decPkg bs) 200 s = decN (decPkg bs) n s1) := by show decList bs (decPkg bs) 200 s = _; unfold decList; rw [hd]; rfl
    have hn16 : n ≤ 200 := by
      unfold decCount at hd
      cases hq : decNum bs s with
      | none => rw [hq] at hd; cases hd
      | some y =>
        rw [hq] at hd
        simp only [Option.bind_some] at hd
        split at hd
        · injection hd with hd; injection hd with hd; omega
        · cases hd
    clear hd
    go_enter Tryz.func171, Tryz.ntmps171
    go_wp2_with fail
    refine C.out.mono ?_
    rintro e w1 ⟨ht, v, rfl, hv, O1, hA1, hO1⟩
    obtain rfl := hv
    replace hA1 : RdAt w1 base g O1 bs b0 o0 s1 := hA1
    have H0 : Hid (∃ O' s' r S T, RLp w w1 base g O O' bs b0 o0 s' r (.slice none 0 0) S T ∧ r.length = 0 ∧ Rest (decPkg bs) n s1 (r.map PkE.p) s') :=
      ⟨O1, s1, [], fun _ => False, fun _ => False, ⟨⟨hA1, ht, hO1⟩, World.ownsRow_nil _ _ _ _, (fun x hx => by cases hx), (fun b hb => hb.elim), (fun b hb => hb.elim), (fun b hb => hb.elim), (fun b hb => hb.elim), (fun b hb => (hb.elim id id).elim), HBw.out⟩, rfl, Rest.start _ n s1⟩
    clear ht hA1 hO1 C
    go_wp2_with fail
    go_loopw [7, 11] (fun v7 v wx => ∃ k : Nat, k ≤ n ∧ v = .int .i64 (k : Int) ∧ Hid (∃ O' s' r S T, RLp w wx base g O O' bs b0 o0 s' r v7 S T ∧ r.length = k ∧ Rest (decPkg bs) n s1 (r.map PkE.p) s')) (fun _ v _ => n - (intOf v).toNat)
    case atStart => exact ⟨0, Nat.zero_le _, rfl, H0⟩
    case round =>
      clear H0
      obtain ⟨k, hk, rfl, HB⟩ := hrel
      obtain ⟨O', s', r, S, T, hR, hrk, hRest⟩ := HB.out
      obtain ⟨Av, cv, rfl, hv1, hv2⟩ := own_form' hR.row
      by_cases hlt : k < n
      · have CF := Lib.hid (rpack_any hz wr O' s' hR.acc.at_)
        have HR := Lib.hid hR
        have HRest := Lib.hid hRest
        have HRk := Lib.hid hrk
        clear HB hR hRest hrk
        cases hf : decPkg bs s' with
        | none =>
          rw [hf] at CF
          have HX : Hid (decList bs (decPkg bs) 200 s = none) := by show decList bs (decPkg bs) 200 s = none; rw [HE.out]; exact HRest.out.fails (by rw [List.length_map, HRk.out]; exact hlt) hf
          clear hf
          go_wp2_with fail
          refine CF.out.mono ?_
          rintro e w2 ⟨ht, he⟩
          have HV : Hid (TookM w base g O bs b0 o0 (decList bs (decPkg bs) 200 s) (PListV w.heap.size) (gaveUp 90) w2) := by rw [HX.out]; exact ⟨HR.out.acc.gone ht, rfl⟩
          obtain rfl := he
          clear ht CF
          unfold gaveUp
          go_wp2_with fail
          exact ⟨rfl, HV.out⟩
        | some y =>
          obtain ⟨p, s2⟩ := y
          rw [hf] at CF
          have HN : Hid (Rest (decPkg bs) n s1 (r.map PkE.p ++ [p]) s2) := HRest.out.next (by rw [List.length_map, HRk.out]; exact hlt) hf
          clear hf
          go_wp2_with fail
          refine CF.out.mono ?_
          rintro e w2 ⟨ht, v, O2, rfl, hA2, hO2, ss, fs, S2, T2, rfl, hP2, hC2, hT2, hOS2, hOT2, hF2⟩
          replace hA2 : RdAt w2 base g O2 bs b0 o0 s2 := hA2
          obtain ⟨C0, n0, t0, -⟩ := hP2.lists 0 (by omega)
          obtain ⟨C1, n1, t1, -⟩ := hP2.lists 1 (by omega)
          obtain ⟨C2, n2, t2, -⟩ := hP2.lists 2 (by omega)
          obtain ⟨C3, n3, t3, -⟩ := hP2.lists 3 (by omega)
          obtain ⟨C4, n4, t4, -⟩ := hP2.lists 4 (by omega)
          obtain ⟨C5, n5, t5, -⟩ := hP2.lists 5 (by omega)
          obtain ⟨C6, n6, t6, -⟩ := hP2.lists 6 (by omega)
          obtain ⟨C7, n7, t7, -⟩ := hP2.files
          have HRw : Hid (rowP p ss fs = #[.string p.name, .string p.evr, .string p.arch, .string p.vendor, .slice C0 (p.ls 0).length n0, .slice C1 (p.ls 1).length n1, .slice C2 (p.ls 2).length n2, .slice C3 (p.ls 3).length n3, .slice C4 (p.ls 4).length n4, .slice C5 (p.ls 5).length n5, .slice C6 (p.ls 6).length n6, .slice C7 p.files.length n7]) := by
            show rowP _ _ _ = _
            unfold rowP
            rw [t0, t1, t2, t3, t4, t5, t6, t7]
          rw [show rowP (p, s2).1 ss fs = rowP p ss fs from rfl, HRw.out]
          have hba : Below w2.heap.size w2 (w2.alloc (.cells #[.string p.name, .string p.evr, .string p.arch, .string p.vendor, .slice C0 (p.ls 0).length n0, .slice C1 (p.ls 1).length n1, .slice C2 (p.ls 2).length n2, .slice C3 (p.ls 3).length n3, .slice C4 (p.ls 4).length n4, .slice C5 (p.ls 5).length n5, .slice C6 (p.ls 6).length n6, .slice C7 p.files.length n7] 44)) := (Below.refl _ _).alloc (Nat.le_refl _) _
          have hR2 := HR.out.took ht hA2 hO2
          have hR3 := hR2.later hba
          have HR3 := Lib.hid hR3
          have HO3 : Hid ((w2.alloc (.cells #[.string p.name, .string p.evr, .string p.arch, .string p.vendor, .slice C0 (p.ls 0).length n0, .slice C1 (p.ls 1).length n1, .slice C2 (p.ls 2).length n2, .slice C3 (p.ls 3).length n3, .slice C4 (p.ls 4).length n4, .slice C5 (p.ls 5).length n5, .slice C6 (p.ls 6).length n6, .slice C7 p.files.length n7] 44)).ownsRow w.heap.size 44 12 (.slice Av r.length cv) r.length (cells12 r)) := hR3.row
          have HP : Hid (∀ v4 w4, (w2.alloc (.cells #[.string p.name, .string p.evr, .string p.arch, .string p.vendor, .slice C0 (p.ls 0).length n0, .slice C1 (p.ls 1).length n1, .slice C2 (p.ls 2).length n2, .slice C3 (p.ls 3).length n3, .slice C4 (p.ls 4).length n4, .slice C5 (p.ls 5).length n5, .slice C6 (p.ls 6).length n6, .slice C7 p.files.length n7] 44)).grownBy w4 (Value.slice Av r.length cv).ownBlock → w4.ownsRow w.heap.size 44 12 v4 (r.length + 1) (cells12 r ++ [.string p.name, .string p.evr, .string p.arch, .string p.vendor, .slice C0 (p.ls 0).length n0, .slice C1 (p.ls 1).length n1, .slice C2 (p.ls 2).length n2, .slice C3 (p.ls 3).length n3, .slice C4 (p.ls 4).length n4, .slice C5 (p.ls 5).length n5, .slice C6 (p.ls 6).length n6, .slice C7 p.files.length n7]) → (v4.ownBlock = (Value.slice Av r.length cv).ownBlock ∨ v4.ownBlock = some (w2.alloc (.cells #[.string p.name, .string p.evr, .string p.arch, .string p.vendor, .slice C0 (p.ls 0).length n0, .slice C1 (p.ls 1).length n1, .slice C2 (p.ls 2).length n2, .slice C3 (p.ls 3).length n3, .slice C4 (p.ls 4).length n4, .slice C5 (p.ls 5).length n5, .slice C6 (p.ls 6).length n6, .slice C7 p.files.length n7] 44)).heap.size) →
              ∃ O' s' r' S T, RLp w w4 base g O O' bs b0 o0 s' r' v4 S T ∧ r'.length = k + 1 ∧ Rest (decPkg bs) n s1 (r'.map PkE.p) s') := fun v4 w4 hg hown hat =>
            ⟨O2, s2, r ++ [⟨p, ss, fs⟩], _, _, HR3.out.put (e := ⟨p, ss, fs⟩) (hP2.below hba) (hC2.stay (StayS.below' hba)) (hT2.stay (StayS.below' hba)) (OutS.below hOS2 hba.size) (OutS.below hOT2 hba.size) (fun b hb => by have := hF2 b hb; have := HR.out.acc.turned.size; omega) hg (by show w4.ownsRow _ _ 12 v4 (r.length + 1) (cells12 r ++ (rowP p ss fs).toList); rw [HRw.out]; exact hown), by rw [List.length_append, HRk.out]; rfl, by rw [List.map_append]; exact HN.out⟩
          have HBz : Hid (w.heap.size ≤ w2.heap.size) := hR2.acc.turned.size
          have hr16 : r.length ≤ 200 := by have := HRk.out; omega
          have HR16 := Lib.hid hr16
          clear ht hA2 hO2 hba hR2 hR3 CF hr16 hP2 hC2 hT2 hOS2 hOT2 hF2 t0 t1 t2 t3 t4 t5 t6 t7
          obtain ⟨i0, z0, hi0, hz0, hz1, hz2, hz3⟩ := HID.out
          go_wp2_with (at_builtin; refine wpList_append_own_at _ rfl (.tmp 13) (.tmp 16) 31 rfl w.heap.size 44 i0 z0 12 256 Tryz.underlying31 hi0 hz0 hz2 hz3 hz1 (by decide) (.slice Av r.length cv) r.length (cells12 r) rfl HO3.out ⟨w2.heap.size, 0, none⟩ 1 1 [.string p.name, .string p.evr, .string p.arch, .string p.vendor, .slice C0 (p.ls 0).length n0, .slice C1 (p.ls 1).length n1, .slice C2 (p.ls 2).length n2, .slice C3 (p.ls 3).length n3, .slice C4 (p.ls 4).length n4, .slice C5 (p.ls 5).length n5, .slice C6 (p.ls 6).length n6, .slice C7 p.files.length n7] rfl rfl (cells_new w2 #[.string p.name, .string p.evr, .string p.arch, .string p.vendor, .slice C0 (p.ls 0).length n0, .slice C1 (p.ls 1).length n1, .slice C2 (p.ls 2).length n2, .slice C3 (p.ls 3).length n3, .slice C4 (p.ls 4).length n4, .slice C5 (p.ls 5).length n5, .slice C6 (p.ls 6).length n6, .slice C7 p.files.length n7] _) (by intro u hu; simp at hu; rcases hu with rfl | rfl | rfl | rfl | rfl | rfl | rfl | rfl | rfl | rfl | rfl | rfl <;> rfl) (by have := HR16.out; unfold maxLen; omega) (by have := HR16.out; omega) (by have := HBz.out; simp; omega) ?_; intro v4 w4 hown4 hg4 hnil4 hat4; have HX := Lib.hid (HP.out v4 w4 hg4 hown4 hat4); clear hown4 hg4 hnil4 hat4)
          go_roundw
          case rel => exact ⟨k + 1, by omega, by go_num, HX⟩
          case measure => simp [intOf]; omega
      · obtain rfl : k = n := by omega
        have HV : Hid (TookM w base g O bs b0 o0 (decList bs (decPkg bs) 200 s) (PListV w.heap.size) (.returned (.slice Av r.length cv)) wr) := by
          rw [HE.out, hRest.done (by rw [List.length_map]; exact hrk)]
          exact ⟨hR.acc.turned, _, O', rfl, hR.acc.at_, hR.acc.own, hR.done⟩
        rw [hrk] at HV ⊢
        clear hlt HB hR hRest
        go_wp2_with fail
        go_ret
        exact HV.out
end Go.Proofs.YtpmfmkpfjomgnaaGreatDoor

/- A reader's repository. -/
namespace Go.Proofs.YtpmfmkpfjomgnaaGreatDoor
set_option linter.unusedSimpArgs false
set_option linter.unusedVariables false
open Go.RowKit

def zr4 : Array Value := #[.string ⟨#[]⟩, .int .i64 0, .bool false, .slice none 0 0]
structure RoS (w wx : World) (base g : Nat) (O O' : Nat → Prop) (bs : ByteArray) (b0 o0 : Nat) (s' : RS) (cs : Array Value) : Prop where
  acc : Racc w wx base g O O' bs b0 o0 s'
  out : OutS wx O' (Dx w.heap.size)
  kd : Blk wx (w.heap.size + 1) 33 cs
  kr : Blk wx w.heap.size 33 zr4
  bw : base ≤ w.heap.size
section
variable {w wx w2 : World} {base g b0 o0 : Nat} {O O' O2 : Nat → Prop} {bs : ByteArray} {s' s2 : RS} {cs : Array Value}
theorem RoS.next (h : RoS w wx base g O O' bs b0 o0 s' cs) (ht : TurnedP O' wx w2) (hA : RdAt w2 base g O2 bs b0 o0 s2) (ho : ∀ k, O2 k → O' k ∨ wx.heap.size ≤ k) : RoS w w2 base g O O2 bs b0 o0 s2 cs :=
  ⟨h.acc.next ht hA ho, out_next h.out ht ho, h.kd.turnedP ht (h.out _ (.inr rfl)).1, h.kr.turnedP ht (h.out _ (.inl rfl)).1, h.bw⟩
theorem RoS.set_ (h : RoS w wx base g O O' bs b0 o0 s' cs) (i : Nat) (u : Value) : RoS w (wx.setCell ⟨w.heap.size + 1, i, none⟩ u) base g O O' bs b0 o0 s' (cs.setIfInBounds i u) := by
  have htQ : TurnedP (fun k => k = w.heap.size + 1) wx (wx.setCell ⟨w.heap.size + 1, i, none⟩ u) := set_eq _ _ _ _ _ (TurnedP.refl _ _)
  have hz := size_set wx ⟨w.heap.size + 1, i, none⟩ u
  refine ⟨⟨h.acc.at_.turned htQ fun k hk => ⟨fun ho => ?_, by have := h.bw; omega⟩, h.acc.turned.setCell (fun hl => by simp at hl; omega) _, h.acc.own⟩, fun b hb => ⟨(h.out b hb).1, by rw [hz]; exact (h.out b hb).2⟩, h.kd.set_ i u, h.kr.far (by simp) _, h.bw⟩
  subst hk
  exact (h.out _ (.inr rfl)).1 ho
end
set_option maxRecDepth 100000 in
theorem rload4 {w : World} {g : Nat} {x0 x1 x2 x3 : Value} (h : Blk w g 33 #[x0, x1, x2, x3]) : (loadVar 33 ⟨g, 0, none⟩).run Tryz.prog w = .ok (.agg #[x0, x1, x2, x3]) w := by
  have b0 := h.cell 0
  have b1 := h.cell 1
  have b2 := h.cell 2
  have b3 := h.cell 3
  simp at b0 b1 b2 b3
  clear h
  go_simp
def put4r (w : World) (g : Nat) (x0 x1 x2 x3 : Value) : World := (((w.setCell ⟨g, 0, none⟩ x0).setCell ⟨g, 1, none⟩ x1).setCell ⟨g, 2, none⟩ x2).setCell ⟨g, 3, none⟩ x3
theorem put4r_blk {w : World} {g : Nat} {t : TypeId} {y0 y1 y2 y3 : Value} (h : Blk w g t #[y0, y1, y2, y3]) (x0 x1 x2 x3 : Value) : Blk (put4r w g x0 x1 x2 x3) g t #[x0, x1, x2, x3] := (((h.set_ 0 x0).set_ 1 x1).set_ 2 x2).set_ 3 x3
theorem put4r_turned (w : World) (q : Nat) (x0 x1 x2 x3 : Value) : TurnedP (fun k => k = q) w (put4r w q x0 x1 x2 x3) := set_eq _ _ _ _ _ (set_eq _ _ _ _ _ (set_eq _ _ _ _ _ (set_eq _ _ _ _ _ (TurnedP.refl _ _))))
theorem PListV.stay {n0 q : Nat} {ps : List Pkg} {v : Value} {w w' : World} {O : Nat → Prop} (h : PListV n0 ps v w O) (ht : TurnedP (fun k => k = q) w w') (hq : q < n0) : PListV n0 ps v w' O := by
  obtain ⟨A, c, S, T, U, l, h1, h2, h3, h4, hP, hC, hT, hO, hF⟩ := h
  have hst : ∀ V : Nat → Prop, (∀ b, V b → n0 ≤ b) → StayS V w w' := fun V hV b hb hl => ht.block b hl (fun e => by have := hV b hb; omega)
  have hS := hst S fun b hb => hF b (.inl (.inl hb))
  have hTt := hst T fun b hb => hF b (.inl (.inr hb))
  exact ⟨A, c, S, T, U, l, h1, h2, h3, h4, hP.stay hS hTt (hst U fun b hb => hF b (.inr hb)), hC.stay hS, hT.stay hTt, OutS.below hO ht.size, hF⟩
/-- A repository that was read, in memory of its own. -/
def RepoV (n0 : Nat) (r : Rep × List Pkg) (v : Value) (w : World) (O : Nat → Prop) : Prop := ∃ x, v = .agg (rowRe r.1 x) ∧ PListV n0 r.2 x w O
theorem decRepo_last {bs : ByteArray} {s s1 s2 s3 : RS} {n : ByteArray} {p : Int} {i : Nat} (h1 : decText bs s = some (n, s1)) (h2 : decNum bs s1 = some (p, s2)) (h3 : decCount bs 1 s2 = some (i, s3)) :
    decRepo bs s = (decList bs (decPkg bs) 200 s3).bind fun l => some ((⟨n, p, decide (i = 1)⟩, l.1), l.2) := by unfold decRepo; rw [h1, Option.bind_some, h2, Option.bind_some, h3, Option.bind_some]
set_option maxHeartbeats 16000000 in
set_option maxRecDepth 100000 in
theorem rrepo_any {base g b0 o0 : Nat} {bs : ByteArray} (hz : bs.size ≤ 1048576) (w : World) (O : Nat → Prop) (s : RS) (hA : RdAt w base g O bs b0 o0 s) :
    Calls Tryz.prog 125 #[.pointer (some ⟨g, 0, none⟩)] w (TookM w base g O bs b0 o0 (decRepo bs s) (RepoV w.heap.size)) := by
  have hmf : ∀ (fn : Fn) (first cap : Array Value) (w : World), (Instr.makeFunc fn first cap).run Tryz.prog w = .ok (.func fn first cap) w := fun _ _ _ _ => rfl
  obtain ⟨w1, hw1⟩ : ∃ w1, w1 = w.alloc (.cells zr4 33) := ⟨_, rfl⟩
  obtain ⟨w2, hw2⟩ : ∃ w2, w2 = w1.alloc (.cells zr4 33) := ⟨_, rfl⟩
  have hz1 : w1.heap.size = w.heap.size + 1 := by rw [hw1]; simp
  have hb2 : Below w.heap.size w w2 := by rw [hw2, hw1]; exact ((Below.refl _ _).alloc (Nat.le_refl _) _).alloc (by simp) _
  have HS0 : Hid (RoS w w2 base g O O bs b0 o0 s zr4) := by
    refine ⟨⟨hA.below hb2, TurnedP.of_below hb2 O, fun _ h => .inl h⟩, fun b hb => ⟨fun ho => by have := (hA.O_lt ho).2; rcases hb with rfl | rfl <;> omega, ?_⟩, ?_, ?_, ?_⟩
    · rw [hw2, World.size_alloc, hz1]
      rcases hb with rfl | rfl <;> omega
    · rw [hw2]; exact Blk.new' hz1
    · rw [hw2, hw1]; exact (Blk.new _ _ _).alloc _
    · obtain ⟨A, c, vt, hS⟩ := hA
      have h1 := hS.gfar; have h2 := hS.blk.lt; omega
  have HZ1 := Lib.hid hz1
  have HW2 := Lib.hid hw2
  have HW1 := Lib.hid hw1
  unfold zr4 at hw1 hw2 HS0
  have C0 := Lib.hid (rtext_any HS0.out.acc.at_ hz)
  clear hA hb2 hz1
  go_enter Tryz.func125, Tryz.ntmps125
  go_upto_region 1 with fail
  rw [← hw1]
  clear hw1
  go_upto_region 2 with fail
  rw [← hw2]
  try rw [HZ1.out]
  clear hw2
  go_wp2_with fail
  cases hd1 : decText bs s with
  | none =>
    rw [hd1] at C0
    have HE : Hid (decRepo bs s = none) := by show decRepo bs s = none; unfold decRepo; rw [hd1]; rfl
    clear hd1
    refine C0.out.mono ?_
    rintro e wq ⟨ht, he⟩
    have HV : Hid (TookM w base g O bs b0 o0 (decRepo bs s) (RepoV w.heap.size) (gaveUp 90) wq) := by rw [HE.out]; exact ⟨HS0.out.acc.gone ht, rfl⟩
    obtain rfl := he
    clear ht C0 HE
    unfold gaveUp
    go_wp2_with fail
    exact ⟨rfl, HV.out⟩
  | some y1 =>
    obtain ⟨x1, s1⟩ := y1
    rw [hd1] at C0
    refine C0.out.mono ?_
    rintro e v1 ⟨ht, vv, rfl, hv, O1, hA, hO⟩
    obtain rfl := hv
    have hN := HS0.out.next ht hA hO
    have d0 := hN.kd.cell 0
    have e0 := hN.kd.free 0
    have HS1 := Lib.hid (hN.set_ 0 (.string x1))
    simp only [List.setIfInBounds_toArray, List.set_cons_zero, List.set_cons_succ] at HS1
    simp at d0
    clear hN ht hA hO C0
    have C1 := Lib.hid (rnum_any HS1.out.acc.at_ hz)
    go_wp2_with fail
    clear d0 e0
    cases hd2 : decNum bs s1 with
    | none =>
      rw [hd2] at C1
      have HE : Hid (decRepo bs s = none) := by show decRepo bs s = none; unfold decRepo; rw [hd1, Option.bind_some, hd2]; rfl
      clear hd2
      refine C1.out.mono ?_
      rintro e wq ⟨ht, he⟩
      have HV : Hid (TookM w base g O bs b0 o0 (decRepo bs s) (RepoV w.heap.size) (gaveUp 90) wq) := by rw [HE.out]; exact ⟨HS1.out.acc.gone ht, rfl⟩
      obtain rfl := he
      clear ht C1 HE
      unfold gaveUp
      go_wp2_with fail
      exact ⟨rfl, HV.out⟩
    | some y2 =>
      obtain ⟨x2, s2⟩ := y2
      rw [hd2] at C1
      refine C1.out.mono ?_
      rintro e v2 ⟨ht, vv, rfl, hv, O2, hA, hO⟩
      obtain rfl := hv
      have hN := HS1.out.next ht hA hO
      have d0 := hN.kd.cell 1
      have e0 := hN.kd.free 1
      have HS2 := Lib.hid (hN.set_ 1 (.int .i64 x2))
      simp only [List.setIfInBounds_toArray, List.set_cons_zero, List.set_cons_succ] at HS2
      simp at d0
      clear hN ht hA hO C1
      have C2 := Lib.hid (rcount_any HS2.out.acc.at_ hz 1)
      go_wp2_with fail
      clear d0 e0
      cases hd3 : decCount bs 1 s2 with
      | none =>
        rw [hd3] at C2
        have HE : Hid (decRepo bs s = none) := by show decRepo bs s = none; unfold decRepo; rw [hd1, Option.bind_some, hd2, Option.bind_some, hd3]; rfl
        clear hd3
        refine C2.out.mono ?_
        rintro e wq ⟨ht, he⟩
        have HV : Hid (TookM w base g O bs b0 o0 (decRepo bs s) (RepoV w.heap.size) (gaveUp 90) wq) := by rw [HE.out]; exact ⟨HS2.out.acc.gone ht, rfl⟩
        obtain rfl := he
        clear ht C2 HE
        unfold gaveUp
        go_wp2_with fail
        exact ⟨rfl, HV.out⟩
      | some y3 =>
        obtain ⟨kk, s3⟩ := y3
        rw [hd3] at C2
        refine C2.out.mono ?_
        rintro e v3 ⟨ht, vv, rfl, hv, O3, hA, hO⟩
        obtain rfl := hv
        obtain ⟨bb, hbb⟩ : ∃ bb, ((((kk, s3).1 : Nat) : Int) == 1) = bb := ⟨_, rfl⟩
        have HBB : Hid (decide (kk = 1) = bb) := by
          show decide (kk = 1) = bb
          rw [← hbb, Bool.eq_iff_iff]
          simp
          omega
        have hN := HS2.out.next ht hA hO
        have d0 := hN.kd.cell 2
        have e0 := hN.kd.free 2
        have HS3 := Lib.hid (hN.set_ 2 (.bool bb))
        simp only [List.setIfInBounds_toArray, List.set_cons_zero, List.set_cons_succ] at HS3
        simp at d0
        clear hN ht hA hO C2
        have HP := Lib.hid (decRepo_last hd1 hd2 hd3)
        have C3 := Lib.hid (readPacks_any HS3.out.acc.at_ hz)
        simp only at hbb
        have HWr : Hid (w.heap.size + 1 < (v3.setCell ⟨w.heap.size + 1, 2, none⟩ (.bool bb)).heap.size) := HS3.out.kd.lt
        go_wp2_with fail
        clear d0 e0 hbb
        cases hd4 : decList bs (decPkg bs) 200 s3 with
        | none =>
          rw [hd4] at C3 HP
          refine C3.out.mono ?_
          rintro e wq ⟨ht, he⟩
          have HV : Hid (TookM w base g O bs b0 o0 (decRepo bs s) (RepoV w.heap.size) (gaveUp 90) wq) := by rw [HP.out]; exact ⟨HS3.out.acc.gone ht, rfl⟩
          obtain rfl := he
          clear ht C3
          unfold gaveUp
          go_wp2_with fail
          exact ⟨rfl, HV.out⟩
        | some y4 =>
          obtain ⟨ps, s4⟩ := y4
          rw [hd4] at C3 HP
          refine C3.out.mono ?_
          rintro e v4 ⟨ht, vv, O4, rfl, hA, hO, hV⟩
          have hN := HS3.out.next ht hA hO
          obtain ⟨Ad, nd, cd, hvv⟩ : ∃ Ad nd cd, vv = .slice Ad nd cd := by obtain ⟨Ad, cd, _, _, _, l, h, _⟩ := hV; exact ⟨Ad, _, cd, h⟩
          subst hvv
          have d0 := hN.kd.cell 3
          have e0 := hN.kd.free 3
          simp at d0
          have hN6 := hN.set_ 3 (.slice Ad nd cd)
          simp only [List.setIfInBounds_toArray, List.set_cons_zero, List.set_cons_succ] at hN6
          have hV6 := hV.stay (set_eq _ _ (w.heap.size + 1) 3 (.slice Ad nd cd) (TurnedP.refl _ _)) HWr.out
          obtain ⟨w6, hw6⟩ : ∃ w6, w6 = v4.setCell ⟨w.heap.size + 1, 3, none⟩ (.slice Ad nd cd) := ⟨_, rfl⟩
          rw [← hw6] at hN6 hV6
          have HV : Hid (TookM w base g O bs b0 o0 (decRepo bs s) (RepoV w.heap.size) (.returned (.agg #[.string x1, .int .i64 x2, .bool bb, .slice Ad nd cd])) (put4r w6 w.heap.size (.string x1) (.int .i64 x2) (.bool bb) (.slice Ad nd cd))) := by
            have htp := put4r_turned w6 w.heap.size (.string x1) (.int .i64 x2) (.bool bb) (.slice Ad nd cd)
            have hV7 := hV6.stay htp (by have := HWr.out; omega)
            have hno : ¬ O4 w.heap.size := (hN6.out _ (.inl rfl)).1
            have hbw := hN6.bw
            rw [HP.out]
            refine ⟨hN6.acc.turned.trans htp fun j hj hjq => by omega, _, O4, rfl, hN6.acc.at_.turned htp (fun j hj => by subst hj; exact ⟨hno, hbw⟩), hN6.acc.own, .slice Ad nd cd, ?_, ?_⟩
            · show _ = Value.agg (rowRe ⟨x1, x2, decide (kk = 1)⟩ _)
              rw [HBB.out]; rfl
            · obtain ⟨A, c, S, T, U, l, h1, h2, h3, h4, h5, h6, h7, h8, hF⟩ := hV7
              exact ⟨A, c, S, T, U, l, h1, h2, h3, h4, h5, h6, h7, h8, fun b hb => by have := hF b hb; have := HWr.out; omega⟩
          have hkr := hN6.kr
          unfold zr4 at hkr
          have HL : Hid _ := rload4 (put4r_blk hkr (.string x1) (.int .i64 x2) (.bool bb) (.slice Ad nd cd))
          have k0 := hN6.kd.cell 0
          have k1 := hN6.kd.cell 1
          have k2 := hN6.kd.cell 2
          have k3 := hN6.kd.cell 3
          have r0 := hkr.cell 0
          have r1 := hkr.cell 1
          have r2 := hkr.cell 2
          have r3 := hkr.cell 3
          have q0 := hkr.free 0
          have q1 := hkr.free 1
          have q2 := hkr.free 2
          have q3 := hkr.free 3
          simp at k0 k1 k2 k3 r0 r1 r2 r3
          have HW6 := Lib.hid hw6
          unfold put4r at HV HL
          clear hN hN6 hV hV6 ht hA hO hkr C3 hw6
          go_upto_region 6 with fail
          rw [← HW6.out]
          clear d0 e0
          go_wp2_with fail
          refine bodyPost_ret (v := .agg #[.string x1, .int .i64 x2, .bool bb, .slice Ad nd cd]) ?_ rfl HV.out
          refine (results_cell rfl _ (ad := ⟨w.heap.size, 0, none⟩) rfl).trans ?_
          exact HL.out
end Go.Proofs.YtpmfmkpfjomgnaaGreatDoor
