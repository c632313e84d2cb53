/- A version's parts by Parse: its pieces are copies. The document's answer: a version taken apart. -/
import Derived.Test.YtdhgiammfpjniaaGreatDoorZaai
/- A version's parts by Parse: its pieces are copies. -/
namespace Go.Proofs.YtdhgiammfpjniaaGreatDoor.Ev
set_option linter.unusedSimpArgs false
set_option linter.unusedVariables false
open Go.RowKit

/-- Two blocks hold what they held, and all that was there before stays. -/
def KeepG (w0 : World) (g : Nat) (cg : Array Value) (h : Nat) (ch : Array Value) (w : World) : Prop := Blk w g 101 cg ∧ Blk w h 101 ch ∧ Below w0.heap.size w0 w
theorem KeepG.below {w0 w w' : World} {g h : Nat} {cg ch : Array Value} (k : KeepG w0 g cg h ch w) (hb : Below w.heap.size w w') : KeepG w0 g cg h ch w' :=
  ⟨k.1.below hb k.1.lt, k.2.1.below hb k.2.1.lt, k.2.2.trans (hb.mono k.2.2.size)⟩
theorem KeepG.set {w0 w : World} {g h : Nat} {cg ch : Array Value} (p : KeepG w0 g cg h ch w) {k : Nat} {u : Value} (hu : ch.setIfInBounds k u = ch) (hh : g ≠ h ∧ w0.heap.size ≤ h) : KeepG w0 g cg h ch (w.setCell ⟨h, k, none⟩ u) :=
  ⟨p.1.far hh.1 _, by have := p.2.1.set_ k u; rwa [hu] at this, p.2.2.setCell hh.2 _⟩

set_option maxRecDepth 100000 in
theorem clone_any (s : ByteArray) (hs : s.size ≤ 60) (w : World) : Calls Tryz.prog 48 #[.string s] w fun e w' => e = .returned (.string s) ∧ Below w.heap.size w w' := by
  have C := Lib.hid (fun w => Tryz.stringslite_Clone s w (by omega))
  go_enter Tryz.func48, Tryz.ntmps48
  go_wp2_with fail
  refine (C.out _).mono ?_
  rintro e w1 ⟨rfl, hb1⟩
  go_wp2_with fail
  go_ret
  exact ⟨rfl, hb1⟩

theorem cutAt_mem {c : UInt8} {l a b : List UInt8} (h : cutAt c l = some (a, b)) : a.length + b.length < l.length := by
  unfold cutAt at h
  split at h
  · rename_i hc
    injection h with h
    injection h with h1 h2
    subst h1; subst h2
    have h3 := while_lt hc
    rw [drop_of_while, List.tail_drop, List.length_drop]
    omega
  · cases h
theorem vr_size {e l : List UInt8} {p : Parts} (h : vr e l = some p) : p.e = e ∧ p.v.length + p.r.length ≤ l.length := by
  unfold vr at h
  split at h
  · cases h
  · split at h
    · rename_i v r hc
      split at h
      · cases h
      · injection h with h; subst h
        refine ⟨rfl, ?_⟩
        unfold cutLast at hc
        cases hx : cutAt 45 l.reverse with
        | none => rw [hx] at hc; cases hc
        | some q =>
          rw [hx] at hc
          injection hc with hc
          injection hc with h1 h2
          subst h1; subst h2
          have := cutAt_mem (a := q.1) (b := q.2) hx
          simp only [List.length_reverse] at this ⊢
          omega
    · split at h
      · cases h
      · injection h with h; subst h; simp
theorem parse_size {l : List UInt8} {p : Parts} (h : parse l = some p) : p.e.length ≤ 60 ∧ p.v.length ≤ 60 ∧ p.r.length ≤ 60 ∧ p.v.length + p.r.length ≤ l.length ∧ l.length ≤ 60 := by
  unfold parse at h
  split at h
  · rename_i hl
    split at h
    · rename_i e t hc
      split at h
      · rename_i he
        have h1 := vr_size h
        have h2 := cutAt_mem hc
        rw [h1.1]
        omega
      · cases h
    · have h1 := vr_size h
      rw [h1.1]
      simp
      omega
  · cases h
def errV : Option Parts → Int
  | none => 30
  | some _ => 0
theorem mkS_size (l : List UInt8) : (mkS l).size = l.length := by rw [← size_len]; rfl

set_option maxHeartbeats 1000000 in
set_option maxRecDepth 100000 in
theorem parse_any (s : ByteArray) (w0 : World) : Calls Tryz.prog 57 #[.string s] w0 fun e w' => e = .returned (.tuple #[evrV (parse s.data.toList), .int .i64 (errV (parse s.data.toList))]) ∧ Below w0.heap.size w0 w' := by
  have C := Lib.hid (fun w => split_any s w)
  cases hp : parse s.data.toList with
  | none =>
    rw [hp] at C
    clear hp
    go_enter Tryz.func57, Tryz.ntmps57
    go_wp2_with fail
    refine (C.out _).mono ?_
    rintro e w1 ⟨rfl, hb1⟩
    have K1 := (Blk.new w0 101 #[Value.string ⟨#[]⟩, .string ⟨#[]⟩, .string ⟨#[]⟩]).below hb1 (by simp)
    have HB : Hid (Below w0.heap.size w0 w1) := ((Below.refl _ _).alloc (Nat.le_refl _) _).trans (hb1.mono (by simp))
    have hz := hb1.size
    simp only [World.size_alloc] at hz
    have hlt : w0.heap.size < w1.heap.size := by omega
    have hne : w0.heap.size ≠ w1.heap.size := by omega
    have c0 : w1.cell? ⟨w0.heap.size, 0, none⟩ = some (.string ⟨#[]⟩) := K1.cell 0
    have c1 : w1.cell? ⟨w0.heap.size, 1, none⟩ = some (.string ⟨#[]⟩) := K1.cell 1
    have c2 : w1.cell? ⟨w0.heap.size, 2, none⟩ = some (.string ⟨#[]⟩) := K1.cell 2
    have f0 := K1.free 0
    have f1 := K1.free 1
    have f2 := K1.free 2
    have KK := Lib.hid K1
    clear K1 hb1 C
    unfold evrV
    go_wp2_with fail
    refine bodyPost_ret (v := .tuple #[.agg #[.string ⟨#[]⟩, .string ⟨#[]⟩, .string ⟨#[]⟩], .int .i64 30]) (by simp [results, Tryz.results57, go_sem, hlt, hne, c0, c1, c2, f0, f1, f2]) rfl ⟨rfl, ?_⟩
    exact (((HB.out.setCell (Nat.le_refl _) _).setCell (Nat.le_refl _) _).setCell (Nat.le_refl _) _).alloc (by simp; omega) _
  | some p =>
    rw [hp] at C
    have hsz := parse_size hp
    obtain ⟨e, he⟩ : ∃ e, e = mkS p.e := ⟨_, rfl⟩
    obtain ⟨v, hv⟩ : ∃ v, v = mkS p.v := ⟨_, rfl⟩
    obtain ⟨r, hr⟩ : ∃ r, r = mkS p.r := ⟨_, rfl⟩
    have se : e.size ≤ 60 := by rw [he, mkS_size]; omega
    have sv : v.size ≤ 60 := by rw [hv, mkS_size]; omega
    have sr : r.size ≤ 60 := by rw [hr, mkS_size]; omega
    have EV : Hid (evrV (some p) = .agg #[.string e, .string v, .string r]) := by show evrV _ = _; rw [he, hv, hr]; rfl
    unfold SplitPost at C
    rw [EV.out] at C
    have EV2 := Lib.hid EV.out
    rw [EV.out]
    clear hp hsz he hv hr EV EV2
    go_enter Tryz.func57, Tryz.ntmps57
    go_wp2_with fail
    refine (C.out _).mono ?_
    rintro e' w1 ⟨rfl, hb1⟩
    have K1 := Lib.hid ((Blk.new w0 101 #[Value.string ⟨#[]⟩, .string ⟨#[]⟩, .string ⟨#[]⟩]).below hb1 (by simp))
    have HB : Hid (Below w0.heap.size w0 w1) := ((Below.refl _ _).alloc (Nat.le_refl _) _).trans (hb1.mono (by simp))
    have hz := hb1.size
    simp only [World.size_alloc] at hz
    have hg : w0.heap.size ≠ w1.heap.size ∧ w0.heap.size ≤ w1.heap.size := by omega
    clear hb1 C
    go_wp2_with fail
    refine wp_region_S (fun _ w => KeepG w0 w0.heap.size #[Value.string ⟨#[]⟩, .string ⟨#[]⟩, .string ⟨#[]⟩] w1.heap.size #[Value.string e, .string v, .string r] w) (by kernel_rfl) ?_ (fun hS => ?_)
    · exact ⟨K1.out.alloc _, Blk.new _ _ _, (HB.out.alloc hg.2 _).drew⟩
    refine wpAnyS_take (i := 0) (KeepG w0 w0.heap.size #[Value.string ⟨#[]⟩, .string ⟨#[]⟩, .string ⟨#[]⟩] w1.heap.size #[Value.string e, .string v, .string r]) (v := .pointer (some ⟨w1.heap.size, 0, none⟩)) rfl (by kernel_rfl) (by kernel_rfl) (by kernel_rfl) (fun _ _ _ h => h) (fun _ _ _ h => h) (fun _ _ => Iff.rfl) (by kernel_rfl) hS (fun w' hSw => ?_) (by rfl) (fun hS => ?_)
    · go_simp
    try simp only [Act.put, List.setIfInBounds_toArray, List.set_cons_zero, List.set_cons_succ]
    refine wpAnyS_take (i := 1) (KeepG w0 w0.heap.size #[Value.string ⟨#[]⟩, .string ⟨#[]⟩, .string ⟨#[]⟩] w1.heap.size #[Value.string e, .string v, .string r]) (v := .string e) rfl (by kernel_rfl) (by kernel_rfl) (by kernel_rfl) (fun _ _ _ h => h) (fun _ _ _ h => h) (fun _ _ => Iff.rfl) (by kernel_rfl) hS (fun w' hSw => ?_) (by rfl) (fun hS => ?_)
    · have c : w'.cell? ⟨w1.heap.size, 0, none⟩ = some (.string e) := hSw.2.1.cell 0
      go_simp
    try simp only [Act.put, List.setIfInBounds_toArray, List.set_cons_zero, List.set_cons_succ]
    refine wpAnyS_take (i := 3) (KeepG w0 w0.heap.size #[Value.string ⟨#[]⟩, .string ⟨#[]⟩, .string ⟨#[]⟩] w1.heap.size #[Value.string e, .string v, .string r]) (v := .pointer (some ⟨w1.heap.size, 1, none⟩)) rfl (by kernel_rfl) (by kernel_rfl) (by kernel_rfl) (fun _ _ _ h => h) (fun _ _ _ h => h) (fun _ _ => Iff.rfl) (by kernel_rfl) hS (fun w' hSw => ?_) (by rfl) (fun hS => ?_)
    · go_simp
    try simp only [Act.put, List.setIfInBounds_toArray, List.set_cons_zero, List.set_cons_succ]
    refine wpAnyS_take (i := 4) (KeepG w0 w0.heap.size #[Value.string ⟨#[]⟩, .string ⟨#[]⟩, .string ⟨#[]⟩] w1.heap.size #[Value.string e, .string v, .string r]) (v := .string v) rfl (by kernel_rfl) (by kernel_rfl) (by kernel_rfl) (fun _ _ _ h => h) (fun _ _ _ h => h) (fun _ _ => Iff.rfl) (by kernel_rfl) hS (fun w' hSw => ?_) (by rfl) (fun hS => ?_)
    · have c : w'.cell? ⟨w1.heap.size, 1, none⟩ = some (.string v) := hSw.2.1.cell 1
      go_simp
    try simp only [Act.put, List.setIfInBounds_toArray, List.set_cons_zero, List.set_cons_succ]
    refine wpAnyS_take (i := 6) (KeepG w0 w0.heap.size #[Value.string ⟨#[]⟩, .string ⟨#[]⟩, .string ⟨#[]⟩] w1.heap.size #[Value.string e, .string v, .string r]) (v := .pointer (some ⟨w1.heap.size, 2, none⟩)) rfl (by kernel_rfl) (by kernel_rfl) (by kernel_rfl) (fun _ _ _ h => h) (fun _ _ _ h => h) (fun _ _ => Iff.rfl) (by kernel_rfl) hS (fun w' hSw => ?_) (by rfl) (fun hS => ?_)
    · go_simp
    try simp only [Act.put, List.setIfInBounds_toArray, List.set_cons_zero, List.set_cons_succ]
    refine wpAnyS_take (i := 7) (KeepG w0 w0.heap.size #[Value.string ⟨#[]⟩, .string ⟨#[]⟩, .string ⟨#[]⟩] w1.heap.size #[Value.string e, .string v, .string r]) (v := .string r) rfl (by kernel_rfl) (by kernel_rfl) (by kernel_rfl) (fun _ _ _ h => h) (fun _ _ _ h => h) (fun _ _ => Iff.rfl) (by kernel_rfl) hS (fun w' hSw => ?_) (by rfl) (fun hS => ?_)
    · have c : w'.cell? ⟨w1.heap.size, 2, none⟩ = some (.string r) := hSw.2.1.cell 2
      go_simp
    try simp only [Act.put, List.setIfInBounds_toArray, List.set_cons_zero, List.set_cons_succ]
    refine wpAnyS_one (i := 2) (by kernel_rfl) rfl (fun K hK => ?_)
    go_simp
    refine (clone_any e (by omega) _).mono ?_
    rintro e' w3 ⟨rfl, hb3⟩
    refine hK.out _ _ (hS.below hb3) (fun hS => ?_)
    clear hK K
    try simp only [Act.put, List.setIfInBounds_toArray, List.set_cons_zero, List.set_cons_succ]
    refine wpAnyS_take (i := 9) (KeepG w0 w0.heap.size #[Value.string ⟨#[]⟩, .string ⟨#[]⟩, .string ⟨#[]⟩] w1.heap.size #[Value.string e, .string v, .string r]) (v := .pointer (some ⟨w1.heap.size, 0, none⟩)) rfl (by kernel_rfl) (by kernel_rfl) (by kernel_rfl) (fun _ _ _ h => h) (fun _ _ _ h => h) (fun _ _ => Iff.rfl) (by kernel_rfl) hS (fun w' hSw => ?_) (by rfl) (fun hS => ?_)
    · go_simp
    try simp only [Act.put, List.setIfInBounds_toArray, List.set_cons_zero, List.set_cons_succ]
    refine wpAnyS_one (i := 5) (by kernel_rfl) rfl (fun K hK => ?_)
    go_simp
    refine (clone_any v (by omega) _).mono ?_
    rintro e' w4 ⟨rfl, hb4⟩
    refine hK.out _ _ (hS.below hb4) (fun hS => ?_)
    clear hK K
    try simp only [Act.put, List.setIfInBounds_toArray, List.set_cons_zero, List.set_cons_succ]
    refine wpAnyS_one (i := 8) (by kernel_rfl) rfl (fun K hK => ?_)
    go_simp
    refine (clone_any r (by omega) _).mono ?_
    rintro e' w5 ⟨rfl, hb5⟩
    refine hK.out _ _ (hS.below hb5) (fun hS => ?_)
    clear hK K
    try simp only [Act.put, List.setIfInBounds_toArray, List.set_cons_zero, List.set_cons_succ]
    have c0 := hS.2.1.cell 0
    have f0 := hS.2.1.free 0
    refine wpAnyS_one (i := 10) (by kernel_rfl) rfl (fun K hK => ?_)
    go_simp
    refine hK.out _ _ (hS.set (k := 0) rfl hg) (fun hS => ?_)
    clear hK K
    try simp only [Act.put, List.setIfInBounds_toArray, List.set_cons_zero, List.set_cons_succ]
    clear c0 f0
    refine wpAnyS_take (i := 11) (KeepG w0 w0.heap.size #[Value.string ⟨#[]⟩, .string ⟨#[]⟩, .string ⟨#[]⟩] w1.heap.size #[Value.string e, .string v, .string r]) (v := .pointer (some ⟨w1.heap.size, 1, none⟩)) rfl (by kernel_rfl) (by kernel_rfl) (by kernel_rfl) (fun _ _ _ h => h) (fun _ _ _ h => h) (fun _ _ => Iff.rfl) (by kernel_rfl) hS (fun w' hSw => ?_) (by rfl) (fun hS => ?_)
    · go_simp
    try simp only [Act.put, List.setIfInBounds_toArray, List.set_cons_zero, List.set_cons_succ]
    have c1 := hS.2.1.cell 1
    have f1 := hS.2.1.free 1
    refine wpAnyS_one (i := 12) (by kernel_rfl) rfl (fun K hK => ?_)
    go_simp
    refine hK.out _ _ (hS.set (k := 1) rfl hg) (fun hS => ?_)
    clear hK K
    try simp only [Act.put, List.setIfInBounds_toArray, List.set_cons_zero, List.set_cons_succ]
    clear c1 f1
    refine wpAnyS_take (i := 13) (KeepG w0 w0.heap.size #[Value.string ⟨#[]⟩, .string ⟨#[]⟩, .string ⟨#[]⟩] w1.heap.size #[Value.string e, .string v, .string r]) (v := .pointer (some ⟨w1.heap.size, 2, none⟩)) rfl (by kernel_rfl) (by kernel_rfl) (by kernel_rfl) (fun _ _ _ h => h) (fun _ _ _ h => h) (fun _ _ => Iff.rfl) (by kernel_rfl) hS (fun w' hSw => ?_) (by rfl) (fun hS => ?_)
    · go_simp
    try simp only [Act.put, List.setIfInBounds_toArray, List.set_cons_zero, List.set_cons_succ]
    have c2 := hS.2.1.cell 2
    have f2 := hS.2.1.free 2
    refine wpAnyS_one (i := 14) (by kernel_rfl) rfl (fun K hK => ?_)
    go_simp
    refine hK.out _ _ (hS.set (k := 2) rfl hg) (fun hS => ?_)
    clear hK K
    try simp only [Act.put, List.setIfInBounds_toArray, List.set_cons_zero, List.set_cons_succ]
    clear c2 f2
    refine wpAnyS_done (by kernel_rfl) ?_ _
    generalize ((w5.setCell ⟨w1.heap.size, 0, none⟩ (.string e)).setCell ⟨w1.heap.size, 1, none⟩ (.string v)).setCell ⟨w1.heap.size, 2, none⟩ (.string r) = w6 at *
    have c0 : w6.cell? ⟨w1.heap.size, 0, none⟩ = some (.string e) := hS.2.1.cell 0
    have c1 : w6.cell? ⟨w1.heap.size, 1, none⟩ = some (.string v) := hS.2.1.cell 1
    have c2 : w6.cell? ⟨w1.heap.size, 2, none⟩ = some (.string r) := hS.2.1.cell 2
    have d0 : w6.cell? ⟨w0.heap.size, 0, none⟩ = some (.string ⟨#[]⟩) := hS.1.cell 0
    have d1 : w6.cell? ⟨w0.heap.size, 1, none⟩ = some (.string ⟨#[]⟩) := hS.1.cell 1
    have d2 : w6.cell? ⟨w0.heap.size, 2, none⟩ = some (.string ⟨#[]⟩) := hS.1.cell 2
    have f0 := hS.1.free 0
    have f1 := hS.1.free 1
    have f2 := hS.1.free 2
    have HB6 := Lib.hid hS.2.2
    clear hS
    go_wp2_with fail
    refine bodyPost_ret (v := .tuple #[.agg #[.string e, .string v, .string r], .int .i64 0]) (by simp [results, Tryz.results57, go_sem, d0, d1, d2, f0, f1, f2]) rfl ⟨rfl, ?_⟩
    exact ((HB6.out.setCell (Nat.le_refl _) _).setCell (Nat.le_refl _) _).setCell (Nat.le_refl _) _
end Go.Proofs.YtdhgiammfpjniaaGreatDoor.Ev

/- The document's answer: a version taken apart. -/
namespace Go.Proofs.YtdhgiammfpjniaaGreatDoor.Ev
set_option linter.unusedSimpArgs false
set_option linter.unusedVariables false
open Go.RowKit

theorem u8_hit {c : UInt8} {d : UInt8} {n : Int} (hn : (d.toNat : Int) = n) (h : c = d) : ((c.toNat : Int) == n) = true ∧ ((c.toNat : Int) != n) = false := by
  subst h; subst hn; simp
theorem u8_miss {c : UInt8} {d : UInt8} {n : Int} (hn : (d.toNat : Int) = n) (h : ¬ c = d) : ((c.toNat : Int) == n) = false ∧ ((c.toNat : Int) != n) = true := by
  have : ¬ (c.toNat : Int) = n := fun e => h (UInt8.toNat_inj.1 (by omega))
  exact ⟨beq_eq_false_iff_ne.2 this, by simp [bne, beq_eq_false_iff_ne.2 this]⟩
theorem blank_of {s : ByteArray} (h : s.size ≠ 0) : s.toList.isEmpty = false ∧ ¬ s.toList = [] ∧ s.data.toList ≠ [] := by
  have hp : 0 < s.size := by omega
  refine ⟨toList_cons hp, ?_, ?_⟩
  · intro e; have := toList_cons hp; rw [e] at this; cases this
  · intro e; have := size_len s; rw [e] at this; simp at this; omega
end Go.Proofs.YtdhgiammfpjniaaGreatDoor.Ev
