/- The names of a dependency: the function called on each part, the sort, dep.Names, the reference's Names. -/
import Derived.Test.YtghbhajiddnmkaaGreatDoorDCheck
import Derived.Test.YtghbhajiddnmkaaGreatDoorDRNames
import Derived.Test.YtghbhajiddnmkaaGreatDoorDSorted
import Derived.Test.YtghbhajiddnmkaaGreatDoorShelf
import Derived.Lib.OwnBridge
import Derived.Sort.OwnSorted
import Derived.Test.YtghbhajiddnmkaaGreatDoorDReadB
import Derived.Test.YtghbhajiddnmkaaGreatDoorPhase
namespace Go.Proofs.YtghbhajiddnmkaaGreatDoor
set_option linter.unusedSimpArgs false
set_option linter.unusedVariables false
open Go.RowKit

def named (l : List Dep) : List ByteArray := (l.filter fun a => a.kind == 1).map Dep.name
theorem named_snoc (l : List Dep) (a : Dep) : named (l ++ [a]) = named l ++ (if a.kind == 1 then [a.name] else []) := by
  unfold named
  rw [List.filter_append, List.map_append]
  by_cases h : (a.kind == 1) = true
  · simp [h]
  · simp [h]
/-- The variable that the names are put into. -/
def NQ (mb base : Nat) (l : List Dep) (F : List Nat) (w : World) : Prop :=
  mb < base ∧ ∃ v, Blk w mb 30 #[v] ∧ w.ownsRow base 9 1 v (named l).length (strV (named l)) ∧ F = mb :: v.ownBlock.toList
theorem NQ.stab {mb base : Nat} {l : List Dep} {F G : List Nat} {w w' : World} (h : NQ mb base l F w) (ht : Turned G w w') (hG : ∀ k ∈ G, k ∉ F) : NQ mb base l F w' := by
  obtain ⟨hb, v, hm, ho, rfl⟩ := h
  exact ⟨hb, v, hm.turned ht (fun hk => hG _ hk (by simp)), own_turned ho ht (fun k hk hg => hG k hg (by simp [hk])), rfl⟩
theorem nq_fin {mb base : Nat} {l : List Dep} {v v' : Value} {w w1 w2 : World} {xs : List ByteArray} {a : Dep} (hmb : mb < base) (hbw : base ≤ w.heap.size)
    (hm : Blk w1 mb 30 #[v]) (hv : ∀ g, v.ownBlock = some g → base ≤ g) (hb : Below w.heap.size w w1) (ho : w2.ownsRow base 9 1 v' ((named l).length + 1) (strV (named l) ++ [.string a.name])) (hg : w1.grownBy w2 v.ownBlock)
    (hat : v'.ownBlock = v.ownBlock ∨ ∃ g, v'.ownBlock = some g ∧ w.heap.size ≤ g) (ha : (a.kind == 1) = true) :
    ∃ F', Turned (mb :: v.ownBlock.toList) w (w2.setCell ⟨mb, 0, none⟩ v') ∧ Fresh w (mb :: v.ownBlock.toList) F' ∧ (∀ k ∈ F', k < (w2.setCell ⟨mb, 0, none⟩ v').heap.size) ∧ NQ mb base (l ++ [a]) F' (w2.setCell ⟨mb, 0, none⟩ v') := by
  have hne : v.ownBlock ≠ some mb := fun e => by have := hv _ e; omega
  have hne' : v'.ownBlock ≠ some mb := by
    rcases hat with e | ⟨g, e, hg⟩
    · rw [e]; exact hne
    · rw [e]; simp; omega
  have hm2 : Blk w2 mb 30 #[v] := hm.grown hg (fun e => hne e.symm)
  have ht : Turned (mb :: v.ownBlock.toList) w (w2.setCell ⟨mb, 0, none⟩ v') := by
    refine Turned.setCell ?_ (.inl (by simp)) _
    exact ((Turned.of_below hb _).grown hg fun k hk => .inl (by simp [hk]))
  have hnm : named (l ++ [a]) = named l ++ [a.name] := by rw [named_snoc, if_pos ha]
  refine ⟨mb :: v'.ownBlock.toList, ht, fun k hk => ?_, fun k hk => ?_, hmb, v', ?_, ?_, rfl⟩
  · rcases List.mem_cons.1 hk with e | e
    · exact .inl (by simp [e])
    · have e' : v'.ownBlock = some k := by simpa using e
      rcases hat with e2 | ⟨g, e2, hg⟩
      · exact .inl (by rw [← e2]; simp [e'])
      · rw [e2] at e'; injection e' with e'; subst e'; exact .inr hg
  · have hz : (w2.setCell ⟨mb, 0, none⟩ v').heap.size = w2.heap.size := by simp [World.setCell]
    rw [hz]
    rcases List.mem_cons.1 hk with e | e
    · rw [e]; exact hm2.lt
    · exact (ho.lt k (by simpa using e)).2
  · have := hm2.set_ 0 v'
    exact this
  · rw [hnm, strs_append, List.length_append]
    exact own_setCell ho (p := ⟨mb, 0, none⟩) hne' _
def NamedPost (mb base : Nat) (l : List Dep) (F : List Nat) (a : Dep) (w : World) (e : Ending) (w' : World) : Prop :=
  ∃ F', Turned F w w' ∧ Fresh w F F' ∧ (∀ k ∈ F', k < w'.heap.size) ∧ e = .returned (.tuple #[]) ∧ NQ mb base (l ++ [a]) F' w'
end Go.Proofs.YtghbhajiddnmkaaGreatDoor
namespace Go.Proofs.YtghbhajiddnmkaaGreatDoor
set_option linter.unusedSimpArgs false
set_option linter.unusedVariables false
open Go.RowKit Go.Sort

def txs (ls : List ByteArray) : List Tx := ls.map fun y => y.data.toList
def byt (zs : List Tx) : List ByteArray := zs.map fun z => ⟨z.toArray⟩
theorem byt_txs (ls : List ByteArray) : byt (txs ls) = ls := by
  unfold byt txs
  rw [List.map_map]
  refine (List.map_congr_left (g := id) fun y _ => ?_).trans (List.map_id _)
  cases y; rfl
theorem txs_byt (zs : List Tx) : txs (byt zs) = zs := by
  unfold byt txs
  rw [List.map_map]
  exact (List.map_congr_left (g := id) fun y _ => by simp).trans (List.map_id _)
theorem strV_byt (zs : List Tx) : strV (byt zs) = zs.map encStr := by unfold strV byt; rw [List.map_map]; rfl
theorem strV_txs (ls : List ByteArray) : strV ls = (txs ls).map encStr := by rw [← strV_byt, byt_txs]

theorem sortS_own (B n : Nat) (v : Value) (zs : List Tx) (w : World) (hown : w.ownsRow B 9 1 v n (zs.map encStr)) (hn : n < 4611686018427387904) (hB : B ≤ w.heap.size) :
    Calls Tryz.prog 20 #[v] w fun e w' => e = .returned (.tuple #[]) ∧ w'.ownsRow B 9 1 v n ((zs.mergeSort fun x y => decide (x ≤ y)).map encStr) ∧ w.grownBy w' v.ownBlock := by
  by_cases hv : v = .slice none 0 0
  · subst hv
    have hz : zs = [] := by
      have := hown.1
      rcases hown.2 with ⟨_, h⟩ | ⟨g, cap, cur, h, _⟩
      · subst h; apply List.eq_nil_of_length_eq_zero; simpa using this
      · cases h
    subst hz
    refine (Tryz.slices_Sort_string_none none 0 w).mono ?_
    rintro e w' ⟨rfl, rfl⟩
    exact ⟨rfl, by simpa using hown, World.grownBy.refl _ _⟩
  · obtain ⟨g, cap, rfl, hg, hgl, hcap, hmax, hlen, hH⟩ := Lib.holds_of_ownsRow hown hv
    subst hlen
    refine (Tryz.slices_Sort_string g 0 cap zs w hH hgl hn).mono ?_
    rintro e w' ⟨rfl, k, os, rfl⟩
    rcases hown.2 with ⟨h, _⟩ | ⟨g', cap', cur, h, hb, hblk, h1, h2, h3, h4⟩
    · cases h
    · cases h
      exact ⟨rfl, ownsRow_sorted (List.length_mergeSort zs) hb hblk h1 h2 h3, grownBy_sorted _⟩

theorem compactS_own (B n : Nat) (v : Value) (zs : List Tx) (w : World) (hown : w.ownsRow B 9 1 v n (zs.map encStr)) (hB : B ≤ w.heap.size) :
    Calls Tryz.prog 21 #[v] w fun e w' => ∃ v', e = .returned v' ∧ w'.ownsRow B 9 1 v' (Lib.compact zs).length ((Lib.compact zs).map encStr) ∧ v'.ownBlock = v.ownBlock ∧ w.grownBy w' v.ownBlock := by
  by_cases hv : v = .slice none 0 0
  · subst hv
    have hz : zs = [] := by
      have := hown.1
      rcases hown.2 with ⟨_, h⟩ | ⟨g, cap, cur, h, _⟩
      · subst h; apply List.eq_nil_of_length_eq_zero; simpa using this
      · cases h
    subst hz
    refine (Tryz.slices_Compact_string_empty none 0 w).mono ?_
    rintro e w' ⟨rfl, rfl⟩
    exact ⟨_, rfl, World.ownsRow_nil _ _ _ _, rfl, World.grownBy.refl _ _⟩
  · obtain ⟨g, cap, rfl, hg, hgl, hcap, hmax, hlen, hH⟩ := Lib.holds_of_ownsRow hown hv
    subst hlen
    have hle := Lib.compact_length_le zs
    refine (Tryz.slices_Compact_string g 0 cap zs w hH (by unfold maxLen at hmax; omega) hcap).mono ?_
    rintro e w' ⟨rfl, q, rfl⟩
    have h := Lib.ownsRow_putRow (q := q) (k := (Lib.compact zs).length) (ys := Lib.compact zs ++ List.replicate (zs.length - (Lib.compact zs).length) []) hown (by simp; omega) hle
    rw [List.take_left] at h
    exact ⟨_, rfl, h, rfl, by have h := grownBy_sorted (w := w) (g := g) (n := q) (os := #[]) (Lib.compact zs ++ List.replicate (zs.length - (Lib.compact zs).length) []).toArray; rw [grow_empty] at h; exact h⟩

theorem cell_one_ {w : World} {g : Nat} {t : TypeId} {x : Value} (h : w.heap.size = g) : ∀ j u, ([x] : List Value)[j]? = some u → (w.alloc (.cells #[x] t)).cell? ((⟨g, 0, none⟩ : Addr).add j) = some u := by
  subst h
  exact cells_new w #[x] t
set_option maxHeartbeats 1000000 in
set_option maxRecDepth 100000 in
theorem nameOne_any (mb base : Nat) (d : Dep) (s : Value) (S : Nat → Prop) (l : List Dep) (F : List Nat) (w : World) (hQ : NQ mb base l F w) (hL : Lay w S d s) (hl : l.length < 4194304) (hbw : base ≤ w.heap.size) (hF : ∀ k ∈ F, k < w.heap.size) :
    Calls Tryz.prog 19 #[.agg (rowD d s), .pointer (some ⟨mb, 0, none⟩)] w (NamedPost mb base l F d w) := by
  obtain ⟨A, c, rfl, _, _⟩ := hL.form_
  obtain ⟨hmb, v, hm, ho, rfl⟩ := hQ
  have hnl : (named l).length ≤ l.length := by unfold named; rw [List.length_map]; exact List.length_filter_le _ _
  obtain ⟨i0, hi0, hz0, hz1, hz2⟩ := info_parts (show (Tryz.prog.info? 9).map (fun i => (i.zero, i.size, i.bytes)) = some (some (.string ⟨#[]⟩), 1, 16) by kernel_rfl)
  have hv : ∀ g, v.ownBlock = some g → base ≤ g := fun g hg => (ho.lt g hg).1
  obtain ⟨Av, cv, rfl, hcv1, hcv2⟩ := own_form' ho
  have HN : Hid (d.kind ≠ 1 → ∀ w', Below w.heap.size w w' → NamedPost mb base l (mb :: (Value.slice Av (named l).length cv).ownBlock.toList) d w (.returned (.tuple #[])) w') := fun hk w' hb => by
    refine ⟨_, Turned.of_below hb _, Fresh.refl _ _, fun k hk => Nat.lt_of_lt_of_le (hF k hk) hb.size, rfl, ?_⟩
    have h : NQ mb base l (mb :: (Value.slice Av (named l).length cv).ownBlock.toList) w' := NQ.stab ⟨hmb, _, hm, ho, rfl⟩ (Turned.of_below hb []) (fun k hk => by cases hk)
    have e : named (l ++ [d]) = named l := by rw [named_snoc, if_neg (by simpa using hk)]; simp
    obtain ⟨h1, v', h2, h3, h4⟩ := h
    exact ⟨h1, v', h2, by rw [e]; exact h3, h4⟩
  have hB1 : Below w.heap.size w (w.alloc (.cells (rowD d (.slice A d.args.length c)) 24)) := (Below.refl _ _).alloc (Nat.le_refl _) _
  have hB2 : Below w.heap.size w ((w.alloc (.cells (rowD d (.slice A d.args.length c)) 24)).alloc (.cells #[.string d.name] 9)) := hB1.alloc (by simp) _
  have hm2 := (hm.alloc (.cells (rowD d (.slice A d.args.length c)) 24)).alloc (.cells #[.string d.name] 9)
  have ho2 := (ho.alloc (.cells (rowD d (.slice A d.args.length c)) 24)).alloc (.cells #[.string d.name] 9)
  have HB1 := Lib.hid hB1
  have HFin : Hid (∀ v' w', d.kind = 1 → w'.ownsRow base 9 1 v' ((named l).length + 1) (strV (named l) ++ [.string d.name]) → ((w.alloc (.cells (rowD d (.slice A d.args.length c)) 24)).alloc (.cells #[.string d.name] 9)).grownBy w' (Value.slice Av (named l).length cv).ownBlock →
      (v'.ownBlock = (Value.slice Av (named l).length cv).ownBlock ∨ v'.ownBlock = some ((w.alloc (.cells (rowD d (.slice A d.args.length c)) 24)).alloc (.cells #[.string d.name] 9)).heap.size) →
      Blk w' mb 30 #[.slice Av (named l).length cv] ∧ NamedPost mb base l (mb :: (Value.slice Av (named l).length cv).ownBlock.toList) d w (.returned (.tuple #[])) (w'.setCell ⟨mb, 0, none⟩ v')) := fun v' w' hk h1 h2 h3 => by
    refine ⟨hm2.grown h2 (fun e => by have := hv _ e.symm; omega), ?_⟩
    obtain ⟨F', q1, q2, q3, q4⟩ := nq_fin (xs := named l) hmb hbw hm2 hv hB2 h1 h2 (h3.imp id fun e => ⟨_, e, by simp; omega⟩) (by rw [hk]; rfl)
    exact ⟨F', q1, q2, q3, rfl, q4⟩
  have hcell := ((hm.alloc (.cells (rowD d (.slice A d.args.length c)) 24)).cell 0)
  simp at hcell
  have HO2 := Lib.hid ho2
  have HI := Lib.hid hi0
  have hbz := hbw
  clear hm hm2 ho ho2 hB1 hB2 hL hv hF
  unfold rowD at HB1 HFin HO2 hcell ⊢
  go_enter Tryz.func19, Tryz.ntmps19
  by_cases hk : d.kind = 1
  · have tk : (d.kind == 1) = true := by rw [hk]; rfl
    have HK := Lib.hid hk
    clear hk HN
    go_wp2_with (at_builtin; refine wpList_append_own_at _ rfl (.tmp 6) (.tmp 9) 30 rfl base 9 i0 (.string ⟨#[]⟩) 1 16 Tryz.underlying30 HI.out hz0 hz1 hz2 rfl (by decide) (.slice Av (named l).length cv) (named l).length (strV (named l)) rfl HO2.out ⟨w.heap.size + 1, 0, none⟩ 1 1 [.string d.name] rfl rfl (cell_one_ (by simp)) (by intro u hu; simp at hu; subst hu; rfl) (by unfold maxLen; omega) (by omega) (by simp; omega) ?_; intro v4 w4 hown4 hg4 hnil4 hat4; have hP := HFin.out v4 w4 HK.out hown4 hg4 hat4; have HP := Lib.hid hP.2; have hc4 := hP.1.cell 0; have hf4 := hP.1.free 0; obtain ⟨A4, c4, rfl, _, _⟩ := own_form' hown4; simp at hc4; clear hP hown4 hg4 hnil4 hat4 HFin HO2)
    trace_state
    go_end0
    exact HP.out
  · have tk : (d.kind == 1) = false := beq_eq_false_iff_ne.2 hk
    have HP := Lib.hid (HN.out hk _ HB1.out)
    clear HN HFin hk
    go_wp2_with fail
    go_end0
    exact HP.out
end Go.Proofs.YtghbhajiddnmkaaGreatDoor
namespace Go.Proofs.YtghbhajiddnmkaaGreatDoor
set_option linter.unusedSimpArgs false
set_option linter.unusedVariables false
open Go.RowKit Go.Sort

theorem mem_namesA2 {ds : List Dep} {y : ByteArray} : y ∈ namesA ds ↔ ∃ a, a ∈ ds ∧ y ∈ namesOf a := by
  induction ds with
  | nil => simp [namesA]
  | cons b r ih => simp only [namesA, List.mem_append, ih, List.mem_cons]; constructor
                   · rintro (h | ⟨a, h, k⟩)
                     · exact ⟨b, .inl rfl, h⟩
                     · exact ⟨a, .inr h, k⟩
                   · rintro ⟨a, rfl | h, k⟩
                     · exact .inl k
                     · exact .inr ⟨a, h, k⟩
theorem mem_namesOf2 (d : Dep) : ∀ y, y ∈ namesOf d ↔ ∃ a, a ∈ partsOf d ∧ a.kind = 1 ∧ a.name = y := by
  induction d using Dep.ind with
  | h k n o e xs ih =>
    intro y
    simp only [namesOf, partsOf, List.mem_append, List.mem_cons, mem_namesA2, mem_partsA]
    constructor
    · rintro (h | ⟨a, ha, h⟩)
      · by_cases hk : k = 1
        · subst hk; simp at h; exact ⟨_, .inl rfl, rfl, h.symm⟩
        · simp [hk] at h
      · obtain ⟨b, hb, h1⟩ := (ih a ha y).1 h
        exact ⟨b, .inr ⟨a, ha, hb⟩, h1⟩
    · rintro ⟨a, rfl | ⟨b, hb, h⟩, h1, h2⟩
      · left
        simp only [Dep.kind, Dep.name] at h1 h2
        simp [h1, h2]
      · exact .inr ⟨b, hb, (ih b hb y).2 ⟨a, h, h1, h2⟩⟩
theorem small_parts2 (d : Dep) : small d → ∀ a ∈ partsOf d, small a := by
  induction d using Dep.ind with
  | h k n o e xs ih =>
    intro h a ha
    rw [partsOf, List.mem_cons] at ha
    rcases ha with rfl | ha
    · exact h
    · obtain ⟨b, hb, hx⟩ := mem_partsA.1 ha
      have h2 : smalls xs := by simp only [small] at h; exact h.2.2
      exact ih b hb (smalls_mem h2 b hb) a hx
theorem mem_named {l : List Dep} {y : ByteArray} : y ∈ named l ↔ ∃ a, a ∈ l ∧ a.kind = 1 ∧ a.name = y := by
  unfold named
  simp [and_assoc]
theorem txs_fold (xs : List ByteArray) : ∀ l, txs (xs.foldl putS l) = putAll (txs l) (txs xs) := by
  induction xs with
  | nil => intro l; rfl
  | cons x r ih =>
    intro l
    rw [List.foldl_cons, ih]
    show _ = putAll (putN (txs l) x.data.toList) (txs r)
    congr 1
    exact putS_putN l x
theorem names_res {d : Dep} {l : List Dep} (h1 : ∀ x ∈ partsOf d, x ∈ l) (h2 : ∀ x ∈ l, x ∈ partsOf d) :
    Lib.compact ((txs (named l)).mergeSort fun x y => decide (x ≤ y)) = txs (namesS d []) := by
  rw [compact_sorted]
  unfold namesS
  rw [txs_fold]
  have hr : Rise (txs []) := List.Pairwise.nil
  refine rise_eq (putAll_rise _ _ hr) (putAll_rise _ _ hr) fun x => ?_
  rw [mem_putAll, mem_putAll]
  have e : x ∈ txs (named l) ↔ x ∈ txs (namesOf d) := by
    unfold txs
    simp only [List.mem_map]
    constructor
    · rintro ⟨y, hy, rfl⟩
      obtain ⟨a, ha, h3, h4⟩ := mem_named.1 hy
      exact ⟨y, (mem_namesOf2 d y).2 ⟨a, h2 a ha, h3, h4⟩, rfl⟩
    · rintro ⟨y, hy, rfl⟩
      obtain ⟨a, ha, h3, h4⟩ := (mem_namesOf2 d y).1 hy
      exact ⟨y, mem_named.2 ⟨a, h1 a ha, h3, h4⟩, rfl⟩
  constructor
  · rintro (h | h)
    · exact .inl h
    · exact .inr (e.1 h)
  · rintro (h | h)
    · exact .inl h
    · exact .inr (e.2 h)
theorem mem_putS (l : List ByteArray) (s y : ByteArray) (h : y ∈ putS l s) : y = s ∨ y ∈ l := by
  induction l with
  | nil => simpa [putS] using h
  | cons x r ih =>
    unfold putS at h
    split at h
    · rcases List.mem_cons.1 h with h | h
      · exact .inr (by simp [h])
      · rcases ih h with h | h
        · exact .inl h
        · exact .inr (by simp [h])
    · split at h
      · exact .inr h
      · rcases List.mem_cons.1 h with h | h
        · exact .inl h
        · exact .inr h
theorem mem_foldS (xs : List ByteArray) : ∀ (l : List ByteArray) (y : ByteArray), y ∈ xs.foldl putS l → y ∈ xs ∨ y ∈ l := by
  induction xs with
  | nil => intro l y h; exact .inr h
  | cons x r ih =>
    intro l y h
    rcases ih _ y h with h | h
    · exact .inl (by simp [h])
    · rcases mem_putS l x y h with h | h
      · exact .inl (by simp [h])
      · exact .inr h
theorem names_small {d : Dep} (h : small d) : ∀ y ∈ namesS d [], y.size ≤ 2147483648 := fun y hy => by
  rcases mem_foldS _ _ y hy with hy | hy
  · obtain ⟨a, ha, _, rfl⟩ := (mem_namesOf2 d y).1 hy
    have := small_parts2 d h a ha
    obtain ⟨k, n, o, e, xs⟩ := a
    simp only [small] at this
    exact this.1
  · cases hy
theorem named_sees (mb : Nat) (d : Dep) : Sees 19 #[.pointer (some ⟨mb, 0, none⟩)] d 4194304 (fun l F w => NQ mb (mb + 1) l F w ∧ l.length ≤ 4194304) (fun _ => false) where
  enters := enters_of Tryz.func19 (by kernel_rfl) rfl
  stab := fun l F w w' G h ht hG => ⟨h.1.stab ht hG, h.2⟩
  call := fun S l F w a t hQ hL _ hl hF hT => by
    have hmb : mb < w.heap.size := by
      obtain ⟨_, v, hm, _⟩ := hQ.1
      exact hm.lt
    refine (nameOne_any mb (mb + 1) a t S l F w hQ.1 hL hl hmb hF).mono ?_
    rintro e w' ⟨F', h1, h2, h3, h4, h5⟩
    exact ⟨F', h1, h2, h3, .inl ⟨rfl, h4, h5, by simp; omega⟩⟩
end Go.Proofs.YtghbhajiddnmkaaGreatDoor
namespace Go.Proofs.YtghbhajiddnmkaaGreatDoor
set_option linter.unusedSimpArgs false
set_option linter.unusedVariables false
open Go.RowKit Go.Sort

/-- Behind the sort: the variable and its list. -/
def NS (w0 : World) (mb : Nat) (A : Option Addr) (c : Nat) (RES : List ByteArray) (w : World) : Prop :=
  Blk w mb 30 #[.slice A RES.length c] ∧ w.ownsRow (mb + 1) 9 1 (.slice A RES.length c) RES.length (strV RES) ∧ Below w0.heap.size w0 w
theorem NS.below {w0 : World} {mb : Nat} {A : Option Addr} {c : Nat} {RES : List ByteArray} {w w' : World} (h : NS w0 mb A c RES w) (hb : Below w.heap.size w w') : NS w0 mb A c RES w' :=
  ⟨h.1.below hb h.1.lt, own_turned h.2.1 (Turned.of_below hb []) (fun k _ hk => by cases hk), h.2.2.trans (hb.mono h.2.2.size)⟩
theorem NS.set {w0 : World} {mb b k : Nat} {c : Nat} {RES : List ByteArray} {w : World} {u : Value} (h : NS w0 mb (some ⟨b, 0, none⟩) c RES w) (hmb : w0.heap.size ≤ mb) (hu : (strV RES)[k]? = some u) : NS w0 mb (some ⟨b, 0, none⟩) c RES (w.setCell ⟨b, k, none⟩ u) := by
  have hb := (h.2.1.lt b rfl).1
  have h1 := (h.2.1.stored k u).1
  have e : (strV RES).set k u = strV RES := by
    apply List.ext_getElem?
    intro j
    rw [List.getElem?_set]
    split
    · rename_i e; subst e
      split
      · exact hu.symm
      · rename_i hl; rw [List.getElem?_eq_none (by omega)] at hu; cases hu
    · rfl
  rw [e] at h1
  refine ⟨h.1.far (by show mb ≠ b; omega) u, h1, h.2.2.trans (((Turned.refl [b] w).setCell (p := ⟨b, k, none⟩) (.inl (by simp)) u).below (fun g hg => by simp at hg; omega) h.2.2.size)⟩
set_option maxHeartbeats 2000000 in
set_option maxRecDepth 100000 in
theorem depNames_any (d : Dep) (s : Value) (S : Nat → Prop) (w : World) (hL : Lay w S d s) (hC : CleanS w S) (hT : Tabs w) (hsm : small d) (hN : nodes d ≤ 4194304) :
    Calls Tryz.prog 8 #[.agg (rowD d s)] w (LstS w (namesS d [])) := by
  obtain ⟨A, c, rfl, _, _⟩ := hL.form_
  have hSlt : ∀ b, S b → b < w.heap.size := fun b hb => by obtain ⟨cs, hc⟩ := hC b hb; exact hc.lt
  obtain ⟨w1, hw1⟩ : ∃ w1, w1 = (w.alloc (.cells (rowD d (.slice A d.args.length c)) 24)).alloc (.cells #[.slice none 0 0] 30) := ⟨_, rfl⟩
  have hB1 : Below w.heap.size w w1 := by rw [hw1]; exact ((Below.refl _ _).alloc (Nat.le_refl _) _).alloc (by simp) _
  have hz1 : w1.heap.size = w.heap.size + 2 := by rw [hw1]; simp
  have hm1 : Blk w1 (w.heap.size + 1) 30 #[.slice none 0 0] := by rw [hw1]; exact Blk.new' (by simp)
  have hst := StayS.below' (S := S) hB1
  have K1 : Blk w1 w.heap.size 24 (rowD d (.slice A d.args.length c)) := by rw [hw1]; exact (Blk.new _ _ _).alloc _
  unfold rowD at K1
  have k0 := K1.cell 0
  have k1 := K1.cell 1
  have k2 := K1.cell 2
  have k3 := K1.cell 3
  have k4 := K1.cell 4
  simp at k0 k1 k2 k3 k4
  have CE := Lib.hid (each_any d (.slice A d.args.length c) S w1 [w.heap.size + 1] _ _ _ _ _ (named_sees (w.heap.size + 1) d) (hL.stay (fun _ h => h) hst) (hC.stay hst) ⟨⟨by omega, _, hm1, World.ownsRow_nil _ _ _ _, rfl⟩, by simp⟩ (fun k hk => by simp at hk; subst hk; have h2 := hT.two; exact ⟨by omega, by omega, fun h => by have := hSlt _ h; omega⟩) (hT.below hB1 hT.two) hN (Nat.le_refl _))
  have HB1 := Lib.hid hB1
  obtain ⟨RES, hRES⟩ : ∃ RES, Hid (RES = namesS d []) := ⟨_, rfl⟩
  rw [← hRES.out]
  have HY : Hid (∀ y ∈ RES, y.size ≤ 2147483648) := by show ∀ y ∈ RES, _; rw [hRES.out]; exact names_small hsm
  have hz := Lib.hid hz1
  clear hL hC hT hsm hN hSlt hst hm1 hB1 K1 hz1
  subst hw1
  unfold rowD at CE HB1 hz k0 k1 k2 k3 k4 ⊢
  go_enter Tryz.func8, Tryz.ntmps8
  go_wp2_with fail
  refine CE.out.mono ?_
  rintro e w2 ⟨F', ht, hfr, hlt, h⟩
  rcases h with ⟨rfl, l, ⟨⟨_, v, hm, hown, rfl⟩, hll⟩, h1, h2⟩ | ⟨_, a, _, hbad⟩
  · have hB2 : Below w.heap.size w w2 := HB1.out.trans (ht.below (fun k hk => by simp at hk; omega) HB1.out.size)
    have hnl : (named l).length ≤ l.length := by unfold named; rw [List.length_map]; exact List.length_filter_le _ _
    obtain ⟨A2, c2, rfl, _, _⟩ := own_form' hown
    rw [strV_txs] at hown
    have C2 := Lib.hid (sortS_own (w.heap.size + 1 + 1) _ _ (txs (named l)) w2 hown (by omega) hm.lt)
    have d0 := hm.cell 0
    simp at d0
    have hlt2 := hown.lt
    clear CE HB1 ht hfr hlt hown k0 k1 k2 k3 k4
    go_wp2_with fail
    refine C2.out.mono ?_
    rintro e w3 ⟨rfl, hown3, hg3⟩
    have hm3 : Blk w3 (w.heap.size + 1) 30 _ := hm.grown hg3 (fun e => by have := (hlt2 _ e.symm).1; omega)
    have hB3 : Below w.heap.size w w3 := hB2.grown hg3 hB2.size (fun k hk => by have := (hlt2 _ hk).1; omega)
    have C3 := Lib.hid (compactS_own (w.heap.size + 1 + 1) _ _ _ w3 hown3 hm3.lt)
    have d3 := hm3.cell 0
    simp at d3
    clear C2 hm hg3 d0 hown3 hB2
    go_wp2_with fail
    refine C3.out.mono ?_
    rintro e w4 ⟨v4, rfl, hown4, hob4, hg4⟩
    rw [names_res h1 (fun x hx => (h2 x hx).1), ← hRES.out, ← strV_txs, show (txs RES).length = RES.length by unfold txs; simp] at hown4
    have hm4 : Blk w4 (w.heap.size + 1) 30 _ := hm3.grown hg4 (fun e => by have := (hlt2 _ e.symm).1; omega)
    have hB4 : Below w.heap.size w w4 := hB3.grown hg4 hB3.size (fun k hk => by have := (hlt2 _ hk).1; omega)
    obtain ⟨A4, c4, rfl, hc4, hc4m⟩ := own_form' hown4
    have d4 := hm4.cell 0
    have f4 := hm4.free 0
    simp at d4
    have hne : (Value.slice A4 RES.length c4).ownBlock ≠ some (w.heap.size + 1) := fun e => by have := (hown4.lt _ e).1; omega
    have HS0 : Hid (NS w (w.heap.size + 1) A4 c4 RES (w4.setCell ⟨w.heap.size + 1, 0, none⟩ (.slice A4 RES.length c4))) :=
      ⟨hm4.set_ 0 _, own_setCell hown4 (p := ⟨w.heap.size + 1, 0, none⟩) hne _, hB4.trans (((Turned.refl [w.heap.size + 1] w4).setCell (p := ⟨w.heap.size + 1, 0, none⟩) (.inl (by simp)) _).below (fun g hg => by simp at hg; omega) hB4.size)⟩
    have d5 := HS0.out.1.cell 0
    simp at d5
    clear C3 hm3 d3 hlt2 h1 h2 hnl hll hown4 hob4 hg4 hm4 hB4 hB3 hne
    unfold maxLen at hc4m
    go_wp2_with fail
    go_loopw [15] (fun v15 wx => ∃ (k : Nat), k ≤ RES.length ∧ v15 = .int .i64 (k : Int) ∧ Hid (NS w (w.heap.size + 1) A4 c4 RES wx)) (fun v15 _ => RES.length - (intOf v15).toNat)
    case atStart => exact ⟨0, Nat.zero_le _, rfl, HS0⟩
    case round =>
      clear HS0 d4 f4 d5
      obtain ⟨k, hk, rfl, HSr⟩ := hrel
      by_cases hlt : k < RES.length
      · have hltI : (k : Int) < (RES.length : Int) := by omega
        obtain ⟨y, hy⟩ : ∃ y, RES[k]? = some y := ⟨_, List.getElem?_eq_getElem hlt⟩
        have hv : (strV RES)[k]? = some (.string y) := by unfold strV; rw [List.getElem?_map, hy]; rfl
        obtain ⟨b, rfl, hcb⟩ := own_at_ HSr.out.2.1 hv
        have CC := Lib.hid (fun w => clone_all y (HY.out y (List.mem_of_getElem? hy)) w)
        have HV := Lib.hid hv
        clear hy hv
        go_upto_region 8 with fail
        rename_i K hK
        have HMB : Hid (w.heap.size ≤ w.heap.size + 1) := Nat.le_succ _
        have HSd : Hid (NS w (w.heap.size + 1) (some ⟨b, 0, none⟩) c4 RES wr.drew) := HSr.out.below (Below.refl _ _).drew
        have HLd : Hid (∀ w', NS w (w.heap.size + 1) (some ⟨b, 0, none⟩) c4 RES w' → w'.cell? ⟨w.heap.size + 1, 0, none⟩ = some (.slice (some ⟨b, 0, none⟩) RES.length c4) ∧ w'.cell? ⟨b, k, none⟩ = some (.string y) ∧ w'.frozen? ⟨b, k, none⟩ = false) := fun w' h => by
          refine ⟨?_, ?_, h.2.1.frozenAt k⟩
          · have := h.1.cell 0
            simpa using this
          · rw [h.2.1.cellAt k (by omega)]; exact HV.out
        refine wp_region_S (fun _ w' => NS w (w.heap.size + 1) (some ⟨b, 0, none⟩) c4 RES w') (by kernel_rfl) HSd.out (fun hS => ?_)
        refine wpAnyS_take (i := 0) (fun w' => w'.cell? ⟨w.heap.size + 1, 0, none⟩ = some (.slice (some ⟨b, 0, none⟩) RES.length c4)) (v := .slice (some ⟨b, 0, none⟩) RES.length c4) rfl (by kernel_rfl) (by kernel_rfl) (by kernel_rfl) (fun _ _ _ h => h) (fun l w' hw hS => (HLd.out _ hS).1) (fun _ _ => Iff.rfl) (by kernel_rfl) hS (fun w' hSw => ?_) (by rfl) (fun hS => ?_)
        · go_simp
        try simp only [Act.put, List.setIfInBounds_toArray, List.set_cons_zero, List.set_cons_succ]
        refine wpAnyS_take (i := 1) (fun _ => True) (v := .int .i64 (k : Int)) rfl (by kernel_rfl) (by kernel_rfl) (by kernel_rfl) (fun _ _ _ h => h) (fun _ _ _ _ => trivial) (fun _ _ => Iff.rfl) (by kernel_rfl) hS (fun w' hSw => ?_) (by rfl) (fun hS => ?_)
        · go_simp
        try simp only [Act.put, List.setIfInBounds_toArray, List.set_cons_zero, List.set_cons_succ]
        refine wpAnyS_take (i := 2) (fun _ => True) (v := .string y) rfl (by kernel_rfl) (by kernel_rfl) (by kernel_rfl) (fun _ _ _ h => h) (fun _ _ _ _ => trivial) (fun _ _ => Iff.rfl) (by kernel_rfl) hS (fun w' hSw => ?_) (by rfl) (fun hS => ?_)
        · go_simp
        try simp only [Act.put, List.setIfInBounds_toArray, List.set_cons_zero, List.set_cons_succ]
        refine wpAnyS_one (i := 3) (by kernel_rfl) rfl (fun K3 hK3 => ?_)
        go_simp
        refine (CC.out wr.drew).mono ?_
        rintro e w3 ⟨rfl, hb3⟩
        have HS3 := Lib.hid (NS.below hS hb3)
        clear hb3
        refine hK3.out _ _ HS3.out (fun hS => ?_)
        clear hK3 K3
        try simp only [Act.put, List.setIfInBounds_toArray, List.set_cons_zero, List.set_cons_succ]
        refine wpAnyS_take (i := 4) (fun _ => True) (v := .pointer (some ⟨b, k, none⟩)) rfl (by kernel_rfl) (by kernel_rfl) (by kernel_rfl) (fun _ _ _ h => h) (fun _ _ _ _ => trivial) (fun _ _ => Iff.rfl) (by kernel_rfl) hS (fun w' hSw => ?_) (by rfl) (fun hS => ?_)
        · go_simp
        try simp only [Act.put, List.setIfInBounds_toArray, List.set_cons_zero, List.set_cons_succ]
        have HSn := Lib.hid (HS3.out.set HMB.out HV.out)
        obtain ⟨_, e5, f5⟩ := HLd.out _ HS3.out
        refine wpAnyS_one (i := 5) (by kernel_rfl) rfl (fun K5 hK5 => ?_)
        go_simp
        refine hK5.out _ _ HSn.out (fun hS => ?_)
        clear hK5 K5
        try simp only [Act.put, List.setIfInBounds_toArray, List.set_cons_zero, List.set_cons_succ]
        refine wpAnyS_done (by kernel_rfl) ?_ _
        clear hS e5 f5 HS3 HSd hcb HSr
        refine hK _ _ ?_
        clear hK
        go_wp2_with fail
        go_roundw
        case rel => exact ⟨k + 1, by omega, by go_num, HSn⟩
        case measure => simp [intOf]; omega
      · have d6 := HSr.out.1.cell 0
        simp at d6
        have HP : Hid (LstS w RES (.returned (.slice A4 RES.length c4)) wr) := ⟨A4, c4, rfl, hc4, hc4m, Rd.own HSr.out.2.1, HSr.out.2.2⟩
        go_wp2_with fail
        go_ret
        exact HP.out
  · cases hbad
end Go.Proofs.YtghbhajiddnmkaaGreatDoor
namespace Go.Proofs.YtghbhajiddnmkaaGreatDoor
set_option linter.unusedSimpArgs false
set_option linter.unusedVariables false
open Go.RowKit

set_option maxHeartbeats 1000000 in
set_option maxRecDepth 100000 in
theorem refNames_any (d : Dep) (s : Value) (S : Nat → Prop) (w : World) (hL : Lay w S d s) (hN : nodes d ≤ 4194304) :
    Calls Tryz.prog 10 #[.agg (rowD d s)] w (LstS w (namesS d [])) := by
  obtain ⟨A, c, rfl, _, _⟩ := hL.form_
  obtain ⟨w1, hw1⟩ : ∃ w1, w1 = w.alloc (.cells (rowD d (.slice A d.args.length c)) 24) := ⟨_, rfl⟩
  have hB1 : Below w.heap.size w w1 := by rw [hw1]; exact (Below.refl _ _).alloc (Nat.le_refl _) _
  have K1 : Blk w1 w.heap.size 24 (rowD d (.slice A d.args.length c)) := by rw [hw1]; exact Blk.new _ _ _
  have CN := Lib.hid (refNamesIn_any d (.slice A d.args.length c) S none 0 [] w1 (hL.stay (fun _ h => h) (StayS.below' hB1)) (by simpa using hN) (by simp) (by simp [maxLen]) (fun k v hk => by simp [strV] at hk))
  unfold rowD at K1
  have k0 := K1.cell 0
  have k1 := K1.cell 1
  have k2 := K1.cell 2
  have k3 := K1.cell 3
  have k4 := K1.cell 4
  simp at k0 k1 k2 k3 k4
  have HB := Lib.hid hB1
  clear hL hB1 K1
  subst hw1
  unfold rowD at CN HB k0 k1 k2 k3 k4 ⊢
  go_enter Tryz.func10, Tryz.ntmps10
  go_wp2_with fail
  refine CN.out.mono ?_
  rintro e w2 ⟨A2, c2, rfl, h1, h2, h3, h4⟩
  have HP : Hid (LstS w (namesS d []) (.returned (.slice A2 (namesS d []).length c2)) w2) := ⟨A2, c2, rfl, h1, h2, h3, HB.out.trans (h4.mono HB.out.size)⟩
  clear h1 h2 h3 h4 CN HB k0 k1 k2 k3 k4
  go_wp2_with fail
  go_ret
  exact HP.out
end Go.Proofs.YtghbhajiddnmkaaGreatDoor
