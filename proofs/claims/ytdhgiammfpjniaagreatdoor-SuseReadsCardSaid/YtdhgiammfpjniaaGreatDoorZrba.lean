/- Parts of the proof. -/
import Derived.Test.YtdhgiammfpjniaaGreatDoorZraz
import Derived.Test.YtdhgiammfpjniaaGreatDoorZram
import Derived.Test.YtdhgiammfpjniaaGreatDoorZrao
import Derived.Deep.RegionLaw
import Derived.Test.YtdhgiammfpjniaaGreatDoorZras
namespace Go.Proofs.YtdhgiammfpjniaaGreatDoor
set_option linter.unusedSimpArgs false
set_option linter.unusedVariables false
open Go.RowKit Go.MapKept
theorem nodes_le {d : Ev.Dep} (h : Ev.checkN d = 0) : Ev.nodes d ≤ 100002 := by
 unfold Ev.checkN at h
 split at h
 ·next hf =>
  split at h
  ·cases h
  ·have := Ev.nodes_leaves d hf
   omega
 ·cases h
def GoodK (S : Sk) : Prop := ∀ i, i < 7 → ∀ d ∈ S.D i, Ev.nodes d ≤ 100002
theorem aoQ8 {v : Bs} {d : Ev.Dep} (h : (Ev.parseD v).1 = some d) : Ev.checkN d = 0 := by
 unfold Ev.parseD at h
 split at h
 ·cases h
 ·split at h
  ·next hc => injection h with h; rw [← h]; exact hc
  ·cases h
theorem anQ1 {m : Mg} {S S' : Sk} {v : Bs} (hS : GoodK S) (h : actM m S v = some S') : GoodK S' := by
 cases m with
 | none => injection h with h; rw [← h]; exact hS
 | vnd => injection h with h; rw [← h]; exact hS
 | fls => injection h with h; rw [← h]; exact hS
 | dep i =>
   have h : (match (Ev.parseD v).1 with | some d => some (⟨S.T, updF S.D i (S.D i ++ [d]), S.fl⟩ : Sk) | none => none) = some S' := h
   cases hp : (Ev.parseD v).1 with
   | none => rw [hp] at h; cases h
   | some d =>
     rw [hp] at h
     injection h with h
     rw [← h]
     intro j hj a ha
     have ha : a ∈ updF S.D i (S.D i ++ [d]) j := ha
     by_cases e : j = i
     ·subst e
      rw [aaQ3] at ha
      rcases List.mem_append.1 ha with ha | ha
      ·exact hS j hj a ha
      ·rw [List.mem_singleton.1 ha]
       exact nodes_le (aoQ8 hp)
     ·rw [aaQp _ _ e] at ha
      exact hS j hj a ha
theorem aeQ9 {m : Mg} : ∀ {vs : List Bs} {S S' : Sk}, GoodK S → putM m vs S = some S' → GoodK S'
 | [], S, S', hS, h => by injection h with h; rw [← h]; exact hS
 | v :: r, S, S', hS, h => by
   have h : (match actM m S v with | some S1 => putM m r S1 | none => none) = some S' := h
   cases ha : actM m S v with
   | none => rw [ha] at h; cases h
   | some S1 =>
     rw [ha] at h
     exact aeQ9 (anQ1 hS ha) h
def StB (w : World) (b : Nat) : Prop := ∃ cs, Blk w b 9 cs
section
variable {w0 w w' : World} {B g b1 m Bm : Nat} {r : Bs} {pb cap : Nat} {ys : List Sk5} {x x' : Sk5}
theorem OldM.list (h : OldM w b1 x) {i : Nat} (hi : i < 7) : Ev.ListAt w (DbB w) (x.S.D i) (x.ss i) := by
 have hD := h.is i hi
 have hlen : (x.S.D i).length = (x.rs i).length := by rw [← hD, List.length_map]
 rcases (h.own i hi).2 with ⟨hv, h0⟩ | ⟨g, cap, cur, hv, hb, hg, h1, h2, h3, ht⟩
 ·have hr : x.rs i = [] := List.length_eq_zero_iff.1 h0
  rw [hr] at hD
  rw [← hD]
  exact ⟨none, 0, hv, Nat.le_refl _, by unfold maxLen; omega, fun _ => rfl, fun j a ha => by simp at ha⟩
 ·refine ⟨some ⟨g, 0, none⟩, cap, by rw [hlen]; exact hv, by omega, h2, fun e => (by cases e), fun j a ha => ?_⟩
  rw [← hD, List.getElem?_map] at ha
  obtain ⟨y, hx, rfl⟩ := Option.map_eq_some_iff.1 ha
  obtain ⟨c0, c1, c2, c3, c4⟩ := Ev.cells5_at hx
  have hown := h.own i hi
  rw [hv] at hown
  have hat : ∀ {k : Nat} {u : Value}, (Ev.cells5 (x.rs i))[k]? = some u → w.cell? ⟨g, k, none⟩ = some u := fun {k u} hk => by
   obtain ⟨b, e, hc⟩ := abQl hown hk
   injection e with e
   injection e with e
   subst e
   exact hc
  have hB : ∀ b, b ∈ x.F → DbB w b := fun b hb => (h.dep b hb).2
  exact ⟨g, 0, y.2, rfl, ⟨cur, hg⟩, ⟨by rw [Nat.zero_add]; exact hat c0, by rw [Nat.zero_add]; exact hat c1, by rw [Nat.zero_add]; exact hat c2, by rw [Nat.zero_add]; exact hat c3, by rw [Nat.zero_add]; exact hat c4⟩, Ev.Lay.stay hB (Ev.StayS.refl _ _) y.1 y.2 (h.lay i hi y (List.mem_of_getElem? hx))⟩
theorem OldM.pkg (h : OldM w b1 x) : Ev.PkgAt w (DbB w) (StB w) (pkgS x.S) x.ss x.fs := by
 refine ⟨fun i hi => ?_, ?_⟩
 ·have e : (pkgS x.S).ls i = x.S.D i := if_pos hi
  rw [e]
  exact h.list hi
 ·have e : (pkgS x.S).files = x.S.fl.map mkS := rfl
  rw [e]
  obtain ⟨A, c, hv, hn, hm⟩ := aaQc h.fil
  have hlen : (x.S.fl.map mkS).length = x.S.fl.length := List.length_map _
  refine ⟨A, c, by rw [hlen]; exact hv, by omega, hm, fun e => ?_, fun k s hk => ?_⟩
  ·rcases h.fil.2 with ⟨h1, _⟩ | ⟨g, cap, cur, h1, _⟩
   ·rw [hv] at h1
    injection h1
   ·rw [hv, e] at h1
    injection h1 with h1 _ _
    cases h1
  ·rw [List.getElem?_map] at hk
   obtain ⟨p, hp, rfl⟩ := Option.map_eq_some_iff.1 hk
   have hf := h.fil
   rw [hv] at hf
   obtain ⟨b, e, hc⟩ := acQ7 hf (k := k) (u := .string (mkS p)) (by unfold strR; rw [List.getElem?_map, hp]; rfl)
   rw [e] at hv
   obtain ⟨cs, hb⟩ := own_blk h.fil (k := b) (by rw [hv]; rfl)
   exact ⟨b, 0, e, ⟨cs, hb⟩, by rw [Nat.zero_add]; exact hc⟩
theorem SuM.check (h : SuM w0 w B g b1 r pb cap ys x) (hT : Ev.Tabs w) (hn : GoodK x.S) :
 Calls Tryz.prog 29 #[.agg (x.row).toArray] w fun e w' => e = .returned (.int .i64 (chkS x.S)) ∧ Below w.heap.size w w' := by
 have hC : Ev.ChecksAt QD (DbB w) (pkgS x.S) w := by
  intro i hi d hdm t w2 hb2 hL
  have e : (pkgS x.S).ls i = x.S.D i := if_pos hi
  rw [e] at hdm
  refine (Ev.depCheck_any d t (DbB w) w2 hL (fun b hb => ?_) (hT.turned (Turned.of_below hb2 []) (fun x hx => by cases hx)) (by have := hn i hi d hdm; omega)).mono ?_
  ·obtain ⟨cs, h⟩ := hb
   exact ⟨cs, Blk.mono h hb2⟩
  ·rintro e w3 ⟨rfl, hb3⟩
   exact ⟨⟨_, rfl, rfl⟩, hb3⟩
 refine (Ev.poolCheck_any QD (pkgS x.S) x.ss x.fs (DbB w) (StB w) w h.last.old.pkg hC hT).mono ?_
 rintro e w2 ⟨⟨n, hn, rfl⟩, hb2⟩
 exact ⟨by rw [chkD_det hn]; rfl, hb2⟩
set_option maxHeartbeats 1000000 in
set_option maxRecDepth 100000 in
theorem anQx (h : SuM w0 w B g b1 r pb cap ys x) : Calls Tryz.prog 77 #[.pointer (some ⟨g, 0, none⟩)] w fun e w' => e = .returned (.pointer (some ⟨pb, ys.length * 12, none⟩)) ∧ ∃ n, w' = w.drewN n := by
 have r1 := Blk.cell h.rd 1
 simp at r1
 have hn : ((ys.length : Nat) : Int) + 1 - 1 = (ys.length : Int) := by omega
 have hlt : (ys.length : Int) < (ys.length : Int) + 1 := by omega
 have h0 : (0 : Int) ≤ (ys.length : Int) := by omega
 have hc2 : ys.length + 1 ≤ maxLen := by
  obtain ⟨A', c', e', hc1, hc2⟩ := aaQc h.row
  omega
 unfold maxLen at hc2
 have hwr : IntKind.i64.wrap (ys.length : Int) = (ys.length : Int) := by
  rw [IntKind.wrap_i64]
  omega
 clear h
 generalize ys.length = n at *
 go_enter Tryz.func77, Tryz.ntmps77
 go_wp2_with fail
 go_region
 go_wp2_with fail
 go_ret
 exact ⟨by simp, _, rfl⟩
end
section
variable {w0 w w' : World} {B g b1 m Bm : Nat} {r : Bs} {pb cap : Nat} {ys : List Sk5} {x x' : Sk5}
set_option maxHeartbeats 1000000 in
set_option maxRecDepth 100000 in
theorem apQ3 (h : SuM w0 w B g b1 r pb cap ys x) (hT : Ev.Tabs w) (hn : GoodK x.S) : Calls Tryz.prog 71 #[.pointer (some ⟨g, 0, none⟩)] w fun e w' => e = .returned (.int .i64 (chkS x.S)) ∧ Below w.heap.size w w' := by
 have r1 := Blk.cell h.rd 1
 simp at r1
 have C1 := hQQ (anQx h)
 have HC := hQQ (fun n => SuM.check (h.below (aaQs (Below.refl _ _) n)) (hT.turned (Turned.of_below (aaQs (Below.refl _ _) n) []) (fun x hx => by cases hx)) hn)
 have HL := hQQ (fun n => h.below (aaQs (n := n) (Below.refl w.heap.size w)))
 clear h hT hn
 go_enter Tryz.func71, Tryz.ntmps71
 go_wp2_with fail
 refine C1.out.mono ?_
 rintro e w1 ⟨rfl, n, rfl⟩
 have b0 := (HL.out n).cell (j := 0) rfl
 have b1 := (HL.out n).cell (j := 1) rfl
 have b2 := (HL.out n).cell (j := 2) rfl
 have b3 := (HL.out n).cell (j := 3) rfl
 have b4 := (HL.out n).cell (j := 4) rfl
 have b5 := (HL.out n).cell (j := 5) rfl
 have b6 := (HL.out n).cell (j := 6) rfl
 have b7 := (HL.out n).cell (j := 7) rfl
 have b8 := (HL.out n).cell (j := 8) rfl
 have b9 := (HL.out n).cell (j := 9) rfl
 have b10 := (HL.out n).cell (j := 10) rfl
 have b11 := (HL.out n).cell (j := 11) rfl
 rw [Nat.add_zero] at b0
 have hc := hQQ (HC.out n)
 unfold Sk5.row rowK at hc
 have HB : Hid (Below w.heap.size w (w.drewN n)) := aaQs (Below.refl _ _) n
 clear HL HC C1 r1
 generalize w.drewN n = w1 at *
 go_wp2_with fail
 refine hc.out.mono ?_
 rintro e w2 ⟨rfl, hb⟩
 have HB2 := hQQ (HB.out.trans (hb.mono HB.out.size))
 clear hb hc HB
 go_wp2_with fail
 go_ret
 exact ⟨rfl, HB2.out⟩
set_option maxHeartbeats 1000000 in
set_option maxRecDepth 100000 in
theorem aoQg (h : RdR w g r (.slice none 0 0)) : Calls Tryz.prog 71 #[.pointer (some ⟨g, 0, none⟩)] w fun e w' => e = .returned (.int .i64 0) ∧ Below w.heap.size w w' := by
 have r1 := Blk.cell h 1
 simp at r1
 clear h
 go_enter Tryz.func71, Tryz.ntmps71
 go_wp2_with fail
 go_ret
 exact ⟨rfl, Below.refl _ _⟩
end
structure AllM (w0 w : World) (B g : Nat) (r : Bs) (v : Value) (xs : List Sk5) : Prop where
 rd : RdR w g r v
 row : w.ownsRow B 37 12 v xs.length (rowsK xs)
 old : ∀ y ∈ xs, OldM w w.heap.size y
 le : B ≤ g ∧ B ≤ w.heap.size
 bel : Below B w0 w
theorem SuM.all {w0 w : World} {B g b1 : Nat} {r : Bs} {pb cap : Nat} {ys : List Sk5} {x : Sk5} (h : SuM w0 w B g b1 r pb cap ys x) : AllM w0 w B g r (.slice (some ⟨pb, 0, none⟩) (ys.length + 1) cap) (ys ++ [x]) :=
 ⟨h.rd, by
  rw [List.length_append, agQ5]
  have : rowsK [x] = x.row := List.append_nil _
  rw [this]
  exact h.row, fun y hy => by
  rcases List.mem_append.1 hy with hy | hy
  ·exact (h.old y hy).mono h.le.2.2
  ·rw [List.mem_singleton.1 hy]
   exact h.last.old, ⟨h.le.1, Nat.le_trans h.le.2.1 h.le.2.2⟩, h.bel⟩
theorem AllM.below {w0 w w' : World} {B g : Nat} {r : Bs} {v : Value} {xs : List Sk5} (h : AllM w0 w B g r v xs) (hb : Below w.heap.size w w') : AllM w0 w' B g r v xs :=
 ⟨Blk.mono h.rd hb, aaQf h.row (Turned.of_below hb []) (fun k hk hm => by cases hm), fun y hy => ((h.old y hy).below hb).mono hb.size, ⟨h.le.1, Nat.le_trans h.le.2 hb.size⟩, h.bel.trans (hb.mono h.le.2)⟩
def newX (a b d : Bs) : Sk5 := ⟨newS a b d, fun _ => .slice none 0 0, fun _ => [], [], .slice none 0 0⟩
theorem AllM.push {w0 w w' : World} {B g : Nat} {r : Bs} {v v' : Value} {xs : List Sk5} (h : AllM w0 w B g r v xs) {a b d : Bs} (hown : w'.ownsRow B 37 12 v' (xs.length + 1) (rowsK xs ++ (newX a b d).row)) (hg : w.grownBy w' v.ownBlock) :
 ∃ pb cap, v' = .slice (some ⟨pb, 0, none⟩) (xs.length + 1) cap ∧ SuM w0 (w'.setCell ⟨g, 1, none⟩ v') B g w.heap.size r pb cap xs (newX a b d) := by
 rcases hown.2 with ⟨_, h0⟩ | ⟨pb, cap, cur, rfl, hpB, hpk, _⟩
 ·omega
 have hpk : Blk w' pb 37 cur := hpk
 have ht := aaQi hg
 have hgR : g ∉ v.ownBlock.toList := fun hm => by
  obtain ⟨cs', hb⟩ := own_blk h.row (by simpa using hm)
  exact Blk.kind hb h.rd (by decide) rfl
 have hrd := h.rd.turned ht hgR
 have hne : pb ≠ g := Blk.kind hpk hrd (by decide)
 have hT : Turned (g :: v.ownBlock.toList) w (w'.setCell ⟨g, 1, none⟩ (.slice (some ⟨pb, 0, none⟩) (xs.length + 1) cap)) := (ht.more (fun k hk => List.mem_cons_of_mem _ hk)).setCell (.inl (by simp)) _
 refine ⟨pb, cap, rfl, hrd.set_ 1 _, abQz hown (fun e => by injection e with e; exact hne e) _, fun y hy => (h.old y hy).turned hT (fun k hk => .inr ?_), ?_, ⟨h.le.1, h.le.2, hT.size⟩, h.bel.trans (hT.below (fun k hk => ?_) h.le.2)⟩
 ·rcases List.mem_cons.1 hk with rfl | hk
  ·exact NoRow.of h.rd (by decide) (by decide)
  ·obtain ⟨cs', hb⟩ := own_blk h.row (k := k) (by simpa using hk)
   exact NoRow.of hb (by decide) (by decide)
 ·refine ⟨fun i hi => World.ownsRow_nil _ _ _ _, fun i hi => rfl, fun i hi y hy => (by cases hy), fun i hi b hb => (by cases hb), fun i j _ _ _ k hk => (by cases hk), fun b hb => (by cases hb), World.ownsRow_nil _ _ _ _⟩
 ·rcases List.mem_cons.1 hk with rfl | hk
  ·exact h.le.1
  ·exact (h.row.lt k (by simpa using hk)).1
end Go.Proofs.YtdhgiammfpjniaaGreatDoor

namespace Go.Proofs.YtdhgiammfpjniaaGreatDoor.Ev
set_option linter.unusedSimpArgs false
set_option linter.unusedVariables false
open Go.RowKit
theorem amQ2 (s : ByteArray) (m n : Nat) : (s.extract m n).data.toList = (s.data.toList.drop m).take (n - m) := by
 simp
theorem apQ2 {l : Wd} {c : UInt8} {r : Wd} (h : l = c :: r) (h1 : c ≠ 32) (h2 : c ≠ 40) (h3 : c ≠ 41) : 1 ≤ aaQq 0 l ∧ words l = l.take (aaQq 0 l) :: words (l.drop (aaQq 0 l)) := by
 have e1 : skipB l = l := by unfold skipB; rw [h, List.dropWhile_cons]; simp [h1]
 have e2 : endN l = aaQq 0 l := by
  rw [h]
  show (if c = 40 ∨ c = 41 then 1 else aaQq 0 (c :: r)) = _
  rw [if_neg (by simp [h2, h3])]
 have e3 : 1 ≤ endN l := by rw [h]; exact ajQj c r h1
 refine ⟨by omega, ?_⟩
 have hne : (cutW l).1 ≠ [] := by
  unfold cutW
  simp only [e1, e2]
  rw [h]
  intro h0
  have := congrArg List.length h0
  rw [List.length_take, ← h] at this
  simp only [List.length_nil] at this
  have : l.length ≠ 0 := by rw [h]; simp
  omega
 rw [← abQq, abQc _ hne]
 unfold cutW
 simp only [e1, e2]
theorem aeQr {s : ByteArray} {i : Nat} (h : i < s.size) : s.data.toList.drop i = s[i] :: s.data.toList.drop (i + 1) := by
 have h1 := aaQw h
 rw [List.drop_eq_getElem_cons (by rw [aaQd]; exact h)]
 rw [List.getElem?_eq_getElem (by rw [aaQd]; exact h)] at h1
 injection h1 with h1
 rw [h1]
theorem afQzz {s : ByteArray} {j o : Nat} (h : j < s.size) : aaQq o (s.data.toList.drop j) = if s[j] = 32 then 0 else if s[j] = 41 ∧ o = 0 then 0 else 1 + aaQq (if s[j] = 40 then o + 1 else if s[j] = 41 then o - 1 else o) (s.data.toList.drop (j + 1)) := by
 rw [aeQr h]
 rfl
structure WSt (w0 : World) (s : ByteArray) (wx : World) (v : Value) (ys : List ByteArray) (i : Nat) : Prop where
 below : Below w0.heap.size w0 wx
 own : wx.ownsRow w0.heap.size 9 1 v ys.length (ys.map Value.string)
 all : words s.data.toList = (ys.map fun y => y.data.toList) ++ words (s.data.toList.drop i)
 few : ys.length ≤ i
theorem WSt.own_alloc {w0 : World} {s : ByteArray} {wx : World} {v : Value} {ys : List ByteArray} {i : Nat} (h : WSt w0 s wx v ys i) (o : Obj) : (wx.alloc o).ownsRow w0.heap.size 9 1 v ys.length (ys.map Value.string) := h.own.alloc o
theorem WSt.next {w0 : World} {s : ByteArray} {wx w4 : World} {v v4 : Value} {ys : List ByteArray} {i j : Nat} {o : Obj} {x : ByteArray} (h : WSt w0 s wx v ys i) (hown : w4.ownsRow w0.heap.size 9 1 v4 (ys.length + 1) (ys.map Value.string ++ [.string x])) (hg : (wx.alloc o).grownBy w4 v.ownBlock)
 (hj : i < j) (hw : words (s.data.toList.drop i) = x.data.toList :: words (s.data.toList.drop j)) : WSt w0 s w4 v4 (ys ++ [x]) j := by
 refine ⟨?_, ?_, ?_, by have := h.few; simp; omega⟩
 ·exact (h.below.alloc h.below.size _).grown hg (by have := h.below.size; simp; omega) (fun k hk => (h.own.lt k hk).1)
 ·rw [List.length_append, List.map_append]; exact hown
 ·rw [h.all, hw, List.map_append, List.append_assoc]; rfl
theorem WSt.skip {w0 : World} {s : ByteArray} {wx : World} {v : Value} {ys : List ByteArray} {i : Nat} (h : WSt w0 s wx v ys i) (hw : words (s.data.toList.drop i) = words (s.data.toList.drop (i + 1))) : WSt w0 s wx v ys (i + 1) :=
 ⟨h.below, h.own, h.all.trans (by rw [hw]), by have := h.few; omega⟩
theorem adQs : ∃ i, Tryz.prog.info? 9 = some i ∧ i.zero = some (.string ⟨#[]⟩) ∧ i.size = 1 ∧ i.bytes = 16 := by
 obtain ⟨i, h, h0, h1, h2⟩ := info_parts (show (Tryz.prog.info? 9).map (fun i => (i.zero, i.size, i.bytes)) = some (some (.string ⟨#[]⟩), 1, 16) by kernel_rfl)
 exact ⟨i, h, h0, h1, h2⟩
theorem par_end {s : ByteArray} {f j o : Nat} (hlt : f < s.size) (h1 : s[f] ≠ 32) (h2 : s[f] ≠ 40) (h3 : s[f] ≠ 41) (hj : f ≤ j) (h : aaQq 0 (s.data.toList.drop f) = (j - f) + aaQq o (s.data.toList.drop j)) (h0 : aaQq o (s.data.toList.drop j) = 0) :
 f < j ∧ words (s.data.toList.drop f) = (s.extract f j).data.toList :: words (s.data.toList.drop j) := by
 obtain ⟨h4, h5⟩ := apQ2 (aeQr hlt) h1 h2 h3
 rw [h0, Nat.add_zero] at h
 rw [h] at h4 h5
 refine ⟨by omega, ?_⟩
 rw [h5, amQ2, List.drop_drop, show f + (j - f) = j by omega]
def arQ5 (s : ByteArray) (w0 : World) (e : Ending) (w' : World) : Prop := ∃ v ys, e = .returned v ∧ WSt w0 s w' v ys s.size
set_option maxHeartbeats 4000000 in
set_option maxRecDepth 100000 in
theorem adQ1 (s : ByteArray) (hs : s.size ≤ 4194304) (w0 : World) : Calls Tryz.prog 190 #[.string s] w0 (arQ5 s w0) := by
 obtain ⟨i0, hi0, hz0⟩ := adQs
 have hi := hQQ hi0
 have hz := hQQ hz0
 clear hi0 hz0
 have H0 : Hid (WSt w0 s w0 (.slice none 0 0) [] 0) := ⟨Below.refl _ _, World.ownsRow_nil _ _ _ _, rfl, Nat.le_refl _⟩
 go_enter Tryz.func190, Tryz.ntmps190
 go_wp2_with fail
 go_loopw [3, 4] (fun vo vi wx => ∃ (i : Nat) (ys : List ByteArray), i ≤ s.size ∧ vi = .int .i64 (i : Int) ∧ Hid (WSt w0 s wx vo ys i)) (fun _ vi _ => s.size - (intOf vi).toNat)
 case atStart => exact ⟨0, [], Nat.zero_le _, rfl, H0⟩
 case round =>
  clear H0
  obtain ⟨i, ys, hi1, rfl, HM⟩ := hrel
  obtain ⟨A, c, rfl, hc1, hc2⟩ := aaQc HM.out.own
  unfold maxLen at hc2
  have hfew := HM.out.few
  have hge := hQQ HM.out.below.size
  by_cases hlt : i < s.size
  ·by_cases h32 : s[i] = 32
   ·obtain ⟨t1, _⟩ := abQu (n := 32) rfl h32
    have HN : Hid (WSt w0 s wr (.slice A ys.length c) ys (i + 1)) := HM.out.skip (by rw [aeQr hlt, h32, alQy])
    clear h32 HM
    go_wp2_with fail
    go_roundw
    case rel => exact ⟨i + 1, ys, by omega, by go_num, HN⟩
    case measure => simp [intOf]; omega
   obtain ⟨t1, _⟩ := aaQ6 (n := 32) rfl h32
   by_cases h40 : s[i] = 40
   ·obtain ⟨t2, _⟩ := abQu (n := 40) rfl h40
    have hx := hQQ (show words (s.data.toList.drop i) = (s.extract i (i + 1)).data.toList :: words (s.data.toList.drop (i + 1)) by rw [aeQr hlt, h40, aoQe, amQ2, aeQr hlt, h40]; simp)
    clear h32 h40
    go_wp2_with (at_builtin; refine wpList_append_own_at _ rfl (.tmp 27) (.tmp 33) 32 rfl w0.heap.size 9 i0 (.string ⟨#[]⟩) 1 16 Tryz.underlying32 hi.out hz.out.1 hz.out.2.1 hz.out.2.2 rfl (by decide) (.slice A ys.length c) ys.length (ys.map Value.string) rfl (WSt.own_alloc HM.out _) ⟨wr.heap.size, 0, none⟩ 1 1 [.string (s.extract i (i + 1))] rfl rfl (cell_one_new wr _ _) (by intro u hu; simp at hu; subst hu; rfl) (by unfold maxLen; omega) (by omega) (by have := hge.out; simp; omega) ?_; intro v4 w4 hown4 hg4 _ _; have HN : Hid (WSt w0 s w4 v4 (ys ++ [s.extract i (i + 1)]) (i + 1)) := WSt.next HM.out hown4 hg4 (by omega) hx.out; clear hown4 hg4)
    go_roundw
    case rel => exact ⟨i + 1, _, by omega, by go_num, HN⟩
    case measure => simp [intOf]; omega
   obtain ⟨t2, _⟩ := aaQ6 (n := 40) rfl h40
   by_cases h41 : s[i] = 41
   ·obtain ⟨t3, _⟩ := abQu (n := 41) rfl h41
    have hx := hQQ (show words (s.data.toList.drop i) = (s.extract i (i + 1)).data.toList :: words (s.data.toList.drop (i + 1)) by rw [aeQr hlt, h41, alQx, amQ2, aeQr hlt, h41]; simp)
    clear h32 h40 h41
    go_wp2_with (at_builtin; refine wpList_append_own_at _ rfl (.tmp 27) (.tmp 33) 32 rfl w0.heap.size 9 i0 (.string ⟨#[]⟩) 1 16 Tryz.underlying32 hi.out hz.out.1 hz.out.2.1 hz.out.2.2 rfl (by decide) (.slice A ys.length c) ys.length (ys.map Value.string) rfl (WSt.own_alloc HM.out _) ⟨wr.heap.size, 0, none⟩ 1 1 [.string (s.extract i (i + 1))] rfl rfl (cell_one_new wr _ _) (by intro u hu; simp at hu; subst hu; rfl) (by unfold maxLen; omega) (by omega) (by have := hge.out; simp; omega) ?_; intro v4 w4 hown4 hg4 _ _; have HN : Hid (WSt w0 s w4 v4 (ys ++ [s.extract i (i + 1)]) (i + 1)) := WSt.next HM.out hown4 hg4 (by omega) hx.out; clear hown4 hg4)
    go_roundw
    case rel => exact ⟨i + 1, _, by omega, by go_num, HN⟩
    case measure => simp [intOf]; omega
   obtain ⟨t3, _⟩ := aaQ6 (n := 41) rfl h41
   have HP := hQQ (fun j o hj h h0 => par_end (j := j) (o := o) hlt h32 h40 h41 hj h h0)
   clear h32 h40 h41
   go_wp2_with fail
   go_loop [4, 6] (fun vj vo => ∃ j o : Nat, i ≤ j ∧ j ≤ s.size ∧ o ≤ j ∧ vj = .int .i64 (j : Int) ∧ vo = .int .i64 (o : Int) ∧ Hid (aaQq 0 (s.data.toList.drop i) = (j - i) + aaQq o (s.data.toList.drop j))) (fun vj _ => s.size - (intOf vj).toNat)
   case atStart => exact ⟨i, 0, Nat.le_refl _, by omega, by omega, rfl, rfl, by show _ = _; simp⟩
   case round =>
    obtain ⟨j, o, hij, hj, hoj, rfl, rfl, hn⟩ := hrel
    clear t1 t2 t3
    by_cases hlt2 : j < s.size
    ·have HSc := hQQ (afQzz (o := o) hlt2)
     by_cases g32 : s[j] = 32
     ·obtain ⟨t4, _⟩ := abQu (n := 32) rfl g32
      obtain ⟨hfj, hw⟩ := HP.out j o hij hn.out (by rw [HSc.out, if_pos g32])
      have hx := hQQ hw
      clear hw hn HP g32 HSc
      go_wp2_with (at_builtin; refine wpList_append_own_at _ rfl (.tmp 70) (.tmp 75) 32 rfl w0.heap.size 9 i0 (.string ⟨#[]⟩) 1 16 Tryz.underlying32 hi.out hz.out.1 hz.out.2.1 hz.out.2.2 rfl (by decide) (.slice A ys.length c) ys.length (ys.map Value.string) rfl (WSt.own_alloc HM.out _) ⟨wr.heap.size, 0, none⟩ 1 1 [.string (s.extract i j)] rfl rfl (cell_one_new wr _ _) (by intro u hu; simp at hu; subst hu; rfl) (by unfold maxLen; omega) (by omega) (by have := hge.out; simp; omega) ?_; intro v4 w4 hown4 hg4 _ _; have HN : Hid (WSt w0 s w4 v4 (ys ++ [s.extract i j]) j) := WSt.next HM.out hown4 hg4 hfj hx.out; clear hown4 hg4)
      go_roundw
      case rel => exact ⟨j, _, by omega, rfl, HN⟩
      case measure => simp [intOf]; omega
     ·obtain ⟨t4, _⟩ := aaQ6 (n := 32) rfl g32
      by_cases g41 : s[j] = 41
      ·obtain ⟨t5, _⟩ := abQu (n := 41) rfl g41
       have g40 : s[j] ≠ 40 := by rw [g41]; decide
       obtain ⟨t6, _⟩ := aaQ6 (n := 40) rfl g40
       by_cases go0 : o = 0
       ·have HZ := hQQ (show aaQq o (s.data.toList.drop j) = 0 by rw [HSc.out, if_neg g32, if_pos ⟨g41, go0⟩])
        clear g32 g41 g40 HSc
        obtain ⟨hfj, hw⟩ := HP.out j o hij hn.out HZ.out
        have hx := hQQ hw
        subst go0
        clear hw hn HP HZ
        go_wp2_with (at_builtin; refine wpList_append_own_at _ rfl (.tmp 70) (.tmp 75) 32 rfl w0.heap.size 9 i0 (.string ⟨#[]⟩) 1 16 Tryz.underlying32 hi.out hz.out.1 hz.out.2.1 hz.out.2.2 rfl (by decide) (.slice A ys.length c) ys.length (ys.map Value.string) rfl (WSt.own_alloc HM.out _) ⟨wr.heap.size, 0, none⟩ 1 1 [.string (s.extract i j)] rfl rfl (cell_one_new wr _ _) (by intro u hu; simp at hu; subst hu; rfl) (by unfold maxLen; omega) (by omega) (by have := hge.out; simp; omega) ?_; intro v4 w4 hown4 hg4 _ _; have HN : Hid (WSt w0 s w4 v4 (ys ++ [s.extract i j]) j) := WSt.next HM.out hown4 hg4 hfj hx.out; clear hown4 hg4)
        go_roundw
        case rel => exact ⟨j, _, by omega, rfl, HN⟩
        case measure => simp [intOf]; omega
       ·have HZ : Hid (aaQq 0 (s.data.toList.drop i) = (j + 1 - i) + aaQq (o - 1) (s.data.toList.drop (j + 1))) := by
         show _ = _
         rw [hn.out, HSc.out, if_neg g32, if_neg (fun h => go0 h.2), if_neg g40, if_pos g41]
         omega
        have tn : ((o : Int) == 0) = false := beq_eq_false_iff_ne.2 (by omega)
        have tn1 : 1 ≤ o := by omega
        clear g32 g41 g40 HSc go0 hn HP
        go_wp2_with fail
        go_round
        case rel => exact ⟨j + 1, o - 1, by omega, by omega, by omega, by go_num, by congr 1; omega, HZ⟩
        case measure => simp [intOf]; omega
      ·obtain ⟨t5, _⟩ := aaQ6 (n := 41) rfl g41
       by_cases g40 : s[j] = 40
       ·obtain ⟨t6, _⟩ := abQu (n := 40) rfl g40
        have HZ : Hid (aaQq 0 (s.data.toList.drop i) = (j + 1 - i) + aaQq (o + 1) (s.data.toList.drop (j + 1))) := by
         show _ = _
         rw [hn.out, HSc.out, if_neg g32, if_neg (fun h => g41 h.1), if_pos g40]
         omega
        clear g32 g41 g40 HSc hn HP
        go_wp2_with fail
        go_round
        case rel => exact ⟨j + 1, o + 1, by omega, by omega, by omega, by go_num, by go_num, HZ⟩
        case measure => simp [intOf]; omega
       ·obtain ⟨t6, _⟩ := aaQ6 (n := 40) rfl g40
        have HZ : Hid (aaQq 0 (s.data.toList.drop i) = (j + 1 - i) + aaQq o (s.data.toList.drop (j + 1))) := by
         show _ = _
         rw [hn.out, HSc.out, if_neg g32, if_neg (fun h => g41 h.1), if_neg g40, if_neg g41]
         omega
        clear g32 g41 g40 HSc hn HP
        go_wp2_with fail
        go_round
        case rel => exact ⟨j + 1, o, by omega, by omega, by omega, by go_num, rfl, HZ⟩
        case measure => simp [intOf]; omega
    ·have hjs : j = s.size := by omega
     have HZ := hQQ (show aaQq o (s.data.toList.drop j) = 0 by rw [List.drop_eq_nil_of_le (by rw [aaQd]; omega)]; rfl)
     obtain ⟨hfj, hw⟩ := HP.out j o hij hn.out HZ.out
     have hx := hQQ hw
     clear hw hn HP HZ hjs
     go_wp2_with (at_builtin; refine wpList_append_own_at _ rfl (.tmp 70) (.tmp 75) 32 rfl w0.heap.size 9 i0 (.string ⟨#[]⟩) 1 16 Tryz.underlying32 hi.out hz.out.1 hz.out.2.1 hz.out.2.2 rfl (by decide) (.slice A ys.length c) ys.length (ys.map Value.string) rfl (WSt.own_alloc HM.out _) ⟨wr.heap.size, 0, none⟩ 1 1 [.string (s.extract i j)] rfl rfl (cell_one_new wr _ _) (by intro u hu; simp at hu; subst hu; rfl) (by unfold maxLen; omega) (by omega) (by have := hge.out; simp; omega) ?_; intro v4 w4 hown4 hg4 _ _; have HN : Hid (WSt w0 s w4 v4 (ys ++ [s.extract i j]) j) := WSt.next HM.out hown4 hg4 hfj hx.out; clear hown4 hg4)
     go_roundw
     case rel => exact ⟨j, _, by omega, rfl, HN⟩
     case measure => simp [intOf]; omega
  ·go_wp2_with fail
   go_ret
   have e : i = s.size := by omega
   subst e
   exact ⟨_, ys, rfl, HM.out⟩
end Go.Proofs.YtdhgiammfpjniaaGreatDoor.Ev
