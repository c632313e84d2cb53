/- Parts of the proof. -/
import Derived.Test.YtdhgiammfpjniaaGreatDoorZrba
import Derived.Test.YtdhgiammfpjniaaGreatDoorZrbb
import Derived.Test.YtdhgiammfpjniaaGreatDoorZrbe
namespace Go.Proofs.YtdhgiammfpjniaaGreatDoor.Ev
set_option linter.unusedSimpArgs false
set_option linter.unusedVariables false
open Go.RowKit
def RowW (w : World) (A : Option Addr) (ls : List ByteArray) : Prop := ∀ (k : Nat) (y : ByteArray), ls[k]? = some y → ∃ b, A = some ⟨b, 0, none⟩ ∧ b < w.heap.size ∧ w.cell? ⟨b, k, none⟩ = some (.string y)
theorem RowW.below {w w' : World} {A : Option Addr} {ls : List ByteArray} (h : RowW w A ls) (hb : Below w.heap.size w w') : RowW w' A ls := fun k y hk => by
 obtain ⟨b, h1, h2, h3⟩ := h k y hk
 exact ⟨b, h1, Nat.lt_of_lt_of_le h2 hb.size, (World.cell?_of_block (hb.block b h2)).trans h3⟩
def atS (ls : List ByteArray) (n : Nat) : ByteArray := (ls[n]?).getD ⟨#[]⟩
def wl (ls : List ByteArray) : List Wd := ls.map fun y => y.data.toList
theorem atS_w (ls : List ByteArray) (n : Nat) : (atS ls n).data.toList = atW (wl ls) n := by
 unfold atS atW wl
 rw [List.getElem?_map]
 cases ls[n]? <;> rfl
theorem afQ3 (ls : List ByteArray) : (wl ls).length = ls.length := by simp [wl]
set_option maxHeartbeats 1000000 in
set_option maxRecDepth 100000 in
theorem aaQl (ls : List ByteArray) (A : Option Addr) (c n : Nat) (w : World) (hR : RowW w A ls) (hl : ls.length ≤ 9223372036854775807) :
 Calls Tryz.prog 223 #[.slice A ls.length c, .int .i64 (n : Int)] w fun e w' => e = .returned (.string (atS ls n)) ∧ w = w' := by
 by_cases hlt : n < ls.length
 ·obtain ⟨y, hy⟩ : ∃ y, ls[n]? = some y := ⟨_, List.getElem?_eq_getElem hlt⟩
  obtain ⟨b, rfl, hb, hc⟩ := hR n y hy
  have HV : Hid (atS ls n = y) := by show _ = _; unfold atS; rw [hy]; rfl
  have t1 : ¬ (ls.length : Int) ≤ (n : Int) := by omega
  have t2 : (n : Int) < (ls.length : Int) := by omega
  clear hR hy hb
  go_enter Tryz.func223, Tryz.ntmps223
  go_wp2_with fail
  go_ret
  exact ⟨by rw [HV.out]; rfl, rfl⟩
 ·have HV : Hid (atS ls n = ⟨#[]⟩) := by show _ = _; unfold atS; rw [List.getElem?_eq_none (by omega)]; rfl
  have t1 : (ls.length : Int) ≤ (n : Int) := by omega
  clear hR
  go_enter Tryz.func223, Tryz.ntmps223
  go_wp2_with fail
  go_ret
  exact ⟨by rw [HV.out]; rfl, rfl⟩
def GotR (w0 : World) (res : Option (Dep × Nat)) (e : Ending) (w' : World) : Prop :=
 Below w0.heap.size w0 w' ∧ ((res = none ∧ e = .returned (.tuple #[.agg #[.int .i64 0, .string ⟨#[]⟩, .int .i64 0, .string ⟨#[]⟩, .slice none 0 0], .int .i64 (-1)])) ∨
  ∃ d n' A c S, res = some (d, n') ∧ e = .returned (.tuple #[.agg (rowD d (.slice A d.args.length c)), .int .i64 (n' : Int)]) ∧ Lay w' S d (.slice A d.args.length c) ∧ CleanS w' S ∧ ∀ b, S b → w0.heap.size ≤ b)
def aeQe (ls : List ByteArray) (deep : Nat) : Prop := ∀ (n : Nat) (A : Option Addr) (c : Nat) (w : World), n ≤ ls.length → RowW w A ls →
 Calls Tryz.prog 191 #[.slice A ls.length c, .int .i64 (n : Int), .int .i64 (deep : Int)] w (GotR w (readR (wl ls) deep n))
structure NSt (w0 wx : World) (bd : Nat) (k : Int) (r : Rows5) (v : Value) (S : Nat → Prop) : Prop where
 below : Below w0.heap.size w0 wx
 blk : Blk wx bd 39 #[.int .i64 k, .string ⟨#[]⟩, .int .i64 0, .string ⟨#[]⟩, v]
 far : w0.heap.size ≤ bd
 own : wx.ownsRow w0.heap.size 39 5 v r.length (cells5 r)
 apart : v.ownBlock ≠ some bd
 lays : ∀ x ∈ r, Lay wx S x.1 x.2
 clean : CleanS wx S
 sfar : ∀ b, S b → w0.heap.size ≤ b ∧ b ≠ bd ∧ v.ownBlock ≠ some b
section
variable {w0 wx w' : World} {bd : Nat} {k : Int} {r : Rows5} {v : Value} {S : Nat → Prop}
theorem NSt.world {G : List Nat} (h : NSt w0 wx bd k r v S) (ht : Turned G wx w') (hG : ∀ g ∈ G, w0.heap.size ≤ g ∧ g ≠ bd ∧ v.ownBlock ≠ some g ∧ ¬ S g) : NSt w0 w' bd k r v S :=
 ⟨h.below.trans (ht.below (fun g hg => (hG g hg).1) h.below.size), h.blk.turned ht (fun hm => (hG _ hm).2.1 rfl), h.far, aaQf h.own ht (fun g hg hm => (hG g hm).2.2.1 hg), h.apart,
  fun x hx => (h.lays x hx).stay (fun _ h => h) (StayS.turned ht fun b hb hm => (hG b hm).2.2.2 hb), h.clean.stay (StayS.turned ht fun b hb hm => (hG b hm).2.2.2 hb), h.sfar⟩
theorem NSt.below_ (h : NSt w0 wx bd k r v S) (hb : Below wx.heap.size wx w') : NSt w0 w' bd k r v S := h.world (Turned.of_below hb []) (fun k hk => by cases hk)
theorem NSt.alloc (h : NSt w0 wx bd k r v S) (o : Obj) : NSt w0 (wx.alloc o) bd k r v S := h.below_ ((Below.refl _ _).alloc (Nat.le_refl _) _)
theorem NSt.first {w1 : World} {d : Dep} {A : Option Addr} {c bs : Nat} (hb : Below w0.heap.size w0 w1) (hL : Lay w1 S d (.slice A d.args.length c)) (hC : CleanS w1 S) (hS : ∀ b, S b → w0.heap.size ≤ b) (hbs : Blk w1 bs 39 (rowD d (.slice A d.args.length c))) (hf : w0.heap.size ≤ bs) (hn : ¬ S bs) :
 NSt w0 (w1.alloc (.cells #[.int .i64 k, .string ⟨#[]⟩, .int .i64 0, .string ⟨#[]⟩, .slice (some ⟨bs, 0, none⟩) 1 1] 39)) w1.heap.size k [(d, .slice A d.args.length c)] (.slice (some ⟨bs, 0, none⟩) 1 1) S := by
 have hba : Below w1.heap.size w1 (w1.alloc (.cells #[.int .i64 k, .string ⟨#[]⟩, .int .i64 0, .string ⟨#[]⟩, .slice (some ⟨bs, 0, none⟩) 1 1] 39)) := (Below.refl _ _).alloc (Nat.le_refl _) _
 refine ⟨hb.trans (hba.mono hb.size), Blk.new _ _ _, hb.size, anQm (hbs.alloc _) hf (Nat.le_refl _) (by unfold maxLen; omega) rfl rfl, ?_, fun x hx => ?_, hC.stay (StayS.below' hba), fun b h => ⟨hS b h, ?_, ?_⟩⟩
 ·have := hbs.lt
  simp [Value.ownBlock]; omega
 ·simp at hx; subst hx
  exact hL.stay (fun _ h => h) (StayS.below' hba)
 ·obtain ⟨cs, hc⟩ := hC b h
  have := hc.lt; omega
 ·simp only [Value.ownBlock, ne_eq, Option.some.injEq]
  rintro rfl; exact hn h
theorem NSt.put {w4 : World} {v4 : Value} {d : Dep} {t : Value} {S2 : Nat → Prop} (h : NSt w0 wx bd k r v S) (hL : Lay wx S2 d t) (hC : CleanS wx S2) (hS : ∀ b, S2 b → w0.heap.size ≤ b ∧ b ≠ bd ∧ v.ownBlock ≠ some b)
 (hown : w4.ownsRow w0.heap.size 39 5 v4 (r.length + 1) (cells5 r ++ [.int .i64 d.kind, .string d.name, .int .i64 d.op, .string d.evr, t])) (hg : wx.grownBy w4 v.ownBlock) (hat : v4.ownBlock = v.ownBlock ∨ v4.ownBlock = some wx.heap.size) :
 NSt w0 (w4.setCell ⟨bd, 4, none⟩ v4) bd k (r ++ [(d, t)]) v4 (fun b => S b ∨ S2 b) := by
 have hvb : ∀ g, v.ownBlock = some g → w0.heap.size ≤ g ∧ g < wx.heap.size ∧ g ≠ bd := fun g hg => ⟨(h.own.lt g hg).1, (h.own.lt g hg).2, fun e => h.apart (by rw [hg, e])⟩
 have ht4 : Turned v.ownBlock.toList wx w4 := (Turned.refl _ wx).grown hg fun k hk => .inl (by simp [hk])
 have hmem : ∀ g, g ∈ v.ownBlock.toList → v.ownBlock = some g := fun g hg => by simpa using hg
 have hbd4 : Blk w4 bd 39 #[.int .i64 k, .string ⟨#[]⟩, .int .i64 0, .string ⟨#[]⟩, v] := h.blk.turned ht4 (fun hm => h.apart (hmem _ hm))
 have hap4 : v4.ownBlock ≠ some bd := by
  rcases hat with e | e
  ·rw [e]; exact h.apart
  ·rw [e]; have := h.blk.lt; simp; omega
 have ht5 : Turned [bd] w4 (w4.setCell ⟨bd, 4, none⟩ v4) := (Turned.refl _ _).setCell (.inl (by simp)) _
 have ht : Turned (bd :: v.ownBlock.toList) wx (w4.setCell ⟨bd, 4, none⟩ v4) := (ht4.more (fun k hk => by simp [hk])).trans (ht5.more (F' := bd :: v.ownBlock.toList) (fun k hk => by simp at hk; simp [hk])) (Fresh.refl _ _)
 have hst : ∀ (T : Nat → Prop), (∀ b, T b → b ≠ bd ∧ v.ownBlock ≠ some b) → StayS T wx (w4.setCell ⟨bd, 4, none⟩ v4) := fun T hT => StayS.turned ht fun b hb hm => by
  rcases List.mem_cons.1 hm with e | e
  ·exact (hT b hb).1 e
  ·exact (hT b hb).2 (hmem _ e)
 have hst1 := hst S fun b hb => ⟨(h.sfar b hb).2.1, (h.sfar b hb).2.2⟩
 have hst2 := hst S2 fun b hb => ⟨(hS b hb).2.1, (hS b hb).2.2⟩
 refine ⟨h.below.trans (ht.below (fun g hg => ?_) h.below.size), hbd4.set_ 4 _, h.far, ?_, hap4, fun x hx => ?_, fun b hb => ?_, fun b hb => ?_⟩
 ·rcases List.mem_cons.1 hg with e | e
  ·rw [e]; exact h.far
  ·exact (hvb g (hmem _ e)).1
 ·rw [List.length_append, cells5_append]
  exact abQz hown (p := ⟨bd, 4, none⟩) hap4 _
 ·rcases List.mem_append.1 hx with hx | hx
  ·exact (h.lays x hx).stay (fun _ h => .inl h) hst1
  ·simp at hx; subst hx
   exact hL.stay (fun _ h => .inr h) hst2
 ·rcases hb with hb | hb
  ·exact h.clean.stay hst1 b hb
  ·exact hC.stay hst2 b hb
 ·have hlt : b < wx.heap.size := by
   rcases hb with hb | hb
   ·obtain ⟨cs, hc⟩ := h.clean b hb; exact hc.lt
   ·obtain ⟨cs, hc⟩ := hC b hb; exact hc.lt
  have h1 : w0.heap.size ≤ b ∧ b ≠ bd ∧ v.ownBlock ≠ some b := by
   rcases hb with hb | hb
   ·exact h.sfar b hb
   ·exact hS b hb
  refine ⟨h1.1, h1.2.1, ?_⟩
  rcases hat with e | e
  ·rw [e]; exact h1.2.2
  ·rw [e]; simp; omega
theorem NSt.lay (h : NSt w0 wx bd k r v S) : ∃ A c, v = .slice A (node k (r.map Prod.fst)).args.length c ∧ Lay wx (fun b => S b ∨ v.ownBlock = some b) (node k (r.map Prod.fst)) (.slice A (node k (r.map Prod.fst)).args.length c) ∧ CleanS wx (fun b => S b ∨ v.ownBlock = some b) ∧ ∀ b, S b ∨ v.ownBlock = some b → w0.heap.size ≤ b := by
 have hr : (node k (r.map Prod.fst)).args.length = r.length := by simp [node, Dep.args]
 obtain ⟨A, c, hv, h1, h2⟩ := aaQc h.own
 refine ⟨A, c, by rw [hr]; exact hv, ?_, fun b hb => ?_, fun b hb => ?_⟩
 ·rw [lay_iff]
  refine ⟨A, c, rfl, by rw [hr]; exact h1, ⟨h2, fun e => ?_⟩, fun j a hj => ?_⟩
  ·subst e
   rcases h.own.2 with ⟨h3, _⟩ | ⟨g, cap, cur, h3, _⟩
   ·rw [hv] at h3; injection h3
   ·rw [hv] at h3; cases h3
  ·have hj' : (r.map Prod.fst)[j]? = some a := hj
   rw [List.getElem?_map, Option.map_eq_some_iff] at hj'
   obtain ⟨x, hx, rfl⟩ := hj'
   obtain ⟨q0, q1, q2, q3, q4⟩ := cells5_at hx
   have ho := h.own
   rw [hv] at ho
   obtain ⟨b, rfl, k0⟩ := abQl ho q0
   obtain ⟨_, e1, k1⟩ := abQl ho q1
   obtain ⟨_, e2, k2⟩ := abQl ho q2
   obtain ⟨_, e3, k3⟩ := abQl ho q3
   obtain ⟨_, e4, k4⟩ := abQl ho q4
   injection e1 with e1; injection e1 with e1; subst e1
   injection e2 with e2; injection e2 with e2; subst e2
   injection e3 with e3; injection e3 with e3; subst e3
   injection e4 with e4; injection e4 with e4; subst e4
   exact ⟨b, 0, x.2, rfl, .inr (by rw [hv]; rfl), ⟨by simpa using k0, by simpa using k1, by simpa using k2, by simpa using k3, by simpa using k4⟩, (h.lays x (List.mem_of_getElem? hx)).stay (fun _ h => .inl h) (StayS.refl _ _)⟩
 ·rcases hb with hb | hb
  ·exact h.clean b hb
  ·rcases h.own.2 with ⟨h2, _⟩ | ⟨g, cap, cur, h2, _, h3, _⟩
   ·rw [h2] at hb; cases hb
   ·rw [h2] at hb
    have : g = b := by simpa [Value.ownBlock] using hb
    subst this
    exact ⟨cur, h3⟩
 ·rcases hb with hb | hb
  ·exact (h.sfar b hb).1
  ·exact (h.own.lt b hb).1
end
end Go.Proofs.YtdhgiammfpjniaaGreatDoor.Ev
namespace Go.Proofs.YtdhgiammfpjniaaGreatDoor.Ev
set_option linter.unusedSimpArgs false
set_option linter.unusedVariables false
open Go.RowKit
def acQd (rd : Nat → Option (Dep × Nat)) (l : List Wd) (k : Wd) : Option (List Dep × Nat) → Option (Dep × Nat)
 | none => none
 | some (xs, n2) => match elseR rd l k xs n2 with
   | none => none
   | some (bs, n3) => abQo l k bs n3
section
variable {rd : Nat → Option (Dep × Nat)} {l : List Wd} {k : Wd} {n n1 f : Nat} {first x : Dep} {xs : List Dep}
theorem afQx (h : rd (n + 1) = none) : nodeR rd l n = none := by unfold nodeR; rw [h]
theorem ahQe (h : rd (n + 1) = some (first, n1)) (hk : numW (atW l n1) = 0) : nodeR rd l n = none := by unfold nodeR; rw [h]; simp only; rw [if_pos hk]
theorem acQg (h : rd (n + 1) = some (first, n1)) (hk : numW (atW l n1) ≠ 0) : nodeR rd l n = acQd rd l (atW l n1) (loopR rd l (atW l n1) (l.length + 1) [first] n1) := by
 unfold nodeR
 rw [h]
 simp only
 rw [if_neg hk]
 cases loopR rd l (atW l n1) (l.length + 1) [first] n1 with
 | none => rfl
 | some q => rfl
theorem adQf (h : atW l n ≠ k) : loopR rd l k f xs n = some (xs, n) := by
 cases f with
 | zero => rfl
 | succ f => unfold loopR; rw [if_neg h]
theorem afQy (h : atW l n = k) (hk : (k = wIf ∨ k = aaQ1) ∧ 1 < xs.length) : loopR rd l k (f + 1) xs n = none := by unfold loopR; rw [if_pos h, if_pos hk]
theorem acQs (h : atW l n = k) (hk : ¬ ((k = wIf ∨ k = aaQ1) ∧ 1 < xs.length)) (hr : rd (n + 1) = none) : loopR rd l k (f + 1) xs n = none := by unfold loopR; rw [if_pos h, if_neg hk, hr]
theorem acQt (h : atW l n = k) (hk : ¬ ((k = wIf ∨ k = aaQ1) ∧ 1 < xs.length)) (hr : rd (n + 1) = some (x, n1)) : loopR rd l k (f + 1) xs n = loopR rd l k f (xs ++ [x]) n1 := by
 unfold loopR
 rw [if_pos h, if_neg hk, hr]
 cases f <;> rfl
theorem ahQu (hk : k = wIf) (h : atW l n = wElse) (hr : rd (n + 1) = some (x, n1)) : acQd rd l k (some (xs, n)) = abQo l k (xs ++ [x]) n1 := by
 unfold acQd elseR
 simp only
 rw [if_pos ⟨hk, h⟩, hr]
theorem ahQv (hk : k = wIf) (h : atW l n = wElse) (hr : rd (n + 1) = none) : acQd rd l k (some (xs, n)) = none := by
 unfold acQd elseR
 simp only
 rw [if_pos ⟨hk, h⟩, hr]
theorem abQ5 (h : ¬ (k = wIf ∧ atW l n = wElse)) : acQd rd l k (some (xs, n)) = abQo l k xs n := by
 unfold acQd elseR
 simp only
 rw [if_neg h]
end
theorem arQq {l : List Wd} {k : Wd} {xs : List Dep} {n n' : Nat} {d : Dep} (h : abQo l k xs n = some (d, n')) : n' ≤ l.length + 2 := by
 unfold abQo at h
 split at h
 ·rename_i h1
  injection h with h
  injection h with _ h
  have := (acQq (l := l) (n := n) (by rw [h1]; simp)).1
  omega
 ·cases h
theorem nodeR_le {rd : Nat → Option (Dep × Nat)} {l : List Wd} {n n' : Nat} {d : Dep} (h : nodeR rd l n = some (d, n')) : n' ≤ l.length + 2 := by
 cases hr : rd (n + 1) with
 | none => rw [afQx hr] at h; cases h
 | some q =>
   obtain ⟨first, n1⟩ := q
   by_cases hk : numW (atW l n1) = 0
   ·rw [ahQe hr hk] at h; cases h
   ·rw [acQg hr hk] at h
    cases hl : loopR rd l (atW l n1) (l.length + 1) [first] n1 with
    | none => rw [hl] at h; cases h
    | some q2 =>
      obtain ⟨xs, n2⟩ := q2
      rw [hl] at h
      unfold acQd at h
      simp only at h
      split at h
      ·cases h
      ·exact arQq h
theorem anQu {l : List Wd} {n n' : Nat} {d : Dep} (h : leafR l n = some (d, n')) : n' ≤ l.length + 2 := by
 unfold leafR at h
 split at h
 ·rename_i hn
  have := (acQq (l := l) (n := n) (adQo hn).1).1
  split at h
  ·injection h with h; injection h with _ h; omega
  ·injection h with h; injection h with _ h; omega
 ·cases h
theorem readR_le {l : List Wd} {deep n n' : Nat} {d : Dep} (h : readR l deep n = some (d, n')) : n' ≤ l.length + 2 := by
 cases deep with
 | zero =>
   unfold readR at h
   split at h
   ·cases h
   ·exact anQu h
 | succ deep =>
   unfold readR at h
   split at h
   ·exact nodeR_le h
   ·exact anQu h
theorem load5 {w : World} {g : Nat} {x0 x1 x2 x3 x4 : Value} (h : Blk w g 39 #[x0, x1, x2, x3, x4]) : (loadVar 39 ⟨g, 0, none⟩).run Tryz.prog w = .ok (.agg #[x0, x1, x2, x3, x4]) w := by
 have b0 := h.cell 0
 have b1 := h.cell 1
 have b2 := h.cell 2
 have b3 := h.cell 3
 have b4 := h.cell 4
 simp at b0 b1 b2 b3 b4
 clear h
 go_simp
theorem GotR.leaf_ {w w' : World} {W ev : ByteArray} {o : Int} {n' : Nat} {res : Option (Dep × Nat)} (hb : Below w.heap.size w w') (h : res = some (.mk 1 W o ev [], n')) :
 GotR w res (.returned (.tuple #[.agg #[.int .i64 1, .string W, .int .i64 o, .string ev, .slice none 0 0], .int .i64 (n' : Int)])) w' :=
 ⟨hb, .inr ⟨_, n', none, 0, fun _ => False, h, rfl, Lay.none_ _ _ _ _ _ _, fun b hb => hb.elim, fun b hb => hb.elim⟩⟩
set_option maxHeartbeats 4000000 in
set_option maxRecDepth 1000000 in
theorem afQ6 (ls : List ByteArray) (hl : ls.length ≤ 4194304) (hsz : ∀ y ∈ ls, y.size ≤ 4194304) (deep n : Nat) (A : Option Addr) (c : Nat) (w : World) (hn : n ≤ ls.length) (hR : RowW w A ls) (hne : (atS ls n).data.toList ≠ [40]) :
 Calls Tryz.prog 191 #[.slice A ls.length c, .int .i64 (n : Int), .int .i64 (deep : Int)] w (GotR w (leafR (wl ls) n)) := by
 obtain ⟨RES, hRES⟩ : ∃ RES, Hid (RES = leafR (wl ls) n) := ⟨_, rfl⟩
 rw [← hRES.out]
 have hb0 : ∀ cs, Below w.heap.size w (w.alloc (.cells cs 39)) := fun cs => (Below.refl _ _).alloc (Nat.le_refl _) _
 have HB := hQQ hb0
 have hz : (w.alloc (.cells aaQ8 39)).heap.size = w.heap.size + 1 := by simp
 have hR1 : RowW (w.alloc (.cells aaQ8 39)) A ls := hR.below (hb0 _)
 have CA := hQQ (fun n => aaQl ls A c n (w.alloc (.cells aaQ8 39)) hR1 (by omega))
 have CN := hQQ (fun w => acQ4 (atS ls n) (by
  unfold atS maxLen
  cases hh : ls[n]? with
  | none => exact Nat.zero_le _
  | some y => have := hsz y (List.mem_of_getElem? hh); simp; omega) w)
 have CS := hQQ (fun w => afQ5 (atS ls (n + 1)) w)
 have hw0 := atS_w ls n
 have hw1 := atS_w ls (n + 1)
 have hw2 := atS_w ls (n + 2)
 rw [hw0] at CN
 rw [hw1] at CS
 have HE : Hid (RES = if nameB (atW (wl ls) n) = true then (if numS (atW (wl ls) (n + 1)) = 0 then some (.mk 1 (atS ls n) 0 ⟨#[]⟩ [], n + 1) else some (.mk 1 (atS ls n) (numS (atW (wl ls) (n + 1))) (atS ls (n + 2)) [], n + 3)) else none) := by
  show _ = _
  rw [hRES.out]
  unfold leafR leaf
  rw [← hw0, ← hw2]
  rfl
 obtain ⟨t1, t2⟩ := isnt2 hne
 have t3 : ((atS ls n).toList != [40]) = true := by rw [bne, t1]; rfl
 have t4 : ((atS ls n).toList == (⟨#[40]⟩ : ByteArray).toList) = false := aaQr hne
 have C0 := hQQ (CA.out n)
 have C1 := hQQ (CA.out (n + 1))
 have C2 := hQQ (CA.out (n + 2))
 rw [show ((n + 1 : Nat) : Int) = (n : Int) + 1 by omega] at C1
 rw [show ((n + 2 : Nat) : Int) = (n : Int) + 2 by omega] at C2
 unfold aaQ8 at C0 C1 C2
 clear CA
 generalize atS ls n = W at *
 generalize atS ls (n + 2) = E at *
 generalize nameB (atW (wl ls) n) = nb at *
 generalize numS (atW (wl ls) (n + 1)) = g at *
 clear hRES hb0 hR1 hR hw0 hw1 hw2 hne hsz hz
 cases nb with
 | false =>
   have HP : Hid (GotR w RES (.returned (.tuple #[.agg #[.int .i64 0, .string ⟨#[]⟩, .int .i64 0, .string ⟨#[]⟩, .slice none 0 0], .int .i64 (-1)])) (w.alloc (.cells #[.int .i64 0, .string ⟨#[]⟩, .int .i64 0, .string ⟨#[]⟩, .slice none 0 0] 39))) := ⟨HB.out _, .inl ⟨HE.out.trans (if_neg (by simp)), rfl⟩⟩
   clear HE
   clear C1 C2 CS
   go_enter Tryz.func191, Tryz.ntmps191
   go_wp2_with fail
   with_reducible refine C0.out.mono ?_
   rintro e w' ⟨rfl, rfl⟩
   go_wp2_with fail
   with_reducible refine (CN.out _).mono ?_
   rintro e w' ⟨rfl, rfl⟩
   go_wp2_with fail
   exact bodyPost_ret (v := .tuple #[.agg #[.int .i64 0, .string ⟨#[]⟩, .int .i64 0, .string ⟨#[]⟩, .slice none 0 0], .int .i64 (-1)]) (aaQe rfl _ rfl rfl (load5 (Blk.new _ _ _))) rfl HP.out
 | true =>
   have HE1 := hQQ (HE.out.trans (if_pos rfl))
   clear HE
   go_enter Tryz.func191, Tryz.ntmps191
   go_wp2_with fail
   with_reducible refine C0.out.mono ?_
   rintro e w' ⟨rfl, rfl⟩
   go_wp2_with fail
   with_reducible refine (CN.out _).mono ?_
   rintro e w' ⟨rfl, rfl⟩
   go_wp2_with fail
   with_reducible refine C1.out.mono ?_
   rintro e w' ⟨rfl, rfl⟩
   go_wp2_with fail
   with_reducible refine (CS.out _).mono ?_
   rintro e w' ⟨rfl, rfl⟩
   by_cases hg : g = 0
   ·subst hg
    have HP : Hid (GotR w RES (.returned (.tuple #[.agg #[.int .i64 1, .string W, .int .i64 0, .string ⟨#[]⟩, .slice none 0 0], .int .i64 ((n + 1 : Nat) : Int)])) (w.alloc (.cells #[.int .i64 1, .string W, .int .i64 0, .string ⟨#[]⟩, .slice none 0 0] 39))) := GotR.leaf_ (HB.out _) (HE1.out.trans (if_pos rfl))
    clear HE1 C0 C1 C2 CN CS
    go_wp2_with fail
    exact bodyPost_ret (v := .tuple #[.agg #[.int .i64 1, .string W, .int .i64 0, .string ⟨#[]⟩, .slice none 0 0], .int .i64 ((n + 1 : Nat) : Int)]) (aaQe rfl _ rfl (by go_num) (load5 (Blk.new _ _ _))) rfl HP.out
   ·have tg : (g == 0) = false := beq_eq_false_iff_ne.2 hg
    have HP : Hid (GotR w RES (.returned (.tuple #[.agg #[.int .i64 1, .string W, .int .i64 g, .string E, .slice none 0 0], .int .i64 ((n + 3 : Nat) : Int)])) (w.alloc (.cells #[.int .i64 1, .string W, .int .i64 g, .string E, .slice none 0 0] 39))) := GotR.leaf_ (HB.out _) (HE1.out.trans (if_neg hg))
    clear HE1 C0 C1 CN CS hg
    go_wp2_with fail
    with_reducible refine C2.out.mono ?_
    rintro e w' ⟨rfl, rfl⟩
    go_wp2_with fail
    exact bodyPost_ret (v := .tuple #[.agg #[.int .i64 1, .string W, .int .i64 g, .string E, .slice none 0 0], .int .i64 ((n + 3 : Nat) : Int)]) (aaQe rfl _ rfl (by go_num) (load5 (Blk.new _ _ _))) rfl HP.out
end Go.Proofs.YtdhgiammfpjniaaGreatDoor.Ev
namespace Go.Proofs.YtdhgiammfpjniaaGreatDoor.Ev
set_option linter.unusedSimpArgs false
set_option linter.unusedVariables false
open Go.RowKit
theorem GotR.yes {w0 w' : World} {e : Ending} {d : Dep} {n' : Nat} (h : GotR w0 (some (d, n')) e w') : Below w0.heap.size w0 w' ∧ ∃ A c S, e = .returned (.tuple #[.agg (rowD d (.slice A d.args.length c)), .int .i64 (n' : Int)]) ∧ Lay w' S d (.slice A d.args.length c) ∧ CleanS w' S ∧ ∀ b, S b → w0.heap.size ≤ b := by
 obtain ⟨h1, ⟨h2, _⟩ | ⟨d', n'', A, c, S, h2, h3, h4, h5, h6⟩⟩ := h
 ·cases h2
 ·injection h2 with h2
  injection h2 with h2 h2'
  subst h2
  subst h2'
  exact ⟨h1, A, c, S, h3, h4, h5, h6⟩
theorem GotR.no {w0 w' : World} {e : Ending} (h : GotR w0 none e w') : Below w0.heap.size w0 w' ∧ e = .returned (.tuple #[.agg #[.int .i64 0, .string ⟨#[]⟩, .int .i64 0, .string ⟨#[]⟩, .slice none 0 0], .int .i64 (-1)]) := by
 obtain ⟨h1, ⟨_, h2⟩ | ⟨d', n'', A, c, S, h2, _⟩⟩ := h
 ·exact ⟨h1, h2⟩
 ·cases h2
def zeroE : Ending := .returned (.tuple #[.agg #[.int .i64 0, .string ⟨#[]⟩, .int .i64 0, .string ⟨#[]⟩, .slice none 0 0], .int .i64 (-1)])
theorem aaQz {w wz : World} (hb : Below w.heap.size w wz) : Below w.heap.size w (five wz w.heap.size zeroD (.slice none 0 0)) := hb.trans ((abQ3 wz w.heap.size zeroD (.slice none 0 0)).below (fun k hk => by simp at hk; omega) hb.size)
theorem aeQl {w wz : World} {bd : Nat} {k : Int} {r : Rows5} {v : Value} {S : Nat → Prop} {res : Option (Dep × Nat)} {n' : Nat} (h : NSt (w.alloc (.cells #[.int .i64 0, .string ⟨#[]⟩, .int .i64 0, .string ⟨#[]⟩, .slice none 0 0] 39)) wz bd k r v S) (hr : res = some (node k (r.map Prod.fst), n')) :
 ∃ A c, v = .slice A r.length c ∧ GotR w res (.returned (.tuple #[.agg #[.int .i64 k, .string ⟨#[]⟩, .int .i64 0, .string ⟨#[]⟩, .slice A r.length c], .int .i64 (n' : Int)])) (five wz w.heap.size (node k (r.map Prod.fst)) (.slice A r.length c)) := by
 obtain ⟨A, c, hv, hL, hC, hS⟩ := h.lay
 have hl : (node k (r.map Prod.fst)).args.length = r.length := by simp [node, Dep.args]
 rw [hl] at hv hL
 have hb : Below w.heap.size w wz := ((Below.refl w.heap.size w).alloc (Nat.le_refl _) _).trans (h.below.mono (by simp))
 have ht := abQ3 wz w.heap.size (node k (r.map Prod.fst)) (.slice A r.length c)
 have hst : StayS (fun b => S b ∨ v.ownBlock = some b) wz (five wz w.heap.size (node k (r.map Prod.fst)) (.slice A r.length c)) := StayS.turned ht fun b hb hm => by
  have := hS b hb
  simp at hm this
  omega
 refine ⟨A, c, hv, hb.trans (ht.below (fun k hk => by simp at hk; omega) hb.size), .inr ⟨_, n', A, c, _, hr, ?_, ?_, hC.stay hst, fun b hb => ?_⟩⟩
 ·rw [hl]; rfl
 ·rw [hl]; exact hL.stay (fun _ h => h) hst
 ·have := hS b hb; simp at this; omega
theorem abQh {w wz : World} {bd : Nat} {k : Int} {r : Rows5} {v : Value} {S : Nat → Prop} (h : NSt (w.alloc (.cells #[.int .i64 0, .string ⟨#[]⟩, .int .i64 0, .string ⟨#[]⟩, .slice none 0 0] 39)) wz bd k r v S) : Blk wz w.heap.size 39 #[.int .i64 0, .string ⟨#[]⟩, .int .i64 0, .string ⟨#[]⟩, .slice none 0 0] := (Blk.new w _ _).below h.below (by simp)
theorem NSt.bw {w wz : World} {bd : Nat} {k : Int} {r : Rows5} {v : Value} {S : Nat → Prop} (h : NSt (w.alloc (.cells #[.int .i64 0, .string ⟨#[]⟩, .int .i64 0, .string ⟨#[]⟩, .slice none 0 0] 39)) wz bd k r v S) : Below w.heap.size w wz := ((Below.refl w.heap.size w).alloc (Nat.le_refl _) _).trans (h.below.mono (by simp))
theorem abQv {ls : List ByteArray} {deep n n' : Nat} {d : Dep} (h : readR (wl ls) deep n = some (d, n')) : n < n' ∧ n' ≤ ls.length + 2 := ⟨(agQ8 _ deep n d n' h).1, by have := readR_le h; rwa [afQ3] at this⟩
theorem at_lt {ls : List ByteArray} {n : Nat} (h : (atS ls n).data.toList ≠ []) : n < ls.length := by
 have := (acQq (l := wl ls) (n := n) (by rw [← atS_w]; exact h)).1
 rwa [afQ3] at this
theorem adQi {w : World} {g : Nat} {d : Dep} {s : Value} (h : w.heap.size = g) : ∀ j u, ([.int .i64 d.kind, .string d.name, .int .i64 d.op, .string d.evr, s] : List Value)[j]? = some u → (w.alloc (.cells #[.int .i64 d.kind, .string d.name, .int .i64 d.op, .string d.evr, s] 39)).cell? ((⟨g, 0, none⟩ : Addr).add j) = some u := by
 subst h
 exact alQp w #[.int .i64 d.kind, .string d.name, .int .i64 d.op, .string d.evr, s] _
end Go.Proofs.YtdhgiammfpjniaaGreatDoor.Ev
