/- Parts of the proof. -/
import Derived.Test.YtdhgiammfpjniaaGreatDoorZrbk
import Derived.Test.YtdhgiammfpjniaaGreatDoorZraz
import Derived.Test.YtdhgiammfpjniaaGreatDoorZrap
import Derived.Test.YtdhgiammfpjniaaGreatDoorZray
import Derived.Test.YtdhgiammfpjniaaGreatDoorZrbn
namespace Go.Proofs.YtdhgiammfpjniaaGreatDoor
set_option linter.unusedSimpArgs false
set_option linter.unusedVariables false
open Go.RowKit Go.MapKept
section
variable {w0 w w' : World} {B g b1 : Nat} {v : Value} {ys : List Sk5} {x x' : Sk5} {has : Bool} {R : List Nat}
theorem rdC_put {x x' : Sk5} {j : Nat} (hj : j < 12) {u : Value} (hrow : x'.row = x.row.set j u) (v : Value) (has : Bool) : (rdC v x has).setIfInBounds (j + 1) u = rdC v x' has := by
 have e : ∀ y : Sk5, rdC v y has = (v :: (y.row ++ [Value.bool has])).toArray := fun y => rfl
 rw [e x, e x', hrow, List.setIfInBounds_toArray, List.set_cons_succ, List.set_append_left _ _ (by show j < 12; exact hj)]
theorem RfM.put (h : RfM w0 w B g b1 v ys x has) (ht : Turned R w w') (hR : ∀ k ∈ R, b1 ≤ k ∧ (∀ cs, ¬ Blk w k 37 cs) ∧ ∀ cs, ¬ Blk w k 71 cs) {j : Nat} (hj : j < 12) {u : Value} (hrow : x'.row = x.row.set j u) (hl : LaM (w'.setCell ⟨g, j + 1, none⟩ u) b1 x') :
 RfM w0 (w'.setCell ⟨g, j + 1, none⟩ u) B g b1 v ys x' has := by
 have hgR : g ∉ R := fun hm => (hR g hm).2.2 _ h.rd
 have hrd := h.rd.turned ht hgR
 have hT : Turned (g :: R) w (w'.setCell ⟨g, j + 1, none⟩ u) := (ht.more (fun k hk => List.mem_cons_of_mem _ hk)).setCell (.inl (by simp)) _
 refine ⟨?_, aaQf h.row hT (fun k hk hm => ?_), fun y hy => (h.old y hy).turned hT (fun k hk => ?_), hl, ⟨h.le.1, h.le.2.1, Nat.le_trans h.le.2.2 hT.size⟩, h.bel.trans hT (fun k hk => ?_)⟩
 ·have := hrd.set_ (j + 1) u
  rwa [rdC_put hj hrow] at this
 ·obtain ⟨cs', hb⟩ := own_blk h.row hk
  rcases List.mem_cons.1 hm with rfl | hm
  ·exact Blk.kind hb h.rd (by decide) rfl
  ·exact (hR k hm).2.1 _ hb
 ·rcases List.mem_cons.1 hk with rfl | hk
  ·exact .inr (NoRow.of h.rd (by decide) (by decide))
  ·exact .inl (hR k hk).1
 ·rcases List.mem_cons.1 hk with rfl | hk
  ·exact .inl (by simp)
  ·refine .inr ?_
   rw [← h.le.1]
   exact Nat.le_trans h.le.2.1 (hR k hk).1
theorem RfM.text (h : RfM w0 w B g b1 v ys x has) (p : Bs) : RfM w0 (w.setCell ⟨g, 3 + 1, none⟩ (.string (mkS p))) B g b1 v ys ⟨⟨updF x.S.T 3 p, x.S.D, x.S.fl⟩, x.ss, x.rs, x.F, x.fs⟩ has := by
 have hpk := h.rd
 have ht : Turned [g] w (w.setCell ⟨g, 3 + 1, none⟩ (.string (mkS p))) := (Turned.refl _ _).setCell (.inl (by simp)) _
 have hl := h.last.turned ht (fun k hk => .inr (by rw [List.mem_singleton.1 hk]; exact NoRow.of hpk (by decide) (by decide)))
 exact h.put (Turned.refl [] _) (fun k hk => by cases hk) (j := 3) (by omega) rfl ⟨hl.own, hl.is, hl.lay, hl.far, hl.apart, hl.dep, hl.fil⟩
theorem RfM.files (h : RfM w0 w B g b1 v ys x has) {p : Bs} {v' : Value} (hown : w'.ownsRow b1 9 1 v' (x.S.fl.length + 1) (strR x.S.fl ++ [.string (mkS p)])) (hg : w.grownBy w' x.fs.ownBlock) (hat : v'.ownBlock = x.fs.ownBlock ∨ v'.ownBlock = some w.heap.size) :
 RfM w0 (w'.setCell ⟨g, 11 + 1, none⟩ v') B g b1 v ys ⟨⟨x.S.T, x.S.D, x.S.fl ++ [p]⟩, x.ss, x.rs, x.F, v'⟩ has := by
 have hpk := h.rd
 have hpl := hpk.lt
 have ht := aaQi hg
 have hRo : ∀ k ∈ x.fs.ownBlock.toList, b1 ≤ k ∧ (∀ cs, ¬ Blk w k 37 cs) ∧ (∀ cs, ¬ Blk w k 71 cs) ∧ ∀ cs, ¬ Blk w k 39 cs := fun k hk => by
  have hk : x.fs.ownBlock = some k := by simpa using hk
  obtain ⟨cs', hb⟩ := own_blk h.last.fil hk
  exact ⟨(h.last.fil.lt k hk).1, fun cs hc => Blk.kind hb hc (by decide) rfl, fun cs hc => Blk.kind hb hc (by decide) rfl, fun cs hc => Blk.kind hb hc (by decide) rfl⟩
 have hT : Turned (g :: x.fs.ownBlock.toList) w (w'.setCell ⟨g, 11 + 1, none⟩ v') := (ht.more (fun k hk => List.mem_cons_of_mem _ hk)).setCell (.inl (by simp)) _
 have hdn : ∀ k ∈ g :: x.fs.ownBlock.toList, ∀ cs, ¬ Blk w k 39 cs := fun k hk cs' hc => by
  rcases List.mem_cons.1 hk with rfl | hk
  ·exact Blk.kind hc hpk (by decide) rfl
  ·exact (hRo k hk).2.2.2 _ hc
 refine h.put ht (fun k hk => ⟨(hRo k hk).1, (hRo k hk).2.1, (hRo k hk).2.2.1⟩) (j := 11) (by omega) rfl ⟨fun i hi => aaQf (h.last.own i hi) hT (fun k hk hm => ?_), h.last.is, fun i hi y hy => Ev.Lay.stay (fun _ h => h) (Ev.StayS.turned hT (fun b hb hm => ?_)) y.1 y.2 (h.last.lay i hi y hy), h.last.far, h.last.apart, fun b hb => ?_, ?_⟩
 ·obtain ⟨cs', hb⟩ := own_blk (h.last.own i hi) hk
  exact hdn k hm cs' hb
 ·obtain ⟨hl, cs', hc⟩ := h.last.dep b hb
  exact hdn b hm cs' hc
 ·obtain ⟨hl, cs', hc⟩ := h.last.dep b hb
  exact ⟨hl, cs', hc.turned hT (fun hm => hdn b hm cs' hc)⟩
 ·show ((w'.setCell ⟨g, 11 + 1, none⟩ v')).ownsRow b1 9 1 v' (x.S.fl ++ [p]).length (strR (x.S.fl ++ [p]))
  have e : strR (x.S.fl ++ [p]) = strR x.S.fl ++ [.string (mkS p)] := by unfold strR; rw [List.map_append]; rfl
  rw [e, List.length_append]
  refine abQz hown (fun hk => ?_) _
  rcases hat with h1 | h1
  ·rw [h1] at hk
   obtain ⟨cs', hb⟩ := own_blk h.last.fil hk
   exact Blk.kind hb hpk (by decide) rfl
  ·rw [h1] at hk
   injection hk with hk
   have hk : w.heap.size = g := hk
   omega
theorem RfM.deps (h : RfM w0 w B g b1 v ys x has) {i : Nat} (hi : i < 7) {d : Ev.Dep} {t : Value} {G : List Nat} (hd : Ev.Lay w (fun b => b ∈ G) d t) (hG : ∀ b ∈ G, b1 ≤ b ∧ (∃ cs, Blk w b 39 cs) ∧ (∀ j, j < 7 → (x.ss j).ownBlock ≠ some b)) {v' : Value} (hown : w'.ownsRow b1 39 5 v' ((x.rs i).length + 1) (Ev.cells5 (x.rs i) ++ Ev.cells5 [(d, t)])) (hg : w.grownBy w' (x.ss i).ownBlock) (hat : v'.ownBlock = (x.ss i).ownBlock ∨ v'.ownBlock = some w.heap.size) :
 RfM w0 (w'.setCell ⟨g, (4 + i) + 1, none⟩ v') B g b1 v ys ⟨⟨x.S.T, updF x.S.D i (x.S.D i ++ [d]), x.S.fl⟩, updF x.ss i v', updF x.rs i (x.rs i ++ [(d, t)]), G ++ x.F, x.fs⟩ has := by
 have hpk := h.rd
 have hpl := hpk.lt
 have ht := aaQi hg
 have hRo : ∀ k ∈ (x.ss i).ownBlock.toList, (x.ss i).ownBlock = some k ∧ b1 ≤ k ∧ (∀ cs, ¬ Blk w k 37 cs) ∧ (∀ cs, ¬ Blk w k 71 cs) ∧ ∀ cs, ¬ Blk w k 9 cs := fun k hk => by
  have hk : (x.ss i).ownBlock = some k := by simpa using hk
  obtain ⟨cs', hb⟩ := own_blk (h.last.own i hi) hk
  exact ⟨hk, ((h.last.own i hi).lt k hk).1, fun cs hc => Blk.kind hb hc (by decide) rfl, fun cs hc => Blk.kind hb hc (by decide) rfl, fun cs hc => Blk.kind hb hc (by decide) rfl⟩
 have hT : Turned (g :: (x.ss i).ownBlock.toList) w (w'.setCell ⟨g, (4 + i) + 1, none⟩ v') := (ht.more (fun k hk => List.mem_cons_of_mem _ hk)).setCell (.inl (by simp)) _
 have hvlt : ∀ k, v'.ownBlock = some k → (x.ss i).ownBlock = some k ∨ k = w.heap.size := fun k hk => by
  rcases hat with e | e
  ·exact .inl (by rw [← e]; exact hk)
  ·rw [e] at hk
   injection hk with hk
   exact .inr hk.symm
 have hall : ∀ b ∈ G ++ x.F, b1 ≤ b ∧ (∃ cs, Blk w b 39 cs) ∧ (∀ j, j < 7 → (x.ss j).ownBlock ≠ some b) := fun b hb => by
  rcases List.mem_append.1 hb with hb | hb
  ·exact hG b hb
  ·obtain ⟨h1, h2⟩ := h.last.dep b hb
   exact ⟨h1, h2, fun j hj => h.last.far j hj b hb⟩
 have hnm : ∀ b ∈ G ++ x.F, b ∉ g :: (x.ss i).ownBlock.toList := fun b hb hm => by
  obtain ⟨_, ⟨cs', hc⟩, h3⟩ := hall b hb
  rcases List.mem_cons.1 hm with rfl | hm
  ·exact Blk.kind hc hpk (by decide) rfl
  ·exact h3 i hi (hRo b hm).1
 have hst : Ev.StayS (fun b => b ∈ G ++ x.F) w (w'.setCell ⟨g, (4 + i) + 1, none⟩ v') := Ev.StayS.turned hT (fun b hb hm => hnm b hb hm)
 refine h.put ht (fun k hk => ⟨(hRo k hk).2.1, (hRo k hk).2.2.1, (hRo k hk).2.2.2.1⟩) (j := 4 + i) (by omega) (anQi _ _ _ _ i hi).symm ⟨fun j hj => ?_, fun j hj => ?_, fun j hj y hy => ?_, fun j hj b hb hv => ?_, fun j k hj hk hne q hq hq2 => ?_, fun b hb => ?_, ?_⟩
 ·show (w'.setCell _ v').ownsRow b1 39 5 (updF x.ss i v' j) (updF x.rs i (x.rs i ++ [(d, t)]) j).length (Ev.cells5 (updF x.rs i (x.rs i ++ [(d, t)]) j))
  by_cases e : j = i
  ·subst e
   rw [aaQ3, aaQ3, List.length_append, Ev.cells5_append]
   refine abQz hown (fun hk => ?_) _
   rcases hvlt _ hk with e2 | e2
   ·obtain ⟨cs', hb⟩ := own_blk (h.last.own j hj) e2
    exact Blk.kind hb hpk (by decide) rfl
   ·have e2 : g = w.heap.size := e2
    omega
  ·rw [aaQp _ _ e, aaQp _ _ e]
   refine aaQf (h.last.own j hj) hT (fun k hk hm => ?_)
   rcases List.mem_cons.1 hm with rfl | hm
   ·obtain ⟨cs', hb⟩ := own_blk (h.last.own j hj) hk
    exact Blk.kind hb hpk (by decide) rfl
   ·exact h.last.apart j i hj hi e k hk (hRo k hm).1
 ·show (updF x.rs i (x.rs i ++ [(d, t)]) j).map Prod.fst = updF x.S.D i (x.S.D i ++ [d]) j
  by_cases e : j = i
  ·subst e
   rw [aaQ3, aaQ3, List.map_append, h.last.is j hj]
   rfl
  ·rw [aaQp _ _ e, aaQp _ _ e]
   exact h.last.is j hj
 ·have hy : y ∈ updF x.rs i (x.rs i ++ [(d, t)]) j := hy
  show Ev.Lay _ (fun b => b ∈ G ++ x.F) y.1 y.2
  by_cases e : j = i
  ·subst e
   rw [aaQ3] at hy
   rcases List.mem_append.1 hy with hy | hy
   ·exact Ev.Lay.stay (fun _ h => h) hst y.1 y.2 (Ev.Lay.stay (fun b hb => List.mem_append_right _ hb) (Ev.StayS.refl _ _) y.1 y.2 (h.last.lay j hj y hy))
   ·rw [List.mem_singleton.1 hy]
    exact Ev.Lay.stay (fun _ h => h) hst d t (Ev.Lay.stay (fun b hb => List.mem_append_left _ hb) (Ev.StayS.refl _ _) d t hd)
  ·rw [aaQp _ _ e] at hy
   exact Ev.Lay.stay (fun _ h => h) hst y.1 y.2 (Ev.Lay.stay (fun b hb => List.mem_append_right _ hb) (Ev.StayS.refl _ _) y.1 y.2 (h.last.lay j hj y hy))
 ·have hv : (updF x.ss i v' j).ownBlock = some b := hv
  have hb : b ∈ G ++ x.F := hb
  obtain ⟨_, ⟨cs', hc⟩, h3⟩ := hall b hb
  by_cases e : j = i
  ·subst e
   rw [aaQ3] at hv
   rcases hvlt b hv with e2 | e2
   ·exact h3 j hj e2
   ·have := hc.lt
    omega
  ·rw [aaQp _ _ e] at hv
   exact h3 j hj hv
 ·have hqa : (updF x.ss i v' j).ownBlock = some q := hq
  have hqb : (updF x.ss i v' k).ownBlock = some q := hq2
  clear hq hq2
  have hlt : ∀ j, j < 7 → ∀ k, (x.ss j).ownBlock = some k → k < w.heap.size := fun j hj k hk => adQx (h.last.own j hj) hk
  by_cases e : j = i
  ·subst e
   rw [aaQ3] at hqa
   rw [aaQp _ _ (fun e => hne e.symm)] at hqb
   rcases hvlt q hqa with e2 | e2
   ·exact h.last.apart j k hj hk hne q e2 hqb
   ·have := hlt k hk q hqb
    omega
  ·rw [aaQp _ _ e] at hqa
   by_cases e3 : k = i
   ·subst e3
    rw [aaQ3] at hqb
    rcases hvlt q hqb with e2 | e2
    ·exact h.last.apart j k hj hk hne q hqa e2
    ·have := hlt j hj q hqa
     omega
   ·rw [aaQp _ _ e3] at hqb
    exact h.last.apart j k hj hk hne q hqa hqb
 ·have hb : b ∈ G ++ x.F := hb
  obtain ⟨h1, ⟨cs', hc⟩, _⟩ := hall b hb
  exact ⟨h1, cs', hc.turned hT (hnm b hb)⟩
 ·refine aaQf h.last.fil hT (fun k hk hm => ?_)
  obtain ⟨cs', hb⟩ := own_blk h.last.fil hk
  rcases List.mem_cons.1 hm with rfl | hm
  ·exact Blk.kind hb hpk (by decide) rfl
  ·exact (hRo k hm).2.2.2.2 _ hb
end
theorem aeQj (c k : UInt8) : ((c.toNat : Int) == (k.toNat : Int)) = decide (c = k) := by
 by_cases h : c = k
 ·subst h; simp
 ·have : c.toNat ≠ k.toNat := fun e => h (UInt8.toNat_inj.1 e)
  simp [h]
  omega
set_option maxHeartbeats 8000000 in
set_option maxRecDepth 1000000 in
theorem acQu (l : Bs) (hl : l.length ≤ 9223372036854775807) (w : World) : Calls Tryz.prog 20 #[.string (mkS l)] w fun e w' => e = .returned (.string (mkS (dTrim l))) ∧ w = w' := by
 go_enter Tryz.func20, Tryz.ntmps20
 go_wp2_with fail
 go_loop [0] (fun v => ∃ m : Bs, m.length ≤ l.length ∧ v = .string (mkS m) ∧ Hid (dL m = dL l)) (fun v => match v with | .string s => s.size | _ => 0)
 case atStart => exact ⟨l, Nat.le_refl _, rfl, rfl⟩
 case round =>
  obtain ⟨m, hm, rfl, hall⟩ := hrel
  have hnl : m.length ≤ 9223372036854775807 := by omega
  by_cases hnil : m = []
  ·have HM : Hid (dL l = m) := by show dL l = m; rw [← hall.out, hnil]; rfl
   have h0 : ((mkS m).size : Int) = 0 := by rw [hnil]; rfl
   clear hall hm hl
   generalize hSS : mkS m = S at *
   have HSM := hQQ hSS
   clear hSS hnil
   go_wp2_with fail
   have HTC : Hid (dR m = dTrim l) := by show dR m = _; rw [← agQw, HM.out]
   have hml0 : m.length = m.length := rfl
   go_loop [0] (fun v => ∃ k : Nat, k ≤ m.length ∧ v = .string (mkS (m.take k)) ∧ Hid ((m.drop k).all dLay = true)) (fun v => match v with | .string s => s.size | _ => 0)
   case atStart => exact ⟨m.length, Nat.le_refl _, by rw [List.take_length, HSM.out], by show (m.drop m.length).all dLay = true; rw [List.drop_length]; rfl⟩
   case round =>
    obtain ⟨k, hk, rfl, hall⟩ := hrel
    have hz : (mkS (m.take k)).size = k := by rw [aaQg, List.length_take]; omega
    have hkb : k ≤ 9223372036854775807 := by omega
    clear hml0 hnl
    cases k with
    | zero =>
      have HV : Hid (m.all dLay = true) := hall.out
      have h0 : ((mkS (m.take 0)).size : Int) = 0 := by rw [hz]; rfl
      go_wp2_with fail
      go_ret
      exact ⟨by rw [← HTC.out, ajQk HV.out]; rfl, rfl⟩
    | succ j =>
      have hj : j < m.length := by omega
      have hjz : j < (mkS (m.take (j + 1))).size := by omega
      obtain ⟨c, hc⟩ : ∃ c, c = m[j] := ⟨_, rfl⟩
      have hget : (mkS (m.take (j + 1)))[j]'hjz = c := by
       have h1 := aaQw hjz
       rw [aaQn, List.getElem?_take, if_pos (by omega), List.getElem?_eq_getElem hj] at h1
       injection h1 with h1
       rw [hc]; exact h1.symm
      have hext : (mkS (m.take (j + 1))).extract 0 j = mkS (m.take j) := by rw [agQn, List.take_take, Nat.min_eq_left (by omega)]
      have hdr : m.drop j = c :: m.drop (j + 1) := by rw [hc]; exact List.drop_eq_getElem_cons hj
      have HN1 : Hid (dLay c = true → (m.drop j).all dLay = true) := fun h => by have := hall.out; rw [hdr, List.all_cons, h, this]; rfl
      have HN2 : Hid (dLay c = false → dR m = m.take (j + 1)) := fun h => arQm hall.out (by rw [List.getElem?_eq_getElem hj, hc]) h
      have HZJ : Hid ((mkS (m.take j)).size < (mkS (m.take (j + 1))).size) := by show (mkS _).size < _; rw [hz, aaQg, List.length_take]; omega
      have hs1 : ((mkS (m.take (j + 1))).size : Int) - 1 = (j : Int) := by rw [hz]; omega
      have hs0 : (0 : Int) < ((mkS (m.take (j + 1))).size : Int) := by rw [hz]; omega
      have hj0 : (0 : Int) ≤ (j : Int) := by omega
      have hz40 : (mkS (m.take (j + 1))).size ≤ 9223372036854775807 := by rw [hz]; exact hkb
      have hji : (j : Int) < ((mkS (m.take (j + 1))).size : Int) := by rw [hz]; omega
      have hji2 : (j : Int) ≤ ((mkS (m.take (j + 1))).size : Int) := by rw [hz]; omega
      have u32 : ((((mkS (m.take (j + 1)))[j]'hjz).toNat : Int) == 32) = decide (c = 32) := by rw [hget]; exact aeQj c 32
      have u9 : ((((mkS (m.take (j + 1)))[j]'hjz).toNat : Int) == 9) = decide (c = 9) := by rw [hget]; exact aeQj c 9
      clear hdr hc hz hall hj hget
      generalize hSS : mkS (m.take (j + 1)) = S at *
      have HSS := hQQ hSS
      clear hSS
      generalize hR : mkS (m.take j) = R at *
      have HR := hQQ hR
      clear hR
      by_cases c32 : c = 32
      ·have t32 : ((S[j].toNat : Int) == 32) = true := by rw [u32, c32]; rfl
       have HN := hQQ (HN1.out (by rw [c32]; rfl))
       clear u32 u9 HN1 HN2 c32
       go_wp2_with fail
       go_round
       case rel => exact ⟨j, by omega, by rw [HR.out], HN⟩
       case measure => exact HZJ.out
      have t32 : ((S[j].toNat : Int) == 32) = false := by rw [u32]; simp [c32]
      by_cases c9 : c = 9
      ·have t9 : ((S[j].toNat : Int) == 9) = true := by rw [u9, c9]; rfl
       have HN := hQQ (HN1.out (by rw [c9]; rfl))
       clear u32 u9 HN1 HN2 c32 c9
       go_wp2_with fail
       go_round
       case rel => exact ⟨j, by omega, by rw [HR.out], HN⟩
       case measure => exact HZJ.out
      ·have t9 : ((S[j].toNat : Int) == 9) = false := by rw [u9]; simp [c9]
       have HN := hQQ (HN2.out (by unfold dLay; simp [c32, c9]))
       clear u32 u9 HN1 HN2 c32 c9
       go_wp2_with fail
       go_ret
       exact ⟨(by first | (rw [← HTC.out, HN.out, HSS.out]; done) | (rw [← HTC.out, HN.out, HSS.out]; rfl)), rfl⟩
  ·obtain ⟨c, r, hcr⟩ : ∃ c r, m = c :: r := by
    cases m with
    | nil => exact absurd rfl hnil
    | cons c r => exact ⟨c, r, rfl⟩
   have hjz : 0 < (mkS m).size := by rw [hcr, aaQg]; simp
   have hget : (mkS m)[0]'hjz = c := by subst hcr; rfl
   have hext : (mkS m).extract 1 (mkS m).size = mkS r := by rw [hcr, ajQa]; rfl
   have hw0 : (0 : Int) < ((mkS m).size : Int) := by omega
   have hs0 : (0 : Int) < ((mkS m).size : Int) := by omega
   have hs1 : (1 : Int) ≤ ((mkS m).size : Int) := by omega
   have hz40 : (mkS m).size ≤ 9223372036854775807 := by rw [aaQg]; omega
   have HZJ : Hid ((mkS r).size < (mkS m).size) := by show (mkS r).size < _; rw [hcr, aaQg, aaQg]; simp
   have HRN : Hid (dLay c = true → dL r = dL l) := fun hc => by
    rw [← hall.out, hcr]
    show _ = (c :: r).dropWhile dLay
    rw [List.dropWhile_cons, if_pos hc]
    rfl
   have HRF : Hid (dLay c = false → dL l = m) := fun hc => by
    rw [← hall.out, hcr]
    show (c :: r).dropWhile dLay = _
    rw [List.dropWhile_cons, if_neg (by rw [hc]; simp)]
   have hrl : r.length ≤ l.length := by rw [hcr] at hm; simp at hm; omega
   have u32 : ((((mkS m)[0]'hjz).toNat : Int) == 32) = decide (c = 32) := by rw [hget]; exact aeQj c 32
   have u9 : ((((mkS m)[0]'hjz).toNat : Int) == 9) = decide (c = 9) := by rw [hget]; exact aeQj c 9
   clear hall hm hcr hnil hget hl
   generalize hSS : mkS m = S at *
   generalize hRR : mkS r = R at *
   have HSM := hQQ hSS
   have HR := hQQ hRR
   clear hSS hRR
   by_cases c32 : c = 32
   ·have t32 : ((S[0].toNat : Int) == 32) = true := by rw [u32, c32]; rfl
    have HN := hQQ (HRN.out (by rw [c32]; rfl))
    clear u32 u9 HRN HRF c32
    go_wp2_with fail
    go_round
    case rel => exact ⟨r, hrl, by rw [HR.out], HN⟩
    case measure => exact HZJ.out
   have t32 : ((S[0].toNat : Int) == 32) = false := by rw [u32]; simp [c32]
   by_cases c9 : c = 9
   ·have t9 : ((S[0].toNat : Int) == 9) = true := by rw [u9, c9]; rfl
    have HN := hQQ (HRN.out (by rw [c9]; rfl))
    clear u32 u9 HRN HRF c32 c9
    go_wp2_with fail
    go_round
    case rel => exact ⟨r, hrl, by rw [HR.out], HN⟩
    case measure => exact HZJ.out
   have t9 : ((S[0].toNat : Int) == 9) = false := by rw [u9]; simp [c9]
   have HM : Hid (dL l = m) := HRF.out (by unfold dLay; simp [c32, c9])
   clear u32 u9 HRN HRF c32 c9 hrl hext HZJ HR
   go_wp2_with fail
   have HTC : Hid (dR m = dTrim l) := by show dR m = _; rw [← agQw, HM.out]
   have hml0 : m.length = m.length := rfl
   go_loop [0] (fun v => ∃ k : Nat, k ≤ m.length ∧ v = .string (mkS (m.take k)) ∧ Hid ((m.drop k).all dLay = true)) (fun v => match v with | .string s => s.size | _ => 0)
   case atStart => exact ⟨m.length, Nat.le_refl _, by rw [List.take_length, HSM.out], by show (m.drop m.length).all dLay = true; rw [List.drop_length]; rfl⟩
   case round =>
    obtain ⟨k, hk, rfl, hall⟩ := hrel
    have hz : (mkS (m.take k)).size = k := by rw [aaQg, List.length_take]; omega
    have hkb : k ≤ 9223372036854775807 := by omega
    clear hml0 hnl
    cases k with
    | zero =>
      have HV : Hid (m.all dLay = true) := hall.out
      have h0 : ((mkS (m.take 0)).size : Int) = 0 := by rw [hz]; rfl
      go_wp2_with fail
      go_ret
      exact ⟨by rw [← HTC.out, ajQk HV.out]; rfl, rfl⟩
    | succ j =>
      have hj : j < m.length := by omega
      have hjz : j < (mkS (m.take (j + 1))).size := by omega
      obtain ⟨c, hc⟩ : ∃ c, c = m[j] := ⟨_, rfl⟩
      have hget : (mkS (m.take (j + 1)))[j]'hjz = c := by
       have h1 := aaQw hjz
       rw [aaQn, List.getElem?_take, if_pos (by omega), List.getElem?_eq_getElem hj] at h1
       injection h1 with h1
       rw [hc]; exact h1.symm
      have hext : (mkS (m.take (j + 1))).extract 0 j = mkS (m.take j) := by rw [agQn, List.take_take, Nat.min_eq_left (by omega)]
      have hdr : m.drop j = c :: m.drop (j + 1) := by rw [hc]; exact List.drop_eq_getElem_cons hj
      have HN1 : Hid (dLay c = true → (m.drop j).all dLay = true) := fun h => by have := hall.out; rw [hdr, List.all_cons, h, this]; rfl
      have HN2 : Hid (dLay c = false → dR m = m.take (j + 1)) := fun h => arQm hall.out (by rw [List.getElem?_eq_getElem hj, hc]) h
      have HZJ : Hid ((mkS (m.take j)).size < (mkS (m.take (j + 1))).size) := by show (mkS _).size < _; rw [hz, aaQg, List.length_take]; omega
      have hs1 : ((mkS (m.take (j + 1))).size : Int) - 1 = (j : Int) := by rw [hz]; omega
      have hs0 : (0 : Int) < ((mkS (m.take (j + 1))).size : Int) := by rw [hz]; omega
      have hj0 : (0 : Int) ≤ (j : Int) := by omega
      have hz40 : (mkS (m.take (j + 1))).size ≤ 9223372036854775807 := by rw [hz]; exact hkb
      have hji : (j : Int) < ((mkS (m.take (j + 1))).size : Int) := by rw [hz]; omega
      have hji2 : (j : Int) ≤ ((mkS (m.take (j + 1))).size : Int) := by rw [hz]; omega
      have u32 : ((((mkS (m.take (j + 1)))[j]'hjz).toNat : Int) == 32) = decide (c = 32) := by rw [hget]; exact aeQj c 32
      have u9 : ((((mkS (m.take (j + 1)))[j]'hjz).toNat : Int) == 9) = decide (c = 9) := by rw [hget]; exact aeQj c 9
      clear hdr hc hz hall hj hget
      generalize hSS : mkS (m.take (j + 1)) = S at *
      have HSS := hQQ hSS
      clear hSS
      generalize hR : mkS (m.take j) = R at *
      have HR := hQQ hR
      clear hR
      by_cases c32 : c = 32
      ·have t32 : ((S[j].toNat : Int) == 32) = true := by rw [u32, c32]; rfl
       have HN := hQQ (HN1.out (by rw [c32]; rfl))
       clear u32 u9 HN1 HN2 c32
       go_wp2_with fail
       go_round
       case rel => exact ⟨j, by omega, by rw [HR.out], HN⟩
       case measure => exact HZJ.out
      have t32 : ((S[j].toNat : Int) == 32) = false := by rw [u32]; simp [c32]
      by_cases c9 : c = 9
      ·have t9 : ((S[j].toNat : Int) == 9) = true := by rw [u9, c9]; rfl
       have HN := hQQ (HN1.out (by rw [c9]; rfl))
       clear u32 u9 HN1 HN2 c32 c9
       go_wp2_with fail
       go_round
       case rel => exact ⟨j, by omega, by rw [HR.out], HN⟩
       case measure => exact HZJ.out
      ·have t9 : ((S[j].toNat : Int) == 9) = false := by rw [u9]; simp [c9]
       have HN := hQQ (HN2.out (by unfold dLay; simp [c32, c9]))
       clear u32 u9 HN1 HN2 c32 c9
       go_wp2_with fail
       go_ret
       exact ⟨(by first | (rw [← HTC.out, HN.out, HSS.out]; done) | (rw [← HTC.out, HN.out, HSS.out]; rfl)), rfl⟩
theorem abQ6 {t k : Bs} (h : t ≠ k) : ((mkS t).toList == k) = false := by
 rw [ByteArray.toList_eq, aaQn]
 exact beq_eq_false_iff_ne.2 h
theorem RfM.rcb13 {w0 w : World} {B g b1 : Nat} {v : Value} {ys : List Sk5} {x : Sk5} {has : Bool} (h : RfM w0 w B g b1 v ys x has) : (∀ i, w.frozen? ⟨g, i, none⟩ = false) ∧ w.cell? ⟨g, 4, none⟩ = some (.string (mkS (x.S.T 3))) ∧ w.cell? ⟨g, 12, none⟩ = some x.fs ∧ ∀ i, i < 7 → w.cell? ⟨g, 5 + i, none⟩ = some (x.ss i) := by
 have r4 := Blk.cell h.rd 4
 have r12 := Blk.cell h.rd 12
 have r5 := Blk.cell h.rd 5
 have r6 := Blk.cell h.rd 6
 have r7 := Blk.cell h.rd 7
 have r8 := Blk.cell h.rd 8
 have r9 := Blk.cell h.rd 9
 have r10 := Blk.cell h.rd 10
 have r11 := Blk.cell h.rd 11
 simp [rdC] at r4 r12 r5 r6 r7 r8 r9 r10 r11
 refine ⟨fun i => h.rd.free i, r4, r12, fun i hi => ?_⟩
 match i, hi with
 | 0, _ => exact r5
 | 1, _ => exact r6
 | 2, _ => exact r7
 | 3, _ => exact r8
 | 4, _ => exact r9
 | 5, _ => exact r10
 | 6, _ => exact r11
def PutR (w0 : World) (B g b1 : Nat) (v : Value) (ys : List Sk5) (X : Option Sk) (e : Ending) (w' : World) : Prop := match X with
 | some S' => e = .returned (.int .i64 0) ∧ ∃ x', x'.S = S' ∧ RfM w0 w' B g b1 v ys x' true
 | none => e = .returned (.int .i64 130) ∧ Turned [g] w0 w'
section
variable {w0 w w' : World} {B g b1 : Nat} {ys xs : List Sk5} {x : Sk5} {has : Bool} {v : Value}
set_option maxHeartbeats 4000000 in
set_option maxRecDepth 1000000 in
theorem aoQt (h : RfM w0 w B g b1 v ys x true) (vv : Bs) : Calls Tryz.prog 80 #[.pointer (some ⟨g, 0, none⟩), .string (mkS vndN), .string (mkS vv)] w (PutR w0 B g b1 v ys (actM .vnd x.S vv)) := by
 obtain ⟨hf, r4, _, _⟩ := h.rcb13
 have f4 := hf 4
 have H := hQQ h
 have hq0 : ((mkS vndN).toList == ([86, 110, 100] : List UInt8)) = true := by decide +kernel
 clear h hf
 go_enter Tryz.func80, Tryz.ntmps80
 go_wp2_with fail
 go_ret
 exact ⟨rfl, _, rfl, H.out.text vv⟩
set_option maxHeartbeats 4000000 in
set_option maxRecDepth 1000000 in
theorem amQg (h : RfM w0 w B g b1 v ys x true) (t vv : Bs) (h0 : t ≠ vndN) (h1 : t ≠ flsN) (h2 : ∀ k ∈ tagsN, t ≠ k) : Calls Tryz.prog 80 #[.pointer (some ⟨g, 0, none⟩), .string (mkS t), .string (mkS vv)] w (PutR w0 B g b1 v ys (actM .none x.S vv)) := by
 have H := hQQ h
 have hq0 : ((mkS t).toList == ([86, 110, 100] : List UInt8)) = false := abQ6 h0
 have hq1 : ((mkS t).toList == ([70, 108, 115] : List UInt8)) = false := abQ6 h1
 have hq2 : ((mkS t).toList == ([80, 114, 118] : List UInt8)) = false := abQ6 (h2 _ (by simp [tagsN]))
 have hq3 : ((mkS t).toList == ([82, 101, 113] : List UInt8)) = false := abQ6 (h2 _ (by simp [tagsN]))
 have hq4 : ((mkS t).toList == ([80, 114, 113] : List UInt8)) = false := abQ6 (h2 _ (by simp [tagsN]))
 have hq5 : ((mkS t).toList == ([67, 111, 110] : List UInt8)) = false := abQ6 (h2 _ (by simp [tagsN]))
 have hq6 : ((mkS t).toList == ([79, 98, 115] : List UInt8)) = false := abQ6 (h2 _ (by simp [tagsN]))
 have hq7 : ((mkS t).toList == ([82, 101, 99] : List UInt8)) = false := abQ6 (h2 _ (by simp [tagsN]))
 have hq8 : ((mkS t).toList == ([83, 117, 112] : List UInt8)) = false := abQ6 (h2 _ (by simp [tagsN]))
 clear h h0 h1 h2
 go_enter Tryz.func80, Tryz.ntmps80
 go_wp2_with fail
 go_ret
 exact ⟨rfl, _, rfl, H.out⟩
set_option maxHeartbeats 4000000 in
set_option maxRecDepth 1000000 in
theorem aoQu (h : RfM w0 w B g b1 v ys x true) (vv : Bs) (hv : vv.length ≤ 40000) (hn : x.S.fl.length ≤ 100000) : Calls Tryz.prog 80 #[.pointer (some ⟨g, 0, none⟩), .string (mkS flsN), .string (mkS vv)] w (PutR w0 B g b1 v ys (actM .fls x.S vv)) := by
 obtain ⟨is_, zs, his, hzs, hzs1, hzs2, hzs3⟩ := adQs
 have HIS := hQQ his
 have CT := hQQ (fun wx => acQu vv (by omega) wx)
 obtain ⟨hf, _, r12, _⟩ := h.rcb13
 have f12 := hf 12
 have H := hQQ h
 have HF := hQQ (fun wx (hb : Below w.heap.size w wx) => h.below hb)
 obtain ⟨Af, cf, hfv, hcf1, hcf2⟩ := aaQc h.last.fil
 have hr12 := r12
 rw [hfv] at r12
 have hq0 : ((mkS flsN).toList == ([86, 110, 100] : List UInt8)) = false := by decide +kernel
 have hq1 : ((mkS flsN).toList == ([70, 108, 115] : List UInt8)) = true := by decide +kernel
 clear h his hf
 go_enter Tryz.func80, Tryz.ntmps80
 go_upto_region 7 with fail
 clear hq0 hq1
 refine aaQu (TillP 13 (fun w' => w'.cell? ⟨g, 12, none⟩ = some (.slice Af x.S.fl.length cf))) (by kernel_rfl) (fun _ => by show w.cell? _ = _; exact r12) (fun hS => ?_)
 try simp only [sx, Act.put]
 refine aaQa (i := 0) (fun w' => w'.cell? ⟨g, 12, none⟩ = some (.slice Af x.S.fl.length cf)) (v := (.pointer (some ⟨g, 0, none⟩))) rfl (by kernel_rfl) (by kernel_rfl) (by kernel_rfl) (fun _ _ _ h => h) (fun l w hw hS => hS (hw 13 (by kernel_rfl))) (TillP.io (by decide)) (by kernel_rfl) hS (fun w' hSw => ?_) (by rfl) ?_
 ·go_simp
 clear hS
 intro hS
 try simp only [sx, Act.put]
 refine aaQa (i := 1) (fun w' => w'.cell? ⟨g, 12, none⟩ = some (.slice Af x.S.fl.length cf)) (v := (.pointer (some ⟨g, 0, none⟩))) rfl (by kernel_rfl) (by kernel_rfl) (by kernel_rfl) (fun _ _ _ h => h) (fun l w hw hS => hS (hw 13 (by kernel_rfl))) (TillP.io (by decide)) (by kernel_rfl) hS (fun w' hSw => ?_) (by rfl) ?_
 ·go_simp
 clear hS
 intro hS
 try simp only [sx, Act.put]
 refine aaQa (i := 2) (fun w' => w'.cell? ⟨g, 12, none⟩ = some (.slice Af x.S.fl.length cf)) (v := (.pointer (some ⟨g, 0, none⟩))) rfl (by kernel_rfl) (by kernel_rfl) (by kernel_rfl) (fun _ _ _ h => h) (fun l w hw hS => hS (hw 13 (by kernel_rfl))) (TillP.io (by decide)) (by kernel_rfl) hS (fun w' hSw => ?_) (by rfl) ?_
 ·go_simp
 clear hS
 intro hS
 try simp only [sx, Act.put]
 refine aaQa (i := 3) (fun w' => w'.cell? ⟨g, 12, none⟩ = some (.slice Af x.S.fl.length cf)) (v := (.pointer (some ⟨g, 1, none⟩))) rfl (by kernel_rfl) (by kernel_rfl) (by kernel_rfl) (fun _ _ _ h => h) (fun l w hw hS => hS (hw 13 (by kernel_rfl))) (TillP.io (by decide)) (by kernel_rfl) hS (fun w' hSw => ?_) (by rfl) ?_
 ·go_simp
 clear hS
 intro hS
 try simp only [sx, Act.put]
 refine aaQa (i := 4) (fun w' => w'.cell? ⟨g, 12, none⟩ = some (.slice Af x.S.fl.length cf)) (v := (.pointer (some ⟨g, 12, none⟩))) rfl (by kernel_rfl) (by kernel_rfl) (by kernel_rfl) (fun _ _ _ h => h) (fun l w hw hS => hS (hw 13 (by kernel_rfl))) (TillP.io (by decide)) (by kernel_rfl) hS (fun w' hSw => ?_) (by rfl) ?_
 ·go_simp
 clear hS
 intro hS
 try simp only [sx, Act.put]
 refine aaQa (i := 5) (fun w' => w'.cell? ⟨g, 12, none⟩ = some (.slice Af x.S.fl.length cf)) (v := (.slice Af x.S.fl.length cf)) rfl (by kernel_rfl) (by kernel_rfl) (by kernel_rfl) (fun _ _ _ h => h) (fun l w hw hS => hS (hw 13 (by kernel_rfl))) (TillP.io (by decide)) (by kernel_rfl) hS (fun w' hSw => ?_) (by rfl) ?_
 ·go_simp
 clear hS
 intro hS
 try simp only [sx, Act.put]
 refine aaQa (i := 6) (fun w' => w'.cell? ⟨g, 12, none⟩ = some (.slice Af x.S.fl.length cf)) (v := (.string (mkS vv))) rfl (by kernel_rfl) (by kernel_rfl) (by kernel_rfl) (fun _ _ _ h => h) (fun l w hw hS => hS (hw 13 (by kernel_rfl))) (TillP.io (by decide)) (by kernel_rfl) hS (fun w' hSw => ?_) (by rfl) ?_
 ·go_simp
 clear hS
 intro hS
 try simp only [sx, Act.put]
 refine aaQb (i := 7) (by kernel_rfl) rfl (fun K hK => ?_)
 go_simp
 refine (CT.out _).mono ?_
 rintro e w1 ⟨rfl, rfl⟩
 refine hK.out _ _ (fun _ => by show w.cell? _ = _; exact r12) ?_
 clear hS hK
 intro hS
 try simp only [sx, Act.put]
 refine aaQb (i := 8) (by kernel_rfl) rfl (fun K hK => ?_)
 go_simp
 have HB3 : Hid (Below w.heap.size w (w.drew.alloc (.cells #[.string (mkS (dTrim vv))] 9))) := (Below.refl w.heap.size w).drew.alloc (Nat.le_refl _) _
 have H3 := hQQ (HF.out _ HB3.out)
 have c3 : (w.drew.alloc (.cells #[.string (mkS (dTrim vv))] 9)).cell? ⟨g, 12, none⟩ = some (.slice Af x.S.fl.length cf) := by rw [← hfv]; exact H3.out.rcb13.2.2.1
 have HO3 : Hid ((w.drew.alloc (.cells #[.string (mkS (dTrim vv))] 9)).ownsRow b1 9 1 (.slice Af x.S.fl.length cf) x.S.fl.length (strR x.S.fl)) := (by rw [← hfv]; exact H3.out.last.fil)
 have HCN : Hid (∀ (j : Nat) u, [Value.string (mkS (dTrim vv))][j]? = some u → (w.drew.alloc (.cells #[.string (mkS (dTrim vv))] 9)).cell? ((⟨w.heap.size, 0, none⟩ : Addr).add j) = some u) := cell_one_new _ _ _
 have hsz3 := H3.out.le.2.2
 refine hK.out _ _ (fun _ => c3) ?_
 clear hS hK
 intro hS
 try simp only [sx, Act.put]
 refine aaQb (i := 9) (by kernel_rfl) rfl (fun K hK => ?_)
 refine aaQo rfl (.tmp 24) (.tmp 27) 32 rfl b1 9 is_ zs 1 16 Tryz.underlying32 HIS.out hzs hzs2 hzs3 hzs1 (by decide) (.slice Af x.S.fl.length cf) x.S.fl.length (strR x.S.fl) (by simp [Act.eval, Act.put]) HO3.out ⟨w.heap.size, 0, none⟩ 1 1 [.string (mkS (dTrim vv))] (by simp [Act.eval, Act.put]) rfl HCN.out (fun u hu => by simp at hu; subst hu; rfl) (by unfold maxLen; omega) (by omega) hsz3 ?_
 intro v4 w4 hown4 hg4 hat4
 rw [← hfv] at hg4 hat4
 have HFI := hQQ (RfM.files H3.out hown4 hg4 hat4)
 have hgn : g ∉ x.fs.ownBlock.toList := fun hm => by obtain ⟨cs', hb⟩ := own_blk H3.out.last.fil (by simpa using hm); exact Blk.kind hb H3.out.rd (by decide) rfl
 have R4 := hQQ (H3.out.rd.turned (aaQi hg4) hgn)
 have c4 := R4.out.cell 12
 simp [rdC] at c4
 have f4 := R4.out.free 12
 rw [hfv] at c4
 have HV4 := hQQ (aaQc hown4)
 obtain ⟨A4, cc4, rfl, hn4, hm4⟩ := aaQc hown4
 clear hown4 hg4 hat4 hgn
 refine hK.out _ _ (fun _ => c4) ?_
 clear hS hK
 intro hS
 try simp only [sx, Act.put]
 refine aaQa (i := 10) (fun w' => True) (v := (.pointer (some ⟨g, 0, none⟩))) rfl (by kernel_rfl) (by kernel_rfl) (by kernel_rfl) (fun _ _ _ h => h) (fun _ _ _ _ => trivial) (TillP.io (by decide)) (by kernel_rfl) hS (fun w' hSw => ?_) (by rfl) ?_
 ·go_simp
 clear hS
 intro hS
 try simp only [sx, Act.put]
 refine aaQa (i := 11) (fun w' => True) (v := (.pointer (some ⟨g, 1, none⟩))) rfl (by kernel_rfl) (by kernel_rfl) (by kernel_rfl) (fun _ _ _ h => h) (fun _ _ _ _ => trivial) (TillP.io (by decide)) (by kernel_rfl) hS (fun w' hSw => ?_) (by rfl) ?_
 ·go_simp
 clear hS
 intro hS
 try simp only [sx, Act.put]
 refine aaQa (i := 12) (fun w' => True) (v := (.pointer (some ⟨g, 12, none⟩))) rfl (by kernel_rfl) (by kernel_rfl) (by kernel_rfl) (fun _ _ _ h => h) (fun _ _ _ _ => trivial) (TillP.io (by decide)) (by kernel_rfl) hS (fun w' hSw => ?_) (by rfl) ?_
 ·go_simp
 clear hS
 intro hS
 try simp only [sx, Act.put]
 refine aaQb (i := 13) (by kernel_rfl) rfl (fun K hK => ?_)
 go_simp
 refine hK.out _ _ (fun h => by simp at h) ?_
 clear hS hK
 intro hS
 refine aaQh (by kernel_rfl) ?_ _
 try simp only [sx, Act.put]
 clear R4 HO3 HCN H3 HV4 c4 f4
 go_wp2_with fail
 go_ret
 exact ⟨rfl, _, rfl, HFI.out⟩
end
end Go.Proofs.YtdhgiammfpjniaaGreatDoor
