/- Parts of the proof. -/
import Derived.Test.YtdhgiammfpjniaaGreatDoorZrbn
import Derived.Test.YtdhgiammfpjniaaGreatDoorZrbq
import Derived.Test.YtdhgiammfpjniaaGreatDoorZrap
import Derived.Test.YtdhgiammfpjniaaGreatDoorZraq
namespace Go.Proofs.YtdhgiammfpjniaaGreatDoor
set_option linter.unusedSimpArgs false
set_option linter.unusedVariables false
open Go.RowKit Go.MapKept
def Lim (S : Sk) (m : Nat) : Prop := S.fl.length ≤ m ∧ ∀ i, i < 7 → (S.D i).length ≤ m
theorem Lim.act {mg : Mg} {S S' : Sk} {vv : Bs} {m : Nat} (h : Lim S m) (ha : actM mg S vv = some S') : Lim S' (m + 1) := by
 cases mg with
 | none => injection ha with ha; rw [← ha]; exact ⟨by have := h.1; omega, fun i hi => by have := h.2 i hi; omega⟩
 | vnd => injection ha with ha; rw [← ha]; exact ⟨by have := h.1; show S.fl.length ≤ _; omega, fun i hi => by have := h.2 i hi; show (S.D i).length ≤ _; omega⟩
 | fls => injection ha with ha; rw [← ha]; exact ⟨by have := h.1; show (S.fl ++ _).length ≤ _; rw [List.length_append]; simp; omega, fun i hi => by have := h.2 i hi; show (S.D i).length ≤ _; omega⟩
 | dep j =>
   have ha : (match (Ev.parseD vv).1 with | some d => some (⟨S.T, updF S.D j (S.D j ++ [d]), S.fl⟩ : Sk) | none => none) = some S' := ha
   split at ha
   ·injection ha with ha
    rw [← ha]
    refine ⟨by have := h.1; show S.fl.length ≤ _; omega, fun i hi => ?_⟩
    show (updF S.D j (S.D j ++ _) i).length ≤ _
    have := h.2 i hi
    by_cases e : i = j
    ·subst e; rw [aaQ3, List.length_append]; simp; omega
    ·rw [aaQp _ _ e]; omega
   ·cases ha
theorem Lim.new (a b d : Bs) (m : Nat) : Lim (newS a b d) m := ⟨Nat.zero_le _, fun i hi => Nat.zero_le _⟩
def StR (w0 w : World) (B g : Nat) (acc : List Sk) (m : Nat) : Prop := (acc = [] ∧ ∃ v b1 x, RfM w0 w B g b1 v [] x false) ∨ (∃ v b1 ys x, acc = ys.map Sk5.S ++ [x.S] ∧ RfM w0 w B g b1 v ys x true ∧ GoodR x.S ∧ ys.length ≤ 200 ∧ Lim x.S m)
section
variable {w0 w w' : World} {B g m : Nat} {acc : List Sk}
theorem StR.below (h : StR w0 w B g acc m) (hb : Below w.heap.size w w') : StR w0 w' B g acc m := by
 rcases h with ⟨h1, v, b1, x, h2⟩ | ⟨v, b1, ys, x, h1, h2, h3⟩
 ·exact .inl ⟨h1, v, b1, x, h2.below hb⟩
 ·exact .inr ⟨v, b1, ys, x, h1, h2.below hb, h3⟩
theorem StR.bel (h : StR w0 w B g acc m) : Turned [g] w0 w := by
 rcases h with ⟨h1, v, b1, x, h2⟩ | ⟨v, b1, ys, x, h1, h2, h3⟩
 ·exact h2.bel
 ·exact h2.bel
theorem StR.has (h : StR w0 w B g acc m) : w.cell? ⟨g, 13, none⟩ = some (.bool (!acc.isEmpty)) := by
 rcases h with ⟨h1, v, b1, x, h2⟩ | ⟨v, b1, ys, x, h1, h2, h3⟩
 ·subst h1
  have := h2.rd.cell 13
  simp [rdC] at this
  exact this
 ·subst h1
  have := h2.rd.cell 13
  simp [rdC] at this
  have e : (ys.map Sk5.S ++ [x.S]).isEmpty = false := by cases ys <;> rfl
  rw [e]
  exact this
theorem StR.whole (h : StR w0 w B g acc m) : ∃ xs : List Sk5, acc = xs.map Sk5.S ∧ Calls Tryz.prog 39 #[.pointer (some ⟨g, 0, none⟩)] w (WholeA w0 B g xs) := by
 rcases h with ⟨h1, v, b1, x, h2⟩ | ⟨v, b1, ys, x, h1, h2, h3, h4, h5⟩
 ·subst h1
  refine ⟨[], rfl, (aiQ1 h2).mono ?_⟩
  rintro e w2 ⟨rfl, hb⟩
  have h6 := h2.below hb
  exact ⟨rfl, h6.bel, fun _ => ⟨v, x, false, h6.rd, h6.row, fun y hy => (by cases hy), ⟨h6.le.1, Nat.le_trans h6.le.2.1 h6.le.2.2⟩, h6.bel⟩⟩
 ·have hw : aaQ4 ((ys ++ [x]).map Sk5.S) = chkS x.S := by
   rw [List.map_append, aeQf _ _ (by simp)]
   rfl
  refine ⟨ys ++ [x], by rw [h1, List.map_append]; rfl, (akQe h2 h3 (by omega)).mono ?_⟩
  rintro e w2 ⟨rfl, hT, hA⟩
  refine ⟨by rw [hw], hT, fun h0 => ?_⟩
  rw [hw] at h0
  obtain ⟨v', hv⟩ := hA h0
  exact ⟨v', x, true, hv⟩
def OneR (w0 : World) (B g m : Nat) (X : Except Int (List Sk)) (e : Ending) (w' : World) : Prop := match X with
 | .error n => e = .returned (.int .i64 n) ∧ n ≠ 0 ∧ Turned [g] w0 w'
 | .ok l => e = .returned (.int .i64 0) ∧ StR w0 w' B g l m
theorem StR.pkg (h : StR w0 w B g acc m) (vv : Bs) (hv : vv.length ≤ 40000) : Calls Tryz.prog 79 #[.pointer (some ⟨g, 0, none⟩), .string (mkS vv)] w (OneR w0 B g (m + 1) (abQk acc vv)) := by
 obtain ⟨xs, rfl, hC⟩ := h.whole
 refine (aoQw vv hv hC).mono ?_
 intro e w2 hP
 cases hX : abQk (xs.map Sk5.S) vv with
 | error n => rw [hX] at hP; exact hP
 | ok l =>
   rw [hX] at hP
   obtain ⟨rfl, v', a, b, d, b1, hl, hR⟩ := hP
   have hbs := hX
   unfold abQk at hbs
   split at hbs
   ·cases hbs
   ·split at hbs
    ·cases hbs
    ·next h200 =>
     rw [List.length_map] at h200
     have hg : GoodR (newS a b d) := by
      split at hbs
      ·next S hS =>
       injection hbs with hbs
       rw [hl] at hbs
       have he : S = newS a b d := by
        have := List.append_cancel_left hbs
        injection this
       subst he
       have hsz : ∀ p ∈ adQw vv, p.length ≤ 40000 := fun p hp => by
        rw [afQm] at hp
        have := agQt vv p hp
        omega
       match hws : adQw vv, hS with
       | [], h => cases h
       | [_], h => cases h
       | [_, _], h => cases h
       | [_, _, _], h => cases h
       | [p, q, r, s], h =>
         rw [hws] at hsz
         injection h with h
         have l1 := hsz p (by simp)
         have l2 := hsz q (by simp)
         have l3 := hsz r (by simp)
         have l4 := hsz s (by simp)
         rw [← h]
         refine ⟨fun i hi => ?_, fun p hp => (by cases hp), fun i hi d hd => (by cases hd), fun i hi d hd => (by cases hd)⟩
         match i, hi with
         | 0, _ => show p.length ≤ _; omega
         | 1, _ =>
           show (if r = [45] then q else q ++ 45 :: r).length ≤ _
           split
           ·omega
           ·simp; omega
         | 2, _ => show s.length ≤ _; omega
         | 3, _ => exact Nat.zero_le _
       | _ :: _ :: _ :: _ :: _ :: _, h => cases h
      ·cases hbs
     exact ⟨rfl, .inr ⟨v', b1, xs, newX a b d, by rw [hl]; rfl, hR, hg, by omega, Lim.new a b d _⟩⟩
theorem adQ9 (t : Bs) (vs : List Bs) (p : List Sk) (S : Sk) : lastT t vs (p ++ [S]) = (match putT t vs S with | some S' => some (p ++ [S']) | none => none) := by
 rw [ahQk _ _ _ _ (by simp)]
 show ((match putT t vs S with | some S' => some [S'] | none => none) : Option (List Sk)).map _ = _
 cases putT t vs S <;> rfl
theorem StR.put (h : StR w0 w B g acc m) (hacc : acc ≠ []) (hm : m ≤ 100000) (t vv : Bs) (hv : vv.length ≤ 40000) : Calls Tryz.prog 80 #[.pointer (some ⟨g, 0, none⟩), .string (mkS t), .string (mkS vv)] w (OneR w0 B g (m + 1) (thenS (lastT t [vv] acc) .ok)) := by
 rcases h with ⟨h1, _⟩ | ⟨v, b1, ys, x, h1, h2, h3, h4, h5⟩
 ·exact absurd h1 hacc
 ·refine (aoQv h2 t vv hv (Nat.le_trans h5.1 hm) (fun i hi => ?_)).mono ?_
  ·have := h5.2 i hi
   rw [← h2.last.is i hi, List.length_map] at this
   omega
  ·intro e w2 hP
   rw [h1, adQ9]
   cases hX : putT t [vv] x.S with
   | none =>
     rw [hX] at hP
     exact ⟨hP.1, by decide, hP.2⟩
   | some S' =>
     rw [hX] at hP
     obtain ⟨rfl, x', rfl, hR⟩ := hP
     rw [anQk] at hX
     exact ⟨rfl, .inr ⟨v, b1, ys, x', rfl, hR, arQe h3 hv hX, h4, h5.act hX⟩⟩
theorem OneR.int {X : Except Int (List Sk)} {e : Ending} (h : OneR w0 B g m X e w) : ∃ n, e = .returned (.int .i64 n) := by
 cases X with
 | error n => exact ⟨n, h.1⟩
 | ok l => exact ⟨0, h.1⟩
theorem StR.more (h : StR w0 w B g acc m) : StR w0 w B g acc (m + 1) := by
 rcases h with h1 | ⟨v, b1, ys, x, h1, h2, h3, h4, h5⟩
 ·exact .inl h1
 ·exact .inr ⟨v, b1, ys, x, h1, h2, h3, h4, by have := h5.1; omega, fun i hi => by have := h5.2 i hi; omega⟩
def oneSX (acc : List Sk) (t v : Bs) : Except Int (List Sk) := if t = pkgN then abQk acc v else if acc = [] then (if t = verN_ then .ok acc else .error 130) else thenS (lastT t [v] acc) .ok
set_option maxHeartbeats 600000 in
set_option maxRecDepth 1000000 in
theorem aoQx (h : StR w0 w B g acc m) (hm : m ≤ 100000) (t vv : Bs) (hv : vv.length ≤ 40000) : Calls Tryz.prog 37 #[.pointer (some ⟨g, 0, none⟩), .string (mkS t), .string (mkS vv)] w (OneR w0 B g (m + 1) (oneSX acc t (aaQ2 vv))) := by
 have HEX := hQQ (ajQb vv)
 have hS : (mkS vv).size = vv.length := aaQg vv
 have hl : (aaQ2 vv).length ≤ 40000 := by
  unfold aaQ2
  split
  ·rw [List.length_drop]; omega
  ·exact hv
 have HV : Hid (∀ h : 0 < (mkS vv).size, (mkS vv)[0]'h = vv.headD 0) := fun h => by
  have := aaQw h
  rw [aaQn] at this
  have h2 : 0 < vv.length := by omega
  rw [List.getElem?_eq_getElem h2] at this
  injection this with this
  rw [← this]
  cases vv with
  | nil => cases h2
  | cons c r => rfl
 have HP := hQQ (fun wx (hb : Below w.heap.size w wx) => (h.below hb).pkg (aaQ2 vv) hl)
 have hh := h.has
 have H := hQQ h
 have HU := hQQ (fun hn => h.put hn hm t (aaQ2 vv) hl)
 obtain ⟨c, hc⟩ : ∃ c, c = aaQ2 vv := ⟨_, rfl⟩
 rw [← hc] at HP HU ⊢
 have HC : Hid (c = aaQ2 vv) := hc
 clear hc h
 obtain ⟨X, hX⟩ : ∃ X, X = oneSX acc t c := ⟨_, rfl⟩
 rw [← hX]
 have HX := hQQ hX
 clear hX
 go_enter Tryz.func37, Tryz.ntmps37
 obtain ⟨S0, hS0⟩ : ∃ S0, S0 = mkS vv := ⟨_, rfl⟩
 rw [← hS0]
 rw [← hS0] at hS HV HEX
 have HS0 := hQQ hS0
 clear hS0
 by_cases h0 : 0 < S0.size
 rotate_left
 ·have h0I : ¬ (0 : Int) < (S0.size : Int) := by omega
  have hcv : Hid (S0 = mkS c) := by
   show _ = _
   rw [HS0.out, HC.out]
   have : vv = [] := List.eq_nil_of_length_eq_zero (by omega)
   rw [this]; rfl
  clear HV HC HEX h0 HS0
  go_upto_region 3 with fail
  have hcv2 := hcv.out
  subst hcv2
  clear hcv
  by_cases hp : t = pkgN
  ·have hq : ((mkS t).toList == ([80, 107, 103] : List UInt8)) = true := by rw [hp]; decide +kernel
   have HXe : Hid (X = abQk acc c) := HX.out.trans (if_pos hp)
   clear hp HU
   go_wp2_with fail
   refine (HP.out _ (Below.refl _ _)).mono ?_
   intro e w2 hO
   obtain ⟨n, rfl⟩ := hO.int
   have HO := hQQ hO
   clear hO HP
   go_wp2_with fail
   go_ret
   show OneR _ _ _ _ X _ _
   rw [HXe.out]
   exact HO.out
  have hq : ((mkS t).toList == ([80, 107, 103] : List UInt8)) = false := abQ6 hp
  by_cases ha : acc = []
  ·by_cases hvr : t = verN_
   ·have hq2 : ((mkS t).toList == ([86, 101, 114] : List UInt8)) = true := by rw [hvr]; decide +kernel
    have HXe : Hid (X = .ok acc) := HX.out.trans ((if_neg hp).trans ((if_pos ha).trans (if_pos hvr)))
    rw [ha] at hh
    have hh2 : w.cell? ⟨g, 13, none⟩ = some (.bool false) := hh
    have HO : Hid (OneR w0 B g (m + 1) (.ok acc) (.returned (.int .i64 0)) w) := ⟨rfl, H.out.more⟩
    clear hh hp ha hvr HU HP
    go_wp2_with fail
    go_ret
    show OneR _ _ _ _ X _ _
    rw [HXe.out]
    exact HO.out
   ·have hq2 : ((mkS t).toList == ([86, 101, 114] : List UInt8)) = false := abQ6 hvr
    have HXe : Hid (X = .error 130) := HX.out.trans ((if_neg hp).trans ((if_pos ha).trans (if_neg hvr)))
    rw [ha] at hh
    have hh2 : w.cell? ⟨g, 13, none⟩ = some (.bool false) := hh
    have HO : Hid (OneR w0 B g (m + 1) (.error 130) (.returned (.int .i64 130)) w) := ⟨rfl, by decide, H.out.bel⟩
    clear hh hp ha hvr HU HP
    go_wp2_with fail
    go_ret
    show OneR _ _ _ _ X _ _
    rw [HXe.out]
    exact HO.out
  ·have HXe : Hid (X = thenS (lastT t [c] acc) .ok) := HX.out.trans ((if_neg hp).trans (if_neg ha))
   have hh2 : w.cell? ⟨g, 13, none⟩ = some (.bool true) := by
    rw [hh]
    cases acc with
    | nil => exact absurd rfl ha
    | cons a r => rfl
   have HU2 := hQQ (HU.out ha)
   clear hh hp ha HU HP
   go_wp2_with fail
   refine HU2.out.mono ?_
   intro e w2 hO
   obtain ⟨n, rfl⟩ := hO.int
   have HO := hQQ hO
   clear hO HU2
   go_wp2_with fail
   go_ret
   show OneR _ _ _ _ X _ _
   rw [HXe.out]
   exact HO.out
 have h0I : (0 : Int) < (S0.size : Int) := by omega
 have hbyte := HV.out h0
 by_cases h32 : S0[0]'h0 = 32
 ·have t32 : ((S0[0]'h0).toNat : Int) == 32 := by rw [h32]; rfl
  have hcx : Hid (S0.extract 1 vv.length = mkS c) := by
   show _ = _
   rw [HEX.out, HC.out]
   have e : aaQ2 vv = vv.drop 1 := by
    unfold aaQ2
    rw [if_pos]
    cases vv with
    | nil => exact absurd h0 (by rw [hS]; simp)
    | cons k r =>
      have : k = 32 := by rw [← h32, hbyte]; rfl
      rw [this]; simp [Lib.hasPrefix]
   rw [e, List.take_of_length_le (by rw [List.length_drop]; exact Nat.le_refl _)]
  clear HV HC HEX hbyte h32 HS0
  go_upto_region 3 with fail
  rw [hcx.out]
  clear hcx t32 h0 h0I
  by_cases hp : t = pkgN
  ·have hq : ((mkS t).toList == ([80, 107, 103] : List UInt8)) = true := by rw [hp]; decide +kernel
   have HXe : Hid (X = abQk acc c) := HX.out.trans (if_pos hp)
   clear hp HU
   go_wp2_with fail
   refine (HP.out _ (Below.refl _ _)).mono ?_
   intro e w2 hO
   obtain ⟨n, rfl⟩ := hO.int
   have HO := hQQ hO
   clear hO HP
   go_wp2_with fail
   go_ret
   show OneR _ _ _ _ X _ _
   rw [HXe.out]
   exact HO.out
  have hq : ((mkS t).toList == ([80, 107, 103] : List UInt8)) = false := abQ6 hp
  by_cases ha : acc = []
  ·by_cases hvr : t = verN_
   ·have hq2 : ((mkS t).toList == ([86, 101, 114] : List UInt8)) = true := by rw [hvr]; decide +kernel
    have HXe : Hid (X = .ok acc) := HX.out.trans ((if_neg hp).trans ((if_pos ha).trans (if_pos hvr)))
    rw [ha] at hh
    have hh2 : w.cell? ⟨g, 13, none⟩ = some (.bool false) := hh
    have HO : Hid (OneR w0 B g (m + 1) (.ok acc) (.returned (.int .i64 0)) w) := ⟨rfl, H.out.more⟩
    clear hh hp ha hvr HU HP
    go_wp2_with fail
    go_ret
    show OneR _ _ _ _ X _ _
    rw [HXe.out]
    exact HO.out
   ·have hq2 : ((mkS t).toList == ([86, 101, 114] : List UInt8)) = false := abQ6 hvr
    have HXe : Hid (X = .error 130) := HX.out.trans ((if_neg hp).trans ((if_pos ha).trans (if_neg hvr)))
    rw [ha] at hh
    have hh2 : w.cell? ⟨g, 13, none⟩ = some (.bool false) := hh
    have HO : Hid (OneR w0 B g (m + 1) (.error 130) (.returned (.int .i64 130)) w) := ⟨rfl, by decide, H.out.bel⟩
    clear hh hp ha hvr HU HP
    go_wp2_with fail
    go_ret
    show OneR _ _ _ _ X _ _
    rw [HXe.out]
    exact HO.out
  ·have HXe : Hid (X = thenS (lastT t [c] acc) .ok) := HX.out.trans ((if_neg hp).trans (if_neg ha))
   have hh2 : w.cell? ⟨g, 13, none⟩ = some (.bool true) := by
    rw [hh]
    cases acc with
    | nil => exact absurd rfl ha
    | cons a r => rfl
   have HU2 := hQQ (HU.out ha)
   clear hh hp ha HU HP
   go_wp2_with fail
   refine HU2.out.mono ?_
   intro e w2 hO
   obtain ⟨n, rfl⟩ := hO.int
   have HO := hQQ hO
   clear hO HU2
   go_wp2_with fail
   go_ret
   show OneR _ _ _ _ X _ _
   rw [HXe.out]
   exact HO.out
 ·have t32 : (((S0[0]'h0).toNat : Int) == 32) = false := beq_eq_false_iff_ne.2 fun e => h32 (UInt8.toNat_inj.1 (by show _ = 32; omega))
  have hcv : Hid (S0 = mkS c) := by
   show _ = _
   rw [HS0.out, HC.out]
   congr 1
   refine Eq.symm ?_
   unfold aaQ2
   rw [if_neg]
   cases vv with
   | nil => exact absurd h0 (by rw [hS]; simp)
   | cons k r =>
     intro hpre
     apply h32
     rw [hbyte]
     simp [Lib.hasPrefix] at hpre
     first
      | exact hpre
      | exact hpre.symm
  clear HV HC HEX hbyte h32 HS0
  go_upto_region 3 with fail
  have hcv2 := hcv.out
  subst hcv2
  clear hcv t32
  by_cases hp : t = pkgN
  ·have hq : ((mkS t).toList == ([80, 107, 103] : List UInt8)) = true := by rw [hp]; decide +kernel
   have HXe : Hid (X = abQk acc c) := HX.out.trans (if_pos hp)
   clear hp HU
   go_wp2_with fail
   refine (HP.out _ (Below.refl _ _)).mono ?_
   intro e w2 hO
   obtain ⟨n, rfl⟩ := hO.int
   have HO := hQQ hO
   clear hO HP
   go_wp2_with fail
   go_ret
   show OneR _ _ _ _ X _ _
   rw [HXe.out]
   exact HO.out
  have hq : ((mkS t).toList == ([80, 107, 103] : List UInt8)) = false := abQ6 hp
  by_cases ha : acc = []
  ·by_cases hvr : t = verN_
   ·have hq2 : ((mkS t).toList == ([86, 101, 114] : List UInt8)) = true := by rw [hvr]; decide +kernel
    have HXe : Hid (X = .ok acc) := HX.out.trans ((if_neg hp).trans ((if_pos ha).trans (if_pos hvr)))
    rw [ha] at hh
    have hh2 : w.cell? ⟨g, 13, none⟩ = some (.bool false) := hh
    have HO : Hid (OneR w0 B g (m + 1) (.ok acc) (.returned (.int .i64 0)) w) := ⟨rfl, H.out.more⟩
    clear hh hp ha hvr HU HP
    go_wp2_with fail
    go_ret
    show OneR _ _ _ _ X _ _
    rw [HXe.out]
    exact HO.out
   ·have hq2 : ((mkS t).toList == ([86, 101, 114] : List UInt8)) = false := abQ6 hvr
    have HXe : Hid (X = .error 130) := HX.out.trans ((if_neg hp).trans ((if_pos ha).trans (if_neg hvr)))
    rw [ha] at hh
    have hh2 : w.cell? ⟨g, 13, none⟩ = some (.bool false) := hh
    have HO : Hid (OneR w0 B g (m + 1) (.error 130) (.returned (.int .i64 130)) w) := ⟨rfl, by decide, H.out.bel⟩
    clear hh hp ha hvr HU HP
    go_wp2_with fail
    go_ret
    show OneR _ _ _ _ X _ _
    rw [HXe.out]
    exact HO.out
  ·have HXe : Hid (X = thenS (lastT t [c] acc) .ok) := HX.out.trans ((if_neg hp).trans (if_neg ha))
   have hh2 : w.cell? ⟨g, 13, none⟩ = some (.bool true) := by
    rw [hh]
    cases acc with
    | nil => exact absurd rfl ha
    | cons a r => rfl
   have HU2 := hQQ (HU.out ha)
   clear hh hp ha HU HP
   go_wp2_with fail
   refine HU2.out.mono ?_
   intro e w2 hO
   obtain ⟨n, rfl⟩ := hO.int
   have HO := hQQ hO
   clear hO HU2
   go_wp2_with fail
   go_ret
   show OneR _ _ _ _ X _ _
   rw [HXe.out]
   exact HO.out
end
theorem adQq : ∀ (t cur : Bs), (abQn t cur).length ≤ t.length + (if cur = [] then 0 else 1)
 | [], cur => by
   show (if cur = [] then [] else [cur]).length ≤ _
   by_cases h : cur = []
   ·rw [if_pos h, if_pos h]; simp
   ·rw [if_neg h, if_neg h]; simp
 | c :: r, cur => by
   show (if c = 10 then cur :: abQn r [] else abQn r (cur ++ [c])).length ≤ r.length + 1 + _
   by_cases h : c = 10
   ·rw [if_pos h]
    have := adQq r []
    rw [if_pos rfl] at this
    simp
    omega
   ·rw [if_neg h]
    have := adQq r (cur ++ [c])
    rw [if_neg (by simp)] at this
    omega
theorem akQ4 (t : Bs) : (aaQm t).length ≤ t.length := by
 have := adQq t []
 rw [if_pos rfl] at this
 exact this
theorem adQp : ∀ (t cur : Bs), ∀ x ∈ abQn t cur, x.length ≤ t.length + cur.length
 | [], cur => fun x hx => by
   have hx : x ∈ (if cur = [] then [] else [cur]) := hx
   split at hx
   ·cases hx
   ·rw [List.mem_singleton.1 hx]; omega
 | c :: r, cur => fun x hx => by
   have hx : x ∈ (if c = 10 then cur :: abQn r [] else abQn r (cur ++ [c])) := hx
   split at hx
   ·rcases List.mem_cons.1 hx with e | hx
    ·rw [e]; omega
    ·have := adQp r [] x hx
     simp at this ⊢
     omega
   ·have := adQp r (cur ++ [c]) x hx
    simp at this ⊢
    omega
theorem akQ3 (t : Bs) : ∀ x ∈ aaQm t, x.length ≤ t.length := fun x hx => by
 have := adQp t [] x hx
 simpa using this
theorem akQq (m : Mg) (l : Bs) : ∀ (vs : List Bs) (S : Sk), putM m (vs ++ [l]) S = (putM m vs S).bind (putM m [l])
 | [], S => rfl
 | v :: r, S => by
   show (match actM m S v with | some S' => putM m (r ++ [l]) S' | none => none) = ((match actM m S v with | some S' => putM m r S' | none => none) : Option Sk).bind _
   cases actM m S v with
   | none => rfl
   | some S' => exact akQq m l r S'
theorem apQj (t : Bs) (vs : List Bs) (l : Bs) (p : List Sk) (S : Sk) : lastT t (vs ++ [l]) (p ++ [S]) = (lastT t vs (p ++ [S])).bind (lastT t [l]) := by
 rw [adQ9, adQ9]
 have e : putT t (vs ++ [l]) S = (putT t vs S).bind (putT t [l]) := akQq _ _ _ _
 rw [e]
 cases putT t vs S with
 | none => rfl
 | some S' =>
   show _ = lastT t [l] (p ++ [S'])
   rw [adQ9]
   rfl
def blkR (t : Bs) : List Bs → List Sk → Option (List Sk × List Bs)
 | [], _ => none
 | l :: r, acc => if endB t l = true then some (acc, r) else if isLay l = true then blkR t r acc else match lastT t [l] acc with
   | some a => blkR t r a
   | none => none
theorem amQ6 (t : Bs) (p : List Sk) (S : Sk) : ∀ ls vs : List Bs, ((abQj t ls vs).bind fun x => (lastT t x.1 (p ++ [S])).map fun a => (a, x.2)) = (lastT t vs (p ++ [S])).bind (blkR t ls)
 | [], vs => by
   show none = _
   cases lastT t vs (p ++ [S]) <;> rfl
 | l :: r, vs => by
   have e1 : abQj t (l :: r) vs = if endB t l = true then some (vs, r) else if isLay l = true then abQj t r vs else abQj t r (vs ++ [l]) := rfl
   rw [e1]
   by_cases h1 : endB t l = true
   ·rw [if_pos h1]
    show (lastT t vs (p ++ [S])).map _ = _
    cases lastT t vs (p ++ [S]) with
    | none => rfl
    | some a => exact (if_pos h1).symm
   ·rw [if_neg h1]
    by_cases h2 : isLay l = true
    ·rw [if_pos h2, amQ6 t p S r vs]
     cases lastT t vs (p ++ [S]) with
     | none => rfl
     | some a => exact ((if_neg h1).trans (if_pos h2)).symm
    ·rw [if_neg h2, amQ6 t p S r (vs ++ [l]), apQj]
     cases lastT t vs (p ++ [S]) with
     | none => rfl
     | some a =>
       have e2 : blkR t (l :: r) a = match lastT t [l] a with
        | some a => blkR t r a
        | none => none := (if_neg h1).trans (if_neg h2)
       show (lastT t [l] a).bind (blkR t r) = blkR t (l :: r) a
       rw [e2]
       cases lastT t [l] a <;> rfl
theorem blk_same (t : Bs) (ls : List Bs) {acc : List Sk} (h : acc ≠ []) : ((abQj t ls []).bind fun x => (lastT t x.1 acc).map fun a => (a, x.2)) = blkR t ls acc := by
 obtain ⟨p, S, rfl⟩ : ∃ p S, acc = p ++ [S] := ⟨_, _, (List.dropLast_concat_getLast h).symm⟩
 rw [amQ6, adQ9]
 rfl
theorem agQp {t : Bs} {vs : List Bs} {acc a : List Sk} (h : lastT t vs acc = some a) (hn : acc ≠ []) : a ≠ [] := by
 have := adQ8 t vs acc a h
 intro e
 rw [e] at this
 exact hn (List.eq_nil_of_length_eq_zero this.symm)
theorem mg_pkg : mgOf pkgN = .none := by
 unfold mgOf
 rw [if_neg (by decide), if_neg (by decide)]
 rfl
theorem aeQ5 (l : Bs) {acc : List Sk} (h : acc ≠ []) : lastT pkgN [l] acc = some acc := aiQk _ _ mg_pkg acc h
theorem apQ6 (b : UInt8) (r : Bs) : (tagX (b :: r)).2.2 = tagOk (Lib.cut r [58]) ∧ (tagOk (Lib.cut r [58]) = true → tagX (b :: r) = ((Lib.cut r [58]).1, (Lib.cut r [58]).2.1, true)) := by
 rw [aiQw]
 constructor
 ·split
  ·rfl
  ·next h =>
   refine Eq.symm ?_
   rw [Bool.eq_false_iff]
   exact fun e => h (.inl e)
 ·intro h
  rw [if_pos (.inl h), h]
def stepR (n : Nat) (l : Bs) (ls : List Bs) (acc : List Sk) : Except Int (List Sk) :=
 if (tagX l).2.2 = false ∨ (l.headD 0 ≠ 61 ∧ l.headD 0 ≠ 43) ∨ (l.headD 0 = 43 ∧ isLay (tagX l).2.1 = false) then .error 130
 else if l.headD 0 = 61 then (match oneSX acc (tagX l).1 (aaQ2 (tagX l).2.1) with
  | .error e => .error e
  | .ok a => readS n ls a)
 else if acc = [] then .error 130
 else match blkR (tagX l).1 ls acc with
  | none => .error 130
  | some x => readS n x.2 x.1
theorem akQp {n : Nat} {l : Bs} {ls : List Bs} {acc : List Sk} (h : isLay l = true ∨ l.headD 0 = 35) : readS (n + 1) (l :: ls) acc = readS n ls acc := by
 rw [adQe]
 have e : lineS l acc.isEmpty = .skip := if_pos h
 rw [e]
theorem aqQi {n : Nat} {l : Bs} {ls : List Bs} {acc : List Sk} (h : ¬ (isLay l = true ∨ l.headD 0 = 35)) : readS (n + 1) (l :: ls) acc = stepR n l ls acc := by
 rw [adQe]
 have e : lineS l acc.isEmpty = lineP (acQl l) acc.isEmpty := if_neg h
 rw [e]
 cases l with
 | nil => exact absurd (.inl rfl) h
 | cons b r =>
   have hd : (b :: r).headD 0 = b := rfl
   have hdr : (b :: r).drop 1 = r := rfl
   obtain ⟨k1, k2⟩ := apQ6 b r
   unfold stepR
   rw [hd]
   have hemp : acc.isEmpty = true ↔ acc = [] := by cases acc <;> simp
   by_cases h61 : b = 61
   ·have hp : acQl (b :: r) = (61, (Lib.cut r [58]).1, aaQ2 (Lib.cut r [58]).2.1, tagOk (Lib.cut r [58])) := by
     unfold acQl
     rw [hd, hdr, if_pos h61]
    rw [hp]
    cases hok : tagOk (Lib.cut r [58]) with
    | false =>
      rw [if_pos (.inl (k1.trans hok))]
      have : lineP (61, (Lib.cut r [58]).1, aaQ2 (Lib.cut r [58]).2.1, false) acc.isEmpty = .bad := if_pos rfl
      rw [this]
    | true =>
      have k3 := k2 hok
      rw [if_neg (by
       rw [k3]
       rintro (e | ⟨e, _⟩ | ⟨e, _⟩)
       ·cases e
       ·exact e h61
       ·rw [h61] at e; exact absurd e (by decide)), if_pos h61, k3]
      generalize (Lib.cut r [58]).1 = t
      generalize aaQ2 (Lib.cut r [58]).2.1 = v
      unfold lineP oneSX
      dsimp only
      rw [if_neg (by decide)]
      by_cases hpk : t = pkgN
      ·rw [if_pos ⟨rfl, hpk⟩, if_pos hpk]
       dsimp only
       cases abQk acc v <;> rfl
      ·rw [if_neg (fun e => hpk e.2), if_neg hpk]
       by_cases ha : acc = []
       ·rw [if_pos ha]
        by_cases hv : t = verN_
        ·rw [if_pos ⟨⟨rfl, hv⟩, hemp.2 ha⟩, if_pos hv]
        ·rw [if_neg (fun e => hv e.1.2), if_pos (hemp.2 ha), if_neg hv]
       ·have hne : ¬ acc.isEmpty = true := fun e => ha (hemp.1 e)
        rw [if_neg ha, if_neg (fun e => hne e.2), if_neg hne, if_neg (by decide)]
        dsimp only
        cases lastT t [v] acc <;> rfl
   ·by_cases h43 : b = 43
    ·have hp : acQl (b :: r) = (43, (Lib.cut r [58]).1, (Lib.cut r [58]).2.1, tagOk (Lib.cut r [58]) && isLay (Lib.cut r [58]).2.1) := by
      unfold acQl
      rw [hd, hdr, if_neg h61, if_pos h43]
     rw [hp]
     cases hok : tagOk (Lib.cut r [58]) with
     | false =>
       rw [if_pos (.inl (k1.trans hok))]
       rfl
     | true =>
       have k3 := k2 hok
       rw [k3, Bool.true_and]
       cases hlay : isLay (Lib.cut r [58]).2.1 with
       | false =>
         rw [if_pos (.inr (.inr ⟨h43, rfl⟩))]
         rfl
       | true =>
         rw [if_neg (by
          rintro (e | ⟨_, e⟩ | ⟨_, e⟩)
          ·cases e
          ·exact e h43
          ·cases e), if_neg h61]
         generalize (Lib.cut r [58]).1 = t
         unfold lineP
         dsimp only
         rw [if_neg (by decide), if_neg (fun e => absurd e.1 (by decide)), if_neg (fun e => absurd e.1.1 (by decide))]
         by_cases ha : acc = []
         ·rw [if_pos ha, if_pos (hemp.2 ha)]
         ·have hne : ¬ acc.isEmpty = true := fun e => ha (hemp.1 e)
          rw [if_neg ha, if_neg hne, if_pos rfl, ← blk_same t ls ha]
          dsimp only
          cases abQj t ls [] with
          | none => rfl
          | some x =>
            obtain ⟨vs, ls'⟩ := x
            show thenS (lastT t vs acc) (readS n ls') = _
            simp only [Option.bind]
            cases lastT t vs acc <;> rfl
    ·rw [if_pos (.inr (.inl ⟨h61, h43⟩))]
     have hp : acQl (b :: r) = (b, (Lib.cut r [58]).1, (Lib.cut r [58]).2.1, false) := by
      unfold acQl
      rw [hd, hdr, if_neg h61, if_neg h43]
     rw [hp]
     rfl
end Go.Proofs.YtdhgiammfpjniaaGreatDoor
