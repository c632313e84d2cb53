/- Parts of the proof. -/
import Derived.Test.YtdhgiammfpjniaaGreatDoorZrbj
import Derived.Test.YtdhgiammfpjniaaGreatDoorZrav
import Derived.Test.YtdhgiammfpjniaaGreatDoorZrbe
import Derived.Deep.Grids
import Derived.Test.YtdhgiammfpjniaaGreatDoorZraw
import Derived.Test.YtdhgiammfpjniaaGreatDoorZrba
namespace Go.Proofs.YtdhgiammfpjniaaGreatDoor.Ev
set_option linter.unusedSimpArgs false
set_option linter.unusedVariables false
open Go.RowKit
section
variable {l : List Wd} {B : Nat}
def Fits (B : Nat) (rd : Nat → Option (Dep × Nat)) : Prop := ∀ n d n', rd n = some (d, n') → nodes d + n ≤ n' ∧ small d
theorem agQ2 {xs : List Dep} {x : Dep} (h : aeQz xs) (hx : small x) : aeQz (xs ++ [x]) := by
 induction xs with
 | nil => exact ⟨hx, trivial⟩
 | cons a r ih => exact ⟨h.1, ih h.2⟩
theorem aiQj (hW : ∀ n, (atW l n).length ≤ 2147483648) : Fits B (leafR l) := by
 intro n d n' h
 unfold leafR at h
 split at h
 ·split at h
  ·injection h with h; injection h with h1 h2; subst h1; subst h2
   exact ⟨by simp [leaf, nodes, aaQk] <;> omega, by show _ ∧ _ ∧ _; exact ⟨by have := hW n; rw [← aaQd]; exact this, by show 0 ≤ _; omega, trivial⟩⟩
  ·injection h with h; injection h with h1 h2; subst h1; subst h2
   exact ⟨by simp [leaf, nodes, aaQk] <;> omega, by show _ ∧ _ ∧ _; exact ⟨by have := hW n; rw [← aaQd]; exact this, by have := hW (n + 2); rw [← aaQd]; exact this, trivial⟩⟩
 ·cases h
theorem aiQg {rd : Nat → Option (Dep × Nat)} {k : Wd} (hrd : Fits B rd) : ∀ (f : Nat) (xs : List Dep) (n : Nat) (ys : List Dep) (n2 : Nat), loopR rd l k f xs n = some (ys, n2) → aeQz xs → aaQk ys + n ≤ aaQk xs + n2 ∧ aeQz ys
 | 0, xs, n, ys, n2, h, hs => by
   injection h with h; injection h with h1 h2; subst h1; subst h2
   exact ⟨Nat.le_refl _, hs⟩
 | f + 1, xs, n, ys, n2, h, hs => by
   by_cases hat : atW l n = k
   ·by_cases hm : (k = wIf ∨ k = aaQ1) ∧ 1 < xs.length
    ·rw [afQy hat hm] at h; cases h
    ·cases hr : rd (n + 1) with
     | none => rw [acQs hat hm hr] at h; cases h
     | some q =>
       obtain ⟨x, n1⟩ := q
       rw [acQt hat hm hr] at h
       obtain ⟨h1, h2⟩ := hrd _ _ _ hr
       obtain ⟨h3, h4⟩ := aiQg hrd f _ _ _ _ h (agQ2 hs h2)
       rw [abQm] at h3
       simp only [aaQk] at h3
       exact ⟨by omega, h4⟩
   ·rw [adQf hat] at h
    injection h with h; injection h with h1 h2; subst h1; subst h2
    exact ⟨Nat.le_refl _, hs⟩
theorem ahQs {k : Wd} {xs : List Dep} {n n' : Nat} {d : Dep} (h : abQo l k xs n = some (d, n')) (hs : aeQz xs) : nodes d + n ≤ aaQk xs + n' ∧ small d := by
 unfold abQo at h
 split at h
 ·injection h with h; injection h with h1 h2; subst h1; subst h2
  exact ⟨by simp only [node, nodes]; omega, by show 0 ≤ 2147483648 ∧ 0 ≤ 2147483648 ∧ _; exact ⟨by omega, by omega, hs⟩⟩
 ·cases h
theorem apQc {rd : Nat → Option (Dep × Nat)} (hrd : Fits B rd) : Fits B (nodeR rd l) := by
 intro n d n' h
 cases hr : rd (n + 1) with
 | none => rw [afQx hr] at h; cases h
 | some q =>
   obtain ⟨first, n1⟩ := q
   obtain ⟨f1, f2⟩ := hrd _ _ _ hr
   by_cases hk : numW (atW l n1) = 0
   ·rw [ahQe hr hk] at h; cases h
   ·rw [acQg hr hk] at h
    cases hl : loopR rd l (atW l n1) (l.length + 1) [first] n1 with
    | none => rw [hl] at h; cases h
    | some q2 =>
      obtain ⟨xs, n2⟩ := q2
      rw [hl] at h
      obtain ⟨g1, g2⟩ := aiQg hrd _ _ _ _ _ hl ⟨f2, trivial⟩
      simp only [aaQk] at g1
      by_cases he : atW l n1 = wIf ∧ atW l n2 = wElse
      ·cases hr2 : rd (n2 + 1) with
       | none => rw [ahQv he.1 he.2 hr2] at h; cases h
       | some q3 =>
         obtain ⟨x, n3⟩ := q3
         rw [ahQu he.1 he.2 hr2] at h
         obtain ⟨e1, e2⟩ := hrd _ _ _ hr2
         obtain ⟨c1, c2⟩ := ahQs h (agQ2 g2 e2)
         rw [abQm] at c1
         simp only [aaQk] at c1
         exact ⟨by omega, c2⟩
      ·rw [abQ5 he] at h
       obtain ⟨c1, c2⟩ := ahQs h g2
       exact ⟨by omega, c2⟩
theorem readR_fits (hW : ∀ n, (atW l n).length ≤ 2147483648) : ∀ deep, Fits B (readR l deep)
 | 0 => by
   intro n d n' h
   unfold readR at h
   split at h
   ·cases h
   ·exact aiQj (B := B) hW n d n' h
 | deep + 1 => by
   intro n d n' h
   unfold readR at h
   split at h
   ·exact apQc (readR_fits hW deep) n d n' h
   ·exact aiQj (B := B) hW n d n' h
end
theorem words_le : ∀ (m : Nat) (l : Wd), l.length ≤ m → ∀ x ∈ words l, x.length ≤ l.length := by
 intro m
 induction m with
 | zero =>
   intro l h x hx
   have : l = [] := List.eq_nil_of_length_eq_zero (by omega)
   subst this
   rw [agQs] at hx
   cases hx
 | succ m ih =>
   intro l h x hx
   rw [← abQq] at hx
   by_cases hc : (cutW l).1 = []
   ·rw [hc, adQb] at hx; cases hx
   ·rw [abQc _ hc] at hx
    have hlt := arQp hc
    rcases List.mem_cons.1 hx with rfl | hx
    ·unfold cutW
     simp only [List.length_take]
     have := agQj l
     omega
    ·have := ih _ (by omega) x hx
     omega
def outD (m : Nat) : Option (Dep × Nat) → Option Dep × Int
 | none => (none, 50)
 | some (d, n) => if n ≠ m then (none, 50) else if checkN d = 0 then (some d, 0) else (none, checkN d)
theorem refParseD_out (l : Wd) : aeQ0 l = outD (words l).length (readR (words l) (words l).length 0) := by
 unfold aeQ0 outD
 cases readR (words l) (words l).length 0 with
 | none => rfl
 | some q => rfl
def GotP (text : ByteArray) (w0 : World) (e : Ending) (w' : World) : Prop :=
 Below w0.heap.size w0 w' ∧ ((∃ d A c S, parseD text.data.toList = (some d, 0) ∧ e = .returned (.tuple #[.agg (rowD d (.slice A d.args.length c)), .int .i64 0]) ∧ Lay w' S d (.slice A d.args.length c) ∧ CleanS w' S ∧ ∀ b, S b → w0.heap.size ≤ b) ∨ (∃ n, parseD text.data.toList = (none, n) ∧ e = .returned (.tuple #[.agg #[.int .i64 0, .string ⟨#[]⟩, .int .i64 0, .string ⟨#[]⟩, .slice none 0 0], .int .i64 n])))
theorem GotP.bad {text : ByteArray} {w0 w' : World} {n : Int} (hb : Below w0.heap.size w0 w') (h : parseD text.data.toList = (none, n)) : GotP text w0 (.returned (.tuple #[.agg #[.int .i64 0, .string ⟨#[]⟩, .int .i64 0, .string ⟨#[]⟩, .slice none 0 0], .int .i64 n])) w' := ⟨hb, .inr ⟨n, h, rfl⟩⟩
set_option maxHeartbeats 4000000 in
set_option maxRecDepth 100000 in
theorem refParseD_any (text : ByteArray) (hs : text.size ≤ 4194304) (w0 : World) : Calls Tryz.prog 143 #[.string text] w0 (GotP text w0) := by
 have hb1 : Below w0.heap.size w0 (w0.alloc (.cells #[.int .i64 0, .string ⟨#[]⟩, .int .i64 0, .string ⟨#[]⟩, .slice none 0 0] 39)) := (Below.refl _ _).alloc (Nat.le_refl _) _
 have K1 : Blk (w0.alloc (.cells #[.int .i64 0, .string ⟨#[]⟩, .int .i64 0, .string ⟨#[]⟩, .slice none 0 0] 39)) w0.heap.size 39 #[.int .i64 0, .string ⟨#[]⟩, .int .i64 0, .string ⟨#[]⟩, .slice none 0 0] := Blk.new _ _ _
 have CW := hQQ (adQ1 text hs (w0.alloc (.cells #[.int .i64 0, .string ⟨#[]⟩, .int .i64 0, .string ⟨#[]⟩, .slice none 0 0] 39)))
 have HREF := hQQ (ref_parse text.data.toList)
 have HB1 := hQQ hb1
 have HK1 := hQQ K1
 clear hb1 K1
 go_enter Tryz.func143, Tryz.ntmps143
 go_wp2_with fail
 refine CW.out.mono ?_
 rintro e w2 ⟨v, ys, rfl, hW⟩
 obtain ⟨Av, cv, rfl, hcv, hcm⟩ := aaQc hW.own
 have hws : wl ys = words text.data.toList := by
  have := hW.all
  rw [List.drop_eq_nil_of_le (by rw [aaQd]; omega), agQs, List.append_nil] at this
  exact this.symm
 have hyl : ys.length ≤ 4194304 := by have := hW.few; omega
 have hysz : ∀ y ∈ ys, y.size ≤ 4194304 := fun y hy => by
  have h1 : y.data.toList ∈ words text.data.toList := by rw [← hws]; exact List.mem_map_of_mem hy
  have h2 := words_le _ _ (Nat.le_refl _) _ h1
  rw [aaQd, aaQd] at h2
  omega
 have hrow : RowW w2 Av ys := fun k y hk => by
  have h1 : (ys.map Value.string)[k]? = some (.string y) := by rw [List.getElem?_map, hk]; rfl
  obtain ⟨b, rfl, hc⟩ := acQ7 hW.own h1
  exact ⟨b, rfl, aeQu hc, hc⟩
 have C2 := hQQ (agQ6 ys hyl hysz ys.length hyl 0 Av cv w2 (Nat.zero_le _) hrow)
 have HB2 : Hid (Below w0.heap.size w0 w2) := HB1.out.trans (hW.below.mono (by simp))
 have HK2 : Hid (Blk w2 w0.heap.size 39 #[.int .i64 0, .string ⟨#[]⟩, .int .i64 0, .string ⟨#[]⟩, .slice none 0 0]) := HK1.out.below hW.below (by simp)
 have HLn : Hid ((words text.data.toList).length = ys.length) := by show _ = _; rw [← hws, afQ3]
 have hfit := readR_fits (l := wl ys) (B := 0) (fun n => by
  rw [← atS_w, aaQd]
  unfold atS
  cases hh : ys[n]? with
  | none => exact Nat.zero_le _
  | some y => have := hysz y (List.mem_of_getElem? hh); simp; omega) ys.length 0
 have HFit := hQQ hfit
 rw [show (((0 : Nat) : Int)) = 0 from rfl] at C2
 obtain ⟨rs, hrs⟩ : ∃ rs, Hid (rs = readR (wl ys) ys.length 0) := ⟨_, rfl⟩
 rw [← hrs.out] at C2
 have HPD : Hid (parseD text.data.toList = outD ys.length rs) := by
  show _ = _
  rw [← HREF.out, refParseD_out, HLn.out, ← hws, ← hrs.out]
 clear hW hws hysz hrow hfit CW HB1 HK1 HREF HLn hcv hcm
 go_wp2_with fail
 refine C2.out.mono ?_
 rintro e w3 hG
 cases rs with
 | none =>
   obtain ⟨hb3, rfl⟩ := hG.no
   have HV : Hid (parseD text.data.toList = (none, 50)) := HPD.out
   have hb03 : Below w0.heap.size w0 w3 := HB2.out.trans (hb3.mono HB2.out.size)
   have hk3 := HK2.out.below hb3 HK2.out.lt
   have hlt := hk3.lt
   have tn : ((-1 : Int) != (ys.length : Int)) = true := bne_iff_ne.2 (by omega)
   have tn' : ((-1 : Int) == (ys.length : Int)) = false := beq_eq_false_iff_ne.2 (by omega)
   have tn2 : ¬ (-1 : Int) = (ys.length : Int) := by omega
   have hz0 := aaQz (hb03)
   have hz1 := hz0.alloc (o := .cells #[.int .i64 0, .string ⟨#[]⟩, .int .i64 0, .string ⟨#[]⟩, .slice none 0 0] 39) hz0.size
   have HP : Hid (GotP text w0 (.returned (.tuple #[.agg #[.int .i64 0, .string ⟨#[]⟩, .int .i64 0, .string ⟨#[]⟩, .slice none 0 0], .int .i64 50])) ((five w3 w0.heap.size zeroD (.slice none 0 0)).alloc (.cells #[.int .i64 0, .string ⟨#[]⟩, .int .i64 0, .string ⟨#[]⟩, .slice none 0 0] 39))) := GotP.bad hz1 (HV.out)
   have HBk : Hid (Blk w3 w0.heap.size 39 #[.int .i64 0, .string ⟨#[]⟩, .int .i64 0, .string ⟨#[]⟩, .slice none 0 0]) := hk3
   have zc0 := HBk.out.cell 0
   have zc1 := HBk.out.cell 1
   have zc2 := HBk.out.cell 2
   have zc3 := HBk.out.cell 3
   have zc4 := HBk.out.cell 4
   have fzc0 := HBk.out.free 0
   have fzc1 := HBk.out.free 1
   have fzc2 := HBk.out.free 2
   have fzc3 := HBk.out.free 3
   have fzc4 := HBk.out.free 4
   simp at zc0 zc1 zc2 zc3 zc4
   have HL : Hid _ := load5 ((aaQt HBk.out zeroD (.slice none 0 0)).alloc (.cells #[.int .i64 0, .string ⟨#[]⟩, .int .i64 0, .string ⟨#[]⟩, .slice none 0 0] 39))
   clear HBk hz0 hz1
   unfold five zeroD at HP HL
   dsimp only [Dep.kind, Dep.name, Dep.op, Dep.evr] at HP HL
   clear hG hb3 hb03 hk3 HV HPD C2 HB2 HK2
   go_wp2_with fail
   refine bodyPost_ret (v := .tuple #[.agg #[.int .i64 0, .string ⟨#[]⟩, .int .i64 0, .string ⟨#[]⟩, .slice none 0 0], .int .i64 50]) ?_ rfl HP.out
   exact aaQe rfl _ rfl rfl HL.out
 | some q =>
   obtain ⟨d, n⟩ := q
   obtain ⟨hb3, Ad, cd, Sd, rfl, hL3, hC3, hS3⟩ := hG.yes
   have hb03 : Below w0.heap.size w0 w3 := HB2.out.trans (hb3.mono HB2.out.size)
   have hk3 := HK2.out.below hb3 HK2.out.lt
   have hlt := hk3.lt
   obtain ⟨hfn, hfs⟩ := HFit.out d n hrs.out.symm
   by_cases hn : n = ys.length
   ·have tn : ((n : Int) != (ys.length : Int)) = false := by rw [hn]; simp
    have tn' : ((n : Int) == (ys.length : Int)) = true := by rw [hn]; simp
    have tn2 : (n : Int) = (ys.length : Int) := by omega
    have HPD2 : Hid (parseD text.data.toList = if checkN d = 0 then (some d, 0) else (none, checkN d)) := by
     have := HPD.out
     unfold outD at this
     simp only at this
     rwa [if_neg (fun h => h hn)] at this
    have hbv : Below w3.heap.size w3 (w3.alloc (.cells (rowD d (.slice Ad d.args.length cd)) 39)) := (Below.refl _ _).alloc (Nat.le_refl _) _
    have hLv := hL3.stay (fun _ h => h) (StayS.below' hbv)
    have CC := hQQ (aeQ1 d _ Sd _ hLv hfs (by omega))
    have HKv : Hid (∀ w4, Below (w3.alloc (.cells (rowD d (.slice Ad d.args.length cd)) 39)).heap.size (w3.alloc (.cells (rowD d (.slice Ad d.args.length cd)) 39)) w4 → Blk w4 w3.heap.size 39 (rowD d (.slice Ad d.args.length cd)) ∧ Blk w4 w0.heap.size 39 #[.int .i64 0, .string ⟨#[]⟩, .int .i64 0, .string ⟨#[]⟩, .slice none 0 0] ∧ Below w0.heap.size w0 w4 ∧ Lay w4 Sd d (.slice Ad d.args.length cd) ∧ CleanS w4 Sd) := fun w4 hb => ⟨(Blk.new w3 _ _).below hb (by simp), (hk3.alloc _).below hb (by simp; omega), (hb03.trans (hbv.mono hb03.size)).trans (hb.mono (by have := hb03.size; simp; omega)), hLv.stay (fun _ h => h) (StayS.below' hb), (hC3.stay (StayS.below' hbv)).stay (StayS.below' hb)⟩
    have HS3 : Hid (∀ b, Sd b → w0.heap.size < b) := fun b hb => by have h1 := hS3 b hb; have h2 := HK2.out.lt; omega
    clear hG hb3 hb03 hk3 hL3 hC3 hS3 hbv hLv HPD C2 HB2 HK2 hfs hfn hn
    unfold rowD at CC HKv ⊢
    go_wp2_with fail
    refine CC.out.mono ?_
    rintro e w4 ⟨rfl, hb4⟩
    obtain ⟨k4, z4, b4, l4, c4⟩ := HKv.out w4 hb4
    clear hb4 CC HKv
    by_cases hc : checkN d = 0
    ·have HV : Hid (parseD text.data.toList = (some d, 0)) := HPD2.out.trans (if_pos hc)
     have tc : (checkN d != 0) = false := by rw [hc]; rfl
     have HP : Hid (GotP text w0 (.returned (.tuple #[.agg #[.int .i64 d.kind, .string d.name, .int .i64 d.op, .string d.evr, .slice Ad d.args.length cd], .int .i64 0])) (five w4 w0.heap.size d (.slice Ad d.args.length cd))) := by
      have ht := abQ3 w4 w0.heap.size d (.slice Ad d.args.length cd)
      exact ⟨b4.trans (ht.below (fun k hk => by simp at hk; omega) b4.size), .inl ⟨d, Ad, cd, Sd, HV.out, rfl, l4.stay (fun _ h => h) (StayS.turned ht fun b hb hm => by have := HS3.out b hb; simp at hm; omega), c4.stay (StayS.turned ht fun b hb hm => by have := HS3.out b hb; simp at hm; omega), fun b hb => by have := HS3.out b hb; omega⟩⟩
     have HL : Hid _ := load5 (aaQt z4 d (.slice Ad d.args.length cd))
     have kc0 := k4.cell 0
     have kc1 := k4.cell 1
     have kc2 := k4.cell 2
     have kc3 := k4.cell 3
     have kc4 := k4.cell 4
     simp at kc0 kc1 kc2 kc3 kc4
     have zc0 := z4.cell 0
     have zc1 := z4.cell 1
     have zc2 := z4.cell 2
     have zc3 := z4.cell 3
     have zc4 := z4.cell 4
     have fzc0 := z4.free 0
     have fzc1 := z4.free 1
     have fzc2 := z4.free 2
     have fzc3 := z4.free 3
     have fzc4 := z4.free 4
     simp at zc0 zc1 zc2 zc3 zc4
     clear k4 z4 b4 l4 c4 HV HPD2 HS3 hc
     unfold five at HP HL
     go_wp2_with fail
     refine bodyPost_ret (v := .tuple #[.agg #[.int .i64 d.kind, .string d.name, .int .i64 d.op, .string d.evr, .slice Ad d.args.length cd], .int .i64 0]) ?_ rfl HP.out
     exact aaQe rfl _ rfl rfl HL.out
    ·have HV : Hid (parseD text.data.toList = (none, checkN d)) := HPD2.out.trans (if_neg hc)
     have tc : (checkN d != 0) = true := bne_iff_ne.2 hc
     have tc' : (checkN d == 0) = false := beq_eq_false_iff_ne.2 hc
     have hz0 := aaQz (b4)
     have HP : Hid (GotP text w0 (.returned (.tuple #[.agg #[.int .i64 0, .string ⟨#[]⟩, .int .i64 0, .string ⟨#[]⟩, .slice none 0 0], .int .i64 (checkN d)])) (five w4 w0.heap.size zeroD (.slice none 0 0))) := GotP.bad hz0 (HV.out)
     have HBk : Hid (Blk w4 w0.heap.size 39 #[.int .i64 0, .string ⟨#[]⟩, .int .i64 0, .string ⟨#[]⟩, .slice none 0 0]) := z4
     have zc0 := HBk.out.cell 0
     have zc1 := HBk.out.cell 1
     have zc2 := HBk.out.cell 2
     have zc3 := HBk.out.cell 3
     have zc4 := HBk.out.cell 4
     have fzc0 := HBk.out.free 0
     have fzc1 := HBk.out.free 1
     have fzc2 := HBk.out.free 2
     have fzc3 := HBk.out.free 3
     have fzc4 := HBk.out.free 4
     simp at zc0 zc1 zc2 zc3 zc4
     have HL : Hid _ := load5 (aaQt HBk.out zeroD (.slice none 0 0))
     clear HBk hz0
     unfold five zeroD at HP HL
     dsimp only [Dep.kind, Dep.name, Dep.op, Dep.evr] at HP HL
     clear k4 z4 b4 l4 c4 HV HPD2 HS3 hc
     go_wp2_with fail
     refine bodyPost_ret (v := .tuple #[.agg #[.int .i64 0, .string ⟨#[]⟩, .int .i64 0, .string ⟨#[]⟩, .slice none 0 0], .int .i64 (checkN d)]) ?_ rfl HP.out
     exact aaQe rfl _ rfl rfl HL.out
   ·have HV : Hid (parseD text.data.toList = (none, 50)) := by
     have := HPD.out
     unfold outD at this
     simp only at this
     rwa [if_pos hn] at this
    have tn : ((n : Int) != (ys.length : Int)) = true := bne_iff_ne.2 (by omega)
    have tn' : ((n : Int) == (ys.length : Int)) = false := beq_eq_false_iff_ne.2 (by omega)
    have tn2 : ¬ (n : Int) = (ys.length : Int) := by omega
    have hz0 := aaQz (hb03)
    have hz1 := hz0.alloc (o := .cells #[.int .i64 d.kind, .string d.name, .int .i64 d.op, .string d.evr, .slice Ad d.args.length cd] 39) hz0.size
    have HP : Hid (GotP text w0 (.returned (.tuple #[.agg #[.int .i64 0, .string ⟨#[]⟩, .int .i64 0, .string ⟨#[]⟩, .slice none 0 0], .int .i64 50])) ((five w3 w0.heap.size zeroD (.slice none 0 0)).alloc (.cells #[.int .i64 d.kind, .string d.name, .int .i64 d.op, .string d.evr, .slice Ad d.args.length cd] 39))) := GotP.bad hz1 (HV.out)
    have HBk : Hid (Blk w3 w0.heap.size 39 #[.int .i64 0, .string ⟨#[]⟩, .int .i64 0, .string ⟨#[]⟩, .slice none 0 0]) := hk3
    have zc0 := HBk.out.cell 0
    have zc1 := HBk.out.cell 1
    have zc2 := HBk.out.cell 2
    have zc3 := HBk.out.cell 3
    have zc4 := HBk.out.cell 4
    have fzc0 := HBk.out.free 0
    have fzc1 := HBk.out.free 1
    have fzc2 := HBk.out.free 2
    have fzc3 := HBk.out.free 3
    have fzc4 := HBk.out.free 4
    simp at zc0 zc1 zc2 zc3 zc4
    have HL : Hid _ := load5 ((aaQt HBk.out zeroD (.slice none 0 0)).alloc (.cells #[.int .i64 d.kind, .string d.name, .int .i64 d.op, .string d.evr, .slice Ad d.args.length cd] 39))
    clear HBk hz0 hz1
    unfold five zeroD at HP HL
    dsimp only [Dep.kind, Dep.name, Dep.op, Dep.evr] at HP HL
    clear hG hb3 hb03 hk3 hL3 hC3 hS3 HV HPD C2 HB2 HK2 hfs hfn hn
    unfold rowD
    go_wp2_with fail
    refine bodyPost_ret (v := .tuple #[.agg #[.int .i64 0, .string ⟨#[]⟩, .int .i64 0, .string ⟨#[]⟩, .slice none 0 0], .int .i64 50]) ?_ rfl HP.out
    exact aaQe rfl _ rfl rfl HL.out
end Go.Proofs.YtdhgiammfpjniaaGreatDoor.Ev

namespace Go.Proofs.YtdhgiammfpjniaaGreatDoor
set_option linter.unusedSimpArgs false
set_option linter.unusedVariables false
open Go.RowKit Go.MapKept
theorem amQs {l : Bs} (hl : l.length ≤ 4194304) {d : Ev.Dep} (h : (Ev.parseD l).1 = some d) : Ev.small d := by
 rw [← Ev.ref_parse, Ev.refParseD_out] at h
 cases hr : Ev.readR (Ev.words l) (Ev.words l).length 0 with
 | none => rw [hr] at h; cases h
 | some q =>
   obtain ⟨d', n⟩ := q
   rw [hr] at h
   have hs := (Ev.readR_fits (l := Ev.words l) (B := 0) (fun n => by
    unfold Ev.atW
    cases hh : (Ev.words l)[n]? with
    | none => simp
    | some y => have := Ev.words_le _ _ (Nat.le_refl _) y (List.mem_of_getElem? hh); simp; omega) _ 0 d' n hr).2
   unfold Ev.outD at h
   simp only at h
   split at h
   ·cases h
   ·split at h
    ·injection h with h; rw [← h]; exact hs
    ·cases h
structure GoodR (S : Sk) : Prop where
 txt : ∀ i, i < 4 → (S.T i).length ≤ 100000
 fil : ∀ p ∈ S.fl, p.length ≤ 100000
 nod : GoodK S
 sml : ∀ i, i < 7 → ∀ d ∈ S.D i, Ev.small d
theorem arQe {m : Mg} {S S' : Sk} {v : Bs} (hS : GoodR S) (hv : v.length ≤ 40000) (h : actM m S v = some S') : GoodR S' := by
 refine ⟨?_, ?_, anQ1 hS.nod h, ?_⟩
 ·cases m with
  | none => injection h with h; rw [← h]; exact hS.txt
  | vnd =>
    injection h with h; rw [← h]
    intro i hi
    show (updF S.T 3 v i).length ≤ _
    by_cases e : i = 3
    ·subst e; rw [aaQ3]; omega
    ·rw [aaQp _ _ e]; exact hS.txt i hi
  | fls => injection h with h; rw [← h]; exact hS.txt
  | dep i =>
    have h : (match (Ev.parseD v).1 with | some d => some (⟨S.T, updF S.D i (S.D i ++ [d]), S.fl⟩ : Sk) | none => none) = some S' := h
    split at h
    ·injection h with h; rw [← h]; exact hS.txt
    ·cases h
 ·cases m with
  | none => injection h with h; rw [← h]; exact hS.fil
  | vnd => injection h with h; rw [← h]; exact hS.fil
  | fls =>
    injection h with h; rw [← h]
    intro p hp
    rcases List.mem_append.1 hp with hp | hp
    ·exact hS.fil p hp
    ·rw [List.mem_singleton.1 hp]
     have := alQj v
     omega
  | dep i =>
    have h : (match (Ev.parseD v).1 with | some d => some (⟨S.T, updF S.D i (S.D i ++ [d]), S.fl⟩ : Sk) | none => none) = some S' := h
    split at h
    ·injection h with h; rw [← h]; exact hS.fil
    ·cases h
 ·cases m with
  | none => injection h with h; rw [← h]; exact hS.sml
  | vnd => injection h with h; rw [← h]; exact hS.sml
  | fls => injection h with h; rw [← h]; exact hS.sml
  | dep i =>
    have h : (match (Ev.parseD v).1 with | some d => some (⟨S.T, updF S.D i (S.D i ++ [d]), S.fl⟩ : Sk) | none => none) = some S' := h
    cases hp : (Ev.parseD v).1 with
    | none => rw [hp] at h; cases h
    | some d =>
      rw [hp] at h
      injection h with h
      rw [← h]
      intro j hj a ha
      have ha : a ∈ updF S.D i (S.D i ++ [d]) j := ha
      by_cases e : j = i
      ·subst e
       rw [aaQ3] at ha
       rcases List.mem_append.1 ha with ha | ha
       ·exact hS.sml j hj a ha
       ·rw [List.mem_singleton.1 ha]
        exact amQs (by omega) hp
      ·rw [aaQp _ _ e] at ha
       exact hS.sml j hj a ha
theorem GoodR.small {S : Sk} (h : GoodR S) : Ev.RefSmall (pkgS S) :=
 ⟨by show (mkS (S.T 0)).size ≤ _; rw [aaQg]; have := h.txt 0 (by omega); unfold maxLen; omega, by show (mkS (S.T 1)).size ≤ _; rw [aaQg]; have := h.txt 1 (by omega); unfold maxLen; omega, by show (mkS (S.T 2)).size ≤ _; rw [aaQg]; have := h.txt 2 (by omega); unfold maxLen; omega, by show (mkS (S.T 3)).size ≤ _; rw [aaQg]; have := h.txt 3 (by omega); unfold maxLen; omega, fun s hs => by
  obtain ⟨p, hp, rfl⟩ := List.mem_map.1 hs
  rw [aaQg]
  have := h.fil p hp
  unfold maxLen
  omega, fun i hi d hd => by
  have e : (pkgS S).ls i = S.D i := if_pos hi
  rw [e] at hd
  have := h.nod i hi d hd
  exact ⟨h.sml i hi d hd, by omega⟩⟩
theorem OldM.refCheck {w : World} {b1 : Nat} {x : Sk5} (h : OldM w b1 x) (hn : GoodR x.S) :
 Calls Tryz.prog 53 #[.agg (x.row).toArray] w fun e w' => e = .returned (.int .i64 (chkS x.S)) ∧ Below w.heap.size w w' := by
 refine (Ev.refCheckP_any (pkgS x.S) x.ss x.fs (DbB w) (StB w) w h.pkg hn.small).mono ?_
 rintro e w2 ⟨rfl, hb2⟩
 refine ⟨?_, hb2⟩
 unfold chkS
 rw [← Ev.chk_same]
def rdC (v : Value) (x : Sk5) (has : Bool) : Array Value := #[v, .string (mkS (x.S.T 0)), .string (mkS (x.S.T 1)), .string (mkS (x.S.T 2)), .string (mkS (x.S.T 3)), x.ss 0, x.ss 1, x.ss 2, x.ss 3, x.ss 4, x.ss 5, x.ss 6, x.fs, .bool has]
structure RfM (w0 w : World) (B g b1 : Nat) (v : Value) (ys : List Sk5) (x : Sk5) (has : Bool) : Prop where
 rd : Blk w g 71 (rdC v x has)
 row : w.ownsRow B 37 12 v ys.length (rowsK ys)
 old : ∀ y ∈ ys, OldM w b1 y
 last : LaM w b1 x
 le : B = w0.heap.size ∧ B ≤ b1 ∧ b1 ≤ w.heap.size
 bel : Turned [g] w0 w
structure RfA (w0 w : World) (B g : Nat) (v : Value) (xs : List Sk5) (x : Sk5) (has : Bool) : Prop where
 rd : Blk w g 71 (rdC v x has)
 row : w.ownsRow B 37 12 v xs.length (rowsK xs)
 old : ∀ y ∈ xs, OldM w w.heap.size y
 le : B = w0.heap.size ∧ B ≤ w.heap.size
 bel : Turned [g] w0 w
section
variable {w0 w w' : World} {B g b1 : Nat} {v : Value} {ys : List Sk5} {x : Sk5} {has : Bool}
theorem RfM.below (h : RfM w0 w B g b1 v ys x has) (hb : Below w.heap.size w w') : RfM w0 w' B g b1 v ys x has :=
 ⟨Blk.mono h.rd hb, aaQf h.row (Turned.of_below hb []) (fun k hk hm => by cases hm), fun y hy => (h.old y hy).below hb, h.last.below hb, ⟨h.le.1, h.le.2.1, Nat.le_trans h.le.2.2 hb.size⟩, h.bel.trans (Turned.of_below hb [g]) (Fresh.refl _ _)⟩
theorem RfA.below (h : RfA w0 w B g v ys x has) (hb : Below w.heap.size w w') : RfA w0 w' B g v ys x has :=
 ⟨Blk.mono h.rd hb, aaQf h.row (Turned.of_below hb []) (fun k hk hm => by cases hm), fun y hy => ((h.old y hy).below hb).mono hb.size, ⟨h.le.1, Nat.le_trans h.le.2 hb.size⟩, h.bel.trans (Turned.of_below hb [g]) (Fresh.refl _ _)⟩
theorem RfM.push (h : RfM w0 w B g b1 v ys x has) {v' : Value} (hown : w'.ownsRow B 37 12 v' (ys.length + 1) (rowsK ys ++ x.row)) (hg : w.grownBy w' v.ownBlock) :
 RfA w0 (w'.setCell ⟨g, 0, none⟩ v') B g v' (ys ++ [x]) x has := by
 have ht := aaQi hg
 have hgR : g ∉ v.ownBlock.toList := fun hm => by
  obtain ⟨cs', hb⟩ := own_blk h.row (by simpa using hm)
  exact Blk.kind hb h.rd (by decide) rfl
 have hrd := h.rd.turned ht hgR
 have hT : Turned (g :: v.ownBlock.toList) w (w'.setCell ⟨g, 0, none⟩ v') := (ht.more (fun k hk => List.mem_cons_of_mem _ hk)).setCell (.inl (by simp)) _
 have hN : ∀ k ∈ g :: v.ownBlock.toList, NoRow w k := fun k hk => by
  rcases List.mem_cons.1 hk with rfl | hk
  ·exact NoRow.of h.rd (by decide) (by decide)
  ·obtain ⟨cs', hb⟩ := own_blk h.row (k := k) (by simpa using hk)
   exact NoRow.of hb (by decide) (by decide)
 refine ⟨hrd.set_ 0 _, ?_, fun y hy => ?_, ⟨h.le.1, Nat.le_trans (Nat.le_trans h.le.2.1 h.le.2.2) hT.size⟩, h.bel.trans hT (fun k hk => ?_)⟩
 ·rw [List.length_append, agQ5]
  have : rowsK [x] = x.row := List.append_nil _
  rw [this]
  refine abQz hown (fun e => ?_) _
  obtain ⟨cs', hb⟩ := own_blk hown e
  exact Blk.kind hb hrd (by decide) rfl
 ·rcases List.mem_append.1 hy with hy | hy
  ·exact ((h.old y hy).turned hT (fun k hk => .inr (hN k hk))).mono (Nat.le_trans h.le.2.2 hT.size)
  ·rw [List.mem_singleton.1 hy]
   exact (h.last.turned hT (fun k hk => .inr (hN k hk))).old
 ·rcases List.mem_cons.1 hk with rfl | hk
  ·exact .inl (by simp)
  ·refine .inr ?_
   rw [← h.le.1]
   exact (h.row.lt k (by simpa using hk)).1
end
end Go.Proofs.YtdhgiammfpjniaaGreatDoor
