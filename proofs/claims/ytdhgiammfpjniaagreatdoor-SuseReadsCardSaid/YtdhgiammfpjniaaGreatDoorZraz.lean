/- Parts of the proof. -/
import Derived.Test.YtdhgiammfpjniaaGreatDoorZray
import Derived.Deep.RegionLaw
import Derived.Deep.QuietTactic
import Derived.BigQuiet
namespace Go.Proofs.YtdhgiammfpjniaaGreatDoor
set_option linter.unusedSimpArgs false
set_option linter.unusedVariables false
open Go.RowKit Go.MapKept
def Moved (w w' : World) (pb : Nat) (x x' : Sk5) : Prop := (∃ R, Turned (pb :: R) w w' ∧ ∀ k ∈ R, x.fs.ownBlock = some k ∨ ∃ i, i < 7 ∧ (x.ss i).ownBlock = some k) ∧ ∀ k, x'.fs.ownBlock = some k → x.fs.ownBlock = some k ∨ w.heap.size ≤ k
section
variable {w0 w w' : World} {B g b1 : Nat} {r : Bs} {pb cap : Nat} {ys : List Sk5} {x : Sk5}
theorem SuM.text (h : SuM w0 w B g b1 r pb cap ys x) (v : Bs) : SuM w0 (w.setCell ⟨pb, ys.length * 12 + 3, none⟩ (.string (mkS v))) B g b1 r pb cap ys ⟨⟨updF x.S.T 3 v, x.S.D, x.S.fl⟩, x.ss, x.rs, x.F, x.fs⟩ := by
 obtain ⟨_, cs, hpk⟩ := h.pkB
 have ht : Turned [pb] w (w.setCell ⟨pb, ys.length * 12 + 3, none⟩ (.string (mkS v))) := (Turned.refl _ _).setCell (.inl (by simp)) _
 have hl := h.last.turned ht (fun k hk => .inr (by rw [List.mem_singleton.1 hk]; exact NoRow.of hpk (by decide) (by decide)))
 exact h.put (Turned.refl [] _) (fun k hk => by cases hk) (j := 3) (by omega) rfl ⟨hl.own, hl.is, hl.lay, hl.far, hl.apart, hl.dep, hl.fil⟩
theorem SuM.files (h : SuM w0 w B g b1 r pb cap ys x) {p : Bs} {v' : Value} (hown : w'.ownsRow b1 9 1 v' (x.S.fl.length + 1) (strR x.S.fl ++ [.string (mkS p)])) (hg : w.grownBy w' x.fs.ownBlock) (hat : v'.ownBlock = x.fs.ownBlock ∨ v'.ownBlock = some w.heap.size) :
 SuM w0 (w'.setCell ⟨pb, ys.length * 12 + 11, none⟩ v') B g b1 r pb cap ys ⟨⟨x.S.T, x.S.D, x.S.fl ++ [p]⟩, x.ss, x.rs, x.F, v'⟩ ∧ Moved w (w'.setCell ⟨pb, ys.length * 12 + 11, none⟩ v') pb x ⟨⟨x.S.T, x.S.D, x.S.fl ++ [p]⟩, x.ss, x.rs, x.F, v'⟩ := by
 obtain ⟨_, cs, hpk⟩ := h.pkB
 have hpl := hpk.lt
 have ht := aaQi hg
 have hRo : ∀ k ∈ x.fs.ownBlock.toList, b1 ≤ k ∧ (∀ cs, ¬ Blk w k 37 cs) ∧ (∀ cs, ¬ Blk w k 67 cs) ∧ ∀ cs, ¬ Blk w k 39 cs := fun k hk => by
  have hk : x.fs.ownBlock = some k := by simpa using hk
  obtain ⟨cs', hb⟩ := own_blk h.last.fil hk
  exact ⟨(h.last.fil.lt k hk).1, fun cs hc => Blk.kind hb hc (by decide) rfl, fun cs hc => Blk.kind hb hc (by decide) rfl, fun cs hc => Blk.kind hb hc (by decide) rfl⟩
 have hT : Turned (pb :: x.fs.ownBlock.toList) w (w'.setCell ⟨pb, ys.length * 12 + 11, none⟩ v') := (ht.more (fun k hk => List.mem_cons_of_mem _ hk)).setCell (.inl (by simp)) _
 have hdn : ∀ k ∈ pb :: x.fs.ownBlock.toList, ∀ cs, ¬ Blk w k 39 cs := fun k hk cs' hc => by
  rcases List.mem_cons.1 hk with rfl | hk
  ·exact Blk.kind hc hpk (by decide) rfl
  ·exact (hRo k hk).2.2.2 _ hc
 refine ⟨h.put ht (fun k hk => ⟨(hRo k hk).1, (hRo k hk).2.1, (hRo k hk).2.2.1⟩) (j := 11) (by omega) rfl ⟨fun i hi => aaQf (h.last.own i hi) hT (fun k hk hm => ?_), h.last.is, fun i hi y hy => Ev.Lay.stay (fun _ h => h) (Ev.StayS.turned hT (fun b hb hm => ?_)) y.1 y.2 (h.last.lay i hi y hy), h.last.far, h.last.apart, fun b hb => ?_, ?_⟩, ⟨⟨x.fs.ownBlock.toList, hT, fun k hk => .inl (by simpa using hk)⟩, fun k hk => ?_⟩⟩
 ·obtain ⟨cs', hb⟩ := own_blk (h.last.own i hi) hk
  exact hdn k hm cs' hb
 ·obtain ⟨hl, cs', hc⟩ := h.last.dep b hb
  exact hdn b hm cs' hc
 ·obtain ⟨hl, cs', hc⟩ := h.last.dep b hb
  exact ⟨hl, cs', hc.turned hT (fun hm => hdn b hm cs' hc)⟩
 ·show ((w'.setCell ⟨pb, ys.length * 12 + 11, none⟩ v')).ownsRow b1 9 1 v' (x.S.fl ++ [p]).length (strR (x.S.fl ++ [p]))
  have e : strR (x.S.fl ++ [p]) = strR x.S.fl ++ [.string (mkS p)] := by unfold strR; rw [List.map_append]; rfl
  rw [e, List.length_append]
  refine abQz hown (fun hk => ?_) _
  rcases hat with h1 | h1
  ·rw [h1] at hk
   obtain ⟨cs', hb⟩ := own_blk h.last.fil hk
   exact Blk.kind hb hpk (by decide) rfl
  ·rw [h1] at hk
   injection hk with hk
   have hk : w.heap.size = pb := hk
   omega
 ·rcases hat with h1 | h1
  ·exact .inl (by rw [← h1]; exact hk)
  ·have hk : v'.ownBlock = some k := hk
   rw [h1] at hk
   injection hk with hk
   exact .inr (by omega)
theorem Moved.behind {w1 : World} {x' : Sk5} (h : Moved w1 w' pb x x') (hb : Below w.heap.size w w1) : Moved w w' pb x x' := by
 obtain ⟨⟨R, h1, h2⟩, h3⟩ := h
 refine ⟨⟨R, (Turned.of_below hb _).trans h1 (Fresh.refl _ _), h2⟩, fun k hk => ?_⟩
 rcases h3 k hk with h4 | h4
 ·exact .inl h4
 ·exact .inr (Nat.le_trans hb.size h4)
theorem SuM.cellT (h : SuM w0 w B g b1 r pb cap ys x) {R : List Nat} (ht : Turned R w w') (hp : pb ∉ R) : (∀ {j : Nat} {u : Value}, x.row[j]? = some u → w'.cell? ⟨pb, ys.length * 12 + j, none⟩ = some u) ∧ ∀ i, w'.frozen? ⟨pb, i, none⟩ = false := by
 obtain ⟨_, cs, hpk⟩ := h.pkB
 have hpk' := hpk.turned ht hp
 refine ⟨fun {j u} hu => ?_, fun i => hpk'.free i⟩
 have h1 := h.cell hu
 rw [hpk.cell] at h1
 rw [hpk'.cell]
 exact h1
theorem SuM.not_str (h : SuM w0 w B g b1 r pb cap ys x) : pb ∉ x.fs.ownBlock.toList := fun hm => by
 obtain ⟨_, cs, hpk⟩ := h.pkB
 obtain ⟨cs', hb⟩ := own_blk h.last.fil (by simpa using hm)
 exact Blk.kind hb hpk (by decide) rfl
set_option maxHeartbeats 1000000 in
set_option maxRecDepth 100000 in
theorem act_vnd (h : SuM w0 w B g b1 r pb cap ys x) (v : Bs) (hv : v.length ≤ 40000) : Calls Tryz.prog 134 #[.pointer (some ⟨pb, ys.length * 12, none⟩), .string (mkS v)] w fun e w' => e = .returned (.bool true) ∧ ∃ x', x'.S = ⟨updF x.S.T 3 v, x.S.D, x.S.fl⟩ ∧ SuM w0 w' B g b1 r pb cap ys x' ∧ Moved w w' pb x x' := by
 have C := hQQ (adQh (mkS v) w (by rw [aaQg]; exact hv))
 have H := hQQ h
 clear h hv
 go_enter Tryz.func134, Tryz.ntmps134
 go_wp2_with fail
 refine C.out.mono ?_
 rintro e w1 ⟨rfl, hb⟩
 have H1 := hQQ (H.out.below hb)
 have HB := hQQ hb
 have c0 := H1.out.cell (j := 3) rfl
 have f0 := H1.out.free (ys.length * 12 + 3)
 clear hb C H
 go_wp2_with fail
 go_ret
 exact ⟨rfl, _, rfl, H1.out.text v, ⟨[], (Turned.of_below HB.out [pb]).setCell (.inl (by simp)) _, fun k hk => by cases hk⟩, fun k hk => .inl hk⟩
set_option maxHeartbeats 4000000 in
set_option maxRecDepth 100000 in
theorem act_fls (h : SuM w0 w B g b1 r pb cap ys x) (v : Bs) (hv : v.length ≤ 40000) (hn : x.S.fl.length ≤ 100000) : Calls Tryz.prog 135 #[.pointer (some ⟨pb, ys.length * 12, none⟩), .string (mkS v)] w fun e w' => e = .returned (.bool true) ∧ ∃ x', x'.S = ⟨x.S.T, x.S.D, x.S.fl ++ [dTrim v]⟩ ∧ SuM w0 w' B g b1 r pb cap ys x' ∧ Moved w w' pb x x' := by
 obtain ⟨is_, zs, his, hzs, hzs1, hzs2, hzs3⟩ := adQs
 have HIS := hQQ his
 have CT := hQQ (fun wx => alQk v (by omega) wx)
 have hla : Hid (mkS dLayS = ⟨#[32, 9]⟩) := rfl
 rw [hla.out] at CT
 have CC := hQQ (fun wx => adQh (mkS (dTrim v)) wx (by rw [aaQg]; exact Nat.le_trans (alQj v) hv))
 have H := hQQ h
 have HF := hQQ (fun wx (hb : Below w.heap.size w wx) => h.below hb)
 have c0 := h.cell (j := 11) rfl
 obtain ⟨Af, cf, hfv, hcf1, hcf2⟩ := aaQc h.last.fil
 have hr12 : x.row[11]? = some x.fs := rfl
 clear h hv hla his
 go_enter Tryz.func135, Tryz.ntmps135
 go_upto_region 1 with fail
 go_region_law (first
  | (go_simp; go_at_call 42; refine (CT.out _).mono ?_; rintro e w1 ⟨rfl, hb1⟩; have hb1' : Below w.heap.size w w1 := (by first | exact (Below.refl w.heap.size w).drew.trans hb1 | exact hb1 | exact (aaQs (Below.refl w.heap.size w) 1).trans hb1); have HB1 := hQQ hb1'; have c1 := (HF.out w1 hb1').cell (j := 11) hr12; clear hb1 hb1')
  | (go_simp; go_at_call 48; refine (CC.out _).mono ?_; rintro e w2 ⟨rfl, hb2⟩; have HB2 := hQQ (HB1.out.trans (hb2.mono HB1.out.size)); have c2 := (HF.out w2 HB2.out).cell (j := 11) hr12; have H3 : Hid (SuM w0 (w2.alloc (.cells #[.string (mkS (dTrim v))] 9)) B g b1 r pb cap ys x) := (HF.out w2 HB2.out).below ((Below.refl _ _).alloc (Nat.le_refl _) _); have HO3 : Hid ((w2.alloc (.cells #[.string (mkS (dTrim v))] 9)).ownsRow b1 9 1 (.slice Af x.S.fl.length cf) x.S.fl.length (strR x.S.fl)) := (by rw [← hfv]; exact H3.out.last.fil); have HCN : Hid (∀ (j : Nat) u, [Value.string (mkS (dTrim v))][j]? = some u → (w2.alloc (.cells #[.string (mkS (dTrim v))] 9)).cell? ((⟨w2.heap.size, 0, none⟩ : Addr).add j) = some u) := cell_one_new _ _ _; have hsz3 := H3.out.le.2.2; have c3 := H3.out.cell (j := 11) hr12; clear hb2)
  | (refine aaQo rfl (.tmp 9) (.tmp 13) 32 rfl b1 9 is_ zs 1 16 Tryz.underlying32 HIS.out hzs hzs2 hzs3 hzs1 (by decide) (.slice Af x.S.fl.length cf) x.S.fl.length (strR x.S.fl) (by simp [Act.eval, Act.put]) HO3.out ⟨w2.heap.size, 0, none⟩ 1 1 [.string (mkS (dTrim v))] (by simp [Act.eval, Act.put]) rfl HCN.out (fun u hu => by simp at hu; subst hu; rfl) (by unfold maxLen; omega) (by omega) hsz3 ?_; intro v4 w4 hown4 hg4 hat4; rw [← hfv] at hg4 hat4; have HFI := hQQ (SuM.files H3.out hown4 hg4 hat4); have hT4 := H3.out.cellT (aaQi hg4) H3.out.not_str; have c4 := hT4.1 (j := 11) hr12; have f4 := hT4.2 (ys.length * 12 + 11); have HV4 := hQQ (aaQc hown4); obtain ⟨A4, cc4, rfl, hn4, hm4⟩ := aaQc hown4; clear hown4 hg4 hat4 hT4))
 all_goals
  have HMV := hQQ (HFI.out.2.behind (HB2.out.trans ((show Below w2.heap.size w2 (w2.alloc (.cells #[.string (mkS (dTrim v))] 9)) from (Below.refl _ _).alloc (Nat.le_refl _) _).mono HB2.out.size)))
  have HSM := hQQ HFI.out.1
  clear HFI HV4 c4 f4
  go_wp2_with fail
  go_ret
  exact ⟨rfl, _, rfl, HSM.out, HMV.out⟩
end
theorem aaQ7 : ∃ i z, Tryz.prog.info? 39 = some i ∧ i.zero = some z ∧ z.cells.size = 5 ∧ i.size = 5 ∧ i.bytes = 72 := by
 have h : (Tryz.prog.info? 39).map (fun i => (i.zero.map fun z => z.cells.size, i.size, i.bytes)) = some (some 5, 5, 72) := by kernel_rfl
 obtain ⟨i, hi, h2⟩ := Option.map_eq_some_iff.1 h
 simp only [Prod.mk.injEq] at h2
 obtain ⟨z, hz, hz1⟩ := Option.map_eq_some_iff.1 h2.1
 exact ⟨i, z, hi, hz, hz1, h2.2.1, h2.2.2⟩
section
variable {w0 w w' : World} {B g b1 : Nat} {r : Bs} {pb cap : Nat} {ys : List Sk5} {x : Sk5}
theorem anQi (T : Nat → Bs) (ss : Nat → Value) (fs v : Value) : ∀ i, i < 7 → (rowK T ss fs).set (4 + i) v = rowK T (updF ss i v) fs
 | 0, _ => rfl
 | 1, _ => rfl
 | 2, _ => rfl
 | 3, _ => rfl
 | 4, _ => rfl
 | 5, _ => rfl
 | 6, _ => rfl
 | n + 7, h => by omega
theorem rowK_at (T : Nat → Bs) (ss : Nat → Value) (fs : Value) : ∀ i, i < 7 → (rowK T ss fs)[4 + i]? = some (ss i)
 | 0, _ => rfl
 | 1, _ => rfl
 | 2, _ => rfl
 | 3, _ => rfl
 | 4, _ => rfl
 | 5, _ => rfl
 | 6, _ => rfl
 | n + 7, h => by omega
theorem SuM.deps (h : SuM w0 w B g b1 r pb cap ys x) {i : Nat} (hi : i < 7) {d : Ev.Dep} {t : Value} {G : List Nat} (hd : Ev.Lay w (fun b => b ∈ G) d t) (hG : ∀ b ∈ G, b1 ≤ b ∧ (∃ cs, Blk w b 39 cs) ∧ (∀ j, j < 7 → (x.ss j).ownBlock ≠ some b)) {v' : Value} (hown : w'.ownsRow b1 39 5 v' ((x.rs i).length + 1) (Ev.cells5 (x.rs i) ++ Ev.cells5 [(d, t)])) (hg : w.grownBy w' (x.ss i).ownBlock) (hat : v'.ownBlock = (x.ss i).ownBlock ∨ v'.ownBlock = some w.heap.size) :
 SuM w0 (w'.setCell ⟨pb, ys.length * 12 + (4 + i), none⟩ v') B g b1 r pb cap ys ⟨⟨x.S.T, updF x.S.D i (x.S.D i ++ [d]), x.S.fl⟩, updF x.ss i v', updF x.rs i (x.rs i ++ [(d, t)]), G ++ x.F, x.fs⟩ ∧ Moved w (w'.setCell ⟨pb, ys.length * 12 + (4 + i), none⟩ v') pb x ⟨⟨x.S.T, updF x.S.D i (x.S.D i ++ [d]), x.S.fl⟩, updF x.ss i v', updF x.rs i (x.rs i ++ [(d, t)]), G ++ x.F, x.fs⟩ := by
 obtain ⟨_, cs, hpk⟩ := h.pkB
 have hpl := hpk.lt
 have ht := aaQi hg
 have hRo : ∀ k ∈ (x.ss i).ownBlock.toList, (x.ss i).ownBlock = some k ∧ b1 ≤ k ∧ (∀ cs, ¬ Blk w k 37 cs) ∧ (∀ cs, ¬ Blk w k 67 cs) ∧ ∀ cs, ¬ Blk w k 9 cs := fun k hk => by
  have hk : (x.ss i).ownBlock = some k := by simpa using hk
  obtain ⟨cs', hb⟩ := own_blk (h.last.own i hi) hk
  exact ⟨hk, ((h.last.own i hi).lt k hk).1, fun cs hc => Blk.kind hb hc (by decide) rfl, fun cs hc => Blk.kind hb hc (by decide) rfl, fun cs hc => Blk.kind hb hc (by decide) rfl⟩
 have hT : Turned (pb :: (x.ss i).ownBlock.toList) w (w'.setCell ⟨pb, ys.length * 12 + (4 + i), none⟩ v') := (ht.more (fun k hk => List.mem_cons_of_mem _ hk)).setCell (.inl (by simp)) _
 have hvlt : ∀ k, v'.ownBlock = some k → (x.ss i).ownBlock = some k ∨ k = w.heap.size := fun k hk => by
  rcases hat with e | e
  ·exact .inl (by rw [← e]; exact hk)
  ·rw [e] at hk
   injection hk with hk
   exact .inr hk.symm
 have hall : ∀ b ∈ G ++ x.F, b1 ≤ b ∧ (∃ cs, Blk w b 39 cs) ∧ (∀ j, j < 7 → (x.ss j).ownBlock ≠ some b) := fun b hb => by
  rcases List.mem_append.1 hb with hb | hb
  ·exact hG b hb
  ·obtain ⟨h1, h2⟩ := h.last.dep b hb
   exact ⟨h1, h2, fun j hj => h.last.far j hj b hb⟩
 have hnm : ∀ b ∈ G ++ x.F, b ∉ pb :: (x.ss i).ownBlock.toList := fun b hb hm => by
  obtain ⟨_, ⟨cs', hc⟩, h3⟩ := hall b hb
  rcases List.mem_cons.1 hm with rfl | hm
  ·exact Blk.kind hc hpk (by decide) rfl
  ·exact h3 i hi (hRo b hm).1
 have hst : Ev.StayS (fun b => b ∈ G ++ x.F) w (w'.setCell ⟨pb, ys.length * 12 + (4 + i), none⟩ v') := Ev.StayS.turned hT (fun b hb hm => hnm b hb hm)
 refine ⟨h.put ht (fun k hk => ⟨(hRo k hk).2.1, (hRo k hk).2.2.1, (hRo k hk).2.2.2.1⟩) (j := 4 + i) (by omega) (anQi _ _ _ _ i hi).symm ⟨fun j hj => ?_, fun j hj => ?_, fun j hj y hy => ?_, fun j hj b hb hv => ?_, fun j k hj hk hne q hq hq2 => ?_, fun b hb => ?_, ?_⟩, ⟨⟨(x.ss i).ownBlock.toList, hT, fun k hk => .inr ⟨i, hi, (hRo k hk).1⟩⟩, fun k hk => .inl hk⟩⟩
 ·show (w'.setCell _ v').ownsRow b1 39 5 (updF x.ss i v' j) (updF x.rs i (x.rs i ++ [(d, t)]) j).length (Ev.cells5 (updF x.rs i (x.rs i ++ [(d, t)]) j))
  by_cases e : j = i
  ·subst e
   rw [aaQ3, aaQ3, List.length_append, Ev.cells5_append]
   refine abQz hown (fun hk => ?_) _
   rcases hvlt _ hk with e2 | e2
   ·obtain ⟨cs', hb⟩ := own_blk (h.last.own j hj) e2
    exact Blk.kind hb hpk (by decide) rfl
   ·have e2 : pb = w.heap.size := e2
    omega
  ·rw [aaQp _ _ e, aaQp _ _ e]
   refine aaQf (h.last.own j hj) hT (fun k hk hm => ?_)
   rcases List.mem_cons.1 hm with rfl | hm
   ·obtain ⟨cs', hb⟩ := own_blk (h.last.own j hj) hk
    exact Blk.kind hb hpk (by decide) rfl
   ·exact h.last.apart j i hj hi e k hk (hRo k hm).1
 ·show (updF x.rs i (x.rs i ++ [(d, t)]) j).map Prod.fst = updF x.S.D i (x.S.D i ++ [d]) j
  by_cases e : j = i
  ·subst e
   rw [aaQ3, aaQ3, List.map_append, h.last.is j hj]
   rfl
  ·rw [aaQp _ _ e, aaQp _ _ e]
   exact h.last.is j hj
 ·have hy : y ∈ updF x.rs i (x.rs i ++ [(d, t)]) j := hy
  show Ev.Lay _ (fun b => b ∈ G ++ x.F) y.1 y.2
  by_cases e : j = i
  ·subst e
   rw [aaQ3] at hy
   rcases List.mem_append.1 hy with hy | hy
   ·exact Ev.Lay.stay (fun _ h => h) hst y.1 y.2 (Ev.Lay.stay (fun b hb => List.mem_append_right _ hb) (Ev.StayS.refl _ _) y.1 y.2 (h.last.lay j hj y hy))
   ·rw [List.mem_singleton.1 hy]
    exact Ev.Lay.stay (fun _ h => h) hst d t (Ev.Lay.stay (fun b hb => List.mem_append_left _ hb) (Ev.StayS.refl _ _) d t hd)
  ·rw [aaQp _ _ e] at hy
   exact Ev.Lay.stay (fun _ h => h) hst y.1 y.2 (Ev.Lay.stay (fun b hb => List.mem_append_right _ hb) (Ev.StayS.refl _ _) y.1 y.2 (h.last.lay j hj y hy))
 ·have hv : (updF x.ss i v' j).ownBlock = some b := hv
  have hb : b ∈ G ++ x.F := hb
  obtain ⟨_, ⟨cs', hc⟩, h3⟩ := hall b hb
  by_cases e : j = i
  ·subst e
   rw [aaQ3] at hv
   rcases hvlt b hv with e2 | e2
   ·exact h3 j hj e2
   ·have := hc.lt
    omega
  ·rw [aaQp _ _ e] at hv
   exact h3 j hj hv
 ·have hqa : (updF x.ss i v' j).ownBlock = some q := hq
  have hqb : (updF x.ss i v' k).ownBlock = some q := hq2
  clear hq hq2
  have hlt : ∀ j, j < 7 → ∀ k, (x.ss j).ownBlock = some k → k < w.heap.size := fun j hj k hk => adQx (h.last.own j hj) hk
  by_cases e : j = i
  ·subst e
   rw [aaQ3] at hqa
   rw [aaQp _ _ (fun e => hne e.symm)] at hqb
   rcases hvlt q hqa with e2 | e2
   ·exact h.last.apart j k hj hk hne q e2 hqb
   ·have := hlt k hk q hqb
    omega
  ·rw [aaQp _ _ e] at hqa
   by_cases e3 : k = i
   ·subst e3
    rw [aaQ3] at hqb
    rcases hvlt q hqb with e2 | e2
    ·exact h.last.apart j k hj hk hne q hqa e2
    ·have := hlt j hj q hqa
     omega
   ·rw [aaQp _ _ e3] at hqb
    exact h.last.apart j k hj hk hne q hqa hqb
 ·have hb : b ∈ G ++ x.F := hb
  obtain ⟨h1, ⟨cs', hc⟩, _⟩ := hall b hb
  exact ⟨h1, cs', hc.turned hT (hnm b hb)⟩
 ·refine aaQf h.last.fil hT (fun k hk hm => ?_)
  obtain ⟨cs', hb⟩ := own_blk h.last.fil hk
  rcases List.mem_cons.1 hm with rfl | hm
  ·exact Blk.kind hb hpk (by decide) rfl
  ·exact (hRo k hm).2.2.2.2 _ hb
theorem ahQt {w : World} {S : Nat → Prop} (hS : ∀ b, S b → b < w.heap.size) : ∃ G : List Nat, ∀ b, b ∈ G ↔ S b := by
 classical
 refine ⟨(List.range w.heap.size).filter fun b => decide (S b), fun b => ?_⟩
 rw [List.mem_filter, List.mem_range]
 exact ⟨fun h => of_decide_eq_true h.2, fun h => ⟨hS b h, decide_eq_true h⟩⟩
end
def afQk : Prop := ∀ (w0 w : World) (B g b1 : Nat) (r : Bs) (pb cap : Nat) (ys : List Sk5) (x : Sk5) (i cb : Nat) (v : Bs), SuM w0 w B g b1 r pb cap ys x → i < 7 → Blk w cb 127 #[fcV (dlF i)] → v.length ≤ 40000 → (x.rs i).length ≤ 100000 → Ev.Tabs w →
    Calls Tryz.prog 136 #[.pointer (some ⟨pb, ys.length * 12, none⟩), .string (mkS v), .pointer (some ⟨cb, 0, none⟩)] w fun e w' => match (Ev.parseD v).1 with
     | some d => e = .returned (.bool true) ∧ ∃ x', x'.S = ⟨x.S.T, updF x.S.D i (x.S.D i ++ [d]), x.S.fl⟩ ∧ SuM w0 w' B g b1 r pb cap ys x' ∧ Moved w w' pb x x'
     | none => e = .returned (.bool false) ∧ Below B w0 w'
def wtK (S : Sk) : Nat := S.fl.length + ((S.D 0).length + ((S.D 1).length + ((S.D 2).length + ((S.D 3).length + ((S.D 4).length + ((S.D 5).length + (S.D 6).length))))))
theorem wt_dep (S : Sk) : ∀ i, i < 7 → (S.D i).length ≤ wtK S
 | 0, _ => by unfold wtK; omega
 | 1, _ => by unfold wtK; omega
 | 2, _ => by unfold wtK; omega
 | 3, _ => by unfold wtK; omega
 | 4, _ => by unfold wtK; omega
 | 5, _ => by unfold wtK; omega
 | 6, _ => by unfold wtK; omega
 | n + 7, h => by omega
theorem wt_updD (S : Sk) (d : Ev.Dep) : ∀ i, i < 7 → wtK ⟨S.T, updF S.D i (S.D i ++ [d]), S.fl⟩ = wtK S + 1
 | 0, _ => by simp [wtK, updF]; omega
 | 1, _ => by simp [wtK, updF]; omega
 | 2, _ => by simp [wtK, updF]; omega
 | 3, _ => by simp [wtK, updF]; omega
 | 4, _ => by simp [wtK, updF]; omega
 | 5, _ => by simp [wtK, updF]; omega
 | 6, _ => by simp [wtK, updF]; omega
 | n + 7, h => by omega
theorem wt_act {m : Mg} (hm : ∀ i, m = .dep i → i < 7) {S S' : Sk} {v : Bs} (h : actM m S v = some S') : wtK S' ≤ wtK S + 1 := by
 cases m with
 | none => injection h with h; rw [← h]; omega
 | vnd => injection h with h; rw [← h]; exact Nat.le_succ _
 | fls =>
   injection h with h
   rw [← h]
   unfold wtK
   simp
   omega
 | dep i =>
   have h : (match (Ev.parseD v).1 with | some d => some (⟨S.T, updF S.D i (S.D i ++ [d]), S.fl⟩ : Sk) | none => none) = some S' := h
   cases hp : (Ev.parseD v).1 with
   | none => rw [hp] at h; cases h
   | some d =>
     rw [hp] at h
     injection h with h
     rw [← h, wt_updD S d i (hm i rfl)]
     exact Nat.le_refl _
def VsAt (w : World) (A : Option Addr) (vs : List Bs) (fs : Value) : Prop := vs = [] ∨ ∃ hb, A = some ⟨hb, 0, none⟩ ∧ (∃ cs, Blk w hb 9 cs) ∧ (∀ (j : Nat) (p : Bs), vs[j]? = some p → w.cell? ⟨hb, j, none⟩ = some (.string (mkS p))) ∧ fs.ownBlock ≠ some hb
section
variable {w0 w w' : World} {B g b1 m Bm : Nat} {r : Bs} {pb cap : Nat} {ys : List Sk5} {x x' : Sk5} {A : Option Addr} {vs : List Bs}
theorem Moved.kinds (h : Moved w w' pb x x') (hS : SuM w0 w B g b1 r pb cap ys x) : ∃ R, Turned R w w' ∧ (∀ k ∈ R, ∃ t cs, Blk w k t cs ∧ (t = 37 ∨ t = 9 ∨ t = 39)) ∧ ∀ k ∈ R, ∀ cs, Blk w k 9 cs → x.fs.ownBlock = some k := by
 obtain ⟨⟨R, h1, h2⟩, _⟩ := h
 obtain ⟨_, cs, hpk⟩ := hS.pkB
 refine ⟨pb :: R, h1, fun k hk => ?_, fun k hk cs' hb => ?_⟩
 ·rcases List.mem_cons.1 hk with rfl | hk
  ·exact ⟨_, cs, hpk, .inl rfl⟩
  ·rcases h2 k hk with h3 | ⟨i, hi, h3⟩
   ·obtain ⟨cs', hb⟩ := own_blk hS.last.fil h3
    exact ⟨_, cs', hb, .inr (.inl rfl)⟩
   ·obtain ⟨cs', hb⟩ := own_blk (hS.last.own i hi) h3
    exact ⟨_, cs', hb, .inr (.inr rfl)⟩
 ·rcases List.mem_cons.1 hk with rfl | hk
  ·exact absurd rfl (Blk.kind hb hpk (by decide))
  ·rcases h2 k hk with h3 | ⟨i, hi, h3⟩
   ·exact h3
   ·obtain ⟨cs'', hd⟩ := own_blk (hS.last.own i hi) h3
    exact absurd rfl (Blk.kind hb hd (by decide))
theorem Moved.vals (h : Moved w w' pb x x') (hS : SuM w0 w B g b1 r pb cap ys x) (hv : VsAt w A vs x.fs) : VsAt w' A vs x'.fs := by
 rcases hv with hv | ⟨hb, h1, ⟨cs, h2⟩, h3, h4⟩
 ·exact .inl hv
 ·obtain ⟨R, ht, _, hk⟩ := h.kinds hS
  have hn : hb ∉ R := fun hm => h4 (hk hb hm cs h2)
  refine .inr ⟨hb, h1, ⟨cs, h2.turned ht hn⟩, fun j p hp => ?_, fun e => ?_⟩
  ·rw [(h2.turned ht hn).cell, ← h2.cell]
   exact h3 j p hp
  ·rcases h.2 hb e with h5 | h5
   ·exact h4 h5
   ·have := h2.lt; omega
theorem Moved.mean (h : Moved w w' pb x x') (hS : SuM w0 w B g b1 r pb cap ys x) (hm : MeanM w Bm m) : MeanM w' Bm m := by
 obtain ⟨R, ht, hk, _⟩ := h.kinds hS
 refine hm.turned ht (fun b cs hb hbR => ?_) (fun hmR => ?_)
 ·obtain ⟨t, cs', hb', h3⟩ := hk b hbR
  refine Blk.kind hb hb' ?_ rfl
  rcases h3 with rfl | rfl | rfl <;> decide
 ·obtain ⟨l, hl, _⟩ := hm
  obtain ⟨t, cs', hb', _⟩ := hk m hmR
  exact acQz hl hb' rfl
theorem Moved.meaning {mg : Mg} {fv : Value} (h : Moved w w' pb x x') (hS : SuM w0 w B g b1 r pb cap ys x) (hm : MgV w Bm mg fv) : MgV w' Bm mg fv := by
 obtain ⟨R, ht, hk, _⟩ := h.kinds hS
 refine hm.turned ht (fun b cs hb hbR => ?_)
 obtain ⟨t, cs', hb', h3⟩ := hk b hbR
 refine Blk.kind hb hb' ?_ rfl
 rcases h3 with rfl | rfl | rfl <;> decide
end
def asQa (w0 : World) (B g b1 : Nat) (r : Bs) (pb cap : Nat) (ys : List Sk5) (x : Sk5) (wx : World) (X : Option Sk) (e : Ending) (w' : World) : Prop := match X with
 | some S' => e = .returned (.bool true) ∧ ∃ x', x'.S = S' ∧ SuM w0 w' B g b1 r pb cap ys x' ∧ Moved wx w' pb x x'
 | none => e = .returned (.bool false) ∧ Below B w0 w'
structure PutM (w0 w : World) (B g b1 : Nat) (r : Bs) (pb cap : Nat) (ys : List Sk5) (x : Sk5) (m Bm : Nat) (mg : Mg) (fv : Value) (A : Option Addr) (vs : List Bs) : Prop where
 su : SuM w0 w B g b1 r pb cap ys x
 mean : MeanM w Bm m
 mg : MgV w Bm mg fv
 vs : VsAt w A vs x.fs
theorem PutM.moved {w0 w w' : World} {B g b1 m Bm : Nat} {r : Bs} {pb cap : Nat} {ys : List Sk5} {x x' : Sk5} {A : Option Addr} {vs : List Bs} {mg : Mg} {fv : Value} (h : PutM w0 w B g b1 r pb cap ys x m Bm mg fv A vs) (hs : SuM w0 w' B g b1 r pb cap ys x') (hm : Moved w w' pb x x') : PutM w0 w' B g b1 r pb cap ys x' m Bm mg fv A vs :=
 ⟨hs, hm.mean h.su h.mean, hm.meaning h.su h.mg, hm.vals h.su h.vs⟩
def ajQz (w0 : World) (B g b1 : Nat) (r : Bs) (pb cap : Nat) (ys : List Sk5) (m Bm : Nat) (X : Option Sk) (e : Ending) (w' : World) : Prop := match X with
 | some S' => e = .returned (.bool true) ∧ ∃ x', x'.S = S' ∧ SuM w0 w' B g b1 r pb cap ys x' ∧ MeanM w' Bm m
 | none => e = .returned (.bool false) ∧ Below B w0 w'
theorem act_any {w0 : World} {B g b1 m Bm : Nat} {r : Bs} {pb cap : Nat} {ys : List Sk5} (hD : afQk) (hT : Ev.Tabs w0) (hB : B = w0.heap.size) {mg : Mg} {fv : Value} (hne : fv ≠ .nilFunc) {ww : World} (hmg : MgV ww Bm mg fv) :
 ∃ fc K, fv = .func (.func fc) #[] K ∧ Enters Tryz.prog fc ∧ (∀ i, mg = .dep i → i < 7) ∧ ∀ (w : World) (x : Sk5) (v : Bs), SuM w0 w B g b1 r pb cap ys x → MgV w Bm mg fv → v.length ≤ 40000 → wtK x.S ≤ 100000 → Calls Tryz.prog fc (#[.pointer (some ⟨pb, ys.length * 12, none⟩), .string (mkS v)] ++ K) w (asQa w0 B g b1 r pb cap ys x w (actM mg x.S v)) := by
 cases mg with
 | none => exact absurd hmg hne
 | vnd => exact ⟨_, #[], hmg, enters_of Tryz.func134 (by kernel_rfl) rfl, (fun i h => by cases h), fun w x v hS _ hv _ => act_vnd hS v hv⟩
 | fls => exact ⟨_, #[], hmg, enters_of Tryz.func135 (by kernel_rfl) rfl, (fun i h => by cases h), fun w x v hS _ hv hw => act_fls hS v hv (by unfold wtK at hw; omega)⟩
 | dep i =>
   obtain ⟨hi, b, hb1, hfv, hb2⟩ := hmg
   refine ⟨_, _, hfv, enters_of Tryz.func136 (by kernel_rfl) rfl, (fun j h => by injection h with h; rw [← h]; exact hi), fun w x v hS hm hv hw => ?_⟩
   obtain ⟨_, b', hb1', hfv', hb2'⟩ := hm
   have : b' = b := by
    have e := hfv'.symm.trans hfv
    unfold cloV at e
    injection e with _ _ e
    simpa using e
   subst this
   have hTw : Ev.Tabs w := hT.below (by have := hS.bel; rw [hB] at this; exact this) hT.two
   have hlen : (x.rs i).length ≤ 100000 := by
    have h1 := congrArg List.length (hS.last.is i hi)
    rw [List.length_map] at h1
    have h2 := wt_dep x.S i hi
    omega
   refine (hD _ _ _ _ _ _ _ _ _ _ _ _ v hS hi hb2' hv hlen hTw).mono ?_
   intro e w' h
   unfold asQa actM
   dsimp only
   revert h
   cases (Ev.parseD v).1 with
   | none => exact fun h => h
   | some d => exact fun h => h
theorem eqlMn (f : Fn) (C K : Array Value) (w : World) : (Go.binOp .eql 121 (.func f C K) .nilFunc).run Tryz.prog w = .ok (.bool false) w := by kernel_rfl
theorem eqlMn0 (w : World) : (Go.binOp .eql 121 .nilFunc .nilFunc).run Tryz.prog w = .ok (.bool true) w := by kernel_rfl
set_option maxHeartbeats 4000000 in
set_option maxRecDepth 100000 in
theorem put_any {w0 w : World} {B g b1 m Bm : Nat} {r : Bs} {pb cap : Nat} {ys : List Sk5} {x : Sk5} (hD : afQk) (hT : Ev.Tabs w0) (hB : B = w0.heap.size) {mg : Mg} {fv : Value} {A : Option Addr} {c : Nat} {vs : List Bs} (h : PutM w0 w B g b1 r pb cap ys x m Bm mg fv A vs) (hlen : ∀ p ∈ vs, p.length ≤ 40000) (hw : wtK x.S + vs.length ≤ 100000) (hmgn : fv = .nilFunc → mg = .none) :
 Calls Tryz.prog 76 #[.pointer (some ⟨pb, ys.length * 12, none⟩), fv, .slice A vs.length c] w (ajQz w0 B g b1 r pb cap ys m Bm (putM mg vs x.S)) := by
 by_cases hf : fv = .nilFunc
 ·have hmn := hmgn hf
  subst hf hmn
  have hput : putM .none vs x.S = some x.S := by
   clear h hlen hw
   induction vs with
   | nil => rfl
   | cons a l ih => exact ih
  rw [hput]
  have H := hQQ h
  clear h hlen hw hput hB hT hD hmgn
  have e0 := eqlMn0 w
  go_enter Tryz.func76, Tryz.ntmps76
  go_wp2_with fail
  go_ret
  exact ⟨rfl, x, rfl, H.out.su, H.out.mean⟩
 obtain ⟨fc, K, hfv, ef, hmi, hact⟩ := act_any (m := m) (b1 := b1) (g := g) (r := r) (pb := pb) (cap := cap) (ys := ys) hD hT hB hf h.mg
 subst hfv
 have HA := hQQ hact
 have HLN := hQQ hlen
 have H := hQQ h
 have HMI := hQQ hmi
 obtain ⟨X, hX⟩ : ∃ X, X = putM mg vs x.S := ⟨_, rfl⟩
 rw [← hX]
 have HX : Hid (putM mg (vs.drop 0) x.S = X) := hX.symm
 clear hX hact hlen h hT hB hmgn hmi hD
 have e0 := eqlMn (.func fc) #[] K w
 have hnI : ((vs.length : Nat) : Int) ≤ 100000 := by omega
 go_enter Tryz.func76, Tryz.ntmps76
 go_wp2_with fail
 go_loopg [13] (vs.length + 1) (fun gk v13 wx => ∃ (k : Nat) (x1 : Sk5), v13 = .int .i64 (k : Int) ∧ k ≤ vs.length ∧ vs.length - k < gk ∧ wtK x1.S + (vs.length - k) ≤ 100000 ∧ Hid (PutM w0 wx B g b1 r pb cap ys x1 m Bm mg (.func (.func fc) #[] K) A vs) ∧ Hid (putM mg (vs.drop k) x1.S = X))
 case atStart => exact ⟨0, x, rfl, Nat.zero_le _, by omega, by omega, H, HX⟩
 case round =>
  obtain ⟨k, x1, rfl, hk, hlt, hwt, HM, HXk⟩ := hrel
  clear H HX
  by_cases hkn : k < vs.length
  ·obtain ⟨p, hp⟩ : ∃ p, vs[k]? = some p := ⟨_, List.getElem?_eq_getElem hkn⟩
   have hkI : (k : Int) < (vs.length : Int) := by omega
   obtain ⟨hb, hA, _, hcl, _⟩ : ∃ hb, A = some ⟨hb, 0, none⟩ ∧ (∃ cs, Blk wr hb 9 cs) ∧ (∀ (j : Nat) (p : Bs), vs[j]? = some p → wr.cell? ⟨hb, j, none⟩ = some (.string (mkS p))) ∧ x1.fs.ownBlock ≠ some hb := by
    rcases HM.out.vs with h | h
    ·rw [h] at hkn; cases hkn
    ·exact h
   subst hA
   have c0 := hcl k p hp
   have hpl := HLN.out p (List.mem_of_getElem? hp)
   have HC := hQQ (HA.out wr x1 p HM.out.su HM.out.mg hpl (by omega))
   have hdr : vs.drop k = p :: vs.drop (k + 1) := by
    rw [List.drop_eq_getElem_cons hkn]
    congr 1
    rw [List.getElem?_eq_getElem hkn] at hp
    injection hp
   have hXk := HXk.out
   rw [hdr] at hXk
   have hXk : (match actM mg x1.S p with | some S' => putM mg (vs.drop (k + 1)) S' | none => none) = X := hXk
   have hwa := fun S' h => wt_act (S' := S') HMI.out (S := x1.S) (v := p) h
   have hcf := ef (#[.pointer (some ⟨pb, ys.length * 12, none⟩), .string (mkS p)] ++ K) wr
   clear hcl HXk hdr hp
   generalize actM mg x1.S p = Y at *
   go_wp2_with fail
   refine HC.out.mono ?_
   intro e w2 hpost
   cases Y with
   | some S' =>
     obtain ⟨rfl, x2, hx2, hs2, hm2⟩ := hpost
     have HM2 := hQQ (HM.out.moved hs2 hm2)
     have HXn : Hid (putM mg (vs.drop (k + 1)) x2.S = X) := by rw [hx2]; exact hXk
     have hw2 : wtK x2.S ≤ wtK x1.S + 1 := by rw [hx2]; exact hwa S' rfl
     clear hs2 hm2 HM HC hXk hwa hx2
     go_wp2_with fail
     go_roundg (gk - 1)
     case measure => omega
     case rel => exact ⟨k + 1, x2, by first | rfl | simp, by omega, by omega, by omega, HM2, HXn⟩
   | none =>
     obtain ⟨rfl, hb2⟩ := hpost
     have HB2 := hQQ hb2
     have HXe : Hid (X = none) := hXk.symm
     clear hb2 HM HC hXk hwa
     go_wp2_with fail
     go_ret
     show ajQz _ _ _ _ _ _ _ _ _ _ X _ _
     rw [HXe.out]
     exact ⟨rfl, HB2.out⟩
  ·have hkI : ¬ (k : Int) < (vs.length : Int) := by omega
   have hdr : vs.drop k = [] := List.drop_eq_nil_of_le (by omega)
   have hXk := HXk.out
   rw [hdr] at hXk
   have HXe : Hid (X = some x1.S) := hXk.symm
   clear hXk HXk hdr
   go_wp2_with fail
   go_ret
   show ajQz _ _ _ _ _ _ _ _ _ _ X _ _
   rw [HXe.out]
   exact ⟨rfl, x1, rfl, HM.out.su, HM.out.mean⟩
end Go.Proofs.YtdhgiammfpjniaaGreatDoor
