/- What a tag means is done with a value: Vnd, Fls. What a tag means is done with a value: the dependencies. -/
import Derived.Test.YtdhgiammfpjniaaGreatDoorZaaz
import Derived.Deep.RegionLaw
import Derived.Deep.QuietTactic
import Derived.BigQuiet
/- What a tag means is done with a value: Vnd, Fls. -/
namespace Go.Proofs.YtdhgiammfpjniaaGreatDoor
set_option linter.unusedSimpArgs false
set_option linter.unusedVariables false
open Go.RowKit Go.MapKept

/-- What doing so turns. -/
def Moved (w w' : World) (pb : Nat) (x x' : Sk5) : Prop := (∃ R, Turned (pb :: R) w w' ∧ ∀ k ∈ R, x.fs.ownBlock = some k ∨ ∃ i, i < 7 ∧ (x.ss i).ownBlock = some k) ∧ ∀ k, x'.fs.ownBlock = some k → x.fs.ownBlock = some k ∨ w.heap.size ≤ k
section
variable {w0 w w' : World} {B g b1 : Nat} {r : Bs} {pb cap : Nat} {ys : List Sk5} {x : Sk5}
theorem SuM.text (h : SuM w0 w B g b1 r pb cap ys x) (v : Bs) : SuM w0 (w.setCell ⟨pb, ys.length * 12 + 3, none⟩ (.string (mkS v))) B g b1 r pb cap ys ⟨⟨updF x.S.T 3 v, x.S.D, x.S.fl⟩, x.ss, x.rs, x.F, x.fs⟩ := by
  obtain ⟨_, cs, hpk⟩ := h.pkB
  have ht : Turned [pb] w (w.setCell ⟨pb, ys.length * 12 + 3, none⟩ (.string (mkS v))) := (Turned.refl _ _).setCell (.inl (by simp)) _
  have hl := h.last.turned ht (fun k hk => .inr (by rw [List.mem_singleton.1 hk]; exact NoRow.of hpk (by decide) (by decide)))
  exact h.put (Turned.refl [] _) (fun k hk => by cases hk) (j := 3) (by omega) rfl ⟨hl.own, hl.is, hl.lay, hl.far, hl.apart, hl.dep, hl.fil⟩
theorem SuM.files (h : SuM w0 w B g b1 r pb cap ys x) {p : Bs} {v' : Value} (hown : w'.ownsRow b1 9 1 v' (x.S.fl.length + 1) (strR x.S.fl ++ [.string (mkS p)])) (hg : w.grownBy w' x.fs.ownBlock) (hat : v'.ownBlock = x.fs.ownBlock ∨ v'.ownBlock = some w.heap.size) :
    SuM w0 (w'.setCell ⟨pb, ys.length * 12 + 11, none⟩ v') B g b1 r pb cap ys ⟨⟨x.S.T, x.S.D, x.S.fl ++ [p]⟩, x.ss, x.rs, x.F, v'⟩ ∧ Moved w (w'.setCell ⟨pb, ys.length * 12 + 11, none⟩ v') pb x ⟨⟨x.S.T, x.S.D, x.S.fl ++ [p]⟩, x.ss, x.rs, x.F, v'⟩ := by
  obtain ⟨_, cs, hpk⟩ := h.pkB
  have hpl := hpk.lt
  have ht := grown_turned hg
  have hRo : ∀ k ∈ x.fs.ownBlock.toList, b1 ≤ k ∧ (∀ cs, ¬ Blk w k 37 cs) ∧ (∀ cs, ¬ Blk w k 67 cs) ∧ ∀ cs, ¬ Blk w k 39 cs := fun k hk => by
    have hk : x.fs.ownBlock = some k := by simpa using hk
    obtain ⟨cs', hb⟩ := own_blk h.last.fil hk
    exact ⟨(h.last.fil.lt k hk).1, fun cs hc => Blk.kind hb hc (by decide) rfl, fun cs hc => Blk.kind hb hc (by decide) rfl, fun cs hc => Blk.kind hb hc (by decide) rfl⟩
  have hT : Turned (pb :: x.fs.ownBlock.toList) w (w'.setCell ⟨pb, ys.length * 12 + 11, none⟩ v') := (ht.more (fun k hk => List.mem_cons_of_mem _ hk)).setCell (.inl (by simp)) _
  have hdn : ∀ k ∈ pb :: x.fs.ownBlock.toList, ∀ cs, ¬ Blk w k 39 cs := fun k hk cs' hc => by
    rcases List.mem_cons.1 hk with rfl | hk
    · exact Blk.kind hc hpk (by decide) rfl
    · exact (hRo k hk).2.2.2 _ hc
  refine ⟨h.put ht (fun k hk => ⟨(hRo k hk).1, (hRo k hk).2.1, (hRo k hk).2.2.1⟩) (j := 11) (by omega) rfl ⟨fun i hi => own_turned (h.last.own i hi) hT (fun k hk hm => ?_), h.last.is, fun i hi y hy => Ev.Lay.stay (fun _ h => h) (Ev.StayS.turned hT (fun b hb hm => ?_)) y.1 y.2 (h.last.lay i hi y hy), h.last.far, h.last.apart, fun b hb => ?_, ?_⟩, ⟨⟨x.fs.ownBlock.toList, hT, fun k hk => .inl (by simpa using hk)⟩, fun k hk => ?_⟩⟩
  · obtain ⟨cs', hb⟩ := own_blk (h.last.own i hi) hk
    exact hdn k hm cs' hb
  · obtain ⟨hl, cs', hc⟩ := h.last.dep b hb
    exact hdn b hm cs' hc
  · obtain ⟨hl, cs', hc⟩ := h.last.dep b hb
    exact ⟨hl, cs', hc.turned hT (fun hm => hdn b hm cs' hc)⟩
  · show ((w'.setCell ⟨pb, ys.length * 12 + 11, none⟩ v')).ownsRow b1 9 1 v' (x.S.fl ++ [p]).length (strR (x.S.fl ++ [p]))
    have e : strR (x.S.fl ++ [p]) = strR x.S.fl ++ [.string (mkS p)] := by unfold strR; rw [List.map_append]; rfl
    rw [e, List.length_append]
    refine own_setCell hown (fun hk => ?_) _
    rcases hat with h1 | h1
    · rw [h1] at hk
      obtain ⟨cs', hb⟩ := own_blk h.last.fil hk
      exact Blk.kind hb hpk (by decide) rfl
    · rw [h1] at hk
      injection hk with hk
      have hk : w.heap.size = pb := hk
      omega
  · rcases hat with h1 | h1
    · exact .inl (by rw [← h1]; exact hk)
    · have hk : v'.ownBlock = some k := hk
      rw [h1] at hk
      injection hk with hk
      exact .inr (by omega)
theorem Moved.behind {w1 : World} {x' : Sk5} (h : Moved w1 w' pb x x') (hb : Below w.heap.size w w1) : Moved w w' pb x x' := by
  obtain ⟨⟨R, h1, h2⟩, h3⟩ := h
  refine ⟨⟨R, (Turned.of_below hb _).trans h1 (Fresh.refl _ _), h2⟩, fun k hk => ?_⟩
  rcases h3 k hk with h4 | h4
  · exact .inl h4
  · exact .inr (Nat.le_trans hb.size h4)
theorem SuM.cellT (h : SuM w0 w B g b1 r pb cap ys x) {R : List Nat} (ht : Turned R w w') (hp : pb ∉ R) : (∀ {j : Nat} {u : Value}, x.row[j]? = some u → w'.cell? ⟨pb, ys.length * 12 + j, none⟩ = some u) ∧ ∀ i, w'.frozen? ⟨pb, i, none⟩ = false := by
  obtain ⟨_, cs, hpk⟩ := h.pkB
  have hpk' := hpk.turned ht hp
  refine ⟨fun {j u} hu => ?_, fun i => hpk'.free i⟩
  have h1 := h.cell hu
  rw [hpk.cell] at h1
  rw [hpk'.cell]
  exact h1
theorem SuM.not_str (h : SuM w0 w B g b1 r pb cap ys x) : pb ∉ x.fs.ownBlock.toList := fun hm => by
  obtain ⟨_, cs, hpk⟩ := h.pkB
  obtain ⟨cs', hb⟩ := own_blk h.last.fil (by simpa using hm)
  exact Blk.kind hb hpk (by decide) rfl
set_option maxHeartbeats 1000000 in
set_option maxRecDepth 100000 in
theorem act_vnd (h : SuM w0 w B g b1 r pb cap ys x) (v : Bs) (hv : v.length ≤ 40000) : Calls Tryz.prog 134 #[.pointer (some ⟨pb, ys.length * 12, none⟩), .string (mkS v)] w fun e w' => e = .returned (.bool true) ∧ ∃ x', x'.S = ⟨updF x.S.T 3 v, x.S.D, x.S.fl⟩ ∧ SuM w0 w' B g b1 r pb cap ys x' ∧ Moved w w' pb x x' := by
  have C := Lib.hid (clone_any (mkS v) w (by rw [mkS_size]; exact hv))
  have H := Lib.hid h
  clear h hv
  go_enter Tryz.func134, Tryz.ntmps134
  go_wp2_with fail
  refine C.out.mono ?_
  rintro e w1 ⟨rfl, hb⟩
  have H1 := Lib.hid (H.out.below hb)
  have HB := Lib.hid hb
  have c0 := H1.out.cell (j := 3) rfl
  have f0 := H1.out.free (ys.length * 12 + 3)
  clear hb C H
  go_wp2_with fail
  go_ret
  exact ⟨rfl, _, rfl, H1.out.text v, ⟨[], (Turned.of_below HB.out [pb]).setCell (.inl (by simp)) _, fun k hk => by cases hk⟩, fun k hk => .inl hk⟩
set_option maxHeartbeats 4000000 in
set_option maxRecDepth 100000 in
theorem act_fls (h : SuM w0 w B g b1 r pb cap ys x) (v : Bs) (hv : v.length ≤ 40000) (hn : x.S.fl.length ≤ 100000) : Calls Tryz.prog 135 #[.pointer (some ⟨pb, ys.length * 12, none⟩), .string (mkS v)] w fun e w' => e = .returned (.bool true) ∧ ∃ x', x'.S = ⟨x.S.T, x.S.D, x.S.fl ++ [dTrim v]⟩ ∧ SuM w0 w' B g b1 r pb cap ys x' ∧ Moved w w' pb x x' := by
  obtain ⟨is_, zs, his, hzs, hzs1, hzs2, hzs3⟩ := info_str
  have HIS := Lib.hid his
  have CT := Lib.hid (fun wx => dTrim_any v (by omega) wx)
  have hla : Hid (mkS dLayS = ⟨#[32, 9]⟩) := rfl
  rw [hla.out] at CT
  have CC := Lib.hid (fun wx => clone_any (mkS (dTrim v)) wx (by rw [mkS_size]; exact Nat.le_trans (dTrim_len v) hv))
  have H := Lib.hid h
  have HF := Lib.hid (fun wx (hb : Below w.heap.size w wx) => h.below hb)
  have c0 := h.cell (j := 11) rfl
  obtain ⟨Af, cf, hfv, hcf1, hcf2⟩ := own_form' h.last.fil
  have hr12 : x.row[11]? = some x.fs := rfl
  clear h hv hla his
  go_enter Tryz.func135, Tryz.ntmps135
  go_upto_region 1 with fail
  go_region_law (first
    | (go_simp; go_at_call 42; refine (CT.out _).mono ?_; rintro e w1 ⟨rfl, hb1⟩; have hb1' : Below w.heap.size w w1 := (by first | exact (Below.refl w.heap.size w).drew.trans hb1 | exact hb1 | exact (below_drewN' (Below.refl w.heap.size w) 1).trans hb1); have HB1 := Lib.hid hb1'; have c1 := (HF.out w1 hb1').cell (j := 11) hr12; clear hb1 hb1')
    | (go_simp; go_at_call 48; refine (CC.out _).mono ?_; rintro e w2 ⟨rfl, hb2⟩; have HB2 := Lib.hid (HB1.out.trans (hb2.mono HB1.out.size)); have c2 := (HF.out w2 HB2.out).cell (j := 11) hr12; have H3 : Hid (SuM w0 (w2.alloc (.cells #[.string (mkS (dTrim v))] 9)) B g b1 r pb cap ys x) := (HF.out w2 HB2.out).below ((Below.refl _ _).alloc (Nat.le_refl _) _); have HO3 : Hid ((w2.alloc (.cells #[.string (mkS (dTrim v))] 9)).ownsRow b1 9 1 (.slice Af x.S.fl.length cf) x.S.fl.length (strR x.S.fl)) := (by rw [← hfv]; exact H3.out.last.fil); have HCN : Hid (∀ (j : Nat) u, [Value.string (mkS (dTrim v))][j]? = some u → (w2.alloc (.cells #[.string (mkS (dTrim v))] 9)).cell? ((⟨w2.heap.size, 0, none⟩ : Addr).add j) = some u) := cell_one_new _ _ _; have hsz3 := H3.out.le.2.2; have c3 := H3.out.cell (j := 11) hr12; clear hb2)
    | (refine step_append_at rfl (.tmp 9) (.tmp 13) 32 rfl b1 9 is_ zs 1 16 Tryz.underlying32 HIS.out hzs hzs2 hzs3 hzs1 (by decide) (.slice Af x.S.fl.length cf) x.S.fl.length (strR x.S.fl) (by simp [Act.eval, Act.put]) HO3.out ⟨w2.heap.size, 0, none⟩ 1 1 [.string (mkS (dTrim v))] (by simp [Act.eval, Act.put]) rfl HCN.out (fun u hu => by simp at hu; subst hu; rfl) (by unfold maxLen; omega) (by omega) hsz3 ?_; intro v4 w4 hown4 hg4 hat4; rw [← hfv] at hg4 hat4; have HFI := Lib.hid (SuM.files H3.out hown4 hg4 hat4); have hT4 := H3.out.cellT (grown_turned hg4) H3.out.not_str; have c4 := hT4.1 (j := 11) hr12; have f4 := hT4.2 (ys.length * 12 + 11); have HV4 := Lib.hid (own_form' hown4); obtain ⟨A4, cc4, rfl, hn4, hm4⟩ := own_form' hown4; clear hown4 hg4 hat4 hT4))
  all_goals
    have HMV := Lib.hid (HFI.out.2.behind (HB2.out.trans ((show Below w2.heap.size w2 (w2.alloc (.cells #[.string (mkS (dTrim v))] 9)) from (Below.refl _ _).alloc (Nat.le_refl _) _).mono HB2.out.size)))
    have HSM := Lib.hid HFI.out.1
    clear HFI HV4 c4 f4
    go_wp2_with fail
    go_ret
    exact ⟨rfl, _, rfl, HSM.out, HMV.out⟩
end
end Go.Proofs.YtdhgiammfpjniaaGreatDoor

/- What a tag means is done with a value: the dependencies. -/
namespace Go.Proofs.YtdhgiammfpjniaaGreatDoor
set_option linter.unusedSimpArgs false
set_option linter.unusedVariables false
open Go.RowKit Go.MapKept

theorem info_dep5 : ∃ i z, Tryz.prog.info? 39 = some i ∧ i.zero = some z ∧ z.cells.size = 5 ∧ i.size = 5 ∧ i.bytes = 72 := by
  have h : (Tryz.prog.info? 39).map (fun i => (i.zero.map fun z => z.cells.size, i.size, i.bytes)) = some (some 5, 5, 72) := by kernel_rfl
  obtain ⟨i, hi, h2⟩ := Option.map_eq_some_iff.1 h
  simp only [Prod.mk.injEq] at h2
  obtain ⟨z, hz, hz1⟩ := Option.map_eq_some_iff.1 h2.1
  exact ⟨i, z, hi, hz, hz1, h2.2.1, h2.2.2⟩
section
variable {w0 w w' : World} {B g b1 : Nat} {r : Bs} {pb cap : Nat} {ys : List Sk5} {x : Sk5}
theorem rowK_put (T : Nat → Bs) (ss : Nat → Value) (fs v : Value) : ∀ i, i < 7 → (rowK T ss fs).set (4 + i) v = rowK T (updF ss i v) fs
  | 0, _ => rfl
  | 1, _ => rfl
  | 2, _ => rfl
  | 3, _ => rfl
  | 4, _ => rfl
  | 5, _ => rfl
  | 6, _ => rfl
  | n + 7, h => by omega
theorem rowK_at (T : Nat → Bs) (ss : Nat → Value) (fs : Value) : ∀ i, i < 7 → (rowK T ss fs)[4 + i]? = some (ss i)
  | 0, _ => rfl
  | 1, _ => rfl
  | 2, _ => rfl
  | 3, _ => rfl
  | 4, _ => rfl
  | 5, _ => rfl
  | 6, _ => rfl
  | n + 7, h => by omega
theorem SuM.deps (h : SuM w0 w B g b1 r pb cap ys x) {i : Nat} (hi : i < 7) {d : Ev.Dep} {t : Value} {G : List Nat} (hd : Ev.Lay w (fun b => b ∈ G) d t) (hG : ∀ b ∈ G, b1 ≤ b ∧ (∃ cs, Blk w b 39 cs) ∧ (∀ j, j < 7 → (x.ss j).ownBlock ≠ some b)) {v' : Value} (hown : w'.ownsRow b1 39 5 v' ((x.rs i).length + 1) (Ev.cells5 (x.rs i) ++ Ev.cells5 [(d, t)])) (hg : w.grownBy w' (x.ss i).ownBlock) (hat : v'.ownBlock = (x.ss i).ownBlock ∨ v'.ownBlock = some w.heap.size) :
    SuM w0 (w'.setCell ⟨pb, ys.length * 12 + (4 + i), none⟩ v') B g b1 r pb cap ys ⟨⟨x.S.T, updF x.S.D i (x.S.D i ++ [d]), x.S.fl⟩, updF x.ss i v', updF x.rs i (x.rs i ++ [(d, t)]), G ++ x.F, x.fs⟩ ∧ Moved w (w'.setCell ⟨pb, ys.length * 12 + (4 + i), none⟩ v') pb x ⟨⟨x.S.T, updF x.S.D i (x.S.D i ++ [d]), x.S.fl⟩, updF x.ss i v', updF x.rs i (x.rs i ++ [(d, t)]), G ++ x.F, x.fs⟩ := by
  obtain ⟨_, cs, hpk⟩ := h.pkB
  have hpl := hpk.lt
  have ht := grown_turned hg
  have hRo : ∀ k ∈ (x.ss i).ownBlock.toList, (x.ss i).ownBlock = some k ∧ b1 ≤ k ∧ (∀ cs, ¬ Blk w k 37 cs) ∧ (∀ cs, ¬ Blk w k 67 cs) ∧ ∀ cs, ¬ Blk w k 9 cs := fun k hk => by
    have hk : (x.ss i).ownBlock = some k := by simpa using hk
    obtain ⟨cs', hb⟩ := own_blk (h.last.own i hi) hk
    exact ⟨hk, ((h.last.own i hi).lt k hk).1, fun cs hc => Blk.kind hb hc (by decide) rfl, fun cs hc => Blk.kind hb hc (by decide) rfl, fun cs hc => Blk.kind hb hc (by decide) rfl⟩
  have hT : Turned (pb :: (x.ss i).ownBlock.toList) w (w'.setCell ⟨pb, ys.length * 12 + (4 + i), none⟩ v') := (ht.more (fun k hk => List.mem_cons_of_mem _ hk)).setCell (.inl (by simp)) _
  have hvlt : ∀ k, v'.ownBlock = some k → (x.ss i).ownBlock = some k ∨ k = w.heap.size := fun k hk => by
    rcases hat with e | e
    · exact .inl (by rw [← e]; exact hk)
    · rw [e] at hk
      injection hk with hk
      exact .inr hk.symm
  have hall : ∀ b ∈ G ++ x.F, b1 ≤ b ∧ (∃ cs, Blk w b 39 cs) ∧ (∀ j, j < 7 → (x.ss j).ownBlock ≠ some b) := fun b hb => by
    rcases List.mem_append.1 hb with hb | hb
    · exact hG b hb
    · obtain ⟨h1, h2⟩ := h.last.dep b hb
      exact ⟨h1, h2, fun j hj => h.last.far j hj b hb⟩
  have hnm : ∀ b ∈ G ++ x.F, b ∉ pb :: (x.ss i).ownBlock.toList := fun b hb hm => by
    obtain ⟨_, ⟨cs', hc⟩, h3⟩ := hall b hb
    rcases List.mem_cons.1 hm with rfl | hm
    · exact Blk.kind hc hpk (by decide) rfl
    · exact h3 i hi (hRo b hm).1
  have hst : Ev.StayS (fun b => b ∈ G ++ x.F) w (w'.setCell ⟨pb, ys.length * 12 + (4 + i), none⟩ v') := Ev.StayS.turned hT (fun b hb hm => hnm b hb hm)
  refine ⟨h.put ht (fun k hk => ⟨(hRo k hk).2.1, (hRo k hk).2.2.1, (hRo k hk).2.2.2.1⟩) (j := 4 + i) (by omega) (rowK_put _ _ _ _ i hi).symm ⟨fun j hj => ?_, fun j hj => ?_, fun j hj y hy => ?_, fun j hj b hb hv => ?_, fun j k hj hk hne q hq hq2 => ?_, fun b hb => ?_, ?_⟩, ⟨⟨(x.ss i).ownBlock.toList, hT, fun k hk => .inr ⟨i, hi, (hRo k hk).1⟩⟩, fun k hk => .inl hk⟩⟩
  · show (w'.setCell _ v').ownsRow b1 39 5 (updF x.ss i v' j) (updF x.rs i (x.rs i ++ [(d, t)]) j).length (Ev.cells5 (updF x.rs i (x.rs i ++ [(d, t)]) j))
    by_cases e : j = i
    · subst e
      rw [updF_same, updF_same, List.length_append, Ev.cells5_append]
      refine own_setCell hown (fun hk => ?_) _
      rcases hvlt _ hk with e2 | e2
      · obtain ⟨cs', hb⟩ := own_blk (h.last.own j hj) e2
        exact Blk.kind hb hpk (by decide) rfl
      · have e2 : pb = w.heap.size := e2
        omega
    · rw [updF_other _ _ e, updF_other _ _ e]
      refine own_turned (h.last.own j hj) hT (fun k hk hm => ?_)
      rcases List.mem_cons.1 hm with rfl | hm
      · obtain ⟨cs', hb⟩ := own_blk (h.last.own j hj) hk
        exact Blk.kind hb hpk (by decide) rfl
      · exact h.last.apart j i hj hi e k hk (hRo k hm).1
  · show (updF x.rs i (x.rs i ++ [(d, t)]) j).map Prod.fst = updF x.S.D i (x.S.D i ++ [d]) j
    by_cases e : j = i
    · subst e
      rw [updF_same, updF_same, List.map_append, h.last.is j hj]
      rfl
    · rw [updF_other _ _ e, updF_other _ _ e]
      exact h.last.is j hj
  · have hy : y ∈ updF x.rs i (x.rs i ++ [(d, t)]) j := hy
    show Ev.Lay _ (fun b => b ∈ G ++ x.F) y.1 y.2
    by_cases e : j = i
    · subst e
      rw [updF_same] at hy
      rcases List.mem_append.1 hy with hy | hy
      · exact Ev.Lay.stay (fun _ h => h) hst y.1 y.2 (Ev.Lay.stay (fun b hb => List.mem_append_right _ hb) (Ev.StayS.refl _ _) y.1 y.2 (h.last.lay j hj y hy))
      · rw [List.mem_singleton.1 hy]
        exact Ev.Lay.stay (fun _ h => h) hst d t (Ev.Lay.stay (fun b hb => List.mem_append_left _ hb) (Ev.StayS.refl _ _) d t hd)
    · rw [updF_other _ _ e] at hy
      exact Ev.Lay.stay (fun _ h => h) hst y.1 y.2 (Ev.Lay.stay (fun b hb => List.mem_append_right _ hb) (Ev.StayS.refl _ _) y.1 y.2 (h.last.lay j hj y hy))
  · have hv : (updF x.ss i v' j).ownBlock = some b := hv
    have hb : b ∈ G ++ x.F := hb
    obtain ⟨_, ⟨cs', hc⟩, h3⟩ := hall b hb
    by_cases e : j = i
    · subst e
      rw [updF_same] at hv
      rcases hvlt b hv with e2 | e2
      · exact h3 j hj e2
      · have := hc.lt
        omega
    · rw [updF_other _ _ e] at hv
      exact h3 j hj hv
  · have hqa : (updF x.ss i v' j).ownBlock = some q := hq
    have hqb : (updF x.ss i v' k).ownBlock = some q := hq2
    clear hq hq2
    have hlt : ∀ j, j < 7 → ∀ k, (x.ss j).ownBlock = some k → k < w.heap.size := fun j hj k hk => own_lt (h.last.own j hj) hk
    by_cases e : j = i
    · subst e
      rw [updF_same] at hqa
      rw [updF_other _ _ (fun e => hne e.symm)] at hqb
      rcases hvlt q hqa with e2 | e2
      · exact h.last.apart j k hj hk hne q e2 hqb
      · have := hlt k hk q hqb
        omega
    · rw [updF_other _ _ e] at hqa
      by_cases e3 : k = i
      · subst e3
        rw [updF_same] at hqb
        rcases hvlt q hqb with e2 | e2
        · exact h.last.apart j k hj hk hne q hqa e2
        · have := hlt j hj q hqa
          omega
      · rw [updF_other _ _ e3] at hqb
        exact h.last.apart j k hj hk hne q hqa hqb
  · have hb : b ∈ G ++ x.F := hb
    obtain ⟨h1, ⟨cs', hc⟩, _⟩ := hall b hb
    exact ⟨h1, cs', hc.turned hT (hnm b hb)⟩
  · refine own_turned h.last.fil hT (fun k hk hm => ?_)
    obtain ⟨cs', hb⟩ := own_blk h.last.fil hk
    rcases List.mem_cons.1 hm with rfl | hm
    · exact Blk.kind hb hpk (by decide) rfl
    · exact (hRo k hm).2.2.2.2 _ hb
/-- The blocks of a predicate, as a list. -/
theorem blocks_list {w : World} {S : Nat → Prop} (hS : ∀ b, S b → b < w.heap.size) : ∃ G : List Nat, ∀ b, b ∈ G ↔ S b := by
  classical
  refine ⟨(List.range w.heap.size).filter fun b => decide (S b), fun b => ?_⟩
  rw [List.mem_filter, List.mem_range]
  exact ⟨fun h => of_decide_eq_true h.2, fun h => ⟨hS b h, decide_eq_true h⟩⟩
end
/-- What the dependencies' meaning answers (proved in SuJ). -/
def ActDepOk : Prop := ∀ (w0 w : World) (B g b1 : Nat) (r : Bs) (pb cap : Nat) (ys : List Sk5) (x : Sk5) (i cb : Nat) (v : Bs), SuM w0 w B g b1 r pb cap ys x → i < 7 → Blk w cb 127 #[fcV (dlF i)] → v.length ≤ 40000 → (x.rs i).length ≤ 100000 → Ev.Tabs w →
    Calls Tryz.prog 136 #[.pointer (some ⟨pb, ys.length * 12, none⟩), .string (mkS v), .pointer (some ⟨cb, 0, none⟩)] w fun e w' => match (Ev.parseD v).1 with
      | some d => e = .returned (.bool true) ∧ ∃ x', x'.S = ⟨x.S.T, updF x.S.D i (x.S.D i ++ [d]), x.S.fl⟩ ∧ SuM w0 w' B g b1 r pb cap ys x' ∧ Moved w w' pb x x'
      | none => e = .returned (.bool false) ∧ Below B w0 w'
end Go.Proofs.YtdhgiammfpjniaaGreatDoor
