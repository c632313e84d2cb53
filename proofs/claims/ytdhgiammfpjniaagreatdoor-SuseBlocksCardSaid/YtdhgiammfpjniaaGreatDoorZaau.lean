/- A stanza is read: the walk. -/
import Derived.Test.YtdhgiammfpjniaaGreatDoorZaat
import Derived.Deep.LoopGhost
/- A stanza is read: the walk. -/
namespace Go.Proofs.YtdhgiammfpjniaaGreatDoor
set_option linter.unusedSimpArgs false
set_option linter.unusedVariables false
open Go.RowKit Go.MapKept

theorem dLay_ok : Seps dLayS := ⟨by decide, by decide, by decide⟩
theorem MaxAt.from {w w' : World} (h : MaxAt w) (hb : Below w.heap.size w w') : MaxAt w' := h.below hb
theorem readX_nil {n : Nat} {s : Stz} {last : Bs} : readX (n + 1) [] s last = some (s, []) := if_pos rfl
theorem readX_cons {n : Nat} {t : Bs} {s : Stz} {last : Bs} (h : t ≠ []) : readX (n + 1) t s last = match stepX (Lib.cut t [10]).1 s last with
    | .stop => some (s, (Lib.cut t [10]).2.1)
    | .bad => none
    | .go s' l' => readX n (Lib.cut t [10]).2.1 s' l' := if_neg h
theorem indexLay_any (b : UInt8) (w : World) : Calls Tryz.prog 43 #[.string ⟨#[32, 9]⟩, .int .u8 (b.toNat : Int)] w fun e w' => e = .returned (.int .i64 (Lib.indexByte [32, 9] b)) ∧ w' = w := by
  have := Tryz.strings_IndexByte ⟨#[32, 9]⟩ (b.toNat : Int) w
  have e : ((b.toNat : Int)).toNat.toUInt8 = b := by simp
  rw [e] at this
  exact this
set_option maxHeartbeats 8000000 in
set_option maxRecDepth 1000000 in
theorem read_any (l : Bs) (hl : l.length ≤ 40000) (w : World) (hM : MaxAt w) :
    Calls Tryz.prog 21 #[.string (mkS l)] w (ReadPost w (readX (l.length + 1) l [] [])) := by
  have hmm : ∀ w : World, (Instr.makeMap 41 none).run Tryz.prog w = .ok (.map (some w.heap.size)) (w.alloc (.map #[] 0)) := fun w => by simp [Instr.makeMap, Result.andThen]
  obtain ⟨is_, zs, his, hzs, hzs1, hzs2, hzs3⟩ := info_str
  have HIS := Lib.hid his
  have HM := Lib.hid hM
  have C1 := Lib.hid (fun (t : Bs) (ht : t.length ≤ 40000) wx (h : MaxAt wx) => cutc_any 10 t ht wx h)
  have C2 := Lib.hid (fun (t : Bs) (ht : t.length ≤ 40000) wx (h : MaxAt wx) => cutc_any 58 t ht wx h)
  have CT := Lib.hid (fun (p : Bs) (hp : p.length ≤ 40000) wx => dTrim_any p (by omega) wx)
  have CB := Lib.hid (fun (p : Bs) (hp : p.length ≤ 40000) wx => contains_any dLay_ok p (by omega) wx)
  have hnl : Hid (mkS [10] = ⟨#[10]⟩) := rfl
  have hco : Hid (mkS [58] = ⟨#[58]⟩) := rfl
  have hla : Hid (mkS dLayS = ⟨#[32, 9]⟩) := rfl
  have hel : Hid (mkS [] = ⟨#[]⟩) := rfl
  rw [hnl.out] at C1
  rw [hco.out] at C2
  rw [hla.out] at CT CB
  clear hnl hco hla hM his
  obtain ⟨X, hX⟩ : ∃ X, X = readX (l.length + 1) l [] [] := ⟨_, rfl⟩
  rw [← hX]
  have HX : Hid (readX (l.length + 1) l [] [] = X) := hX.symm
  clear hX
  obtain ⟨w1, hw1⟩ : ∃ w1, w1 = w.alloc (.map #[] 0) := ⟨_, rfl⟩
  have S1 : Hid (SzAt w1 w.heap.size w.heap.size [] []) := by rw [hw1]; exact ⟨map_new w, trivial⟩
  have HB1 : Hid (Below w.heap.size w w1) := by rw [hw1]; exact (Below.refl _ _).alloc (Nat.le_refl _) _
  have HA1 : Hid (ApV []) := List.Pairwise.nil
  have hN : l.length < l.length + 1 := by omega
  generalize l.length + 1 = N at *
  go_enter Tryz.func21, Tryz.ntmps21
  go_wp2_with fail
  go_step3
  go_wp2_with fail
  rw [← hw1]
  clear hw1
  go_step3
  go_wp2_with fail
  go_loopg [0, 6] N (fun gk v0 v6 wx => ∃ (t : Bs) (s : Stz) (vs : List Value) (last : Bs), v0 = .string (mkS t) ∧ v6 = .string (mkS last) ∧ Hid (SzAt wx w.heap.size w.heap.size s vs) ∧ Hid (ApV vs) ∧ Hid (Below w.heap.size w wx) ∧ wtS s + 2 * t.length ≤ 80000 ∧ t.length < gk ∧ Hid (readX gk t s last = X))
  case atStart => exact ⟨l, [], [], [], rfl, rfl, S1, HA1, HB1, by show 0 + _ ≤ _; omega, hN, HX⟩
  case round =>
    obtain ⟨t, s, vs, last, rfl, rfl, HS, HA, HB, hwt, hlt, HXk⟩ := hrel
    clear S1 HA1 HB1 HX hN
    obtain ⟨g1, hg1⟩ : ∃ g1, gk = g1 + 1 := ⟨gk - 1, by omega⟩
    have hXk := HXk.out
    rw [hg1] at hXk
    clear HXk
    by_cases ht0 : t = []
    · have he : (mkS t).toList.isEmpty = true := by rw [isEmpty_mkS, ht0]; rfl
      rw [ht0, readX_nil] at hXk
      have HXe := Lib.hid hXk.symm
      have HT : Hid (mkS t = mkS []) := by rw [ht0]; rfl
      clear hXk ht0
      generalize mkS t = T at *
      go_wp2_with fail
      try simp only [Exit.noGoto, Exit.inBlock, Exit.then, reduceIte]
      try go_wp2_with fail
      try rw [Exit.noGoto_ret]
      go_ret3
      show ReadPost w X _ _
      rw [HXe.out]
      exact ⟨w.heap.size, vs, (by rw [HT.out]; rfl), HS.out, Nat.le_refl _, by omega, HB.out⟩
    have he : (mkS t).toList.isEmpty = false := by rw [isEmpty_mkS]; simpa using ht0
    rw [readX_cons ht0] at hXk
    obtain ⟨l1, _, l3⟩ := cutc_len 10 t
    obtain ⟨l3, l4⟩ := l3 ht0
    have C1k := Lib.hid (C1.out t (by omega) wr (HM.out.from HB.out))
    have CTk := Lib.hid (CT.out (Lib.cut t [10]).1 (by omega))
    clear C1
    generalize (Lib.cut t [10]).1 = ln at *
    generalize (Lib.cut t [10]).2.1 = rest at *
    generalize (Lib.cut t [10]).2.2 = fnd at *
    go_wp2_with fail
    refine C1k.out.mono ?_
    rintro e w2 ⟨rfl, hb⟩
    have HS2 := Lib.hid (HS.out.below hb)
    have HB2 := Lib.hid (HB.out.trans (hb.mono HB.out.size))
    clear hb HS HB C1k
    go_wp2_with fail
    refine (CTk.out _).mono ?_
    rintro e w3 ⟨rfl, hb⟩
    have HS3 := Lib.hid (HS2.out.below hb)
    have HB3 := Lib.hid (HB2.out.trans (hb.mono HB2.out.size))
    clear hb HS2 HB2 CTk
    by_cases hsd : dTrim ln = []
    · have hst : stepX ln s last = .stop := if_pos hsd
      rw [hst] at hXk
      have HXe := Lib.hid hXk.symm
      have he2 : (mkS (dTrim ln)).toList.isEmpty = true := by rw [isEmpty_mkS, hsd]; rfl
      clear hXk hsd hst
      generalize mkS (dTrim ln) = SD at *
      go_wp2_with fail
      try simp only [Exit.noGoto, Exit.inBlock, Exit.then, reduceIte]
      try go_wp2_with fail
      try rw [Exit.noGoto_ret]
      go_ret3
      show ReadPost w X _ _
      rw [HXe.out]
      exact ⟨w.heap.size, vs, rfl, HS3.out, Nat.le_refl _, by omega, HB3.out⟩
    have he2 : (mkS (dTrim ln)).toList.isEmpty = false := by rw [isEmpty_mkS]; simpa using hsd
    have hdl := dTrim_len ln
    obtain ⟨b, ln2, hcons⟩ : ∃ b ln2, ln = b :: ln2 := by
      cases ln with
      | nil => exact absurd rfl hsd
      | cons b r => exact ⟨b, r, rfl⟩
    have hhd : ln.headD 0 = b := by rw [hcons]; rfl
    have hz : 0 < (mkS ln).size := by rw [mkS_size, hcons]; simp
    have hget : (mkS ln)[0]'hz = b := by
      have h1 := byte_at hz
      rw [mkS_list] at h1
      have h2 : ln[0]? = some b := by rw [hcons]; rfl
      rw [h2] at h1
      injection h1 with h1
      exact h1.symm
    by_cases h35 : b = 35
    · have hst : stepX ln s last = .go s last := by
        unfold stepX
        rw [if_neg hsd, if_pos (hhd.trans h35)]
      rw [hst] at hXk
      have HXk := Lib.hid hXk
      have t35 : (((mkS ln)[0].toNat : Int) == 35) = true := by rw [hget, h35]; rfl
      clear hXk hst h35 hget hhd hcons hsd
      generalize mkS (dTrim ln) = SD at *
      generalize mkS ln = LN at *
      go_wp2_with fail
      go_roundg g1
      case measure => omega
      case rel => exact ⟨rest, s, vs, last, rfl, rfl, HS3, HA, HB3, by omega, by omega, HXk⟩
    have t35 : (((mkS ln)[0].toNat : Int) == 35) = false := by
      rw [hget]
      have : b.toNat ≠ 35 := fun e => h35 (UInt8.toNat_inj.1 (by rw [e]; rfl))
      simp
      omega
    by_cases hly : dLay b = false
    · have CI := Lib.hid (fun w => indexLay_any b w)
      rw [(indexLay b).2 hly, ← hget] at CI
      have hst : stepX ln s last = if badN s (Lib.cut ln [58]) = true then .bad else .go (addS s (Lib.cut ln [58]).1 (dTrim (Lib.cut ln [58]).2.1)) (Lib.cut ln [58]).1 := by
        unfold stepX
        rw [if_neg hsd, if_neg (by rw [hhd]; exact h35), hhd, if_pos hly]
      rw [hst] at hXk
      have C2k := Lib.hid (C2.out ln (by omega))
      have CB2 := Lib.hid (CB.out (Lib.cut ln [58]).1 (Nat.le_trans (cutc_len 58 ln).1 (by omega)))
      have CT2 := Lib.hid (CT.out (Lib.cut ln [58]).2.1 (Nat.le_trans (cutc_len 58 ln).2.1 (by omega)))
      have hd2 : (dTrim (Lib.cut ln [58]).2.1).length ≤ ln.length := Nat.le_trans (dTrim_len _) (cutc_len 58 ln).2.1
      unfold badN at hXk
      clear hst h35 hget hhd hcons hsd hly C2 CB CT
      generalize mkS (dTrim ln) = SD at *
      generalize (Lib.cut ln [58]).1 = nm at *
      generalize (Lib.cut ln [58]).2.1 = bh at *
      generalize (Lib.cut ln [58]).2.2 = isd at *
      obtain ⟨LN, hLN⟩ : ∃ LN, LN = mkS ln := ⟨_, rfl⟩
      rw [← hLN] at C2k
      generalize mkS ln = LN' at *
      subst hLN
      go_wp2_with fail
      refine (CI.out _).mono ?_
      rintro e w4 ⟨rfl, rfl⟩
      go_wp2_with fail
      refine (C2k.out _ (HM.out.from HB3.out)).mono ?_
      rintro e w4 ⟨rfl, hb⟩
      have HS4 := Lib.hid (HS3.out.below hb)
      have HB4 := Lib.hid (HB3.out.trans (hb.mono HB3.out.size))
      clear hb HS3 HB3 C2k CI
      cases isd with
      | false =>
        have HXe := Lib.hid hXk.symm
        clear hXk CB2 CT2
        go_wp2_with fail
        try simp only [Exit.noGoto, Exit.inBlock, Exit.then, reduceIte]
        try go_wp2_with fail
        try rw [Exit.noGoto_ret]
        go_ret3
        show ReadPost w X _ _
        rw [HXe.out]
        exact ⟨rfl, HB4.out⟩
      | true =>
        by_cases hnm : nm = []
        · have he3 : (mkS nm).toList.isEmpty = true := by rw [isEmpty_mkS, hnm]; rfl
          rw [hnm] at hXk
          have HXe := Lib.hid hXk.symm
          clear hXk CB2 CT2 hnm
          go_wp2_with fail
          try simp only [Exit.noGoto, Exit.inBlock, Exit.then, reduceIte]
          try go_wp2_with fail
          try rw [Exit.noGoto_ret]
          go_ret3
          show ReadPost w X _ _
          rw [HXe.out]
          exact ⟨rfl, HB4.out⟩
        · have he3 : (mkS nm).toList.isEmpty = false := by rw [isEmpty_mkS]; simpa using hnm
          have he3' : nm.isEmpty = false := by simpa using hnm
          rw [he3'] at hXk
          clear he3' hnm
          generalize hdc : decide (plainN dLayS nm < nm.length) = dc at *
          cases dc with
          | true =>
            have HXe := Lib.hid hXk.symm
            clear hXk CT2 hdc
            go_wp2_with fail
            refine (CB2.out _).mono ?_
            rintro e w5 ⟨rfl, hb⟩
            have HB5 := Lib.hid (HB4.out.trans (hb.mono HB4.out.size))
            clear hb CB2 HS4 HB4
            go_wp2_with fail
            try simp only [Exit.noGoto, Exit.inBlock, Exit.then, reduceIte]
            try go_wp2_with fail
            try rw [Exit.noGoto_ret]
            go_ret3
            show ReadPost w X _ _
            rw [HXe.out]
            exact ⟨rfl, HB5.out⟩
          | false =>
            clear hdc
            have hgot := look_got nm HS4.out.rows
            have hlk := run_lookS (P := Tryz.prog) (k := mkS nm) Tryz.underlying41 Tryz.underlying9 zeroSs (HS4.out.map)
            by_cases hgs : getS s nm = []
            · rw [hgs] at hXk
              have HXk : Hid (readX g1 rest (addS s nm (dTrim bh)) nm = X) := Lib.hid hXk
              rcases hgot with ⟨-, hV⟩ | ⟨g, c, hV, -, -, hne, -⟩
              rotate_left
              · exact absurd hgs hne
              have hlk0 : Hid (∀ w5, Below w4.heap.size w4 w5 → (Instr.lookup 41 (.map (some w.heap.size)) (.string (mkS nm)) false).run Tryz.prog w5 = .ok (.slice none 0 0) w5) := fun w5 hb => by
                have h5 := run_lookS (P := Tryz.prog) (k := mkS nm) Tryz.underlying41 Tryz.underlying9 zeroSs (HS4.out.below hb).map
                rw [h5, hV]
              clear hXk hgs hV hlk
              go_wp2_with fail
              refine (CB2.out _).mono ?_
              rintro e w5 ⟨rfl, hb⟩
              have hlk5 := hlk0.out w5 hb
              have HS5 := Lib.hid (HS4.out.below hb)
              have HB5 := Lib.hid (HB4.out.trans (hb.mono HB4.out.size))
              clear hb CB2 HS4 HB4 hlk0
              go_wp2_with fail
              refine (CT2.out _).mono ?_
              rintro e w6 ⟨rfl, hb⟩
              have HS6 := Lib.hid (HS5.out.below hb)
              have HB6 := Lib.hid (HB5.out.trans (hb.mono HB5.out.size))
              clear hb CT2 HS5 HB5 hlk5
              have hlk := run_lookS (P := Tryz.prog) (k := mkS nm) Tryz.underlying41 Tryz.underlying9 zeroSs HS6.out.map
              have hown := look_own nm HS6.out.rows
              obtain ⟨Ag, cg, hAg, hcg1, hcg2⟩ := own_form' hown
              rw [hAg] at hlk hown
              have hbA : Below w6.heap.size w6 (w6.alloc (.cells #[.string (mkS (dTrim bh))] 9)) := (Below.refl _ _).alloc (Nat.le_refl _) _
              have HO := Lib.hid (own_turned hown (Turned.of_below hbA []) (fun _ _ => by simp))
              have hsa_ := Lib.hid (HS6.out.below hbA)
              have HCN := Lib.hid (cell_one_new w6 (.string (mkS (dTrim bh))) 9)
              have hgl : (getS s nm).length ≤ 80000 := Nat.le_trans (wt_len _) (Nat.le_trans (wt_get nm s) (by omega))
              have hgl2 : ((getS s nm).map fun p => Value.string (mkS p)).length = (getS s nm).length := List.length_map _
              have hba_ := Lib.hid (HB6.out.trans (hbA.mono HB6.out.size))
              have HM7 := Lib.hid (fun (w7 : World) (hg : (w6.alloc (.cells #[.string (mkS (dTrim bh))] 9)).grownBy w7 (Value.slice Ag (getS s nm).length cg).ownBlock) => hsa_.out.map7 HO.out hg)
              have HB7 := Lib.hid (fun (w7 : World) (hg : (w6.alloc (.cells #[.string (mkS (dTrim bh))] 9)).grownBy w7 (Value.slice Ag (getS s nm).length cg).ownBlock) => hba_.out.trans (((Turned.refl (Value.slice Ag (getS s nm).length cg).ownBlock.toList _).grown hg (fun k hk => .inl (by rw [hk]; simp))).below (B := w.heap.size) (fun k hk => (HO.out.lt k (by simpa using hk)).1) hba_.out.size))
              have HP8 := Lib.hid (fun (v7 : Value) (w7 w8 : World) ho hg hat hm7 hm8 ht => hsa_.out.put1 (x := (dTrim bh)) (n := nm) (w7 := w7) (w8 := w8) (v' := v7) HA.out hAg hg hat ho hm7 hm8 ht)
              have hszz : w.heap.size ≤ w6.heap.size := HB6.out.size
              have hwx : wtS (addS s nm (dTrim bh)) = wtS s + ((dTrim bh).length + 1) := wtS_add _ _ _
              clear hown hbA HS6 HB6 HA hsa_ hba_ hAg
              go_wp2_with (first | (at_builtin; refine wpList_append_own_at _ rfl (.tmp 67) (.tmp 69) 32 rfl w.heap.size 9 is_ zs 1 16 Tryz.underlying32 HIS.out hzs hzs2 hzs3 hzs1 (by decide) (.slice Ag (getS s nm).length cg) (getS s nm).length ((getS s nm).map fun p => Value.string (mkS p)) rfl HO.out ⟨w6.heap.size, 0, none⟩ 1 1 [.string (mkS (dTrim bh))] rfl rfl HCN.out (by intro u hu; simp at hu; subst hu; rfl) (by unfold maxLen; omega) (by omega) (by simp; omega) ?_; intro v7 w7 hown7 hg7 hnil7 hat7; have HM7k := Lib.hid (HM7.out w7 hg7); have HB7k := Lib.hid (HB7.out w7 hg7); have HP8k := Lib.hid (fun w8 hm8 ht => HP8.out v7 w7 w8 (by rw [List.map_append]; exact hown7) hg7 hat7 HM7k.out hm8 ht); obtain ⟨A7, c7, hv7, hn7, hm7⟩ := own_form' hown7; subst hv7; clear hown7 hg7 hnil7 hat7 HM7 HB7 HP8) | (at_mapUpdate; refine wpList_put_map _ rfl _ _ _ 41 rfl 9 32 Tryz.underlying41 Tryz.underlying9 w.heap.size (szEs s vs) rfl HM7k.out (mkS nm) _ rfl rfl ?_; intro w8 hm8 ht8; have HP9 := Lib.hid (HP8k.out w8 hm8 ht8); have HB9 := Lib.hid (HB7k.out.trans (ht8.below (B := w.heap.size) (fun k hk => Nat.le_of_eq (List.mem_singleton.1 hk).symm) HB7k.out.size)); clear hm8 ht8 HM7k HB7k HP8k))
              go_roundg g1
              case measure => omega
              case rel => exact ⟨rest, addS s nm (dTrim bh), _, nm, rfl, rfl, Lib.hid HP9.out.1, Lib.hid HP9.out.2, HB9, by rw [hwx]; omega, by omega, HXk⟩
            · have hnb : (!(getS s nm).isEmpty) = true := by simpa using hgs
              rw [hnb] at hXk
              have HXe : Hid (X = none) := Lib.hid (Eq.symm hXk)
              rcases hgot with ⟨h0, -⟩ | ⟨g, c, hV, -, -, -, -⟩
              · exact absurd h0 hgs
              have hlk0 : Hid (∀ w5, Below w4.heap.size w4 w5 → (Instr.lookup 41 (.map (some w.heap.size)) (.string (mkS nm)) false).run Tryz.prog w5 = .ok (.slice (some ⟨g, 0, none⟩) (getS s nm).length c) w5) := fun w5 hb => by
                have h5 := run_lookS (P := Tryz.prog) (k := mkS nm) Tryz.underlying41 Tryz.underlying9 zeroSs (HS4.out.below hb).map
                rw [h5, hV]
              clear hXk hgs hV hlk hnb CT2
              go_wp2_with fail
              refine (CB2.out _).mono ?_
              rintro e w5 ⟨rfl, hb⟩
              have hlk5 := hlk0.out w5 hb
              have HB5 := Lib.hid (HB4.out.trans (hb.mono HB4.out.size))
              clear hb CB2 HS4 HB4 hlk0
              go_wp2_with fail
              try simp only [Exit.noGoto, Exit.inBlock, Exit.then, reduceIte]
              try go_wp2_with fail
              try rw [Exit.noGoto_ret]
              go_ret3
              show ReadPost w X _ _
              rw [HXe.out]
              exact ⟨rfl, HB5.out⟩
    · have hly1 : dLay b = true := by simpa using hly
      obtain ⟨n, hn⟩ : ∃ n, n = Lib.indexByte [32, 9] b := ⟨_, rfl⟩
      have hn0 : 0 ≤ n := by rw [hn]; exact (indexLay b).1 hly1
      have CI := Lib.hid (fun w => indexLay_any b w)
      rw [← hn, ← hget] at CI
      have hn1 : ¬ n < 0 := by omega
      have hst : stepX ln s last = if last = [] then .bad else .go (addS s last (dTrim ln)) last := by
        unfold stepX
        rw [if_neg hsd, if_neg (by rw [hhd]; exact h35), hhd, if_neg hly]
      rw [hst] at hXk
      clear hst h35 hget hhd hcons hsd hly hly1 hn C2 CB CT
      by_cases hla0 : last = []
      · have he4 : (mkS last).toList.isEmpty = true := by rw [isEmpty_mkS, hla0]; rfl
        rw [if_pos hla0] at hXk
        have HXe : Hid (X = none) := Lib.hid (Eq.symm hXk)
        clear hXk hla0
        generalize mkS (dTrim ln) = SD at *
        generalize mkS ln = LN at *
        generalize mkS last = LA at *
        go_wp2_with fail
        refine (CI.out _).mono ?_
        rintro e w4 ⟨rfl, rfl⟩
        go_wp2_with fail
        try simp only [Exit.noGoto, Exit.inBlock, Exit.then, reduceIte]
        try go_wp2_with fail
        try rw [Exit.noGoto_ret]
        go_ret3
        show ReadPost w X _ _
        rw [HXe.out]
        exact ⟨rfl, HB3.out⟩
      · have he4 : (mkS last).toList.isEmpty = false := by rw [isEmpty_mkS]; simpa using hla0
        rw [if_neg hla0] at hXk
        have HXk : Hid (readX g1 rest (addS s last (dTrim ln)) last = X) := Lib.hid hXk
        clear hXk hla0
        generalize mkS ln = LN at *
        go_wp2_with fail
        refine (CI.out _).mono ?_
        rintro e w4 ⟨rfl, rfl⟩
        clear CI
        have hlk := run_lookS (P := Tryz.prog) (k := mkS last) Tryz.underlying41 Tryz.underlying9 zeroSs HS3.out.map
        have hown := look_own last HS3.out.rows
        obtain ⟨Ag, cg, hAg, hcg1, hcg2⟩ := own_form' hown
        rw [hAg] at hlk hown
        have hbA : Below w4.heap.size w4 (w4.alloc (.cells #[.string (mkS (dTrim ln))] 9)) := (Below.refl _ _).alloc (Nat.le_refl _) _
        have HO := Lib.hid (own_turned hown (Turned.of_below hbA []) (fun _ _ => by simp))
        have hsa_ := Lib.hid (HS3.out.below hbA)
        have HCN := Lib.hid (cell_one_new w4 (.string (mkS (dTrim ln))) 9)
        have hgl : (getS s last).length ≤ 80000 := Nat.le_trans (wt_len _) (Nat.le_trans (wt_get last s) (by omega))
        have hgl2 : ((getS s last).map fun p => Value.string (mkS p)).length = (getS s last).length := List.length_map _
        have hba_ := Lib.hid (HB3.out.trans (hbA.mono HB3.out.size))
        have HM7 := Lib.hid (fun (w7 : World) (hg : (w4.alloc (.cells #[.string (mkS (dTrim ln))] 9)).grownBy w7 (Value.slice Ag (getS s last).length cg).ownBlock) => hsa_.out.map7 HO.out hg)
        have HB7 := Lib.hid (fun (w7 : World) (hg : (w4.alloc (.cells #[.string (mkS (dTrim ln))] 9)).grownBy w7 (Value.slice Ag (getS s last).length cg).ownBlock) => hba_.out.trans (((Turned.refl (Value.slice Ag (getS s last).length cg).ownBlock.toList _).grown hg (fun k hk => .inl (by rw [hk]; simp))).below (B := w.heap.size) (fun k hk => (HO.out.lt k (by simpa using hk)).1) hba_.out.size))
        have HP8 := Lib.hid (fun (v7 : Value) (w7 w8 : World) ho hg hat hm7 hm8 ht => hsa_.out.put1 (x := (dTrim ln)) (n := last) (w7 := w7) (w8 := w8) (v' := v7) HA.out hAg hg hat ho hm7 hm8 ht)
        have hszz : w.heap.size ≤ w4.heap.size := HB3.out.size
        have hwx : wtS (addS s last (dTrim ln)) = wtS s + ((dTrim ln).length + 1) := wtS_add _ _ _
        clear hown hbA HS3 HB3 HA hsa_ hba_ hAg
        go_wp2_with (first | (at_builtin; refine wpList_append_own_at _ rfl (.tmp 67) (.tmp 69) 32 rfl w.heap.size 9 is_ zs 1 16 Tryz.underlying32 HIS.out hzs hzs2 hzs3 hzs1 (by decide) (.slice Ag (getS s last).length cg) (getS s last).length ((getS s last).map fun p => Value.string (mkS p)) rfl HO.out ⟨w4.heap.size, 0, none⟩ 1 1 [.string (mkS (dTrim ln))] rfl rfl HCN.out (by intro u hu; simp at hu; subst hu; rfl) (by unfold maxLen; omega) (by omega) (by simp; omega) ?_; intro v7 w7 hown7 hg7 hnil7 hat7; have HM7k := Lib.hid (HM7.out w7 hg7); have HB7k := Lib.hid (HB7.out w7 hg7); have HP8k := Lib.hid (fun w8 hm8 ht => HP8.out v7 w7 w8 (by rw [List.map_append]; exact hown7) hg7 hat7 HM7k.out hm8 ht); obtain ⟨A7, c7, hv7, hn7, hm7⟩ := own_form' hown7; subst hv7; clear hown7 hg7 hnil7 hat7 HM7 HB7 HP8) | (at_mapUpdate; refine wpList_put_map _ rfl _ _ _ 41 rfl 9 32 Tryz.underlying41 Tryz.underlying9 w.heap.size (szEs s vs) rfl HM7k.out (mkS last) _ rfl rfl ?_; intro w8 hm8 ht8; have HP9 := Lib.hid (HP8k.out w8 hm8 ht8); have HB9 := Lib.hid (HB7k.out.trans (ht8.below (B := w.heap.size) (fun k hk => Nat.le_of_eq (List.mem_singleton.1 hk).symm) HB7k.out.size)); clear hm8 ht8 HM7k HB7k HP8k))
        go_roundg g1
        case measure => omega
        case rel => exact ⟨rest, addS s last (dTrim ln), _, last, rfl, rfl, Lib.hid HP9.out.1, Lib.hid HP9.out.2, HB9, by rw [hwx]; omega, by omega, HXk⟩
end Go.Proofs.YtdhgiammfpjniaaGreatDoor
