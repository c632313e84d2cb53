/- The contract of Set. -/
import Derived.Test.YthgagobdkcikiaaDoorSetM
import Derived.Test.YthgagobdkcikiaaDoorPhase
namespace Go.Proofs.YthgagobdkcikiaaDoor
set_option linter.unusedSimpArgs false
set_option linter.unusedVariables false
open Go.RowKit

/-- Till number 9, the store into the map, nothing of what was there has turned. -/
def SAf (w5 : World) (l : Array Bool) (w : World) : Prop := l.getD 9 true = false → Below w5.heap.size w5 w
theorem SAf.io {w5 : World} {i : Nat} (h : i ≠ 9) (l : Array Bool) (w : World) : SAf w5 (l.setIfInBounds i true) w ↔ SAf w5 l w := by
  unfold SAf
  rw [getD_set_ne true h]
theorem may_ok {S : VSt} {id k n : Int} {key s : ByteArray} {ss : List ByteArray} (h : mayE S id key k n s ss = 0) :
    0 ≤ id ∧ id ≤ 65535 ∧ keyB key = true ∧ s.size ≤ 200 ∧ ss.length ≤ 200 ∧ (∀ t, t ∈ ss → t.size ≤ 200) ∧ (S.kind key = none → S.keys.length < 64) ∧ valB k n s ss.length = true := by
  unfold mayE at h
  split at h
  · cases h
  rename_i h1
  split at h
  · cases h
  rename_i h2
  split at h
  · cases h
  rename_i h3
  split at h
  · cases h
  rename_i h4
  refine ⟨by omega, by omega, by simpa using h2, by omega, by omega, fun t ht => ?_, fun hk => ?_, by simpa using h3⟩
  · rcases Nat.lt_or_ge 200 t.size with hl | hl
    · exact absurd (.inr (.inr (any_yes ht (by unfold longS; exact decide_eq_true hl)))) h4
    · exact hl
  · rw [hk] at h
    rw [if_neg (by decide)] at h
    split at h
    · cases h
    · omega
theorem keyB_size {key : ByteArray} (h : keyB key = true) : key.size ≤ 60 := by
  unfold keyB at h
  simp only [Bool.and_eq_true, decide_eq_true_eq] at h
  exact h.1.1.2
def SetOk (w : World) (bs : Nat) (vk : Value) (mk mv : Nat) (vd vp : Value) (S : VSt) (N : Nat) (id : Int) (key : ByteArray) (k n : Int) (s : ByteArray) (ss : List ByteArray) (w' : World) : Prop :=
  ∃ vk' S5 r, Blk w' bs 56 #[vk', .map (some mk), .map (some mv), vd, vp] ∧ ValP w' vk' mk mv (setS S5 key id r) (N + 1) ∧ Turned (vfeet S bs vk mk mv) w w' ∧ (r.1.k = k ∧ r.1.n = n ∧ r.1.s = s) ∧ RowAt w' r.1 ss ∧
    (((S.kind key).isSome = true ∧ S5 = S ∧ vk' = vk) ∨ (S.kind key = none ∧ ∃ nb, w.heap.size ≤ nb ∧ S5 = withKey S key k nb ∧ (vk'.ownBlock = vk.ownBlock ∨ ∃ g, w.heap.size ≤ g ∧ vk'.ownBlock = some g)))
def SetPost (w : World) (bs : Nat) (vk : Value) (mk mv : Nat) (vd vp : Value) (S : VSt) (N : Nat) (id : Int) (key : ByteArray) (k n : Int) (s : ByteArray) (ss : List ByteArray) (e : Ending) (w' : World) : Prop :=
  e = .returned (.int .i64 (mayE S id key k n s ss)) ∧ (mayE S id key k n s ss ≠ 0 → Below w.heap.size w w') ∧ (mayE S id key k n s ss = 0 → SetOk w bs vk mk mv vd vp S N id key k n s ss w')
theorem set_old {w w5 w7 : World} {bs mk mv N ib : Nat} {vk vd vp : Value} {S : VSt} {id k n : Int} {key s : ByteArray} {ss : List ByteArray} {r : RawN} (hb : Below w.heap.size w w5) (hs : (S.kind key).isSome = true) (hi : S.inner key = some ib) (hV : ValP w vk mk mv S N)
    (hF : Blk w7 bs 56 #[vk, .map (some mk), .map (some mv), vd, vp] ∧ ValP w7 vk mk mv (setS S key id r) (N + 1) ∧ Turned [ib] w5 w7 ∧ RowAt w7 r.1 ss) (hr : r.1.k = k ∧ r.1.n = n ∧ r.1.s = s) : SetOk w bs vk mk mv vd vp S N id key k n s ss w7 := by
  refine ⟨vk, S, r, hF.1, hF.2.1, ?_, hr, hF.2.2.2, .inl ⟨hs, rfl, rfl⟩⟩
  refine (Turned.of_below hb _).trans (hF.2.2.1.more (F' := vfeet S bs vk mk mv) fun j hj => ?_) (Fresh.refl _ _)
  simp only [List.mem_singleton] at hj
  subst hj
  unfold vfeet
  simp only [List.mem_cons, List.mem_append]
  exact .inr (.inr (.inr (.inr (List.mem_filterMap.2 ⟨key, (hV.ok.inners key).1 (by rw [hi]; rfl), hi⟩))))
theorem set_new {w w1 w5 w7 : World} {bs mk mv N nb : Nat} {vk vk5 vd vp : Value} {S : VSt} {id k n : Int} {key s : ByteArray} {ss : List ByteArray} {r : RawN} (hb : Below w.heap.size w w1) (hs : S.kind key = none)
    (hT : Turned (bs :: mk :: mv :: vk.ownBlock.toList) w1 w5) (hnb : w1.heap.size ≤ nb) (hown : vk5.ownBlock = vk.ownBlock ∨ ∃ g, w1.heap.size ≤ g ∧ vk5.ownBlock = some g)
    (hF : Blk w7 bs 56 #[vk5, .map (some mk), .map (some mv), vd, vp] ∧ ValP w7 vk5 mk mv (setS (withKey S key k nb) key id r) (N + 1) ∧ Turned [nb] w5 w7 ∧ RowAt w7 r.1 ss) (hr : r.1.k = k ∧ r.1.n = n ∧ r.1.s = s) : SetOk w bs vk mk mv vd vp S N id key k n s ss w7 := by
  have hz := hb.size
  have hz5 := hT.size
  refine ⟨vk5, withKey S key k nb, r, hF.1, hF.2.1, ?_, hr, hF.2.2.2, .inr ⟨hs, nb, by omega, rfl, hown.imp (fun h => h) fun ⟨g, h1, h2⟩ => ⟨g, by omega, h2⟩⟩⟩
  have hT1 : Turned (vfeet S bs vk mk mv) w w5 := (Turned.of_below hb _).trans (hT.more (F' := vfeet S bs vk mk mv) fun j hj => by
    unfold vfeet
    simp only [List.mem_cons, List.mem_append] at hj ⊢
    rcases hj with h | h | h | h
    · exact .inl h
    · exact .inr (.inl h)
    · exact .inr (.inr (.inl h))
    · exact .inr (.inr (.inr (.inl h)))) (Fresh.refl _ _)
  exact hT1.trans hF.2.2.1 fun j hj => .inr (by simp only [List.mem_singleton] at hj; omega)
set_option maxHeartbeats 8000000 in
set_option maxRecDepth 100000 in
theorem set_any (w : World) (bs : Nat) (vk : Value) (mk mv : Nat) (vd vp : Value) (S : VSt) (N : Nat) (hB : Blk w bs 56 #[vk, .map (some mk), .map (some mv), vd, vp]) (hV : ValP w vk mk mv S N) (hN : N < 4611686018427387904) (id : Int) (key : ByteArray) (hkey : key.size ≤ maxLen)
    (k n : Int) (hwk : (Lit.int .i64 k).wf = true) (hwn : okI n) (s : ByteArray) (A : Option Addr) (c : Nat) (ss : List ByteArray) (hA : Rd w w.heap.size A (ss.map Value.string)) (hl : ss.length ≤ c) (hc : c ≤ maxLen) (hnil : A = none → ss = [] ∧ c = 0) (hAf : ss ≠ [] → ∀ b o s, A = some ⟨b, o, s⟩ → b ∉ vfeet S bs vk mk mv) :
    Calls Tryd.prog 14 #[.pointer (some ⟨bs, 0, none⟩), .int .i64 id, .string key, .agg #[.int .i64 k, .int .i64 n, .string s, .slice A ss.length c]] w (SetPost w bs vk mk mv vd vp S N id key k n s ss) := by
  obtain ⟨wb, hwb⟩ : ∃ wb, wb = w.alloc (.cells #[.int .i64 k, .int .i64 n, .string s, .slice A ss.length c] 37) := ⟨_, rfl⟩
  have hbw : Below w.heap.size w wb := by rw [hwb]; exact (Below.refl _ _).alloc (Nat.le_refl _) _
  have hbl := hB.lt
  have hz : wb.heap.size = w.heap.size + 1 := by rw [hwb]; simp
  have hXb : Blk wb w.heap.size 37 #[.int .i64 k, .int .i64 n, .string s, .slice A ss.length c] := by rw [hwb]; exact Blk.new _ _ _
  have hAt : ∀ wx, Below wb.heap.size wb wx → Rd wx wx.heap.size A (ss.map Value.string) := fun wx hb j v hj => by
    obtain ⟨b, o, e1, e2, e3⟩ := hA j v hj
    have hz1 := hb.size
    exact ⟨b, o, e1, by omega, (World.cell?_of_block ((hbw.trans (hb.mono (by omega))).block b e2)).trans e3⟩
  have CM := Lib.hid (maySet_any wb bs vk mk mv vd vp S N (hB.below hbw hbl) (hV.below hbw) id key hkey k n s A c ss (hAt wb (Below.refl _ _)) hl hc)
  have p0 := hXb.cell 0
  have p1 := hXb.cell 1
  have p2 := hXb.cell 2
  have p3 := hXb.cell 3
  simp at p0 p1 p2 p3
  obtain ⟨x, hx⟩ : ∃ x, x = mayE S id key k n s ss := ⟨_, rfl⟩
  have HPOST : Hid (∀ e w', SetPost w bs vk mk mv vd vp S N id key k n s ss e w' = (e = .returned (.int .i64 x) ∧ (x ≠ 0 → Below w.heap.size w w') ∧ (x = 0 → SetOk w bs vk mk mv vd vp S N id key k n s ss w'))) := fun e w' => by rw [hx]; rfl
  have HOK : Hid (x = 0 → _) := fun h => may_ok (hx.symm.trans h)
  rw [← hx] at CM
  have HB := Lib.hid hB
  have HV := Lib.hid hV
  have HBW := Lib.hid hbw
  have HXB := Lib.hid hXb
  have HAT := Lib.hid hAt
  have HNIL := Lib.hid hnil
  have HAF := Lib.hid hAf
  have HCC := Lib.hid (And.intro hkey (And.intro hl hc))
  clear hx hB hV hbw hXb hA hAt hnil hAf hkey hl hc
  obtain ⟨L, hL⟩ : ∃ L, ss.length = L := ⟨_, rfl⟩
  rw [hL] at hwb CM p3 HXB ⊢
  have HLL := Lib.hid hL
  clear hL
  rcases num_cs x 0 with ⟨rfl, -, -⟩ | ⟨x0, x1, x2⟩
  case inr =>
    go_enter Tryd.func14, Tryd.ntmps14
    go_upto_region 3 with fail
    rw [← hwb]
    clear hwb
    go_wp2_with fail
    refine CM.out.mono ?_
    rintro e w1 ⟨rfl, hb1⟩
    have HB1 := Lib.hid (HBW.out.trans (hb1.mono (by omega)))
    clear hb1 CM
    go_wp2_with fail
    go_ret
    rw [HPOST.out]
    exact ⟨rfl, fun _ => HB1.out, fun h => absurd h x0⟩
  case inl =>
    obtain ⟨i0, i1, hkb, hs2, hl2, ht2, hmany, hvb⟩ := HOK.out rfl
    have hk60 := keyB_size hkb
    have HID : Hid (okI id) := by show (Lit.int .i64 id).wf = true; simp [Lit.wf, IntKind.min, IntKind.max, IntKind.signed, IntKind.bits]; omega
    have HKI : Hid (keyOf Tryd.prog 3 (.int .i64 id) = some (kdI id)) := Maps.keyOf_int_mk Tryd.underlying3 HID.out
    have HHT := Lib.hid ht2
    have HMANY := Lib.hid hmany
    have HRO : Hid (∀ r : RawN, r.1.k = k → r.1.n = n → r.1.s = s → RawOk r ss) := fun r h1 h2 h3 => by unfold RawOk; rw [h1, h2, h3]; exact ⟨hs2, hl2, ht2, hwn, hvb⟩
    clear ht2 hmany hkb hvb HOK
    go_enter Tryd.func14, Tryd.ntmps14
    go_upto_region 3 with fail
    rw [← hwb]
    clear hwb
    go_wp2_with fail
    refine CM.out.mono ?_
    rintro e w1 ⟨rfl, hb1⟩
    have hz1 := hb1.size
    have HB1 := Lib.hid (HBW.out.trans (hb1.mono (by omega)))
    have HW1 := Lib.hid hb1
    have HX1 := Lib.hid (HXB.out.below hb1 (by omega))
    have HS1 := Lib.hid (HB.out.below HB1.out hbl)
    have HV1 := Lib.hid (HV.out.below HB1.out)
    have c1 : w1.cell? ⟨bs, 1, none⟩ = some (.map (some mk)) := HS1.out.cell 1
    obtain ⟨D, hM, hAg⟩ := HV1.out.kinds
    have hlk := kind_run hM hAg key HCC.out.1
    clear hM hAg hb1 CM p0 p1 p2 p3
    cases hkd : S.kind key with
    | some kk =>
      rw [hkd] at hlk
      have HIS : Hid ((S.kind key).isSome = true) := by show _ = _; rw [hkd]; rfl
      obtain ⟨ib, hib⟩ : ∃ ib, S.inner key = some ib := by
        have := (HV.out.ok.inners key).2 ((HV.out.ok.kinds key).1 (by rw [hkd]; rfl))
        exact Option.isSome_iff_exists.1 this
      have HIB := Lib.hid hib
      clear hkd hib
      obtain ⟨w5, hw5⟩ : ∃ w5, w5 = w1 := ⟨_, rfl⟩
      have HB5 : Hid (Blk w5 bs 56 #[vk, .map (some mk), .map (some mv), vd, vp]) := by rw [hw5]; exact HS1.out
      have HV5 : Hid (ValP w5 vk mk mv S N) := by rw [hw5]; exact HV1.out
      have HX5 : Hid (Blk w5 w.heap.size 37 #[.int .i64 k, .int .i64 n, .string s, .slice A L c]) := by rw [hw5]; exact HX1.out
      have HLV : Hid (∀ wx, Below w5.heap.size w5 wx → (Instr.lookup 52 (.map (some mv)) (.string key) false).run Tryd.prog wx = .ok (.map (some ib)) wx) := fun wx hb => by
        obtain ⟨E, h1, h2⟩ := (HV5.out.below hb).vals
        have := values_run h1 h2 key HCC.out.1
        rwa [HIB.out] at this
      have CA : Hid (∀ wx, Below w5.heap.size w5 wx → Calls Tryd.prog 27 #[.agg #[.int .i64 k, .int .i64 n, .string s, .slice A L c]] wx fun e w' => Below w5.heap.size w5 w' ∧ ∃ r : RawN, e = .returned (valRN r) ∧ r.1.k = k ∧ r.1.n = n ∧ r.1.s = s ∧ RowAt w' r.1 ss ∧ (r.1.a = none ↔ A = none) ∧ ∀ b, r.1.a = some b → w5.heap.size ≤ b) := fun wx hb => by
        have h := apart_any k n s A c ss wx hs2 HHT.out hl2 (HAT.out wx (HW1.out.trans (by rw [← hw5]; exact hb.mono (by rw [hw5]; omega)))) HNIL.out
        rw [HLL.out] at h
        refine h.mono ?_
        rintro e w' ⟨h1, r, h2, h3, h4, h5, h6, h7, h8⟩
        have hzz := hb.size
        exact ⟨hb.trans (h1.mono hzz), r, h2, h3, h4, h5, h6, h7, fun b hb' => by have := h8 b hb'; omega⟩
      go_upto_region 9 with fail
      rw [← hw5]
      have HW5 := Lib.hid hw5
      clear hw5 c1 hlk
      generalize w1 = w1' at *
      rename_i K hK
      refine wp_region_S (SAf w5) (by kernel_rfl) (fun _ => (Below.refl _ _).drew) (fun hS => ?_)
      refine wpAnyS_take (i := 0) (fun w' => True) (v := .pointer (some ⟨bs, 0, none⟩)) rfl (by kernel_rfl) (by kernel_rfl) (by kernel_rfl) (fun _ _ _ h => h) (fun _ _ _ _ => trivial) (SAf.io (by decide)) (by kernel_rfl) hS (fun w' hSw => ?_) (by rfl) (fun hS => ?_)
      · go_simp
      try simp only [List.getElem_toArray, List.getElem_cons_zero, List.getElem_cons_succ, Act.put, List.setIfInBounds_toArray, List.set_cons_zero, List.set_cons_succ]
      refine wpAnyS_take (i := 1) (fun w' => True) (v := .pointer (some ⟨bs, 0, none⟩)) rfl (by kernel_rfl) (by kernel_rfl) (by kernel_rfl) (fun _ _ _ h => h) (fun _ _ _ _ => trivial) (SAf.io (by decide)) (by kernel_rfl) hS (fun w' hSw => ?_) (by rfl) (fun hS => ?_)
      · go_simp
      try simp only [List.getElem_toArray, List.getElem_cons_zero, List.getElem_cons_succ, Act.put, List.setIfInBounds_toArray, List.set_cons_zero, List.set_cons_succ]
      refine wpAnyS_take (i := 2) (fun w' => True) (v := .pointer (some ⟨bs, 2, none⟩)) rfl (by kernel_rfl) (by kernel_rfl) (by kernel_rfl) (fun _ _ _ h => h) (fun _ _ _ _ => trivial) (SAf.io (by decide)) (by kernel_rfl) hS (fun w' hSw => ?_) (by rfl) (fun hS => ?_)
      · go_simp
      try simp only [List.getElem_toArray, List.getElem_cons_zero, List.getElem_cons_succ, Act.put, List.setIfInBounds_toArray, List.set_cons_zero, List.set_cons_succ]
      refine wpAnyS_take (i := 3) (fun w' => w'.cell? ⟨bs, 2, none⟩ = some (.map (some mv))) (v := .map (some mv)) rfl (by kernel_rfl) (by kernel_rfl) (by kernel_rfl) (fun _ _ _ h => h) (fun l w hw hS => (HB5.out.below (hS (hw 9 (by kernel_rfl))) HB5.out.lt).cell 2) (SAf.io (by decide)) (by kernel_rfl) hS (fun w' hSw => ?_) (by rfl) (fun hS => ?_)
      · go_simp
      try simp only [List.getElem_toArray, List.getElem_cons_zero, List.getElem_cons_succ, Act.put, List.setIfInBounds_toArray, List.set_cons_zero, List.set_cons_succ]
      refine wpAnyS_take (i := 4) (fun w' => True) (v := .string key) rfl (by kernel_rfl) (by kernel_rfl) (by kernel_rfl) (fun _ _ _ h => h) (fun _ _ _ _ => trivial) (SAf.io (by decide)) (by kernel_rfl) hS (fun w' hSw => ?_) (by rfl) (fun hS => ?_)
      · go_simp
      try simp only [List.getElem_toArray, List.getElem_cons_zero, List.getElem_cons_succ, Act.put, List.setIfInBounds_toArray, List.set_cons_zero, List.set_cons_succ]
      refine wpAnyS_take (i := 5) (fun w' => (Instr.lookup 52 (.map (some mv)) (.string key) false).run Tryd.prog w' = .ok (.map (some ib)) w') (v := .map (some ib)) rfl (by kernel_rfl) (by kernel_rfl) (by kernel_rfl) (fun _ _ _ h => h) (fun l w hw hS => HLV.out w (hS (hw 9 (by kernel_rfl)))) (SAf.io (by decide)) (by kernel_rfl) hS (fun w' hSw => ?_) (by rfl) (fun hS => ?_)
      · go_simp
      try simp only [List.getElem_toArray, List.getElem_cons_zero, List.getElem_cons_succ, Act.put, List.setIfInBounds_toArray, List.set_cons_zero, List.set_cons_succ]
      refine wpAnyS_take (i := 6) (fun w' => True) (v := .int .i64 id) rfl (by kernel_rfl) (by kernel_rfl) (by kernel_rfl) (fun _ _ _ h => h) (fun _ _ _ _ => trivial) (SAf.io (by decide)) (by kernel_rfl) hS (fun w' hSw => ?_) (by rfl) (fun hS => ?_)
      · go_simp
      try simp only [List.getElem_toArray, List.getElem_cons_zero, List.getElem_cons_succ, Act.put, List.setIfInBounds_toArray, List.set_cons_zero, List.set_cons_succ]
      refine wpAnyS_take (i := 7) (fun w' => Blk w' w.heap.size 37 #[.int .i64 k, .int .i64 n, .string s, .slice A L c]) (v := .agg #[.int .i64 k, .int .i64 n, .string s, .slice A L c]) rfl (by kernel_rfl) (by kernel_rfl) (by kernel_rfl) (fun _ _ _ h => h) (fun l w hw hS => HX5.out.below (hS (hw 9 (by kernel_rfl))) HX5.out.lt) (SAf.io (by decide)) (by kernel_rfl) hS (fun w' hSw => ?_) (by rfl) (fun hS => ?_)
      · have q0 := hSw.cell 0
        have q1 := hSw.cell 1
        have q2 := hSw.cell 2
        have q3 := hSw.cell 3
        simp at q0 q1 q2 q3
        clear hSw
        go_simp
      try simp only [List.getElem_toArray, List.getElem_cons_zero, List.getElem_cons_succ, Act.put, List.setIfInBounds_toArray, List.set_cons_zero, List.set_cons_succ]
      refine wpAnyS_one (i := 8) (by kernel_rfl) rfl (fun K8 hK8 => ?_)
      go_simp
      refine (CA.out _ (hS (by kernel_rfl))).mono ?_
      rintro e w6 ⟨hb6, r, rfl, r1, r2, r3, r4, r5, r6⟩
      have hd5 : Below w5.heap.size w5 w5.drew := (Below.refl _ _).drew
      have hb56 : Below w5.heap.size w5 w6 := hb6
      refine hK8.out _ _ (fun _ => hb56) (fun hS => ?_)
      clear hK8 K8
      try simp only [List.getElem_toArray, List.getElem_cons_zero, List.getElem_cons_succ, Act.put, List.setIfInBounds_toArray, List.set_cons_zero, List.set_cons_succ]
      refine wpAnyS_one (i := 9) (by kernel_rfl) rfl (fun K9 hK9 => ?_)
      obtain ⟨Di, hmi, hAi⟩ := HV5.out.inn key ib HIB.out
      refine step_mapUpdate_own (H := Unit) rfl (.tmp 43) (.tmp 44) (.tmp 46) 63 rfl 3 37 lawI Tryd.underlying63 rdR ib N Di rfl (map_turned hmi (Turned.of_below hb56 []) (by simp)) (by unfold maxLen; omega) (.int .i64 id) (valRN r) (kdI id) rfl rfl HKI.out (enRN r) [] (rdBy_val valRN_inj r) ?_
      intro w7 hm7 hg7
      refine hK9.out _ _ (fun h => by cases h) (fun hS => ?_)
      clear hK9 K9 hS
      try simp only [List.getElem_toArray, List.getElem_cons_zero, List.getElem_cons_succ, Act.put, List.setIfInBounds_toArray, List.set_cons_zero, List.set_cons_succ]
      refine wpAnyS_done (by kernel_rfl) ?_ _
      have HF := Lib.hid (set_fin HV5.out HB5.out HIB.out HID.out hAi hb56 r4 (HRO.out r r1 r2 r3) r6 hm7 hg7)
      have HRR := Lib.hid (And.intro r1 (And.intro r2 r3))
      clear hm7 hg7 hmi hAi r1 r2 r3 r4 r5 r6 hb6 hb56 hd5
      refine hK _ _ ?_
      clear hK K
      go_wp2_with fail
      go_ret
      rw [HPOST.out]
      exact ⟨rfl, fun h => absurd rfl h, fun _ => set_old (by rw [HW5.out]; exact HB1.out) HIS.out HIB.out HV.out HF.out HRR.out⟩
    | none =>
      rw [hkd] at hlk
      have HKD := Lib.hid hkd
      have CK := Lib.hid (addKey_any w1 bs vk mk mv vd vp S N HS1.out HV1.out key k hwk hk60 hkd (HMANY.out hkd))
      have p0 := HX1.out.cell 0
      simp at p0
      clear hkd
      go_wp2_with fail
      refine CK.out.mono ?_
      rintro e w5 ⟨rfl, vk5, nb, h51, h52, h53, h54, h55⟩
      have HB5 := Lib.hid h51
      have HV5 := Lib.hid h52
      have HT5 := Lib.hid h53
      have HNB := Lib.hid h54
      have HO5 := Lib.hid h55
      have hz5 := h53.size
      have HIB : Hid ((withKey S key k nb).inner key = some nb) := by show (if key = key then some nb else S.inner key) = some nb; rw [if_pos rfl]
      have hfar : w.heap.size ∉ bs :: mk :: mv :: vk.ownBlock.toList := fun hm => by
        simp only [List.mem_cons, Option.mem_toList] at hm
        obtain ⟨_, m1, _⟩ := HV.out.kinds
        obtain ⟨_, m2, _⟩ := HV.out.vals
        have l1 := m1.lt
        have l2 := m2.lt
        rcases hm with h | h | h | h
        · omega
        · omega
        · omega
        · have := own_lt HV.out.row h; omega
      have HX5 : Hid (Blk w5 w.heap.size 37 #[.int .i64 k, .int .i64 n, .string s, .slice A L c]) := HX1.out.turned h53 hfar
      have HLV : Hid (∀ wx, Below w5.heap.size w5 wx → (Instr.lookup 52 (.map (some mv)) (.string key) false).run Tryd.prog wx = .ok (.map (some nb)) wx) := fun wx hb => by
        obtain ⟨E, h1, h2⟩ := (HV5.out.below hb).vals
        have := values_run h1 h2 key HCC.out.1
        rwa [HIB.out] at this
      have CA : Hid (∀ wx, Below w5.heap.size w5 wx → Calls Tryd.prog 27 #[.agg #[.int .i64 k, .int .i64 n, .string s, .slice A L c]] wx fun e w' => Below w5.heap.size w5 w' ∧ ∃ r : RawN, e = .returned (valRN r) ∧ r.1.k = k ∧ r.1.n = n ∧ r.1.s = s ∧ RowAt w' r.1 ss ∧ (r.1.a = none ↔ A = none) ∧ ∀ b, r.1.a = some b → w5.heap.size ≤ b) := fun wx hb => by
        have hrd : Rd wx wx.heap.size A (ss.map Value.string) := fun j v hj => by
          obtain ⟨b, o, e1, e2, e3⟩ := HAT.out w1 HW1.out j v hj
          have hzx := hb.size
          have hnf : b ∉ bs :: mk :: mv :: vk.ownBlock.toList := fun hm => HAF.out (fun h => by rw [h] at hj; simp at hj) b o none e1 (by
            unfold vfeet
            simp only [List.mem_cons, List.mem_append] at hm ⊢
            rcases hm with h | h | h | h
            · exact .inl h
            · exact .inr (.inl h)
            · exact .inr (.inr (.inl h))
            · exact .inr (.inr (.inr (.inl h))))
          exact ⟨b, o, e1, by omega, (World.cell?_of_block ((hb.block b (by omega)).trans (HT5.out.block b e2 hnf))).trans e3⟩
        have h := apart_any k n s A c ss wx hs2 HHT.out hl2 hrd HNIL.out
        rw [HLL.out] at h
        refine h.mono ?_
        rintro e w' ⟨h1, r, h2, h3, h4, h5, h6, h7, h8⟩
        have hzz := hb.size
        exact ⟨hb.trans (h1.mono hzz), r, h2, h3, h4, h5, h6, h7, fun b hb' => by have := h8 b hb'; omega⟩
      clear h51 h52 h53 h54 h55 p0 CK hlk c1
      go_upto_region 9 with fail
      rename_i K hK
      refine wp_region_S (SAf w5) (by kernel_rfl) (fun _ => (Below.refl _ _).drew) (fun hS => ?_)
      refine wpAnyS_take (i := 0) (fun w' => True) (v := .pointer (some ⟨bs, 0, none⟩)) rfl (by kernel_rfl) (by kernel_rfl) (by kernel_rfl) (fun _ _ _ h => h) (fun _ _ _ _ => trivial) (SAf.io (by decide)) (by kernel_rfl) hS (fun w' hSw => ?_) (by rfl) (fun hS => ?_)
      · go_simp
      try simp only [List.getElem_toArray, List.getElem_cons_zero, List.getElem_cons_succ, Act.put, List.setIfInBounds_toArray, List.set_cons_zero, List.set_cons_succ]
      refine wpAnyS_take (i := 1) (fun w' => True) (v := .pointer (some ⟨bs, 0, none⟩)) rfl (by kernel_rfl) (by kernel_rfl) (by kernel_rfl) (fun _ _ _ h => h) (fun _ _ _ _ => trivial) (SAf.io (by decide)) (by kernel_rfl) hS (fun w' hSw => ?_) (by rfl) (fun hS => ?_)
      · go_simp
      try simp only [List.getElem_toArray, List.getElem_cons_zero, List.getElem_cons_succ, Act.put, List.setIfInBounds_toArray, List.set_cons_zero, List.set_cons_succ]
      refine wpAnyS_take (i := 2) (fun w' => True) (v := .pointer (some ⟨bs, 2, none⟩)) rfl (by kernel_rfl) (by kernel_rfl) (by kernel_rfl) (fun _ _ _ h => h) (fun _ _ _ _ => trivial) (SAf.io (by decide)) (by kernel_rfl) hS (fun w' hSw => ?_) (by rfl) (fun hS => ?_)
      · go_simp
      try simp only [List.getElem_toArray, List.getElem_cons_zero, List.getElem_cons_succ, Act.put, List.setIfInBounds_toArray, List.set_cons_zero, List.set_cons_succ]
      refine wpAnyS_take (i := 3) (fun w' => w'.cell? ⟨bs, 2, none⟩ = some (.map (some mv))) (v := .map (some mv)) rfl (by kernel_rfl) (by kernel_rfl) (by kernel_rfl) (fun _ _ _ h => h) (fun l w hw hS => (HB5.out.below (hS (hw 9 (by kernel_rfl))) HB5.out.lt).cell 2) (SAf.io (by decide)) (by kernel_rfl) hS (fun w' hSw => ?_) (by rfl) (fun hS => ?_)
      · go_simp
      try simp only [List.getElem_toArray, List.getElem_cons_zero, List.getElem_cons_succ, Act.put, List.setIfInBounds_toArray, List.set_cons_zero, List.set_cons_succ]
      refine wpAnyS_take (i := 4) (fun w' => True) (v := .string key) rfl (by kernel_rfl) (by kernel_rfl) (by kernel_rfl) (fun _ _ _ h => h) (fun _ _ _ _ => trivial) (SAf.io (by decide)) (by kernel_rfl) hS (fun w' hSw => ?_) (by rfl) (fun hS => ?_)
      · go_simp
      try simp only [List.getElem_toArray, List.getElem_cons_zero, List.getElem_cons_succ, Act.put, List.setIfInBounds_toArray, List.set_cons_zero, List.set_cons_succ]
      refine wpAnyS_take (i := 5) (fun w' => (Instr.lookup 52 (.map (some mv)) (.string key) false).run Tryd.prog w' = .ok (.map (some nb)) w') (v := .map (some nb)) rfl (by kernel_rfl) (by kernel_rfl) (by kernel_rfl) (fun _ _ _ h => h) (fun l w hw hS => HLV.out w (hS (hw 9 (by kernel_rfl)))) (SAf.io (by decide)) (by kernel_rfl) hS (fun w' hSw => ?_) (by rfl) (fun hS => ?_)
      · go_simp
      try simp only [List.getElem_toArray, List.getElem_cons_zero, List.getElem_cons_succ, Act.put, List.setIfInBounds_toArray, List.set_cons_zero, List.set_cons_succ]
      refine wpAnyS_take (i := 6) (fun w' => True) (v := .int .i64 id) rfl (by kernel_rfl) (by kernel_rfl) (by kernel_rfl) (fun _ _ _ h => h) (fun _ _ _ _ => trivial) (SAf.io (by decide)) (by kernel_rfl) hS (fun w' hSw => ?_) (by rfl) (fun hS => ?_)
      · go_simp
      try simp only [List.getElem_toArray, List.getElem_cons_zero, List.getElem_cons_succ, Act.put, List.setIfInBounds_toArray, List.set_cons_zero, List.set_cons_succ]
      refine wpAnyS_take (i := 7) (fun w' => Blk w' w.heap.size 37 #[.int .i64 k, .int .i64 n, .string s, .slice A L c]) (v := .agg #[.int .i64 k, .int .i64 n, .string s, .slice A L c]) rfl (by kernel_rfl) (by kernel_rfl) (by kernel_rfl) (fun _ _ _ h => h) (fun l w hw hS => HX5.out.below (hS (hw 9 (by kernel_rfl))) HX5.out.lt) (SAf.io (by decide)) (by kernel_rfl) hS (fun w' hSw => ?_) (by rfl) (fun hS => ?_)
      · have q0 := hSw.cell 0
        have q1 := hSw.cell 1
        have q2 := hSw.cell 2
        have q3 := hSw.cell 3
        simp at q0 q1 q2 q3
        clear hSw
        go_simp
      try simp only [List.getElem_toArray, List.getElem_cons_zero, List.getElem_cons_succ, Act.put, List.setIfInBounds_toArray, List.set_cons_zero, List.set_cons_succ]
      refine wpAnyS_one (i := 8) (by kernel_rfl) rfl (fun K8 hK8 => ?_)
      go_simp
      refine (CA.out _ (hS (by kernel_rfl))).mono ?_
      rintro e w6 ⟨hb6, r, rfl, r1, r2, r3, r4, r5, r6⟩
      have hd5 : Below w5.heap.size w5 w5.drew := (Below.refl _ _).drew
      have hb56 : Below w5.heap.size w5 w6 := hb6
      refine hK8.out _ _ (fun _ => hb56) (fun hS => ?_)
      clear hK8 K8
      try simp only [List.getElem_toArray, List.getElem_cons_zero, List.getElem_cons_succ, Act.put, List.setIfInBounds_toArray, List.set_cons_zero, List.set_cons_succ]
      refine wpAnyS_one (i := 9) (by kernel_rfl) rfl (fun K9 hK9 => ?_)
      obtain ⟨Di, hmi, hAi⟩ := HV5.out.inn key nb HIB.out
      refine step_mapUpdate_own (H := Unit) rfl (.tmp 43) (.tmp 44) (.tmp 46) 63 rfl 3 37 lawI Tryd.underlying63 rdR nb N Di rfl (map_turned hmi (Turned.of_below hb56 []) (by simp)) (by unfold maxLen; omega) (.int .i64 id) (valRN r) (kdI id) rfl rfl HKI.out (enRN r) [] (rdBy_val valRN_inj r) ?_
      intro w7 hm7 hg7
      refine hK9.out _ _ (fun h => by cases h) (fun hS => ?_)
      clear hK9 K9 hS
      try simp only [List.getElem_toArray, List.getElem_cons_zero, List.getElem_cons_succ, Act.put, List.setIfInBounds_toArray, List.set_cons_zero, List.set_cons_succ]
      refine wpAnyS_done (by kernel_rfl) ?_ _
      have HF := Lib.hid (set_fin HV5.out HB5.out HIB.out HID.out hAi hb56 r4 (HRO.out r r1 r2 r3) r6 hm7 hg7)
      have HRR := Lib.hid (And.intro r1 (And.intro r2 r3))
      clear hm7 hg7 hmi hAi r1 r2 r3 r4 r5 r6 hb6 hb56 hd5
      refine hK _ _ ?_
      clear hK K
      go_wp2_with fail
      go_ret
      rw [HPOST.out]
      exact ⟨rfl, fun h => absurd rfl h, fun _ => set_new HB1.out HKD.out HT5.out HNB.out HO5.out HF.out HRR.out⟩
end Go.Proofs.YthgagobdkcikiaaDoor
