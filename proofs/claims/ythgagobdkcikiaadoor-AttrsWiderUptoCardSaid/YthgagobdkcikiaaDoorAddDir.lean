/- The contract of addDir. -/
import Derived.Test.YthgagobdkcikiaaDoorStM
import Derived.Test.YthgagobdkcikiaaDoorStr
namespace Go.Proofs.YthgagobdkcikiaaDoor
set_option linter.unusedSimpArgs false
set_option linter.unusedVariables false
open Go.RowKit

theorem clone_any (s : ByteArray) (w : World) (hs : s.size ≤ 281474976710656) : Calls Tryd.prog 41 #[.string s] w fun e w' => e = .returned (.string s) ∧ Below w.heap.size w w' := by
  have C := Lib.hid (Tryd.stringslite_Clone s w (by omega))
  go_enter Tryd.func41, Tryd.ntmps41
  go_wp2_with fail
  refine C.out.mono ?_
  rintro e w1 ⟨rfl, hb⟩
  go_wp2_with fail
  go_ret
  exact ⟨rfl, hb⟩

/-- A store's directories in memory; F: the blocks that stand for them; vk, mk, mv: the store's other cells. -/
def DirAt (w : World) (F : List Nat) (bs : Nat) (vk : Value) (mk mv : Nat) (ds : List DirE) : Prop :=
  ∃ vd mp, Blk w bs 56 #[vk, .map (some mk), .map (some mv), vd, .map (some mp)] ∧ DirP w vd mp ds ∧ F = bs :: mp :: vd.ownBlock.toList
theorem DirAt.turned {w w' : World} {F G : List Nat} {bs mk mv : Nat} {vk : Value} {ds : List DirE} (h : DirAt w F bs vk mk mv ds) (ht : Turned G w w') (ha : Apart F G) : DirAt w' F bs vk mk mv ds := by
  obtain ⟨vd, mp, hb, hd, rfl⟩ := h
  obtain ⟨D, hm, hA⟩ := hd.map
  exact ⟨vd, mp, hb.turned ht (ha _ (by simp)), ⟨hd.ok, own_turned hd.row ht fun k hk => ha k (by simp [hk]), D, map_turned hm ht (ha _ (by simp)), hA⟩, rfl⟩
theorem DirAt.lt {w : World} {F : List Nat} {bs mk mv : Nat} {vk : Value} {ds : List DirE} (h : DirAt w F bs vk mk mv ds) : ∀ k, k ∈ F → k < w.heap.size := by
  obtain ⟨vd, mp, hb, hd, rfl⟩ := h
  obtain ⟨D, hm, hA⟩ := hd.map
  intro k hk
  simp only [List.mem_cons, Option.mem_toList] at hk
  rcases hk with rfl | rfl | hk
  · exact hb.lt
  · exact hm.lt
  · exact own_lt hd.row hk

theorem fd_snoc {r : List DirE} {s : DirE} (h : ix r s = none) (b : DirE) :
    (if b = s then some ((r.length : Nat) : Int) else ixI r b) = ixI (r ++ [s]) b := by
  unfold ixI
  rw [ix_snoc]
  by_cases hb : b = s
  · subst hb; simp [h]
  · have hb' : ¬ s = b := fun e => hb e.symm
    simp [hb, hb']
theorem dirs_snoc {ds : List DirE} {d : DirE} (h : DirsOk ds) (h1 : ix ds d = none) (h2 : d.1 < ds.length) (h3 : ds.length < 2000) (h4 : d.2.size ≤ 200) : DirsOk (ds ++ [d]) where
  few := by simp; omega
  root := by
    have := h.root
    rw [List.getElem?_append_left (by rcases ds with _ | _ <;> simp at this ⊢)]
    exact this
  once := by
    rw [List.nodup_append]
    refine ⟨h.once, by simp, ?_⟩
    intro a ha b hb
    simp at hb
    subst hb
    rintro rfl
    exact ix_none.1 h1 ha
  short := by
    intro b hb
    rcases List.mem_append.1 hb with h5 | h5
    · exact h.short b h5
    · simp at h5; subst h5; exact h4
  up := by
    intro k b hk h0
    rcases Nat.lt_or_ge k ds.length with hl | hl
    · rw [List.getElem?_append_left hl] at hk
      exact h.up k b hk h0
    · rw [List.getElem?_append_right hl] at hk
      have := (List.getElem?_eq_some_iff.1 hk).1
      simp at this
      have e : k - ds.length = 0 := by omega
      rw [e] at hk
      simp at hk
      subst hk
      omega
theorem cells2_snoc (ds : List DirE) (d : DirE) : cells2 (ds ++ [d]) = cells2 ds ++ [.int .i64 d.1, .string d.2] := by simp [cells2]
def AddPost (w : World) (F : List Nat) (bs : Nat) (vk : Value) (mk mv : Nat) (ds' : List DirE) (n : Nat) (e : Ending) (w' : World) : Prop :=
  e = .returned (.int .i64 (n : Int)) ∧ ∃ F', DirAt w' F' bs vk mk mv ds' ∧ Turned F w w' ∧ Fresh w F F'
theorem add_fin {w w3 : World} {bs mk mv mp cn c2 g : Nat} {An A2 : Option Addr} {vk : Value} {ds : List DirE} {d : DirE} {D : DataW Unit}
    (hd : DirP w (.slice An ds.length cn) mp ds) (hA : Agrees kdD okD D (ixI ds)) (hix : ix ds d = none) (hup : d.1 < ds.length) (hfew : ds.length < 2000) (hsz : d.2.size ≤ 200)
    (hT3 : Turned (bs :: mp :: (Value.slice An ds.length cn).ownBlock.toList) w w3) (hat2 : (Value.slice A2 (ds.length + 1) c2).ownBlock = (Value.slice An ds.length cn).ownBlock ∨ (Value.slice A2 (ds.length + 1) c2).ownBlock = some g) (hgl : w.heap.size ≤ g)
    (hO3 : w3.ownsRow 0 50 2 (.slice A2 (ds.length + 1) c2) (ds.length + 1) (cells2 ds ++ [.int .i64 d.1, .string d.2]))
    (hB3 : Blk w3 bs 56 #[vk, .map (some mk), .map (some mv), .slice A2 (ds.length + 1) c2, .map (some mp)])
    (hM3 : w3.ownsMap Tryd.prog 50 (plainElem Tryd.prog 3) mp (ds.length + 1) (D.put (kdD d) (.lit (.int .i64 ds.length)))) :
    ∃ F', DirAt w3 F' bs vk mk mv (ds ++ [d]) ∧ Turned (bs :: mp :: (Value.slice An ds.length cn).ownBlock.toList) w w3 ∧ Fresh w (bs :: mp :: (Value.slice An ds.length cn).ownBlock.toList) F' := by
  have hok : okD d := ⟨by omega, by unfold maxLen; omega⟩
  refine ⟨_, ⟨.slice A2 (ds.length + 1) c2, mp, hB3, ⟨dirs_snoc hd.ok hix hup hfew hsz, ?_, D.put (kdD d) (.lit (.int .i64 ds.length)), ?_, ?_⟩, rfl⟩, hT3, ?_⟩
  · rw [List.length_append, cells2_snoc]; exact hO3
  · rw [List.length_append]; exact hM3
  · exact (hA.put kdD_inj d hok (kdD_key d) _).congr (fd_snoc hix)
  · intro k hk
    simp only [List.mem_cons, Option.mem_toList] at hk ⊢
    rcases hk with h | h | h
    · exact .inl (.inl h)
    · exact .inl (.inr (.inl h))
    · rcases hat2 with e | e
      · rw [e] at h; exact .inl (.inr (.inr h))
      · rw [e] at h; injection h with h; right; omega

set_option maxHeartbeats 2000000 in
set_option maxRecDepth 100000 in
theorem addDir_any (w : World) (F : List Nat) (bs : Nat) (vk : Value) (mk mv : Nat) (ds : List DirE) (up : Nat) (part : ByteArray) (h : DirAt w F bs vk mk mv ds) (hup : up < ds.length) (hsz : part.size ≤ 200) (hfew : ds.length < 2000) (hix : ix ds (up, part) = none) :
    Calls Tryd.prog 24 #[.pointer (some ⟨bs, 0, none⟩), .int .i64 (up : Int), .string part] w (AddPost w F bs vk mk mv (ds ++ [(up, part)]) ds.length) := by
  obtain ⟨vd, mp, hB, hd, rfl⟩ := h
  obtain ⟨An, cn, rfl, hn1, hn2⟩ := own_form' hd.row
  obtain ⟨D, hM, hA⟩ := hd.map
  have hbl := hB.lt
  have hml := hM.lt
  have HB := Lib.hid hB
  have HD := Lib.hid hd
  have HM := Lib.hid hM
  have HA := Lib.hid hA
  have HIX := Lib.hid hix
  have HUP := Lib.hid hup
  obtain ⟨i0, hi, hz0, hz1, hz2⟩ := info_parts infoD
  have c3 : w.cell? ⟨bs, 3, none⟩ = some (.slice An ds.length cn) := hB.cell 3
  unfold maxLen at hn2
  clear hB hd hM hA hix hup
  go_enter Tryd.func24, Tryd.ntmps24
  go_wp2_with fail
  refine (clone_any part w (by omega)).mono ?_
  rintro e w1 ⟨rfl, hb1⟩
  have hs1 := hb1.size
  have T1 : Hid (Turned [] w w1) := Turned.of_below hb1 []
  have B1 := Lib.hid (HB.out.below hb1 hbl)
  have c31 : w1.cell? ⟨bs, 3, none⟩ = some (.slice An ds.length cn) := B1.out.cell 3
  have f31 := B1.out.free 3
  have hbl1 : bs < w1.heap.size := by omega
  have HN1 := Lib.hid (own_turned HD.out.row T1.out (fun k _ => by simp))
  have M1 := Lib.hid (map_turned HM.out T1.out (fun hk => by cases hk))
  clear hb1
  go_wp2_with fail
  go_region_law (refine step_append_at rfl (.tmp 22) (.tmp 24) 53 rfl 0 50 i0 _ 2 24 Tryd.underlying53 hi hz0 hz1 hz2 rfl (by decide) (.slice An ds.length cn) ds.length (cells2 ds) (by simp [Act.eval, Act.put]) (by exact own_turned (F := []) HN1.out (by repeat (first | exact Turned.refl [] _ | refine Turned.drew ?_ | refine Turned.drewN ?_ _ | refine Turned.alloc ?_ _)) (fun k _ => by simp)) ⟨w1.heap.size + 1, 0, none⟩ 1 1 [.int .i64 (up : Int), .string part] (by simp [Act.eval, Act.put]) rfl (cells_at (Blk.new' (by simp)) rfl) (fun u hu => by simp at hu; rcases hu with rfl | rfl <;> rfl) (by unfold maxLen; omega) (by omega) (Nat.zero_le _) ?_; intro v2 w2 hown2 hg2 hat2; obtain ⟨A2, c2', rfl, hc2, hm2⟩ := own_form' hown2; have B2 : Hid (Blk w2 bs 56 #[vk, .map (some mk), .map (some mv), .slice An ds.length cn, .map (some mp)]) := (by refine Blk.grown (w := _) ?_ hg2 (fun e => own_kind HN1.out B1.out (by decide) e.symm); repeat (first | exact B1.out | refine Blk.drew ?_ | refine Blk.drewN ?_ _ | refine Blk.alloc ?_ _)); have c32 : w2.cell? ⟨bs, 3, none⟩ = some (.slice An ds.length cn) := B2.out.cell 3; have f32 := B2.out.free 3; have O2 := Lib.hid hown2; have AT2 := Lib.hid hat2; have T2 : Hid (Turned (Value.slice An ds.length cn).ownBlock.toList w1 w2) := (by refine Turned.grown (w' := _) ?_ hg2 (fun k hk => .inl (by simp [hk])); repeat (first | exact Turned.refl _ _ | refine Turned.drew ?_ | refine Turned.drewN ?_ _ | refine Turned.alloc ?_ _)); have M2 := Lib.hid (map_turned M1.out T2.out (fun hm => map_own M1.out HN1.out (by simpa using hm))); have c42 : w2.cell? ⟨bs, 4, none⟩ = some (.map (some mp)) := B2.out.cell 4; have K2 : Hid (Blk w2 w1.heap.size 50 #[.int .i64 (up : Int), .string part]) := (by refine Blk.grown (w := _) ?_ hg2 (fun e => absurd (own_lt HN1.out e.symm) (by omega)); repeat (first | exact Blk.new _ _ _ | refine Blk.drew ?_ | refine Blk.drewN ?_ _ | refine Blk.alloc ?_ _)); have k0 : w2.cell? ⟨w1.heap.size, 0, none⟩ = some (.int .i64 (up : Int)) := K2.out.cell 0; have k1 : w2.cell? ⟨w1.heap.size, 1, none⟩ = some (.string part) := K2.out.cell 1; clear hown2 hg2 hat2)
  all_goals
    have M2' := Lib.hid (M2.out.setCell (a := ⟨bs, 3, none⟩) (map_kind M1.out B1.out) (.slice A2 (ds.length + 1) c2'))
    have HOK : Hid (okD (up, part)) := ⟨by have := HUP.out; simp only; omega, by unfold maxLen; simp only; omega⟩
    have HKC := Lib.hid (keyD (up, part) HOK.out)
    go_wp2_with fail
    obtain ⟨w3, hrun3, hown3, hg3⟩ := (World.ownsMap.drew M2'.out).update lawD Tryd.underlying54 (by unfold maxLen; omega) (key := valD (up, part)) (val := .int .i64 (ds.length : Int)) HKC.out (plainElem_int Tryd.underlying3 (wfN (by omega)))
    have HO3 := Lib.hid hown3
    have HG3 := Lib.hid hg3
    clear hown3 hg3
    unfold valD at hrun3
    go_region
    all_goals
      go_wp2_with fail
      go_ret
      refine ⟨rfl, ?_⟩
      have B2' := B2.out.set_ 3 (.slice A2 (ds.length + 1) c2')
      have O2' := own_setCell (p := ⟨bs, 3, none⟩) O2.out (own_kind O2.out B2.out (by decide)) (.slice A2 (ds.length + 1) c2')
      have hmb := map_kind M1.out B1.out
      exact add_fin (d := (up, part)) HD.out HA.out HIX.out HUP.out (by omega) (by simpa using hsz)
        ((((T1.out.more (fun k hk => by cases hk)).trans (T2.out.more (fun k hk => by simp at hk ⊢; exact .inr (.inr hk))) (Fresh.refl _ _)).setCell (.inl (by simp)) _).drew.grown HG3.out (fun k hk => .inl (by cases hk; simp)))
        AT2.out (by simp <;> omega) ((own_drew' O2').kept HG3.out (.inr (map_own M2'.out O2'))) (B2'.drew.grown HG3.out (fun e => hmb (by injection e with e; exact e.symm))) HO3.out
end Go.Proofs.YthgagobdkcikiaaDoor
