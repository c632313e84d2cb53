/- Paths of directories: what Path answers. -/
import Derived.Test.YthgagobdkcikiaaDoorDirM
import Derived.Deep.LoopGhost
namespace Go.Proofs.YthgagobdkcikiaaDoor
set_option linter.unusedSimpArgs false
set_option linter.unusedVariables false
open Go.RowKit

/-- A directory's path, the parts of those that it is in ahead of its own. -/
def up (ds : List DirE) : Nat → Nat → List (List UInt8)
  | 0, _ => []
  | f + 1, n => if n = 0 then [] else match ds[n]? with
    | none => []
    | some d => up ds f d.1 ++ [d.2.data.toList]
theorem up_more {ds : List DirE} (h : DirsOk ds) : ∀ (f g n : Nat), n ≤ f → n ≤ g → n < ds.length → up ds f n = up ds g n
  | 0, 0, n, _, _, _ => rfl
  | 0, g + 1, n, hf, _, _ => by
    obtain rfl : n = 0 := by omega
    rfl
  | f + 1, 0, n, _, hg, _ => by
    obtain rfl : n = 0 := by omega
    rfl
  | f + 1, g + 1, n, hf, hg, hn => by
    unfold up
    by_cases h0 : n = 0
    · rw [if_pos h0, if_pos h0]
    · rw [if_neg h0, if_neg h0, List.getElem?_eq_getElem hn]
      have hu := h.up n ds[n] (List.getElem?_eq_getElem hn) (by omega)
      show up ds f ds[n].1 ++ _ = up ds g ds[n].1 ++ _
      rw [up_more h f g ds[n].1 (by omega) (by omega) (by omega)]
/-- Its parts. -/
def full (ds : List DirE) (n : Nat) : List (List UInt8) := up ds n n
theorem full_zero (ds : List DirE) : full ds 0 = [] := rfl
theorem full_some {ds : List DirE} (h : DirsOk ds) {n : Nat} {d : DirE} (hn : ds[n]? = some d) (h0 : 0 < n) : full ds n = full ds d.1 ++ [d.2.data.toList] := by
  have hl := (List.getElem?_eq_some_iff.1 hn).1
  have hu := h.up n d hn h0
  unfold full
  obtain ⟨m, rfl⟩ : ∃ m, n = m + 1 := ⟨n - 1, by omega⟩
  rw [up, if_neg (by omega), hn]
  simp only
  rw [up_more h m d.1 d.1 (by omega) (Nat.le_refl _) (by omega)]
theorem join_app (a b : List (List UInt8)) : joinP (a ++ b) = joinP a ++ joinP b := by
  induction a with
  | nil => rfl
  | cons p r ih => simp [joinP, ih]
/-- A directory's path as a text. -/
def pathOf (ds : List DirE) (n : Nat) : List UInt8 := if n = 0 then [47] else joinP (full ds n)
theorem join_ne {l : List (List UInt8)} (h : l ≠ []) : joinP l ≠ [] := by
  cases l with
  | nil => exact absurd rfl h
  | cons p r => simp [joinP]
theorem full_ne {ds : List DirE} (h : DirsOk ds) {n : Nat} (hn : n < ds.length) (h0 : 0 < n) : full ds n ≠ [] := by
  rw [full_some h (List.getElem?_eq_getElem hn) h0]
  simp
def PathPost (w : World) (ds : List DirE) (n : Int) (e : Ending) (w' : World) : Prop :=
  Below w.heap.size w w' ∧ ((n < 0 ∨ (ds.length : Int) ≤ n) → e = .returned (.tuple #[.string ⟨#[]⟩, .int .i64 0, .int .i64 84])) ∧
    (∀ m : Nat, n = (m : Int) → ∀ d, ds[m]? = some d → ∃ s : ByteArray, e = .returned (.tuple #[.string s, .int .i64 (d.1 : Int), .int .i64 0]) ∧ s.data.toList = pathOf ds m)
theorem cells2_at {r : List DirE} {k : Nat} {d : DirE} (h : r[k]? = some d) : (cells2 r)[k * 2]? = some (.int .i64 d.1) ∧ (cells2 r)[k * 2 + 1]? = some (.string d.2) := by
  induction r generalizing k with
  | nil => cases h
  | cons e r ih =>
    cases k with
    | zero => injection h with h; subst h; exact ⟨rfl, rfl⟩
    | succ k =>
      have := ih (k := k) (by simpa using h)
      have e2 : cells2 (e :: r) = [.int .i64 e.1, .string e.2] ++ cells2 r := rfl
      rw [e2, show (k + 1) * 2 = 2 + k * 2 from by omega, List.getElem?_append_right (by simp), List.getElem?_append_right (by simp; omega)]
      simpa [show 2 + k * 2 - 2 = k * 2 from by omega, show 2 + k * 2 + 1 - 2 = k * 2 + 1 from by omega] using this
/-- While it goes up: what is put together so far, and what is still above. -/
theorem path_step {ds : List DirE} (h : DirsOk ds) {m : Nat} {d : DirE} (hm : ds[m]? = some d) (h0 : 0 < m) (acc : List UInt8) : joinP (full ds d.1) ++ (47 :: d.2.data.toList ++ acc) = joinP (full ds m) ++ acc := by
  rw [full_some h hm h0, join_app]
  simp [joinP]
theorem full_len {ds : List DirE} (h : DirsOk ds) : ∀ (f n : Nat), n ≤ f → n < ds.length → (joinP (full ds n)).length ≤ 201 * n
  | 0, n, hf, _ => by
    obtain rfl : n = 0 := by omega
    simp [full_zero, joinP]
  | f + 1, n, hf, hn => by
    by_cases h0 : n = 0
    · subst h0; simp [full_zero, joinP]
    · have hu := h.up n ds[n] (List.getElem?_eq_getElem hn) (by omega)
      have hs := h.short ds[n] (List.getElem_mem hn)
      have ih := full_len h f ds[n].1 (by omega) (by omega)
      rw [full_some h (List.getElem?_eq_getElem hn) (by omega), join_app]
      simp only [joinP, List.length_append, List.length_cons, List.length_nil, size_len]
      omega
set_option maxHeartbeats 4000000 in
set_option maxRecDepth 100000 in
theorem path_any (w : World) (F : List Nat) (bs : Nat) (vk : Value) (mk mv : Nat) (ds : List DirE) (n : Int) (h : DirAt w F bs vk mk mv ds) :
    Calls Tryd.prog 13 #[.pointer (some ⟨bs, 0, none⟩), .int .i64 n] w (PathPost w ds n) := by
  obtain ⟨vd, mp, hB, hd, rfl⟩ := h
  obtain ⟨An, cn, rfl, hn1, hn2⟩ := own_form' hd.row
  have c3 : w.cell? ⟨bs, 3, none⟩ = some (.slice An ds.length cn) := hB.cell 3
  have hfew := hd.ok.few
  have HOK := Lib.hid hd.ok
  have HROW : Hid (∀ (m : Nat) (d : DirE), ds[m]? = some d → ∃ b, An = some ⟨b, 0, none⟩ ∧ w.cell? ⟨b, m * 2, none⟩ = some (.int .i64 (d.1 : Int)) ∧ w.cell? ⟨b, m * 2 + 1, none⟩ = some (.string d.2)) := fun m d hm => by
    obtain ⟨h1, h2⟩ := cells2_at hm
    obtain ⟨b, e1, e2⟩ := own_ats hd.row h1
    obtain ⟨b', e1', e2'⟩ := own_ats hd.row h2
    rw [e1] at e1'
    injection e1' with e1'
    injection e1' with e1'
    subst e1'
    exact ⟨b, e1, e2, e2'⟩
  unfold maxLen at hn2
  clear hB hd
  by_cases hneg : n < 0
  · have HP : Hid (PathPost w ds n (.returned (.tuple #[.string ⟨#[]⟩, .int .i64 0, .int .i64 84])) w) := ⟨Below.refl _ _, fun _ => rfl, fun m hm => by omega⟩
    go_enter Tryd.func13, Tryd.ntmps13
    go_wp2_with fail
    refine bodyPost_ret (v := .tuple #[.string ⟨#[]⟩, .int .i64 0, .int .i64 84]) (by simp [results, Tryd.results13, go_sem]) rfl HP.out
  by_cases hbig : (ds.length : Int) ≤ n
  · have HP : Hid (PathPost w ds n (.returned (.tuple #[.string ⟨#[]⟩, .int .i64 0, .int .i64 84])) w) := ⟨Below.refl _ _, fun _ => rfl, fun m hm d hd => by have := (List.getElem?_eq_some_iff.1 hd).1; omega⟩
    go_enter Tryd.func13, Tryd.ntmps13
    go_wp2_with fail
    refine bodyPost_ret (v := .tuple #[.string ⟨#[]⟩, .int .i64 0, .int .i64 84]) (by simp [results, Tryd.results13, go_sem]) rfl HP.out
  obtain ⟨m, rfl⟩ : ∃ m : Nat, n = (m : Int) := ⟨n.toNat, by omega⟩
  have hml : m < ds.length := by omega
  obtain ⟨dm, hdm⟩ : ∃ dm, ds[m]? = some dm := ⟨_, List.getElem?_eq_getElem hml⟩
  have HDM := Lib.hid hdm
  obtain ⟨b, rfl, k0, k1⟩ := HROW.out m dm hdm
  have HPOST : Hid (∀ (s : ByteArray) w', Below w.heap.size w w' → s.data.toList = pathOf ds m → PathPost w ds (m : Int) (.returned (.tuple #[.string s, .int .i64 (dm.1 : Int), .int .i64 0])) w') := fun s w' hb hs =>
    ⟨hb, fun h => by omega, fun m' hm' d hd => by
      obtain rfl : m = m' := by omega
      rw [HDM.out] at hd
      injection hd with hd
      subst hd
      exact ⟨s, rfl, hs⟩⟩
  clear hdm
  go_enter Tryd.func13, Tryd.ntmps13
  go_wp2_with fail
  clear k0 k1
  go_loopg [7, 8] (m + 1) (fun g v7 v8 wx => ∃ (s : ByteArray) (at' : Nat), v7 = .string s ∧ v8 = .int .i64 (at' : Int) ∧ at' < g ∧ at' < ds.length ∧ Hid (joinP (full ds at') ++ s.data.toList = joinP (full ds m)) ∧ wx = w)
  case atStart => exact ⟨⟨#[]⟩, m, rfl, rfl, by omega, hml, by show _ ++ [] = _; rw [List.append_nil], rfl⟩
  case round =>
    obtain ⟨s, a', rfl, rfl, hg, hal, hs, rfl⟩ := hrel
    have HSZ : Hid (s.size ≤ 402000) := by
      have h1 := congrArg List.length hs.out
      have h2 := full_len HOK.out m m (Nat.le_refl _) hml
      rw [List.length_append, size_len] at h1
      show s.size ≤ _
      omega
    by_cases h0 : a' = 0
    · subst h0
      have HS0 : Hid (s.data.toList = joinP (full ds m)) := hs.out
      by_cases hm0 : m = 0
      · subst hm0
        obtain rfl : s = ⟨#[]⟩ := s_ext HS0.out
        obtain ⟨b', e', k0, k1⟩ := HROW.out 0 dm HDM.out
        injection e' with e'
        injection e' with e'
        subst e'
        have HP : Hid (pathOf ds 0 = [47]) := rfl
        simp only [Nat.zero_mul] at k0
        clear hs HS0 k1
        go_wp2_with fail
        go_quiet (fail)
        go_wp2_with fail
        refine bodyPost_ret (v := .tuple #[.string ⟨#[47]⟩, .int .i64 (dm.1 : Int), .int .i64 0]) (by simp [results, Tryd.results13, go_sem]) rfl (HPOST.out _ _ (below_drewN' (Below.refl _ _) _) (by rw [HP.out]))
      · have hne : s.size ≠ 0 := fun e => by
          have h1 := empty_of e
          have h2 := HS0.out
          rw [h1] at h2
          exact join_ne (full_ne HOK.out hml (by omega)) h2.symm
        obtain ⟨t1, t2, t3⟩ := blank_of hne
        obtain ⟨b', e', k0, k1⟩ := HROW.out m dm HDM.out
        injection e' with e'
        injection e' with e'
        subst e'
        have HP : Hid (s.data.toList = pathOf ds m) := HS0.out.trans (by unfold pathOf; rw [if_neg hm0])
        clear hs HS0 k1
        go_wp2_with fail
        go_quiet (fail)
        go_wp2_with fail
        refine bodyPost_ret (v := .tuple #[.string s, .int .i64 (dm.1 : Int), .int .i64 0]) (by simp [results, Tryd.results13, go_sem]) rfl (HPOST.out _ _ (below_drewN' (Below.refl _ _) _) HP.out)
    · obtain ⟨da, hda⟩ : ∃ da, ds[a']? = some da := ⟨_, List.getElem?_eq_getElem hal⟩
      obtain ⟨b', e', k0, k1⟩ := HROW.out a' da hda
      injection e' with e'
      injection e' with e'
      subst e'
      have hu := HOK.out.up a' da hda (by omega)
      have hsd := HOK.out.short da (List.mem_of_getElem? hda)
      have hss : s.size ≤ 402000 := HSZ.out
      have HN : Hid (joinP (full ds da.1) ++ ((⟨#[47]⟩ : ByteArray) ++ da.2 ++ s).data.toList = joinP (full ds m)) := by
        rw [bl_app, bl_app]
        exact (path_step HOK.out hda (by omega) _).trans hs.out
      have hai : (a' : Int) < (ds.length : Int) := by omega
      have h0' : ((a' : Int) != 0) = true := by simp; omega
      clear hs hda
      go_wp2_with fail
      go_roundg a'
      case measure => omega
      case rel => exact ⟨_, da.1, rfl, rfl, hu, by omega, HN, rfl⟩
end Go.Proofs.YthgagobdkcikiaaDoor
