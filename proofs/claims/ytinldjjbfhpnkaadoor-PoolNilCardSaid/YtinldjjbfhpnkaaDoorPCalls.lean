/- New, Len, Kind, Package, Named, Text. -/
import Derived.Test.YtinldjjbfhpnkaaDoorPAdd
namespace Go.Proofs.YtinldjjbfhpnkaaDoor
set_option linter.unusedSimpArgs false
set_option linter.unusedVariables false
open Go.RowKit

theorem mkMap (t : TypeId) (w : World) : (Instr.makeMap t none).run Tryd.prog w = .ok (.map (some w.heap.size)) (w.alloc (.map #[] 0)) := by
  simp [Instr.makeMap, Result.andThen]
/-- A new pool. -/
def NewPool (w : World) (kind : Int) (e : Ending) (w' : World) : Prop := Below w.heap.size w w' ∧ ∃ g O, e = .returned (.tuple #[.pointer (some ⟨g, 0, none⟩), .int .i64 0]) ∧ PoolAt w' w.heap.size g O (fun _ => False) (fun _ => False) kind [] []
set_option maxHeartbeats 1000000 in
set_option maxRecDepth 100000 in
theorem new_any (kind : Int) (hk : kind = 1 ∨ kind = 2) (w : World) : Calls Tryd.prog 13 #[.int .i64 kind] w (NewPool w kind) := by
  have HM := mkMap 57 w
  have HP : Hid (NewPool w kind (.returned (.tuple #[.pointer (some ⟨w.heap.size + 1, 0, none⟩), .int .i64 0])) ((w.alloc (.map #[] 0)).alloc (.cells #[.int .i64 kind, .slice none 0 0, .slice none 0 0, .map (some w.heap.size)] 60))) := by
    refine ⟨((Below.refl _ _).alloc (Nat.le_refl _) _).alloc (by simp) _, w.heap.size + 1, PoolO (w.heap.size + 1) (.slice none 0 0) (.slice none 0 0) w.heap.size (fun _ => .slice none 0 0), rfl, _, _, _, (fun _ => .slice none 0 0), ⟨Blk.new' (by simp), World.ownsRow_nil _ _ _ _, World.ownsRow_nil _ _ _ _, (fun k hk => by cases hk), (fun b hb => hb.elim), (fun b hb => hb.elim), ?_, by omega, fun k => Iff.rfl⟩⟩
    exact (MapR.made w 3 1).turned (TurnedP.of_below ((Below.refl _ _).alloc (Nat.le_refl _) _) fun _ => False) fun _ _ h => h.elim
  rcases hk with rfl | rfl
  all_goals
    go_enter Tryd.func13, Tryd.ntmps13
    go_wp2_with fail
    go_ret2
    exact HP.out
section
variable {w : World} {base g : Nat} {O S T : Nat → Prop} {kind : Int} {reps : List Rep} {ks : List Kep}
set_option maxRecDepth 100000 in
theorem len_any (h : PoolAt w base g O S T kind reps ks) : Calls Tryd.prog 15 #[.pointer (some ⟨g, 0, none⟩)] w fun e w' => e = .returned (.int .i64 (ks.length : Int)) ∧ w = w' := by
  obtain ⟨vr, vp, bm, f, h⟩ := h
  obtain ⟨A, c, rfl, h1, h2⟩ := own_form' h.pack
  have k2 := h.blk.cell 2
  simp at k2
  clear h h1 h2
  go_enter Tryd.func15, Tryd.ntmps15
  go_wp2_with fail
  go_ret
  exact ⟨rfl, rfl⟩
/-- New numbers that read as these. -/
def NumsAt (w0 w' : World) (ns : List Nat) (v : Value) : Prop := w'.ownsRow w0.heap.size 3 1 v ns.length (numV ns)
def NumsNew (w : World) (ns : List Nat) (e : Ending) (w' : World) : Prop := Below w.heap.size w w' ∧ ∃ v', e = .returned v' ∧ NumsAt w w' ns v'
set_option maxHeartbeats 1000000 in
set_option maxRecDepth 100000 in
theorem cloneInts_any {w : World} {base : Nat} {v : Value} {ns : List Nat} (h : w.ownsRow base 3 1 v ns.length (numV ns)) (hn : ns.length ≤ 1000000) :
    Calls Tryd.prog 39 #[v] w (NumsNew w ns) := by
  rcases own_handle h with ⟨rfl, h0⟩ | ⟨b, c, rfl⟩
  · obtain rfl := List.eq_nil_of_length_eq_zero h0
    have qn := nil_none 44 3 Tryd.underlying44 0 0 w
    have HP : Hid (NumsNew w [] (.returned (.slice none 0 0)) w) := ⟨Below.refl _ _, _, rfl, World.ownsRow_nil _ _ _ _⟩
    clear h h0 hn
    go_enter Tryd.func39, Tryd.ntmps39
    go_wp2_with fail
    go_ret
    exact HP.out
  · have qn := nil_some 44 3 Tryd.underlying44 ⟨b, 0, none⟩ ns.length c w
    have HH := Lib.hid h
    have HI := Lib.hid info_int5
    have HO : Hid ((w.alloc (.cells #[] 3)).ownsRow w.heap.size 3 1 (.slice (some ⟨w.heap.size, 0, none⟩) 0 0) 0 []) :=
      ⟨rfl, .inr ⟨w.heap.size, 0, #[], rfl, Nat.le_refl _, Blk.new _ _ _, Nat.le_refl _, by simp [maxLen], rfl, rfl⟩⟩
    have HCl : Hid (∀ j u, (numV ns)[j]? = some u → (w.alloc (.cells #[] 3)).cell? ((⟨b, 0, none⟩ : Addr).add j) = some u) := fun j u hu => by
      obtain ⟨b', e, hc⟩ := own_ats h hu
      injection e with e
      injection e with e
      subst e
      have e2 : (⟨b, 0, none⟩ : Addr).add j = ⟨b, j, none⟩ := by unfold Addr.add; split <;> simp_all
      rw [e2]
      have hba : Below w.heap.size w (w.alloc (.cells #[] 3)) := (Below.refl _ _).alloc (Nat.le_refl _) _
      exact (World.cell?_of_block (hba.block b (cell_lt hc))).trans hc
    have HB : Hid (Below w.heap.size w (w.alloc (.cells #[] 3))) := (Below.refl _ _).alloc (Nat.le_refl _) _
    have HL : Hid ((numV ns).length = ns.length * 1) := by show _ = _; simp [numV]
    have HO1 : Hid (∀ u ∈ numV ns, u.oneCell' = true) := fun u hu => by
      obtain ⟨x, _, rfl⟩ := List.mem_map.1 hu
      rfl
    clear h
    go_enter Tryd.func39, Tryd.ntmps39
    obtain ⟨i0, z0, hi0, hz0, hz1, hz2, hz3⟩ := HI.out
    have HI' := Lib.hid (And.intro hi0 (And.intro hz0 (And.intro hz1 (And.intro hz2 hz3))))
    clear hi0 hz0 hz1 hz2 hz3 HI
    go_wp2_with (at_builtin; refine wpList_append_own_at _ rfl (.tmp 5) (.tmp 6) 44 rfl w.heap.size 3 i0 z0 1 8 Tryd.underlying44 HI'.out.1 HI'.out.2.1 HI'.out.2.2.2.1 HI'.out.2.2.2.2 HI'.out.2.2.1 (by decide) (.slice (some ⟨w.heap.size, 0, none⟩) 0 0) 0 [] rfl HO.out ⟨b, 0, none⟩ ns.length c (numV ns) rfl HL.out HCl.out HO1.out (by unfold maxLen; omega) (by omega) (by simp) ?_; intro v' w' hown' hg' _ _)
    have HP : Hid (NumsNew w ns (.returned v') w') := by
      refine ⟨HB.out.grown hg' HB.out.size (fun k hk => ?_), v', rfl, ?_⟩
      · simp [Value.ownBlock] at hk; omega
      · have h := hown'
        rw [Nat.zero_add, List.nil_append] at h
        exact h
    clear hown' hg' HB HO HCl HL HO1 HI' HH
    go_wp2_with fail
    go_ret
    exact HP.out
end
end Go.Proofs.YtinldjjbfhpnkaaDoor
