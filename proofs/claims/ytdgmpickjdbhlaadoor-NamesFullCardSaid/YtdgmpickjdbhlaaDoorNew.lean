/- The contracts of names.New, Len. -/
import Derived.Test.YtdgmpickjdbhlaaDoorTab
namespace Go.Proofs.YtdgmpickjdbhlaaDoor
open Go.RowKit

set_option maxRecDepth 100000 in
theorem len_any (w : World) (F : List Nat) (bt : Nat) (l : List ByteArray) (r : List Cmp) (h : Tab w F bt l r) :
    Calls Tryd.prog 8 #[.pointer (some ⟨bt, 0, none⟩)] w fun e w' => e = .returned (.int .i64 l.length) ∧ w = w' := by
  obtain ⟨hg, vn, mi, vc, mp, D, E, hT, rfl⟩ := h
  obtain ⟨An, cn, rfl, hn1, hn2⟩ := own_form' hT.names
  have c0 : w.cell? ⟨bt, 0, none⟩ = some (.slice An l.length cn) := hT.blk.cell 0
  clear hT hg
  go_enter Tryd.func8, Tryd.ntmps8
  go_wp2_with fail
  go_ret
  exact ⟨rfl, rfl⟩

def NewPost (w : World) (e : Ending) (w' : World) : Prop := ∃ bt F, e = .returned (.pointer (some ⟨bt, 0, none⟩)) ∧ Tab w' F bt [⟨#[]⟩] [] ∧ Below w.heap.size w w' ∧ ∀ k, k ∈ F → w.heap.size ≤ k
theorem new_fin {w w3 : World} (hown3 : w3.ownsMap Tryd.prog 9 (plainElem (H := Unit) Tryd.prog 3) (w.heap.size + 1) 1 ((DataW.map []).put (kdS ⟨#[]⟩) (.lit (.int .i64 0))))
    (hg3 : ((w.alloc (.cells #[.string ⟨#[]⟩] 9)).alloc (.map #[] 0)).grownBy w3 (some (w.heap.size + 1))) :
    NewPost w (.returned (.pointer (some ⟨w3.heap.size + 1, 0, none⟩))) ((w3.alloc (.map #[] 0)).alloc (.cells #[.slice (some ⟨w.heap.size, 0, none⟩) 1 1, .map (some (w.heap.size + 1)), .slice none 0 0, .map (some w3.heap.size)] 36)) := by
  have hs := hg3.size
  simp at hs
  have hr : (w.alloc (.cells #[.string ⟨#[]⟩] 9)).ownsRow 0 9 1 (.slice (some ⟨w.heap.size, 0, none⟩) 1 1) 1 [.string ⟨#[]⟩] :=
    ⟨rfl, .inr ⟨w.heap.size, 1, _, rfl, Nat.zero_le _, heap_alloc_new w _, Nat.le_refl _, by simp [maxLen], rfl, rfl⟩⟩
  have hr3 := (hr.alloc (.map #[] 0)).kept hg3 (.inr (by simp [Value.ownBlock]))
  have hT : Turned [] w w3 := (((Turned.refl [] w).alloc _).alloc _).grown hg3 (fun k hk => .inr (by injection hk with hk; omega))
  refine ⟨_, _, rfl, ⟨⟨by simp, rfl, by simp, fun s hs => by simp at hs; subst hs; decide, by simp, by simp, fun c hc => by simp at hc⟩, .slice (some ⟨w.heap.size, 0, none⟩) 1 1, w.heap.size + 1, .slice none 0 0, w3.heap.size, (DataW.map []).put (kdS ⟨#[]⟩) (.lit (.int .i64 0)), .map [], ⟨?_, ?_, ?_, ?_, ?_, ?_, ?_, ?_⟩, rfl⟩, ?_, ?_⟩
  · have := Blk.new (w3.alloc (.map #[] 0)) 36 #[.slice (some ⟨w.heap.size, 0, none⟩) 1 1, .map (some (w.heap.size + 1)), .slice none 0 0, .map (some w3.heap.size)]
    simpa using this
  · exact (hr3.alloc _).alloc _
  · exact World.ownsRow_nil _ _ _ _
  · exact (hown3.alloc _).alloc _
  · refine ((Agrees.none_ kdS (fun _ => True)).put (fun a b _ _ => kdS_inj a b) ⟨#[]⟩ trivial (kdS_key _) 0).congr ?_
    intro a
    by_cases ha : a = ⟨#[]⟩
    · subst ha; simp [ixI, ix]
    · have ha' : ¬ (⟨#[]⟩ : ByteArray) = a := fun e => ha e.symm
      simp [ixI, ix, ha, ha']
  · exact (World.ownsMap_made w3 Tryd.prog 41 (plainElem (H := Unit) Tryd.prog 3)).alloc _
  · exact (Agrees.none_ kdC okC).congr (fun _ => rfl)
  · omega
  · exact ((hT.alloc _).alloc _).of_nil
  · intro k hk
    simp [foot, Value.ownBlock] at hk
    omega

set_option maxRecDepth 100000 in
theorem new_any (w : World) : Calls Tryd.prog 5 #[] w (NewPost w) := by
  have hmm := @run_makeMap Tryd.prog
  have HK := Lib.hid (Go.WideMaps.keyOf_string_mk (P := Tryd.prog) Tryd.underlying9 (s := ⟨#[]⟩) (by decide))
  go_enter Tryd.func5, Tryd.ntmps5
  go_wp2_with ((refine wpList_insert_own _ rfl (.tmp 2) _ _ 32 rfl 9 3 lawS Tryd.underlying32 (plainElem (H := Unit) Tryd.prog 3) (w.heap.size + 1) 0 (.map []) rfl (by have := World.ownsMap_made (H := Unit) (w.alloc (.cells #[.string ⟨#[]⟩] 9)) Tryd.prog 9 (plainElem Tryd.prog 3); simpa using this) (by decide) _ _ _ rfl rfl HK.out _ [] (plainElem_int (a := 0) Tryd.underlying3 (by decide)) ?_; intro w3 hown3 hg3))
  go_ret
  exact new_fin hown3 hg3
end Go.Proofs.YtdgmpickjdbhlaaDoor
