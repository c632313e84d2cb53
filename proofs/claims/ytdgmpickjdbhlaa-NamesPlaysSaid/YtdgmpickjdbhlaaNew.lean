/- The contracts of names.New, Len, Relations, Find, Name, Relation, has. -/
import Derived.Test.YtdgmpickjdbhlaaTab
namespace Go.Proofs.Ytdgmpickjdbhlaa
open Go.RowKit

set_option maxRecDepth 100000 in
theorem len_any (w : World) (F : List Nat) (bt : Nat) (l : List ByteArray) (r : List Cmp) (h : Tab w F bt l r) :
    Calls Try.prog 12 #[.pointer (some ⟨bt, 0, none⟩)] w fun e w' => e = .returned (.int .i64 l.length) ∧ w = w' := by
  obtain ⟨hg, vn, mi, vc, mp, D, E, hT, rfl⟩ := h
  obtain ⟨An, cn, rfl, hn1, hn2⟩ := own_form' hT.names
  have c0 : w.cell? ⟨bt, 0, none⟩ = some (.slice An l.length cn) := hT.blk.cell 0
  clear hT hg
  go_enter Try.func12, Try.ntmps12
  go_wp2_with fail
  go_ret
  exact ⟨rfl, rfl⟩

set_option maxRecDepth 100000 in
theorem rels_any (w : World) (F : List Nat) (bt : Nat) (l : List ByteArray) (r : List Cmp) (h : Tab w F bt l r) :
    Calls Try.prog 13 #[.pointer (some ⟨bt, 0, none⟩)] w fun e w' => e = .returned (.int .i64 r.length) ∧ w = w' := by
  obtain ⟨hg, vn, mi, vc, mp, D, E, hT, rfl⟩ := h
  obtain ⟨An, cn, rfl, hn1, hn2⟩ := own_form' hT.comps
  have c0 : w.cell? ⟨bt, 2, none⟩ = some (.slice An r.length cn) := hT.blk.cell 2
  clear hT hg
  go_enter Try.func13, Try.ntmps13
  go_wp2_with fail
  go_ret
  exact ⟨rfl, rfl⟩

def findId (l : List ByteArray) (s : ByteArray) : Int := (ixI l s).getD 0
set_option maxRecDepth 100000 in
theorem find_any (w : World) (F : List Nat) (bt : Nat) (l : List ByteArray) (r : List Cmp) (s : ByteArray) (hs : s.size ≤ maxLen) (h : Tab w F bt l r) :
    Calls Try.prog 16 #[.pointer (some ⟨bt, 0, none⟩), .string s] w fun e w' => e = .returned (.tuple #[.int .i64 (findId l s), .bool (ix l s).isSome]) ∧ w = w' := by
  obtain ⟨hg, vn, mi, vc, mp, D, E, hT, rfl⟩ := h
  have c1 : w.cell? ⟨bt, 1, none⟩ = some (.map (some mi)) := hT.blk.cell 1
  have HT := Lib.hid hT
  have HK := Lib.hid (Go.WideMaps.keyOf_string_mk (P := Try.prog) Try.underlying9 (s := s) hs)
  clear hT hg hs
  go_enter Try.func16, Try.ntmps16
  go_wp2_with (at_lookup; refine wpList_lookup_own_ok_int _ rfl _ _ 52 rfl 9 3 .i64 lawS Try.underlying52 Try.underlying3 (zeroI _) mi _ D rfl HT.out.ids _ _ rfl HK.out ?_; intro c hat hwc)
  go_ret2
  have e1 := HT.out.idsAre.at_ s trivial hat
  have e2 := HT.out.idsAre.has s trivial
  unfold kdS at e2
  subst e1
  exact ⟨by rw [e2]; simp [findId, ixI], rfl⟩

def NewPost (w : World) (e : Ending) (w' : World) : Prop := ∃ bt F, e = .returned (.pointer (some ⟨bt, 0, none⟩)) ∧ Tab w' F bt [⟨#[]⟩] [] ∧ Below w.heap.size w w' ∧ ∀ k, k ∈ F → w.heap.size ≤ k
theorem new_fin {w w3 : World} (hown3 : w3.ownsMap Try.prog 9 (plainElem (H := Unit) Try.prog 3) (w.heap.size + 1) 1 ((DataW.map []).put (kdS ⟨#[]⟩) (.lit (.int .i64 0))))
    (hg3 : ((w.alloc (.cells #[.string ⟨#[]⟩] 9)).alloc (.map #[] 0)).grownBy w3 (some (w.heap.size + 1))) :
    NewPost w (.returned (.pointer (some ⟨w3.heap.size + 1, 0, none⟩))) ((w3.alloc (.map #[] 0)).alloc (.cells #[.slice (some ⟨w.heap.size, 0, none⟩) 1 1, .map (some (w.heap.size + 1)), .slice none 0 0, .map (some w3.heap.size)] 56)) := by
  have hs := hg3.size
  simp at hs
  have hr : (w.alloc (.cells #[.string ⟨#[]⟩] 9)).ownsRow 0 9 1 (.slice (some ⟨w.heap.size, 0, none⟩) 1 1) 1 [.string ⟨#[]⟩] :=
    ⟨rfl, .inr ⟨w.heap.size, 1, _, rfl, Nat.zero_le _, heap_alloc_new w _, Nat.le_refl _, by simp [maxLen], rfl, rfl⟩⟩
  have hr3 := (hr.alloc (.map #[] 0)).kept hg3 (.inr (by simp [Value.ownBlock]))
  have hT : Turned [] w w3 := (((Turned.refl [] w).alloc _).alloc _).grown hg3 (fun k hk => .inr (by injection hk with hk; omega))
  refine ⟨_, _, rfl, ⟨⟨by simp, rfl, by simp, fun s hs => by simp at hs; subst hs; decide, by simp, by simp, fun c hc => by simp at hc⟩, .slice (some ⟨w.heap.size, 0, none⟩) 1 1, w.heap.size + 1, .slice none 0 0, w3.heap.size, (DataW.map []).put (kdS ⟨#[]⟩) (.lit (.int .i64 0)), .map [], ⟨?_, ?_, ?_, ?_, ?_, ?_, ?_, ?_⟩, rfl⟩, ?_, ?_⟩
  · have := Blk.new (w3.alloc (.map #[] 0)) 56 #[.slice (some ⟨w.heap.size, 0, none⟩) 1 1, .map (some (w.heap.size + 1)), .slice none 0 0, .map (some w3.heap.size)]
    simpa using this
  · exact (hr3.alloc _).alloc _
  · exact World.ownsRow_nil _ _ _ _
  · exact (hown3.alloc _).alloc _
  · refine ((Agrees.none_ kdS (fun _ => True)).put (fun a b _ _ => kdS_inj a b) ⟨#[]⟩ trivial (kdS_key _) 0).congr ?_
    intro a
    by_cases ha : a = ⟨#[]⟩
    · subst ha; simp [ixI, ix]
    · have ha' : ¬ (⟨#[]⟩ : ByteArray) = a := fun e => ha e.symm
      simp [ixI, ix, ha, ha']
  · exact (World.ownsMap_made w3 Try.prog 60 (plainElem (H := Unit) Try.prog 3)).alloc _
  · exact (Agrees.none_ kdC okC).congr (fun _ => rfl)
  · omega
  · exact ((hT.alloc _).alloc _).of_nil
  · intro k hk
    simp [foot, Value.ownBlock] at hk
    omega

set_option maxRecDepth 100000 in
theorem new_any (w : World) : Calls Try.prog 9 #[] w (NewPost w) := by
  have hmm := @run_makeMap Try.prog
  have HK := Lib.hid (Go.WideMaps.keyOf_string_mk (P := Try.prog) Try.underlying9 (s := ⟨#[]⟩) (by decide))
  go_enter Try.func9, Try.ntmps9
  go_wp2_with ((refine wpList_insert_own _ rfl (.tmp 2) _ _ 52 rfl 9 3 lawS Try.underlying52 (plainElem (H := Unit) Try.prog 3) (w.heap.size + 1) 0 (.map []) rfl (by have := World.ownsMap_made (H := Unit) (w.alloc (.cells #[.string ⟨#[]⟩] 9)) Try.prog 9 (plainElem Try.prog 3); simpa using this) (by decide) _ _ _ rfl rfl HK.out _ [] (plainElem_int (a := 0) Try.underlying3 (by decide)) ?_; intro w3 hown3 hg3))
  go_ret
  exact new_fin hown3 hg3
end Go.Proofs.Ytdgmpickjdbhlaa
