/- A store over many settings; what searches of one key find. -/
import Derived.Test.YthgagobdkcikiaaDoorSearch
import Derived.Test.YthgagobdkcikiaaDoorRefF
import Derived.Test.YthgagobdkcikiaaDoorOpsIn
import Derived.Test.YthgagobdkcikiaaDoorILists3
import Derived.Test.YthgagobdkcikiaaDoorISameW
namespace Go.Proofs.YthgagobdkcikiaaDoor
set_option linter.unusedSimpArgs false
set_option linter.unusedVariables false
open Go.RowKit

/-- The store while it is set. -/
structure WK (w1 wr : World) (B bs mk mv : Nat) (vd vp vk : Value) (S : VSt) (N : Nat) : Prop where
  blk : Blk wr bs 56 #[vk, .map (some mk), .map (some mv), vd, vp]
  val : ValP wr vk mk mv S N
  high : ∀ j, j ∈ vfeet S bs vk mk mv → B ≤ j
  bel : Below B w1 wr
  size : B ≤ wr.heap.size
theorem WK.below {w1 wr w2 : World} {B bs mk mv N : Nat} {vd vp vk : Value} {S : VSt} (h : WK w1 wr B bs mk mv vd vp vk S N) (hb : Below wr.heap.size wr w2) : WK w1 w2 B bs mk mv vd vp vk S N :=
  ⟨h.blk.below hb h.blk.lt, h.val.below hb, h.high, h.bel.trans (hb.mono h.size), Nat.le_trans h.size hb.size⟩
theorem WK.set_ {w1 wr w2 : World} {B bs mk mv N : Nat} {vd vp vk : Value} {S : VSt} {id k n : Int} {key s : ByteArray} {ss : List ByteArray} {e : Ending} (h : WK w1 wr B bs mk mv vd vp vk S N) (hp : SetPost wr bs vk mk mv vd vp S N id key k n s ss e w2) :
    (∃ z, e = .returned (.int .i64 z)) ∧ ∃ vk' S' N', N' ≤ N + 1 ∧ WK w1 w2 B bs mk mv vd vp vk' S' N' := by
  obtain ⟨he, h0, h1⟩ := hp
  refine ⟨⟨_, he⟩, ?_⟩
  by_cases hz : mayE S id key k n s ss = 0
  · obtain ⟨vk', S5, r, g1, g2, g3, -, -, g6⟩ := h1 hz
    refine ⟨vk', _, N + 1, Nat.le_refl _, g1, g2, ?_, h.bel.trans (g3.below h.high h.size), Nat.le_trans h.size g3.size⟩
    rcases g6 with ⟨-, rfl, rfl⟩ | ⟨hno, nb, hnb, rfl, hv⟩
    · exact h.high
    · intro j hj
      have hB := h.size
      unfold vfeet at hj
      simp only [setS, withKey, List.mem_cons, List.mem_append, List.mem_filterMap, Option.mem_toList] at hj
      have hh := h.high
      unfold vfeet at hh
      simp only [List.mem_cons, List.mem_append, List.mem_filterMap, Option.mem_toList] at hh
      rcases hj with hj | hj | hj | hj | ⟨x, hx, hj⟩
      · exact hh j (.inl hj)
      · exact hh j (.inr (.inl hj))
      · exact hh j (.inr (.inr (.inl hj)))
      · rcases hv with hv | ⟨g, hg, hv⟩
        · rw [hv] at hj
          exact hh j (.inr (.inr (.inr (.inl hj))))
        · rw [hv] at hj
          injection hj with hj
          omega
      · by_cases hxk : x = key
        · rw [if_pos hxk] at hj
          injection hj with hj
          omega
        · rw [if_neg hxk] at hj
          rcases hx with hx | hx
          · exact hh j (.inr (.inr (.inr (.inr ⟨x, hx, hj⟩))))
          · simp at hx
            exact absurd hx hxk
  · exact ⟨vk, S, N, by omega, h.below (h0 hz)⟩
theorem found_below {w w' : World} {vk : Value} {mk mv N : Nat} {S : VSt} (hV : ValP w vk mk mv S N) (hb : Below w.heap.size w w') {key : ByteArray} {q : ByteArray → Bool} {id : Int} : Found w' S key q id ↔ Found w S key q id := by
  have hrow : ∀ r l, RowAt w r l → RowAt w' r l := fun r l h => by
    unfold RowAt at h ⊢
    cases ha : r.a with
    | none => rw [ha] at h; exact h
    | some b => rw [ha] at h; exact ⟨h.1, h.2.below hb h.2.lt⟩
  constructor
  · rintro ⟨r, l, h1, h2, h3⟩
    obtain ⟨l0, h4, _⟩ := hV.lists key id r h1
    rw [rowAt_one h2 (hrow _ _ h4)] at h3
    exact ⟨r, l0, h1, h4, h3⟩
  · rintro ⟨r, l, h1, h2, h3⟩
    exact ⟨r, l, h1, hrow _ _ h2, h3⟩
theorem Found.more {w : World} {S : VSt} {key : ByteArray} {q q' : ByteArray → Bool} {id : Int} (h : Found w S key q id) (hq : ∀ t, q t = true → q' t = true) : Found w S key q' id := by
  obtain ⟨r, l, h1, h2, h3⟩ := h
  obtain ⟨x, hx, h4⟩ := List.any_eq_true.1 h3
  exact ⟨r, l, h1, h2, List.any_eq_true.2 ⟨x, hx, hq x h4⟩⟩
theorem fits12 {p t : ByteArray} (h : fitsB 1 p t = true) : fitsB 2 p t = true := by
  unfold fitsB at h ⊢
  simp at h
  simp
  rw [has_prefix, h]
  exact ⟨Nat.le_refl _, List.take_length⟩
theorem fits23 {p t : ByteArray} (h : fitsB 2 p t = true) : fitsB 3 p t = true := by
  unfold fitsB at h ⊢
  simp at h
  simp
  rw [has_prefix] at h
  exact contains_iff.2 ⟨0, by simpa using h.1, by simpa using h.2⟩
theorem fits34 {p t : ByteArray} (h : fitsB 3 p t = true) : fitsB 4 ⟨#[42]⟩ t = true := by
  unfold fitsB
  simp
  exact gm_any _
theorem kIn_all {a b : List Int} (ha : a.Pairwise (· < ·)) (h : ∀ x, x ∈ a → x ∈ b) : Ids.srt (Ids.kIn b a) = a := by
  have e : Ids.kIn b a = a := List.filter_eq_self.2 fun x hx => by simpa using h x hx
  rw [e]
  exact Ids.srt_of_rise a ha
/-- What a search answers, where the key is there. -/
def FoundPost (w w3 : World) (S : VSt) (key : ByteArray) (q : ByteArray → Bool) (e : Ending) (w' : World) : Prop :=
  Below w.heap.size w w' ∧ ∃ A c ids, e = .returned (.tuple #[.slice A (List.length ids) c, .int .i64 0]) ∧ Ids.Rd w' w'.heap.size A (Ids.i64s ids) ∧ ids.Pairwise (· < ·) ∧ (∀ id, id ∈ ids ↔ okI id ∧ Found w3 S key q id) ∧ ids.length ≤ 1048576
theorem search_some {w1 w3 : World} {B bs mk mv N ib : Nat} {vd vp vk : Value} {S : VSt} (h : WK w1 w3 B bs mk mv vd vp vk S N) (hN : N ≤ 1048576) {key : ByteArray} (hkey : key.size ≤ maxLen) (hi : S.inner key = some ib) (hm : MaxAt w3) (hM : 0 < w3.heap.size) (htab : PowAt w3)
    (wx : World) (hb : Below w3.heap.size w3 wx) (how : Int) (hw1 : 1 ≤ how) (hw4 : how ≤ 4) (p : ByteArray) (hp : p.size ≤ 1048576) :
    Calls Tryd.prog 15 #[.pointer (some ⟨bs, 0, none⟩), .string key, .int .i64 how, .string p] wx (FoundPost wx w3 S key (fitsB how p)) := by
  have hx := h.below hb
  refine (search_any wx bs vk mk mv vd vp S N hx.blk hx.val (by omega) key hkey how hw1 hw4 p hp (hm.below hb hM) (by have := hb.size; omega) (htab.below hb)).mono ?_
  rintro e w' ⟨h1, h2⟩
  rw [hi] at h2
  obtain ⟨v, ids, rfl, h3, h4, h5, h6⟩ := h2
  obtain ⟨A, c, rfl, h7, h8⟩ := own_form' h3
  exact ⟨h1, A, c, ids, rfl, Ids.Rd.own h3, h4, fun id => (h5 id).trans (and_congr_right fun _ => found_below h.val hb), by omega⟩
theorem search_none {w1 w3 : World} {B bs mk mv N : Nat} {vd vp vk : Value} {S : VSt} (h : WK w1 w3 B bs mk mv vd vp vk S N) (hN : N ≤ 1048576) {key : ByteArray} (hkey : key.size ≤ maxLen) (hi : S.inner key = none) (hm : MaxAt w3) (hM : 0 < w3.heap.size) (htab : PowAt w3)
    (wx : World) (hb : Below w3.heap.size w3 wx) (how : Int) (hw1 : 1 ≤ how) (hw4 : how ≤ 4) (p : ByteArray) (hp : p.size ≤ 1048576) :
    Calls Tryd.prog 15 #[.pointer (some ⟨bs, 0, none⟩), .string key, .int .i64 how, .string p] wx fun e w' => e = .returned (.tuple #[.slice none 0 0, .int .i64 84]) ∧ Below wx.heap.size wx w' := by
  have hx := h.below hb
  refine (search_any wx bs vk mk mv vd vp S N hx.blk hx.val (by omega) key hkey how hw1 hw4 p hp (hm.below hb hM) (by have := hb.size; omega) (htab.below hb)).mono ?_
  rintro e w' ⟨h1, h2⟩
  rw [hi] at h2
  exact ⟨h2, h1⟩
/-- Meet, and Same behind it, of a list whose members all stand in the other. -/
theorem meet_sub (A A' : Option Addr) (c c' : Nat) (xs ys : List Int) (w : World) (hn : xs.length ≤ 1048576) (hm : ys.length ≤ 1048576) (hr : Ids.Rd w w.heap.size A (Ids.i64s xs)) (hr' : Ids.Rd w w.heap.size A' (Ids.i64s ys)) (ha : xs.Pairwise (· < ·)) (h : ∀ x, x ∈ xs → x ∈ ys) :
    Calls Tryd.prog 17 #[.slice A xs.length c, .slice A' ys.length c'] w (Ids.Lst w xs) := by
  have := Ids.rmeet_any A A' c c' w.heap.size xs.length ys.length xs ys w rfl rfl hn hm (Nat.le_refl _) hr hr'
  rw [kIn_all ha h] at this
  exact this
theorem same_self (A A' : Option Addr) (c c' : Nat) (xs : List Int) (w : World) (hn : xs.length ≤ 1048576) (hr : Ids.Rd w w.heap.size A (Ids.i64s xs)) (hr' : Ids.Rd w w.heap.size A' (Ids.i64s xs)) :
    Calls Tryd.prog 16 #[.slice A xs.length c, .slice A' xs.length c'] w fun e w' => e = .returned (.bool true) ∧ ∃ k, w' = w.drewN k := by
  have := Ids.same_any A A' c c' w.heap.size w.heap.size xs.length xs.length xs xs w rfl rfl (by omega) hr hr'
  simpa using this
end Go.Proofs.YthgagobdkcikiaaDoor
