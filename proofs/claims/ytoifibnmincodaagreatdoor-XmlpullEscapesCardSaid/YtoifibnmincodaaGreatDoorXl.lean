/- A reader with what is open; an element ends. -/
import Derived.Test.YtoifibnmincodaaGreatDoorXk
namespace Go.Proofs.YtoifibnmincodaaGreatDoor
set_option linter.unusedSimpArgs false
set_option linter.unusedVariables false
open Go.RowKit

def strL (l : List Bs) : List Value := l.map fun n => .string (mkS n)
theorem strL_len (l : List Bs) : (strL l).length = l.length := List.length_map ..
theorem own_cut {w : World} {base n c : Nat} {e : TypeId} {A : Option Addr} {xs : List Value} (h : w.ownsRow base e 1 (.slice A (n + 1) c) (n + 1) xs) : w.ownsRow base e 1 (.slice A n c) n (xs.take n) := by
  have hl := h.1
  refine ⟨by rw [List.length_take]; omega, ?_⟩
  rcases h.2 with ⟨_, h0⟩ | ⟨g, cap, cur, hv, hb, hg, h1, h2, h3, ht⟩
  · omega
  · injection hv with e1 e2 e3
    subst e1; subst e3
    refine .inr ⟨g, c, cur, rfl, hb, hg, by omega, h2, h3, ?_⟩
    rw [← ht, List.take_take, show min n ((n + 1) * 1) = n * 1 by omega]
/-- The attributes of a piece lie in a block of their own kind. -/
def AlK (w : World) (A : Option Addr) (l : Al) : Prop := 0 < l.length → ∃ b cs, A = some ⟨b, 0, none⟩ ∧ Blk w b 29 cs ∧ PairsAt w b 0 l
theorem AlK.turned {w w' : World} {F : List Nat} {A : Option Addr} {l : Al} (h : AlK w A l) (ht : Turned F w w') (hF : ∀ k ∈ F, ∀ cs, ¬ Blk w k 29 cs) : AlK w' A l := fun hl => by
  obtain ⟨b, cs, rfl, hb, hp⟩ := h hl
  have hn : b ∉ F := fun hm => hF b hm cs hb
  have e := ht.block b hb.lt hn
  exact ⟨b, cs, rfl, hb.turned ht hn, fun k a hk => ⟨(World.cell?_of_block (a := ⟨b, 0 + k * 2, none⟩) e).trans (hp k a hk).1, (World.cell?_of_block (a := ⟨b, 0 + k * 2 + 1, none⟩) e).trans (hp k a hk).2⟩⟩
theorem AlK.nil {w : World} {A : Option Addr} : AlK w A [] := fun h => by simp at h
theorem own_alK {w : World} {base : Nat} {A : Option Addr} {m c : Nat} {l : Al} (h : w.ownsRow base 29 2 (.slice A m c) l.length (alL l)) : AlK w A l := fun hl => by
  rcases h.2 with ⟨_, h0⟩ | ⟨g, cap, cur, hv, hb, hg, h1, h2, h3, ht⟩
  · omega
  · injection hv with e1 e2 e3
    subst e1
    refine ⟨g, cur, rfl, hg, fun k a hk => ?_⟩
    obtain ⟨b', e, c1⟩ := own_ats h (alL_at hk).1
    obtain ⟨b'', e', c2⟩ := own_ats h (alL_at hk).2
    injection e with e; injection e with e; subst e
    injection e' with e'; injection e' with e'; subst e'
    rw [Nat.zero_add]
    exact ⟨c1, c2⟩
/-- A piece as a value. -/
def pcV (pc : Pc) (A : Option Addr) (c : Nat) : Value := .agg #[.int .i64 pc.kind, .string (mkS pc.name), .slice A pc.attrs.length c, .string (mkS pc.text)]
def PcV (w : World) (pc : Pc) (v : Value) : Prop := ∃ A c, v = pcV pc A c ∧ pc.attrs.length ≤ c ∧ c ≤ maxLen ∧ AlK w A pc.attrs
def rdF (g : Nat) (vo : Value) (k : Nat) : Prop := k = g ∨ vo.ownBlock = some k
def fOf (g : Nat) (vo : Value) : List Nat := match vo.ownBlock with
  | some k => [g, k]
  | none => [g]
theorem fOf_mem {g : Nat} {vo : Value} {k : Nat} : k ∈ fOf g vo ↔ k = g ∨ vo.ownBlock = some k := by
  unfold fOf
  cases h : vo.ownBlock with
  | none => simp
  | some b => simp; constructor <;> (intro h; rcases h with h | h <;> simp [h])
/-- A reader in memory. -/
structure XRd (w : World) (base g : Nat) (vo : Value) (s : XS) (wr : Int) : Prop where
  blk : RdB w g s.rest vo (.bool s.begun) (.bool s.short) (.int .i64 wr)
  row : w.ownsRow base 9 1 vo s.opn.length (strL s.opn)
  far : base ≤ g
section
variable {w w' : World} {base g : Nat} {vo : Value} {s : XS} {wr : Int}
theorem XRd.drew (h : XRd w base g vo s wr) : XRd w.drew base g vo s wr := ⟨h.blk, h.row, h.far⟩
theorem XRd.vo_ne (h : XRd w base g vo s wr) : vo.ownBlock ≠ some g := own_kind h.row h.blk (by decide)
theorem XRd.base_le (h : XRd w base g vo s wr) {k : Nat} (hk : k ∈ fOf g vo) : base ≤ k := by
  rcases fOf_mem.1 hk with rfl | hk
  · exact h.far
  · exact (h.row.lt k hk).1
theorem XRd.not_kind (h : XRd w base g vo s wr) {k : Nat} (hk : k ∈ fOf g vo) {t : TypeId} {cs : Array Value} (h1 : t ≠ 76) (h2 : t ≠ 9) : ¬ Blk w k t cs := fun hb => by
  rcases fOf_mem.1 hk with rfl | hk
  · exact Blk.kind hb h.blk h1 rfl
  · exact own_kind h.row hb (Ne.symm h2) hk
theorem XRd.turned {F : List Nat} (h : XRd w base g vo s wr) (ht : Turned F w w') (hF : ∀ k ∈ F, k ∉ fOf g vo) : XRd w' base g vo s wr :=
  ⟨Blk.turned h.blk ht (fun hm => hF g hm (fOf_mem.2 (.inl rfl))), own_turned h.row ht (fun k hk hm => hF k hm (fOf_mem.2 (.inr hk))), h.far⟩
/-- What took from the rest alone. -/
theorem XRd.ate (h : XRd w base g vo s wr) (ht : Turned [g] w w') {r' : Bs} (hr : RdB w' g r' vo (.bool s.begun) (.bool s.short) (.int .i64 wr)) : XRd w' base g vo { s with rest := r' } wr :=
  ⟨hr, own_turned h.row ht (fun k hk hm => by simp at hm; subst hm; exact h.vo_ne hk), h.far⟩
theorem one_of {F : List Nat} {g : Nat} (hg : g ∈ F) (ht : Turned [g] w w') : Turned F w w' := ht.more fun k hk => by simp at hk; subst hk; exact hg
theorem g_mem (g : Nat) (vo : Value) : g ∈ fOf g vo := fOf_mem.2 (.inl rfl)
end
/-- A call told a piece, or gave up. -/
def Told (w : World) (base g : Nat) (vo : Value) (wr : Int) (res : Except Int (Pc × XS)) (e : Ending) (w' : World) : Prop :=
  Turned (fOf g vo) w w' ∧ ∃ vo' s', XRd w' base g vo' s' wr ∧ Fresh w (fOf g vo) (fOf g vo') ∧
    ((∃ pc v, res = .ok (pc, s') ∧ e = .returned v ∧ PcV w' pc v) ∨ ∃ k, res = .error k ∧ e = gaveUp k)
section
variable {w : World} {base g : Nat} {vo : Value} {s : XS} {wr : Int}
theorem last_of {l : List Bs} {n : Nat} (hn : l.length = n + 1) : (strL l)[n]? = some (.string (mkS (l.getLastD []))) ∧ (strL l).take n = strL l.dropLast ∧ l.dropLast.length = n := by
  have hne : l ≠ [] := fun h => by rw [h] at hn; cases hn
  refine ⟨?_, ?_, by simp; omega⟩
  · unfold strL
    rw [List.getElem?_map]
    have : l[n]? = some (l.getLastD []) := by
      have h1 := List.getLast?_eq_getElem? (l := l)
      rw [hn] at h1
      simp at h1
      rw [← h1, List.getLastD_eq_getLast?, List.getLast?_eq_some_getLast hne]
      rfl
    rw [this]; rfl
  · unfold strL
    rw [← List.map_take, List.dropLast_eq_take, hn]
    simp
set_option maxHeartbeats 2000000 in
set_option maxRecDepth 100000 in
theorem leave_any (h : XRd w base g vo s wr) (ho : 0 < s.opn.length) (ho2 : s.opn.length ≤ 17) :
    Calls Tryz.prog 38 #[.pointer (some ⟨g, 0, none⟩)] w (Told w base g vo wr (.ok (leaveR s))) := by
  obtain ⟨n, hn⟩ : ∃ n, s.opn.length = n + 1 := ⟨s.opn.length - 1, by omega⟩
  obtain ⟨hl1, hl2, hl3⟩ := last_of hn
  have hrow := h.row
  rw [hn] at hrow
  obtain ⟨A, c, rfl, hnc, hcm⟩ := own_form' hrow
  obtain ⟨b, rfl, hcell⟩ := own_at_ hrow hl1
  have hglt := Blk.lt h.blk
  have c1 := Blk.cell h.blk 1
  have f1 := Blk.free h.blk 1
  have hcut := own_cut hrow
  rw [hl2] at hcut
  simp at c1
  have hblt : b < w.heap.size := cell_lt hcell
  have hbg : ¬ b = g := fun e => h.vo_ne (by rw [e]; rfl)
  obtain ⟨nm, hnm⟩ : ∃ nm, nm = s.opn.getLastD [] := ⟨_, rfl⟩
  rw [← hnm] at hcell
  have HV : Hid (∀ W, W = (w.setCell ⟨g, 1, none⟩ (.slice (some ⟨b, 0, none⟩) n c)).alloc (.cells #[.int .i64 2, .string (mkS nm), .slice none 0 0, .string ⟨#[]⟩] 32) → Told w base g (.slice (some ⟨b, 0, none⟩) (n + 1) c) wr (.ok (leaveR s)) (.returned (.agg #[.int .i64 2, .string (mkS nm), .slice none 0 0, .string ⟨#[]⟩])) W) := by
    rintro W rfl
    refine ⟨((Turned.refl _ _).setCell (p := ⟨g, 1, none⟩) (.inl (g_mem _ _)) _).alloc _, .slice (some ⟨b, 0, none⟩) n c, { s with opn := s.opn.dropLast }, ⟨?_, ?_, h.far⟩, fun k hk => .inl hk, .inl ⟨⟨2, nm, [], []⟩, _, ?_, rfl, none, 0, rfl, Nat.le_refl _, by unfold maxLen; omega, AlK.nil⟩⟩
    · exact Blk.alloc (Blk.set_ h.blk 1 (.slice (some ⟨b, 0, none⟩) n c)) _
    · show World.ownsRow _ _ _ _ _ s.opn.dropLast.length (strL s.opn.dropLast)
      rw [hl3]
      exact (own_setCell (p := ⟨g, 1, none⟩) hcut (fun e => hbg (by injection e)) _).alloc _
    · unfold leaveR; rw [hnm]
  have hi : (n : Int) < 9223372036854775807 := by omega
  clear hl1 hl2 hl3 hrow hcut hnm hn ho
  have hsz : (w.setCell ⟨g, 1, none⟩ (.slice (some ⟨b, 0, none⟩) n c)).heap.size = w.heap.size := by simp [World.setCell]
  go_enter Tryz.func38, Tryz.ntmps38
  go_wp2_with fail
  refine bodyPost_ret (v := .agg #[.int .i64 2, .string (mkS nm), .slice none 0 0, .string ⟨#[]⟩]) ?_ rfl (HV.out _ rfl)
  refine (results_one rfl _ (ad := ⟨w.heap.size, 0, none⟩) rfl).trans ?_
  go_simp
end
end Go.Proofs.YtoifibnmincodaaGreatDoor
