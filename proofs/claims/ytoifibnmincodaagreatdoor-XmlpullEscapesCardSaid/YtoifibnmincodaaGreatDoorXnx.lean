/- Next: what its closure does. -/
import Derived.Test.YtoifibnmincodaaGreatDoorXv
import Derived.Test.YtoifibnmincodaaGreatDoorXka
namespace Go.Proofs.YtoifibnmincodaaGreatDoor
set_option linter.unusedSimpArgs false
set_option linter.unusedVariables false
open Go.RowKit

/-- What a reader is that may be asked. -/
structure XOk (s : XS) : Prop where
  rest : s.rest.length ≤ 40000
  opn : s.opn.length ≤ 16
  short : s.short = true → 0 < s.opn.length
section
variable {w w' w0 : World} {B base g : Nat} {vo : Value} {s : XS} {wr : Int}
def zeroP : Array Value := #[.int .i64 0, .string ⟨#[]⟩, .slice none 0 0, .string ⟨#[]⟩]
def pcC (pc : Pc) (A : Option Addr) (c : Nat) : Array Value := #[.int .i64 pc.kind, .string (mkS pc.name), .slice A pc.attrs.length c, .string (mkS pc.text)]
/-- Behind the closure: what was told is stored at q; or nothing. -/
def NxQ (w0 : World) (base g q : Nat) (vo : Value) (s : XS) (wr : Int) (w1 : World) : Prop :=
  ∃ vo' s' pc A c, nextR s = .ok (pc, s') ∧ XRd w1 base g vo' s' wr ∧ Fresh w0 (fOf g vo) (fOf g vo') ∧ Blk w1 q 32 (pcC pc A c) ∧ pc.attrs.length ≤ c ∧ c ≤ maxLen ∧ AlK w1 A pc.attrs
def NxP (w0 : World) (base g q : Nat) (vo : Value) (s : XS) (wr : Int) (n : Int) (w1 : World) : Prop :=
  ∃ vo' s', nextR s = .error n ∧ XRd w1 base g vo' s' wr ∧ Fresh w0 (fOf g vo) (fOf g vo') ∧ Blk w1 q 32 zeroP
set_option maxHeartbeats 4000000 in
set_option maxRecDepth 100000 in
theorem clos_any {b1 q : Nat} (h : XRd w base g vo s wr) (hE : XEnv B w) (hBb : B ≤ base) (ho : XOk s) (hb1 : Blk w b1 41 #[.pointer (some ⟨g, 0, none⟩)]) (hq : Blk w q 32 zeroP) :
    Calls Tryz.prog 26 #[.pointer (some ⟨b1, 0, none⟩), .pointer (some ⟨q, 0, none⟩)] w (Done (q :: fOf g vo) w (NxQ w base g q vo s wr) (NxP w base g q vo s wr)) := by
  have C := Lib.hid (next_any h hE hBb ho.rest ho.opn ho.short)
  have c1 := hb1.cell 0
  simp at c1
  have HX := Lib.hid h
  have HQ := Lib.hid hq
  have hqn : q ∉ fOf g vo := fun hm => h.not_kind hm (by decide) (by decide) hq
  clear h hE hb1 hq ho
  go_enter Tryz.func26, Tryz.ntmps26
  go_wp2_with fail
  refine C.out.mono ?_
  intro en w1 ha
  obtain ⟨ht, vo', s', hx, hf, hor⟩ := ha
  have hq1 := HQ.out.turned ht hqn
  have htq : Turned (q :: fOf g vo) w w1 := ht.more fun k hk => by simp [hk]
  rcases hor with ⟨pc, v, hr, rfl, A, c, rfl, hl, hm, hA⟩ | ⟨k, hr, rfl⟩
  · have hqn' : ∀ k ∈ [q], k ∉ fOf g vo' := fun k hk hm => by simp at hk; subst hk; exact hx.not_kind hm (by decide) (by decide) hq1
    have HB4 := put4_blk (a := .int .i64 pc.kind) (b := .string (mkS pc.name)) (c := .slice A pc.attrs.length c) (d := .string (mkS pc.text)) hq1
    have HT4 : Turned [q] w1 (put4 w1 q (.int .i64 pc.kind) (.string (mkS pc.name)) (.slice A pc.attrs.length c) (.string (mkS pc.text))) := put4_turned
    have HV : Hid (Done (q :: fOf g vo) w (NxQ w base g q vo s wr) (NxP w base g q vo s wr) (.returned (.tuple #[])) (put4 w1 q (.int .i64 pc.kind) (.string (mkS pc.name)) (.slice A pc.attrs.length c) (.string (mkS pc.text)))) :=
      ⟨htq.trans (HT4.more fun k hk => by simp at hk; simp [hk]) (Fresh.refl _ _), .inl ⟨rfl, vo', s', pc, A, c, hr, hx.turned HT4 hqn', hf, HB4, hl, hm, hA.turned HT4 (fun k hk cs hb => by simp at hk; subst hk; exact Blk.kind hb hq1 (by decide) rfl)⟩⟩
    have b0 := hq1.cell 0
    have b1' := hq1.cell 1
    have b2 := hq1.cell 2
    have b3 := hq1.cell 3
    have f0 := hq1.free 0
    have f1 := hq1.free 1
    have f2 := hq1.free 2
    have f3 := hq1.free 3
    unfold zeroP at b0 b1' b2 b3
    simp at b0 b1' b2 b3
    clear ht hx hf hr hA HB4 HT4 htq hq1 C c1
    unfold pcV
    unfold put4 at HV
    go_wp2_with fail
    go_end0
    exact HV.out
  · have HV : Hid (Done (q :: fOf g vo) w (NxQ w base g q vo s wr) (NxP w base g q vo s wr) (gaveUp k) w1) := ⟨htq, .inr ⟨k, rfl, vo', s', hr, hx, hf, hq1⟩⟩
    clear ht hx hf hr htq hq1 C c1
    unfold gaveUp at HV ⊢
    go_wp2_with fail
    exact ⟨rfl, HV.out⟩
theorem XRd.set4 (h : XRd w base g vo s wr) (n : Int) : XRd (w.setCell ⟨g, 4, none⟩ (.int .i64 n)) base g vo s n :=
  ⟨Blk.set_ h.blk 4 (.int .i64 n), own_setCell (p := ⟨g, 4, none⟩) h.row h.vo_ne _, h.far⟩
theorem fOf_lt (h : XRd w base g vo s wr) : ∀ k ∈ fOf g vo, k < w.heap.size := fun k hk => by
  rcases fOf_mem.1 hk with rfl | hk
  · exact Blk.lt h.blk
  · exact (h.row.lt k hk).2
end
end Go.Proofs.YtoifibnmincodaaGreatDoor
