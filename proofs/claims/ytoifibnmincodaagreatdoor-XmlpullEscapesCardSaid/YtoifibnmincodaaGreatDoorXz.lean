/- A piece is stored whole. -/
import Derived.Test.YtoifibnmincodaaGreatDoorXl
namespace Go.Proofs.YtoifibnmincodaaGreatDoor
set_option linter.unusedSimpArgs false
set_option linter.unusedVariables false
open Go.RowKit

def put4 (w : World) (p : Nat) (a b c d : Value) : World := (((w.setCell ⟨p, 0, none⟩ a).setCell ⟨p, 1, none⟩ b).setCell ⟨p, 2, none⟩ c).setCell ⟨p, 3, none⟩ d
theorem put4_blk {w : World} {p : Nat} {t : TypeId} {x0 x1 x2 x3 a b c d : Value} (h : Blk w p t #[x0, x1, x2, x3]) : Blk (put4 w p a b c d) p t #[a, b, c, d] := (((h.set_ 0 a).set_ 1 b).set_ 2 c).set_ 3 d
theorem put4_turned {w : World} {p : Nat} {a b c d : Value} : Turned [p] w (put4 w p a b c d) :=
  ((((Turned.refl _ _).setCell (p := ⟨p, 0, none⟩) (.inl (by simp)) _).setCell (p := ⟨p, 1, none⟩) (.inl (by simp)) _).setCell (p := ⟨p, 2, none⟩) (.inl (by simp)) _).setCell (p := ⟨p, 3, none⟩) (.inl (by simp)) _
theorem results_one' {fn : Func} {t : Tmp} {e : TypeId} (h : fn.results = #[.cell t e]) (tmps : Array Value) {P : Program} {w : World} {ad : Addr} (hp : tmps[t]?.getD undef = .pointer (some ad)) :
    (results fn tmps).run P w = (loadVar e ad).run P w := results_one h tmps hp
section
variable {w w' w0 : World} {base g : Nat} {vo : Value} {s : XS} {wr : Int}
theorem Turned.new_ {F : List Nat} {p : Nat} (h : Turned F w0 w) (ht : Turned [p] w w') (hp : w0.heap.size ≤ p) : Turned F w0 w' :=
  ⟨ht.os.trans h.os, ht.tape.trans h.tape, ht.output.trans h.output, Nat.le_trans h.size ht.size, fun k hk hn => (ht.block k (Nat.lt_of_lt_of_le hk h.size) (fun hm => by simp at hm; omega)).trans (h.block k hk hn)⟩
theorem pc_load {w : World} {p : Nat} {a b c d : Value} (h : Blk w p 32 #[a, b, c, d]) : (loadVar 32 ⟨p, 0, none⟩).run Tryz.prog w = .ok (.agg #[a, b, c, d]) w := by
  have b0 := h.cell 0
  have b1 := h.cell 1
  have b2 := h.cell 2
  have b3 := h.cell 3
  simp at b0 b1 b2 b3
  clear h
  go_simp
/-- What is told, stored in a block of the call's own. -/
theorem told_put {res : Except Int (Pc × XS)} {p : Nat} {vo' : Value} {s' : XS} {pc : Pc} {A : Option Addr} {c : Nat} {cs : Array Value} (ht : Turned (fOf g vo) w0 w) (hx : XRd w base g vo' s' wr) (hf : Fresh w0 (fOf g vo) (fOf g vo')) (hres : res = .ok (pc, s')) (hb : Blk w p 32 cs) (hp : w0.heap.size ≤ p)
    (hl : pc.attrs.length ≤ c) (hm : c ≤ maxLen) (hA : AlK w A pc.attrs) (htp : Turned [p] w w') : Told w0 base g vo wr res (.returned (pcV pc A c)) w' := by
  have hn : ∀ k ∈ [p], k ∉ fOf g vo' := fun k hk hm => by simp at hk; subst hk; exact hx.not_kind hm (by decide) (by decide) hb
  exact ⟨ht.new_ htp hp, vo', s', hx.turned htp hn, hf, .inl ⟨pc, _, hres, rfl, A, c, rfl, hl, hm, hA.turned htp (fun k hk cs' hb' => by simp at hk; subst hk; exact Blk.kind hb' hb (by decide) rfl)⟩⟩
end
end Go.Proofs.YtoifibnmincodaaGreatDoor
