/- The start of an element that is known within. The end of an element at whose end nothing is done. The text of an element, without the layout around it: bytes.Trim, then string(..). The end of an element at whose end something is done with its text. The start of the whole text's element where its name is another. What the reader does with a start and with an end. What the reader does with a text. The end of a package: it is checked and taken. The two documents of the laws' awake, piece by piece. What is done with the pieces of some documents, as a function; and what lies in memory meanwhile. -/
import Derived.Test.YtljldbdjkjllhaaGreatDoorZdb
import Derived.Test.YtljldbdjkjllhaaGreatDoorZac
import Derived.Laws.BytesArg
import Derived.Test.YtljldbdjkjllhaaGreatDoorZaa
import Derived.Deep.RegionLaw
import Derived.Test.YtljldbdjkjllhaaGreatDoorZbd
import Derived.Test.YtljldbdjkjllhaaGreatDoorZbg
/- The start of an element that is known within. -/
namespace Go.Proofs.YtljldbdjkjllhaaGreatDoor
set_option linter.unusedSimpArgs false
set_option linter.unusedVariables false
open Go.RowKit

theorem neq_func_nil (f : Fn) (B K : Array Value) (w : World) : (Go.binOp .neq 138 (.func f B K) .nilFunc).run Tryz.prog w = .ok (.bool true) w := by kernel_rfl
/-- What a start leaves where its element is known: wq is the world in which its begin returned. -/
def Begun (w : World) (r g0 : Nat) (vp : Value) (F : List Nat) (Q : Option Nat → Value → World → Prop) (w' : World) : Prop := ∃ mo en wq g, Q mo en wq ∧ Blk wq r 58 #[.pointer (some ⟨g0, 0, none⟩), vp] ∧ Blk wq g 65 #[.map none, .nilFunc, .pointer (some ⟨g0, 0, none⟩), .slice none 0 0] ∧ Turned [r, g] wq w' ∧ Turned (r :: F) w w' ∧ w.heap.size ≤ g ∧ Blk w' r 58 #[.pointer (some ⟨g, 0, none⟩), vp] ∧ Blk w' g 65 #[.map mo, en, .pointer (some ⟨g0, 0, none⟩), .slice none 0 0]
set_option maxHeartbeats 4000000 in
set_option maxRecDepth 100000 in
theorem start_in (fc : Nat) (B K : Array Value) (F : List Nat) (Q : Option Nat → Value → World → Prop) (r g0 : Nat) (vp en av : Value) (mv : Option Nat) (tx : Value) (pc : Pc) (A : Option Addr) (c : Nat) (w : World) (hr : Blk w r 58 #[.pointer (some ⟨g0, 0, none⟩), vp]) (hg : Blk w g0 65 #[.map mv, en, av, tx]) (hw : WithinAt w pc.name (.map mv) (.func (.func fc) B K))
    (ef : Enters Tryz.prog fc) (hF : ∀ k ∈ F, k < w.heap.size) (hrF : r ∉ F)
    (hC : ∀ w', Below w.heap.size w w' → Calls Tryz.prog fc (B.push (.agg #[.int .i64 pc.kind, .string (mkS pc.name), .slice A pc.attrs.length c, .string (mkS pc.text)]) ++ K) w' fun e w'' => ∃ mo en', e = .returned (.tuple #[.agg #[.map mo, en'], .int .i64 0]) ∧ en'.oneCell' = true ∧ Turned F w' w'' ∧ Q mo en' w'') :
    Calls Tryz.prog 44 #[.pointer (some ⟨r, 0, none⟩), .agg #[.int .i64 pc.kind, .string (mkS pc.name), .slice A pc.attrs.length c, .string (mkS pc.text)]] w fun e w' => e = .returned (.int .i64 0) ∧ Begun w r g0 vp F Q w' := by
  obtain ⟨w1, hw1⟩ : ∃ w1, w1 = (w.alloc (.cells #[.int .i64 pc.kind, .string (mkS pc.name), .slice A pc.attrs.length c, .string (mkS pc.text)] 68)).alloc (.cells #[.map none, .nilFunc, .pointer (some ⟨g0, 0, none⟩), .slice none 0 0] 65) := ⟨_, rfl⟩
  have K1 : Hid (Blk w1 w.heap.size 68 #[.int .i64 pc.kind, .string (mkS pc.name), .slice A pc.attrs.length c, .string (mkS pc.text)]) := by rw [hw1]; exact (Blk.new _ _ _).alloc _
  have N1 : Hid (Blk w1 (w.heap.size + 1) 65 #[.map none, .nilFunc, .pointer (some ⟨g0, 0, none⟩), .slice none 0 0]) := by rw [hw1]; exact Blk.new' (by simp)
  have HB1 : Hid (Below w.heap.size w w1) := by rw [hw1]; exact ((Below.refl _ _).alloc (Nat.le_refl _) _).alloc (by simp) _
  have R1 := Lib.hid (Blk.mono hr HB1.out)
  have G1 := Lib.hid (Blk.mono hg HB1.out)
  have HC := Lib.hid hC
  have HF := Lib.hid hF
  have HRF := Lib.hid hrF
  have HLK : ∀ n, (Instr.lookup 60 (.map mv) (.string (mkS pc.name)) false).run Tryz.prog (w1.drewN n) = .ok (.func (.func fc) B K) (w1.drewN n) := fun n => ((hw.below HB1.out).drewN n).run
  have hlk0 : (Instr.lookup 60 (.map mv) (.string (mkS pc.name)) false).run Tryz.prog w1 = .ok (.func (.func fc) B K) w1 := (hw.below HB1.out).run
  have r0 := (hr.alloc (.cells #[.int .i64 pc.kind, .string (mkS pc.name), .slice A pc.attrs.length c, .string (mkS pc.text)] 68)).cell 0
  simp at r0
  have hrl := hr.lt
  have hne : ¬ r = w.heap.size + 1 := by omega
  clear hr hg hw hC hF hrF
  go_enter Tryz.func44, Tryz.ntmps44
  go_upto_region 2 with fail
  rw [← hw1]
  clear hw1 r0
  have r0 := R1.out.cell 0
  have f0 := R1.out.free 0
  have g0' := G1.out.cell 0
  have l0 := K1.out.cell 0
  have l1 := K1.out.cell 1
  simp at r0 g0' l0 l1
  go_quiet (fail)
  have HBQ : Hid (Below w.heap.size w (w1.drewN nq)) := below_drewN' (n := nq) HB1.out
  have RQ : Hid (Blk (w1.drewN nq) r 58 #[.pointer (some ⟨g0, 0, none⟩), vp]) := R1.out
  have KQ : Hid (Blk (w1.drewN nq) w.heap.size 68 #[.int .i64 pc.kind, .string (mkS pc.name), .slice A pc.attrs.length c, .string (mkS pc.text)]) := K1.out
  have NQ : Hid (Blk (w1.drewN nq) (w.heap.size + 1) 65 #[.map none, .nilFunc, .pointer (some ⟨g0, 0, none⟩), .slice none 0 0]) := N1.out
  clear r0 f0 g0' l0 l1 HLK hlk0 HB1 R1 G1 N1 K1
  generalize w1.drewN nq = w2 at HBQ RQ KQ NQ ⊢
  have l0 := KQ.out.cell 0
  have l1 := KQ.out.cell 1
  have l2 := KQ.out.cell 2
  have l3 := KQ.out.cell 3
  simp at l0 l1 l2 l3
  have hq0 := neq_func_nil (.func fc) B K w2
  have hcf := ef (B.push (.agg #[.int .i64 pc.kind, .string (mkS pc.name), .slice A pc.attrs.length c, .string (mkS pc.text)]) ++ K) w2
  go_wp2_with fail
  refine (HC.out w2 HBQ.out).mono ?_
  rintro e w3 ⟨mo, en', rfl, ho, hT, hQ⟩
  have T3 := Lib.hid hT
  have HQ := Lib.hid hQ
  have R3 := Lib.hid (RQ.out.turned T3.out HRF.out)
  have N3 := Lib.hid (NQ.out.turned T3.out (fun h => by have := HF.out _ h; omega))
  clear hT hQ l0 l1 l2 l3 hq0 hcf
  have r0 := R3.out.cell 0
  have f0 := R3.out.free 0
  have n0 := N3.out.cell 0
  have n1 := N3.out.cell 1
  have fn0 := N3.out.free 0
  have fn1 := N3.out.free 1
  simp at r0 n0 n1
  have hr3 := R3.out.lt
  have hn3 := N3.out.lt
  have hst := fun (a : Addr) (m : _) (w : World) => run_store Tryz.prog w a en' m ho
  have HLD := el_load (w := ((w3.alloc (.cells #[.map none, .nilFunc] 63)).setCell ⟨w3.heap.size, 0, none⟩ (.map mo)).setCell ⟨w3.heap.size, 1, none⟩ en') (p := w3.heap.size) (a := .map mo) (b := en') (((Blk.new _ _ _).set_ 0 _).set_ 1 _)
  go_wp2_with fail
  go_ret
  refine ⟨rfl, mo, en', w3, w.heap.size + 1, HQ.out, R3.out, N3.out, ?_, ?_, by omega, ?_, ?_⟩
  · exact ((((Turned.refl _ w3).setCell (.inl (by simp)) _).setCell (.inl (by simp)) _).setCell (.inl (by simp)) _).alloc _
  · have h1 : Turned (r :: F) w w3 := (Turned.of_below HBQ.out (r :: F)).trans (T3.out.more (fun k hk => List.mem_cons_of_mem _ hk)) (Fresh.refl _ _)
    exact (((h1.setCell (.inr (Nat.le_succ _)) _).setCell (.inr (Nat.le_succ _)) _).setCell (.inl (by simp)) _).alloc _
  · exact (((R3.out.far hne _).far hne _).set_ 0 _).alloc _
  · exact ((((N3.out.set_ 0 _).set_ 1 _).far (fun e => hne e.symm) _)).alloc _
end Go.Proofs.YtljldbdjkjllhaaGreatDoor

/- The end of an element at whose end nothing is done. -/
namespace Go.Proofs.YtljldbdjkjllhaaGreatDoor
set_option linter.unusedSimpArgs false
set_option linter.unusedVariables false
open Go.RowKit

theorem eql_nil_nil (w : World) : (Go.binOp .eql 61 .nilFunc .nilFunc).run Tryz.prog w = .ok (.bool true) w := by kernel_rfl
theorem eql_func_nil (f : Fn) (B K : Array Value) (w : World) : (Go.binOp .eql 61 (.func f B K) .nilFunc).run Tryz.prog w = .ok (.bool false) w := by kernel_rfl
set_option maxHeartbeats 4000000 in
set_option maxRecDepth 100000 in
theorem end_nil (r g0 : Nat) (vp mv : Value) (a1 : Addr) (tx : Value) (w : World) (hr : Blk w r 58 #[.pointer (some ⟨g0, 0, none⟩), vp]) (hg : Blk w g0 65 #[mv, .nilFunc, .pointer (some a1), tx]) :
    Calls Tryz.prog 45 #[.pointer (some ⟨r, 0, none⟩)] w fun e w' => e = .returned (.int .i64 0) ∧ Turned [r] w w' ∧ Blk w' r 58 #[.pointer (some a1), vp] := by
  have R1 := Lib.hid hr
  have G1 := Lib.hid hg
  have r0 := hr.cell 0
  have f0 := hr.free 0
  have g1 := hg.cell 1
  have g2 := hg.cell 2
  simp at r0 g1 g2
  have hrg : ¬ g0 = r := Blk.kind hg hr (by decide)
  have hrg' : ¬ r = g0 := fun e => hrg e.symm
  have hq0 := fun w => eql_nil_nil w
  clear hr hg
  go_enter Tryz.func45, Tryz.ntmps45
  go_wp2_with fail
  go_ret
  exact ⟨rfl, (Turned.refl _ _).setCell (.inl (by simp)) _, R1.out.set_ 0 _⟩
end Go.Proofs.YtljldbdjkjllhaaGreatDoor

/- The text of an element, without the layout around it: bytes.Trim, then string(..). -/
namespace Go.Proofs.YtljldbdjkjllhaaGreatDoor
set_option linter.unusedSimpArgs false
set_option linter.unusedVariables false
open Go.RowKit

def trimX (l : Bs) : Bs := Lib.trimS l [9, 10, 13, 32]
def intsB (l : Bs) : List Int := l.map fun b => (b.toNat : Int)
theorem strOf_ints (l : Bs) : strOfNums (intsB l) = mkS l := by
  apply mkS_of
  rw [strOfNums_data]
  unfold intsB
  rw [List.map_map]
  conv => rhs; rw [← List.map_id l]
  apply List.map_congr_left
  intro b _
  simp
theorem intsB_at {l : Bs} {i : Nat} (h : i < l.length) : (intsB l).getD i 0 = (l[i].toNat : Int) := by
  unfold intsB
  rw [List.getD_eq_getElem?_getD, List.getElem?_map, List.getElem?_eq_getElem h]
  rfl
theorem conv_left {w : World} {A : Option Addr} {n c : Nat} {bs : Bs} (hn : bs.length = n) (hc : n ≤ c) (h : Lib.BytesAt w A n bs) (k j : Nat) (hj : j ≤ k) (hk : k ≤ n) : (convert 46 9 (Lib.leftV A k c j)).run Tryz.prog w = .ok (.string (mkS ((bs.take k).drop j))) w := by
  unfold Lib.leftV
  by_cases e : j = k
  · rw [if_pos e]
    have h0 : (bs.take k).drop j = [] := List.drop_eq_nil_of_le (by rw [List.length_take]; omega)
    rw [h0]
    exact run_convert_bytes_nil w 46 5 Tryz.underlying46 Tryz.underlying5 0 0 9 Tryz.underlying9
  · rw [if_neg e]
    obtain ⟨b, o, rfl, hcell⟩ := h (by omega)
    unfold Lib.fromV
    rw [if_neg (by omega)]
    have ha : ((some (⟨b, o, none⟩ : Addr)).map fun x => x.add j) = some ⟨b, o + j, none⟩ := by rw [Option.map_some, Addr.add_lit]
    rw [ha]
    rw [← strOf_ints]
    have hlen : ((bs.take k).drop j).length = k - j := by rw [List.length_drop, List.length_take]; omega
    refine run_convert_bytes_arg w 46 5 Tryz.underlying46 Tryz.underlying5 b (o + j) (k - j) (c - j) (intsB ((bs.take k).drop j)) (by unfold intsB; rw [List.length_map, hlen]) (fun i hi => ?_) 9 Tryz.underlying9
    rw [Nat.add_assoc, hcell (j + i) (by omega), intsB_at (by omega), List.getElem_drop, List.getElem_take, List.getD_eq_getElem?_getD, List.getElem?_eq_getElem (by omega)]
    rfl
theorem trimR_take (l cs : Bs) : Lib.trimRightS l cs = l.take (Lib.trimRightS l cs).length := by
  apply List.prefix_iff_eq_take.1
  unfold Lib.trimRightS
  rw [← List.reverse_suffix, List.reverse_reverse]
  exact List.dropWhile_suffix _
theorem trim_drop (l cs : Bs) : Lib.trimS l cs = (Lib.trimRightS l cs).drop ((Lib.trimRightS l cs).length - (Lib.trimS l cs).length) := by
  apply List.suffix_iff_eq_drop.1
  unfold Lib.trimS Lib.trimLeftS
  exact List.dropWhile_suffix _
theorem bytesAt_below {w w' : World} {B n : Nat} {A : Option Addr} {bs : Bs} (h : Lib.BytesAt w A n bs) (hb : Below w.heap.size w w') : Lib.BytesAt w' A n bs := fun hn => by
  obtain ⟨b, o, e, hc⟩ := h hn
  exact ⟨b, o, e, fun i hi => by rw [hb.cell (block_lt_of_cell (hc i hi))]; exact hc i hi⟩
theorem info27 : (Tryz.prog.info? (Tryz.laysV6_ren.t 27)).map (fun i => (i.zero, i.size)) = some (some (.agg (Array.replicate 256 (.bool false))), 256) := by kernel_rfl
theorem lay_ascii : ∀ (j : Nat) b, (⟨#[9, 10, 13, 32]⟩ : ByteArray).data.toList[j]? = some b → b.toNat < 128 := by
  intro j b h
  have hm : b ∈ ([9, 10, 13, 32] : List UInt8) := List.mem_of_getElem? h
  simp at hm
  rcases hm with rfl | rfl | rfl | rfl <;> decide
theorem btrim_any {w : World} {A : Option Addr} {n c : Nat} {bs : Bs} (hn : bs.length = n) (hnc : n ≤ c) (hc : c ≤ maxLen) (h : Lib.BytesAt w A n bs) :
    Calls Tryz.prog 82 #[.slice A n c, .string ⟨#[9, 10, 13, 32]⟩] w fun e w' => ∃ v, e = .returned v ∧ (∀ wx, Below w.heap.size w wx → (convert 46 9 v).run Tryz.prog wx = .ok (.string (mkS (trimX bs))) wx) ∧ Below w.heap.size w w' := by
  refine (Any.bytes_Trim_ascii Tryz.laysV6 (zero_of_info info27).1 (zero_of_info info27).2 A n c bs ⟨#[9, 10, 13, 32]⟩ w hn hnc (by unfold maxLen at hc; omega) h (by decide) lay_ascii).mono ?_
  rintro e w' ⟨rfl, hb⟩
  refine ⟨_, rfl, fun wx hx => ?_, hb⟩
  have hl : (⟨#[9, 10, 13, 32]⟩ : ByteArray).data.toList = [9, 10, 13, 32] := rfl
  rw [hl]
  have hk : (Lib.trimRightS bs [9, 10, 13, 32]).length ≤ n := by
    have := congrArg List.length (trimR_take bs [9, 10, 13, 32])
    rw [List.length_take] at this
    omega
  have h2 := conv_left hn hnc (bytesAt_below (B := 0) h hx) (Lib.trimRightS bs [9, 10, 13, 32]).length ((Lib.trimRightS bs [9, 10, 13, 32]).length - (Lib.trimS bs [9, 10, 13, 32]).length) (Nat.sub_le _ _) hk
  rw [← trimR_take, ← trim_drop] at h2
  exact h2
end Go.Proofs.YtljldbdjkjllhaaGreatDoor

/- The end of an element at whose end something is done with its text. -/
namespace Go.Proofs.YtljldbdjkjllhaaGreatDoor
set_option linter.unusedSimpArgs false
set_option linter.unusedVariables false
open Go.RowKit

set_option maxHeartbeats 4000000 in
set_option maxRecDepth 100000 in
theorem end_in (fc : Nat) (B K : Array Value) (Q : Int → World → Prop) (r g0 : Nat) (vp mv : Value) (a1 : Addr) (A : Option Addr) (n c : Nat) (bs : Bs) (w : World) (hr : Blk w r 58 #[.pointer (some ⟨g0, 0, none⟩), vp]) (hg : Blk w g0 65 #[mv, .func (.func fc) B K, .pointer (some a1), .slice A n c])
    (hn : bs.length = n) (hnc : n ≤ c) (hc : c ≤ maxLen) (hb : Lib.BytesAt w A n bs) (hA : ∀ b o, A = some ⟨b, o, none⟩ → b ≠ r) (ef : Enters Tryz.prog fc)
    (hC : ∀ w', Turned [r] w w' → Blk w' r 58 #[.pointer (some a1), vp] → Calls Tryz.prog fc (B.push (.string (mkS (trimX bs))) ++ K) w' fun e w'' => ∃ n, e = .returned (.int .i64 n) ∧ Q n w'') :
    Calls Tryz.prog 45 #[.pointer (some ⟨r, 0, none⟩)] w fun e w' => ∃ n, e = .returned (.int .i64 n) ∧ Q n w' := by
  obtain ⟨w1, hw1⟩ : ∃ w1, w1 = w.setCell ⟨r, 0, none⟩ (.pointer (some a1)) := ⟨_, rfl⟩
  have hrg : ¬ g0 = r := Blk.kind hg hr (by decide)
  have hrg' : ¬ r = g0 := fun e => hrg e.symm
  have R1 : Hid (Blk w1 r 58 #[.pointer (some a1), vp]) := by rw [hw1]; exact hr.set_ 0 _
  have G1 : Hid (Blk w1 g0 65 #[mv, .func (.func fc) B K, .pointer (some a1), .slice A n c]) := by rw [hw1]; exact hg.far hrg _
  have T1 : Hid (Turned [r] w w1) := by rw [hw1]; exact (Turned.refl _ _).setCell (.inl (by simp)) _
  have HB : Hid (Lib.BytesAt w1 A n bs) := fun h0 => by
    obtain ⟨b, o, e, hcl⟩ := hb h0
    exact ⟨b, o, e, fun i hi => by rw [hw1]; exact (World.cell?_setCell_far _ _ _ _ (fun e3 => hA b o e e3.symm)).trans (hcl i hi)⟩
  have HC := Lib.hid hC
  have CT := Lib.hid (fun wx (hx : Below w1.heap.size w1 wx) => btrim_any hn hnc hc (bytesAt_below (B := 0) HB.out hx))
  have r0 := hr.cell 0
  have f0 := hr.free 0
  have g1 := hg.cell 1
  have g2 := hg.cell 2
  simp at r0 g1 g2
  clear hr hg hC hb
  have hq0 := fun w => eql_func_nil (.func fc) B K w
  go_enter Tryz.func45, Tryz.ntmps45
  go_upto_region 5 with fail
  rw [← hw1]
  clear hw1 r0 f0 g1 g2 hq0
  have g1 := G1.out.cell 1
  have g3 := G1.out.cell 3
  simp at g1 g3
  go_region_with (first | (go_at_call 82; refine (CT.out _ (by first | exact Below.refl _ _ | exact (Below.refl _ _).drew)).mono ?_; rintro e w6 ⟨v, rfl, hcv, hb6'⟩; have hv6 := hcv w6 hb6'; have hb6 : Below w1.heap.size w1 w6 := (Below.refl w1.heap.size w1).drew.trans hb6'; have T6 := Lib.hid (T1.out.trans (Turned.of_below hb6 [r]) (Fresh.refl _ _)); have R6 := Lib.hid (Blk.mono R1.out hb6); have h1 := (Blk.mono G1.out hb6).cell 1; have hcf := ef (B.push (.string (mkS (trimX bs))) ++ K) w6; simp at h1; clear hb6 hb6' hcv) | (go_at_fn fc; refine (HC.out _ T6.out R6.out).mono ?_; rintro e w7 ⟨n', rfl, hQ⟩; have HQ := Lib.hid hQ; clear hQ))
  all_goals go_wp2_with fail
  all_goals go_ret
  all_goals exact ⟨_, rfl, HQ.out⟩
end Go.Proofs.YtljldbdjkjllhaaGreatDoor

/- The start of the whole text's element where its name is another. -/
namespace Go.Proofs.YtljldbdjkjllhaaGreatDoor
set_option linter.unusedSimpArgs false
set_option linter.unusedVariables false
open Go.RowKit

set_option maxHeartbeats 4000000 in
set_option maxRecDepth 100000 in
theorem start_bad (r g0 : Nat) (vp en : Value) (mv : Option Nat) (tx : Value) (pc : Pc) (A : Option Addr) (c : Nat) (w : World) (hr : Blk w r 58 #[.pointer (some ⟨g0, 0, none⟩), vp]) (hg : Blk w g0 65 #[.map mv, en, .pointer none, tx]) (hw : WithinAt w pc.name (.map mv) .nilFunc) :
    Calls Tryz.prog 44 #[.pointer (some ⟨r, 0, none⟩), .agg #[.int .i64 pc.kind, .string (mkS pc.name), .slice A pc.attrs.length c, .string (mkS pc.text)]] w fun e w' => e = .returned (.int .i64 110) ∧ Below w.heap.size w w' := by
  obtain ⟨w1, hw1⟩ : ∃ w1, w1 = (w.alloc (.cells #[.int .i64 pc.kind, .string (mkS pc.name), .slice A pc.attrs.length c, .string (mkS pc.text)] 68)).alloc (.cells #[.map none, .nilFunc, .pointer (some ⟨g0, 0, none⟩), .slice none 0 0] 65) := ⟨_, rfl⟩
  have K1 : Hid (Blk w1 w.heap.size 68 #[.int .i64 pc.kind, .string (mkS pc.name), .slice A pc.attrs.length c, .string (mkS pc.text)]) := by rw [hw1]; exact (Blk.new _ _ _).alloc _
  have N1 : Hid (Blk w1 (w.heap.size + 1) 65 #[.map none, .nilFunc, .pointer (some ⟨g0, 0, none⟩), .slice none 0 0]) := by rw [hw1]; exact Blk.new' (by simp)
  have HB1 : Hid (Below w.heap.size w w1) := by rw [hw1]; exact ((Below.refl _ _).alloc (Nat.le_refl _) _).alloc (by simp) _
  have R1 := Lib.hid (Blk.mono hr HB1.out)
  have G1 := Lib.hid (Blk.mono hg HB1.out)
  have HLK : ∀ n, (Instr.lookup 60 (.map mv) (.string (mkS pc.name)) false).run Tryz.prog (w1.drewN n) = .ok .nilFunc (w1.drewN n) := fun n => ((hw.below HB1.out).drewN n).run
  have hlk0 : (Instr.lookup 60 (.map mv) (.string (mkS pc.name)) false).run Tryz.prog w1 = .ok .nilFunc w1 := (hw.below HB1.out).run
  have r0 := (hr.alloc (.cells #[.int .i64 pc.kind, .string (mkS pc.name), .slice A pc.attrs.length c, .string (mkS pc.text)] 68)).cell 0
  simp at r0
  have hrl := hr.lt
  have hne : ¬ r = w.heap.size + 1 := by omega
  clear hr hg hw
  go_enter Tryz.func44, Tryz.ntmps44
  go_upto_region 2 with fail
  rw [← hw1]
  clear hw1 r0
  have r0 := R1.out.cell 0
  have f0 := R1.out.free 0
  have g0' := G1.out.cell 0
  have g2 := G1.out.cell 2
  have l0 := K1.out.cell 0
  have l1 := K1.out.cell 1
  simp at r0 g0' g2 l0 l1
  go_quiet (fail)
  have HBQ : Hid (Below w.heap.size w (w1.drewN nq)) := below_drewN' (n := nq) HB1.out
  have RQ : Hid (Blk (w1.drewN nq) r 58 #[.pointer (some ⟨g0, 0, none⟩), vp]) := R1.out
  have GQ : Hid (Blk (w1.drewN nq) g0 65 #[.map mv, en, .pointer none, tx]) := G1.out
  have NQ : Hid (Blk (w1.drewN nq) (w.heap.size + 1) 65 #[.map none, .nilFunc, .pointer (some ⟨g0, 0, none⟩), .slice none 0 0]) := N1.out
  clear r0 f0 g0' g2 l0 l1 HLK hlk0 HB1 R1 G1 N1 K1
  generalize w1.drewN nq = w2 at HBQ RQ GQ NQ ⊢
  have r0 := RQ.out.cell 0
  have f0 := RQ.out.free 0
  have g2 := GQ.out.cell 2
  simp at r0 g2
  have hq0 := neq_nil_nil w2
  go_wp2_with fail
  go_ret
  exact ⟨rfl, HBQ.out⟩
end Go.Proofs.YtljldbdjkjllhaaGreatDoor

/- What the reader does with a start and with an end. -/
namespace Go.Proofs.YtljldbdjkjllhaaGreatDoor
set_option linter.unusedSimpArgs false
set_option linter.unusedVariables false
open Go.RowKit

set_option maxHeartbeats 4000000 in
set_option maxRecDepth 100000 in
theorem read_start (R : World → Int → World → Prop) (r : Nat) (pc : Pc) (A : Option Addr) (c : Nat) (w : World) (hk : pc.kind = 1) (hS : ∀ w', Below w.heap.size w w' → Calls Tryz.prog 44 #[.pointer (some ⟨r, 0, none⟩), .agg #[.int .i64 pc.kind, .string (mkS pc.name), .slice A pc.attrs.length c, .string (mkS pc.text)]] w' fun e w'' => ∃ n, e = .returned (.int .i64 n) ∧ R w' n w'') :
    Calls Tryz.prog 26 #[.pointer (some ⟨r, 0, none⟩), .agg #[.int .i64 pc.kind, .string (mkS pc.name), .slice A pc.attrs.length c, .string (mkS pc.text)]] w fun e w' => ∃ n w1, e = .returned (.int .i64 n) ∧ Below w.heap.size w w1 ∧ R w1 n w' := by
  obtain ⟨w1, hw1⟩ : ∃ w1, w1 = w.alloc (.cells #[.int .i64 pc.kind, .string (mkS pc.name), .slice A pc.attrs.length c, .string (mkS pc.text)] 68) := ⟨_, rfl⟩
  have K1 : Hid (Blk w1 w.heap.size 68 #[.int .i64 pc.kind, .string (mkS pc.name), .slice A pc.attrs.length c, .string (mkS pc.text)]) := by rw [hw1]; exact Blk.new _ _ _
  have HB1 : Hid (Below w.heap.size w w1) := by rw [hw1]; exact (Below.refl _ _).alloc (Nat.le_refl _) _
  have HS := Lib.hid hS
  have HK := Lib.hid hk
  clear hS hk
  go_enter Tryz.func26, Tryz.ntmps26
  go_upto_region 1 with fail
  rw [← hw1]
  clear hw1
  have l0 := K1.out.cell 0
  have l1 := K1.out.cell 1
  have l2 := K1.out.cell 2
  have l3 := K1.out.cell 3
  simp at l0 l1 l2 l3
  rw [HK.out] at l0
  go_wp2_with fail
  have HS1 := HS.out w1 HB1.out
  try rw [HK.out] at HS1
  first | refine HS1.mono ?_ | (rw [HK.out]; refine HS1.mono ?_) | go_show
  rintro e w2 ⟨n, rfl, hR⟩
  have HR := Lib.hid hR
  clear hR
  go_wp2_with fail
  go_ret
  exact ⟨n, w1, rfl, HB1.out, HR.out⟩
set_option maxHeartbeats 4000000 in
set_option maxRecDepth 100000 in
theorem read_end (R : World → Int → World → Prop) (r : Nat) (pc : Pc) (A : Option Addr) (c : Nat) (w : World) (hk : pc.kind = 2) (hS : ∀ w', Below w.heap.size w w' → Calls Tryz.prog 45 #[.pointer (some ⟨r, 0, none⟩)] w' fun e w'' => ∃ n, e = .returned (.int .i64 n) ∧ R w' n w'') :
    Calls Tryz.prog 26 #[.pointer (some ⟨r, 0, none⟩), .agg #[.int .i64 pc.kind, .string (mkS pc.name), .slice A pc.attrs.length c, .string (mkS pc.text)]] w fun e w' => ∃ n w1, e = .returned (.int .i64 n) ∧ Below w.heap.size w w1 ∧ R w1 n w' := by
  obtain ⟨w1, hw1⟩ : ∃ w1, w1 = w.alloc (.cells #[.int .i64 pc.kind, .string (mkS pc.name), .slice A pc.attrs.length c, .string (mkS pc.text)] 68) := ⟨_, rfl⟩
  have K1 : Hid (Blk w1 w.heap.size 68 #[.int .i64 pc.kind, .string (mkS pc.name), .slice A pc.attrs.length c, .string (mkS pc.text)]) := by rw [hw1]; exact Blk.new _ _ _
  have HB1 : Hid (Below w.heap.size w w1) := by rw [hw1]; exact (Below.refl _ _).alloc (Nat.le_refl _) _
  have HS := Lib.hid hS
  have HK := Lib.hid hk
  clear hS hk
  go_enter Tryz.func26, Tryz.ntmps26
  go_upto_region 1 with fail
  rw [← hw1]
  clear hw1
  have l0 := K1.out.cell 0
  have l1 := K1.out.cell 1
  have l2 := K1.out.cell 2
  have l3 := K1.out.cell 3
  simp at l0 l1 l2 l3
  rw [HK.out] at l0
  go_wp2_with fail
  have HS1 := HS.out w1 HB1.out
  try rw [HK.out] at HS1
  first | refine HS1.mono ?_ | (rw [HK.out]; refine HS1.mono ?_) | go_show
  rintro e w2 ⟨n, rfl, hR⟩
  have HR := Lib.hid hR
  clear hR
  go_wp2_with fail
  go_ret
  exact ⟨n, w1, rfl, HB1.out, HR.out⟩
end Go.Proofs.YtljldbdjkjllhaaGreatDoor

/- What the reader does with a text. -/
namespace Go.Proofs.YtljldbdjkjllhaaGreatDoor
set_option linter.unusedSimpArgs false
set_option linter.unusedVariables false
open Go.RowKit

theorem step_append_str {P : Program} {w : World} {ops : Array Oper} {o : Oper} {a : Act} {K : Act → World → Prop} {E : Prop} (hgd : o.guard = none) (sl x : Operand) (t u : TypeId)
    (ho : o.op = .call { callee := .builtin .append, args := #[sl, x], argTypes := #[t, u] })
    (base : Nat) (e : TypeId) (i : TypeInfo) (ht : P.underlying t = some (.slice e)) (hu : P.underlying u = some .string) (hi : P.info? e = some i) (hz : i.zero = some (.int .u8 0)) (hsize : i.size = 1) (hby : i.bytes = 1)
    (v : Value) (n : Nat) (xs : List Value) (hs : a.eval sl = v) (hown : w.ownsRow base e 1 v n xs) (s : ByteArray) (hx : a.eval x = .string s)
    (h63 : n + s.size ≤ maxLen) (hbytes : n + s.size ≤ 140737488355328) (hbase : base ≤ w.heap.size) {Q : Exit → Act → World → Prop}
    (h : ∀ v' w', w'.ownsRow base e 1 v' (n + s.size) (xs ++ Lib.strCells s) → w.grownBy w' v.ownBlock → (v'.ownBlock = v.ownBlock ∨ v'.ownBlock = some w.heap.size) → K (a.put o.dst v') w') :
    if Region.wanted o (yielded ops a.tmps) = true then Oper.wp P o a w K Q else E := by
  have hw : Region.wanted o (yielded ops a.tmps) = true := by simp [Region.wanted, hgd]
  rw [if_pos hw]
  obtain ⟨v', w', hr, h2, h3, h4⟩ := run_append_str_at (P := P) w base t u o.type e i ht hu hi hz hsize hby v n xs hown s h63 hbytes hbase
  unfold Oper.wp execOp
  simp only [ho, resolve, invoke, builtin, Sem.run_bind, Sem.run_pure, Result.andThen_ok, List.map_toArray, List.map_cons, List.map_nil, hs, hx, hr]
  exact h v' w' h2 h3 h4
theorem info_byte : ∃ i, Tryz.prog.info? 5 = some i ∧ i.zero = some (.int .u8 0) ∧ i.size = 1 ∧ i.bytes = 1 := by
  have h : (Tryz.prog.info? 5).map (fun i => (i.zero, i.size, i.bytes)) = some (some (.int .u8 0), 1, 1) := by kernel_rfl
  obtain ⟨i, hi, h2⟩ := Option.map_eq_some_iff.1 h
  simp only [Prod.mk.injEq] at h2
  exact ⟨i, hi, h2.1, h2.2.1, h2.2.2⟩
set_option maxHeartbeats 4000000 in
set_option maxRecDepth 100000 in
theorem read_text (r g B : Nat) (vp mv en av tv : Value) (l : Bs) (pc : Pc) (A : Option Addr) (c : Nat) (w : World) (hk : pc.kind = 3) (hz : l.length + pc.text.length ≤ 1000000) (hr : Blk w r 58 #[.pointer (some ⟨g, 0, none⟩), vp]) (hg : Blk w g 65 #[mv, en, av, tv]) (ho : w.ownsRow B 5 1 tv l.length (Lib.byteCells l)) (hB : B ≤ w.heap.size) :
    Calls Tryz.prog 26 #[.pointer (some ⟨r, 0, none⟩), .agg #[.int .i64 pc.kind, .string (mkS pc.name), .slice A pc.attrs.length c, .string (mkS pc.text)]] w fun e w' => e = .returned (.int .i64 0) ∧ Turned (g :: tv.ownBlock.toList) w w' ∧ ∃ tv', Blk w' g 65 #[mv, en, av, tv'] ∧ w'.ownsRow B 5 1 tv' (l.length + (mkS pc.text).size) (Lib.byteCells l ++ Lib.strCells (mkS pc.text)) ∧ ∀ k ∈ tv'.ownBlock.toList, k ∈ tv.ownBlock.toList ∨ w.heap.size ≤ k := by
  obtain ⟨i, hi, hi1, hi2, hi3⟩ := info_byte
  have HI := Lib.hid hi
  obtain ⟨w1, hw1⟩ : ∃ w1, w1 = w.alloc (.cells #[.int .i64 pc.kind, .string (mkS pc.name), .slice A pc.attrs.length c, .string (mkS pc.text)] 68) := ⟨_, rfl⟩
  have K1 : Hid (Blk w1 w.heap.size 68 #[.int .i64 pc.kind, .string (mkS pc.name), .slice A pc.attrs.length c, .string (mkS pc.text)]) := by rw [hw1]; exact Blk.new _ _ _
  have HB1 : Hid (Below w.heap.size w w1) := by rw [hw1]; exact (Below.refl _ _).alloc (Nat.le_refl _) _
  have R1 := Lib.hid (Blk.mono hr HB1.out)
  have G1 := Lib.hid (Blk.mono hg HB1.out)
  have T1 := Lib.hid (Turned.of_below HB1.out [])
  have O1 : Hid (w1.ownsRow B 5 1 tv l.length (Lib.byteCells l)) := own_turned ho T1.out (fun _ _ h => by cases h)
  have HK := Lib.hid hk
  have HGN : Hid (g ∉ tv.ownBlock.toList) := fun h => own_kind O1.out G1.out (by decide) (by simpa using h)
  have HRN : Hid (r ∉ tv.ownBlock.toList) := fun h => own_kind O1.out R1.out (by decide) (by simpa using h)
  have HBB := Lib.hid (Nat.le_trans hB HB1.out.size)
  have htz : l.length + (mkS pc.text).size ≤ 1000000 := by rw [mkS_size]; exact hz
  clear hr hg hk hi hz ho hB
  go_enter Tryz.func26, Tryz.ntmps26
  go_upto_region 1 with fail
  rw [← hw1]
  clear hw1
  have l0 := K1.out.cell 0
  have l3 := K1.out.cell 3
  simp at l0 l3
  rw [HK.out] at l0
  have r0 := R1.out.cell 0
  have g3 := G1.out.cell 3
  have f3 := G1.out.free 3
  simp at r0 g3
  generalize hgt : mkS pc.text = tx at *
  have HGT := Lib.hid hgt
  clear hgt
  go_upto_region 5 with fail
  go_region_law (refine step_append_str rfl (.tmp 24) (.tmp 26) 46 9 rfl B 5 i Tryz.underlying46 Tryz.underlying9 HI.out hi1 hi2 hi3 tv l.length (Lib.byteCells l) (by simp [Act.eval, Act.put]) (by first | exact O1.out | exact own_drewN' O1.out 1) tx (by simp [Act.eval, Act.put]) (by unfold maxLen; omega) (by omega) (by first | exact HBB.out | exact HBB.out) ?_; intro v5 w5 hown hgr hat; have T5 : Hid (Turned tv.ownBlock.toList w1 w5) := (by refine Turned.grown (row := tv.ownBlock) ?_ hgr (fun k hk => .inl (by rw [hk]; simp)); repeat (first | exact Turned.refl _ _ | refine Turned.drew ?_ | refine Turned.drewN ?_ _)); have HAT : Hid (v5.ownBlock = tv.ownBlock ∨ v5.ownBlock = some w1.heap.size) := hat; have O5 := Lib.hid hown; have HV5 := Lib.hid (own_form' hown); obtain ⟨A5, c5, rfl, hn5, hm5⟩ := own_form' hown; have R5 := Lib.hid (R1.out.turned T5.out HRN.out); have G5 := Lib.hid (G1.out.turned T5.out HGN.out); have r5 := R5.out.cell 0; have g5 := G5.out.cell 3; have gf5 := G5.out.free 3; simp at r5 g5; clear hown hgr hat)
  all_goals
    have HT : Hid (Turned (g :: tv.ownBlock.toList) w (w5.setCell ⟨g, 3, none⟩ (.slice A5 (l.length + tx.size) c5))) := ((Turned.of_below HB1.out _).trans (T5.out.more (fun k hk => List.mem_cons_of_mem _ hk)) (Fresh.refl _ _)).setCell (.inl (by simp)) _
    have HO : Hid ((w5.setCell ⟨g, 3, none⟩ (.slice A5 (l.length + tx.size) c5)).ownsRow B 5 1 (.slice A5 (l.length + tx.size) c5) (l.length + tx.size) (Lib.byteCells l ++ Lib.strCells tx)) := own_setCell O5.out (own_kind O5.out G5.out (by decide)) _
    have HG : Hid (Blk (w5.setCell ⟨g, 3, none⟩ (.slice A5 (l.length + tx.size) c5)) g 65 #[mv, en, av, .slice A5 (l.length + tx.size) c5]) := G5.out.set_ 3 _
    have HF : Hid (∀ k ∈ (Value.slice A5 (l.length + tx.size) c5).ownBlock.toList, k ∈ tv.ownBlock.toList ∨ w.heap.size ≤ k) := fun k hk => by
      rcases HAT.out with h | h
      · rw [h] at hk; exact .inl hk
      · rw [h] at hk; simp at hk; have := HB1.out.size; exact .inr (by omega)
    clear HAT HV5 G5 R5 O5 T5 r5 g5 gf5
    go_wp2_with fail
    go_ret
    exact ⟨rfl, HT.out, _, HG.out, by rw [HGT.out]; exact HO.out, HF.out⟩
end Go.Proofs.YtljldbdjkjllhaaGreatDoor

/- The end of a package: it is checked and taken. -/
namespace Go.Proofs.YtljldbdjkjllhaaGreatDoor
set_option linter.unusedSimpArgs false
set_option linter.unusedVariables false
open Go.RowKit

theorem info_pkg : ∃ i z, Tryz.prog.info? 42 = some i ∧ i.zero = some z ∧ z.cells.size = 12 ∧ i.size = 12 ∧ i.bytes = 256 := by
  have h : (Tryz.prog.info? 42).map (fun i => (i.zero.map fun z => z.cells.size, i.size, i.bytes)) = some (some 12, 12, 256) := by kernel_rfl
  obtain ⟨i, hi, h2⟩ := Option.map_eq_some_iff.1 h
  simp only [Prod.mk.injEq] at h2
  obtain ⟨z, hz, hz1⟩ := Option.map_eq_some_iff.1 h2.1
  exact ⟨i, z, hi, hz, hz1, h2.2.1, h2.2.2⟩
set_option maxHeartbeats 4000000 in
set_option maxRecDepth 100000 in
theorem packEnd_any (r pk rb B n : Nat) (s : ByteArray) (rv pv a0 a1 a2 a3 a4 a5 a6 a7 a8 a9 a10 a11 : Value) (xs : List Value) (w : World) (hb : Blk w rb 95 #[.pointer (some ⟨r, 0, none⟩)]) (hp : Blk w pk 42 #[a0, a1, a2, a3, a4, a5, a6, a7, a8, a9, a10, a11]) (h1 : ∀ u ∈ [a0, a1, a2, a3, a4, a5, a6, a7, a8, a9, a10, a11], u.oneCell' = true)
    (hr : Blk w r 58 #[rv, pv]) (ho : w.ownsRow B 42 12 pv n xs) (hB : B ≤ w.heap.size) (hn : n ≤ 1000)
    (hC : ∀ w', Below w.heap.size w w' → Calls Tryz.prog 37 #[.agg #[a0, a1, a2, a3, a4, a5, a6, a7, a8, a9, a10, a11]] w' fun e w'' => e = .returned (.int .i64 0) ∧ Below w'.heap.size w' w'') :
    Calls Tryz.prog 80 #[.string s, .pointer (some ⟨pk, 0, none⟩), .pointer (some ⟨rb, 0, none⟩)] w fun e w' => e = .returned (.int .i64 0) ∧ Turned (r :: pv.ownBlock.toList) w w' ∧ ∃ pv', Blk w' r 58 #[rv, pv'] ∧ w'.ownsRow B 42 12 pv' (n + 1) (xs ++ [a0, a1, a2, a3, a4, a5, a6, a7, a8, a9, a10, a11]) ∧ ∀ k ∈ pv'.ownBlock.toList, k ∈ pv.ownBlock.toList ∨ w.heap.size ≤ k := by
  obtain ⟨i, z, hi, hz0, hz1, hz2, hz3⟩ := info_pkg
  have HI := Lib.hid hi
  have HP := Lib.hid hp
  have HBK := Lib.hid hb
  have HR := Lib.hid hr
  have HO := Lib.hid ho
  have HC := Lib.hid hC
  have H1 := Lib.hid h1
  have hwB := hB
  clear hb hp hr ho hC hi h1 hB
  have b0 := HP.out.cell 0
  have b1 := HP.out.cell 1
  have b2 := HP.out.cell 2
  have b3 := HP.out.cell 3
  have b4 := HP.out.cell 4
  have b5 := HP.out.cell 5
  have b6 := HP.out.cell 6
  have b7 := HP.out.cell 7
  have b8 := HP.out.cell 8
  have b9 := HP.out.cell 9
  have b10 := HP.out.cell 10
  have b11 := HP.out.cell 11
  simp at b0 b1 b2 b3 b4 b5 b6 b7 b8 b9 b10 b11
  go_enter Tryz.func80, Tryz.ntmps80
  go_wp2_with fail
  refine (HC.out w (Below.refl _ _)).mono ?_
  rintro e w2 ⟨rfl, hb2⟩
  have HB2 := Lib.hid hb2
  have P2 := Lib.hid (Blk.mono HP.out hb2)
  have K2 := Lib.hid (Blk.mono HBK.out hb2)
  have R2 := Lib.hid (Blk.mono HR.out hb2)
  have O2 : Hid (w2.ownsRow B 42 12 pv n xs) := own_turned HO.out (Turned.of_below hb2 []) (fun _ _ h => by cases h)
  have HKN : Hid (rb ∉ pv.ownBlock.toList) := fun h => own_kind O2.out K2.out (by decide) (by simpa using h)
  have HRN : Hid (r ∉ pv.ownBlock.toList) := fun h => own_kind O2.out R2.out (by decide) (by simpa using h)
  have hszb := hb2.size
  clear hb2 b0 b1 b2 b3 b4 b5 b6 b7 b8 b9 b10 b11
  have c0 := P2.out.cell 0
  have c1 := P2.out.cell 1
  have c2 := P2.out.cell 2
  have c3 := P2.out.cell 3
  have c4 := P2.out.cell 4
  have c5 := P2.out.cell 5
  have c6 := P2.out.cell 6
  have c7 := P2.out.cell 7
  have c8 := P2.out.cell 8
  have c9 := P2.out.cell 9
  have c10 := P2.out.cell 10
  have c11 := P2.out.cell 11
  simp at c0 c1 c2 c3 c4 c5 c6 c7 c8 c9 c10 c11
  have k0 := K2.out.cell 0
  have p1 := R2.out.cell 1
  have pf1 := R2.out.free 1
  simp at k0 p1
  go_upto_region 4 with fail
  have hrl := R2.out.lt
  have hkl := K2.out.lt
  have hpl := P2.out.lt
  go_region_law (refine step_append_at rfl (.tmp 15) (.tmp 17) 24 rfl B 42 i z 12 256 Tryz.underlying24 HI.out hz0 hz2 hz3 hz1 (by decide) pv n xs (by simp [Act.eval, Act.put]) (by refine own_turned (F := []) O2.out ?_ (fun _ _ h => by cases h); repeat (first | exact Turned.refl _ _ | refine Turned.drew ?_ | refine Turned.drewN ?_ _ | refine Turned.alloc ?_ _)) ⟨w2.heap.size, 0, none⟩ 1 1 [a0, a1, a2, a3, a4, a5, a6, a7, a8, a9, a10, a11] (by simp [Act.eval, Act.put]) rfl (cells_at (t := 42) (us := #[a0, a1, a2, a3, a4, a5, a6, a7, a8, a9, a10, a11]) (by repeat (first | exact Blk.new _ _ _ | refine Blk.drew ?_ | refine Blk.drewN ?_ _ | refine Blk.alloc ?_ _)) rfl) H1.out (by unfold maxLen; omega) (by omega) (by simp; omega) ?_; intro v5 w5 hown hgr hat; have T5 : Hid (Turned pv.ownBlock.toList w2 w5) := (by refine Turned.grown (row := pv.ownBlock) ?_ hgr (fun k hk => .inl (by rw [hk]; simp)); repeat (first | exact Turned.refl _ _ | refine Turned.drew ?_ | refine Turned.drewN ?_ _ | refine Turned.alloc ?_ _)); have HAT : Hid (∀ k ∈ v5.ownBlock.toList, k ∈ pv.ownBlock.toList ∨ w.heap.size ≤ k) := (fun k hk => hat.elim (fun h => .inl (by rw [h] at hk; exact hk)) (fun h => .inr (by rw [h] at hk; simp at hk; omega))); have O5 := Lib.hid hown; obtain ⟨A5, c5, rfl, hn5, hm5⟩ := own_form' hown; have R5 := Lib.hid (R2.out.turned T5.out HRN.out); have K5 := Lib.hid (K2.out.turned T5.out HKN.out); have k5 := K5.out.cell 0; have rf5 := R5.out.free 1; have r5 := R5.out.cell 1; simp at k5 r5; clear hown hgr hat)
  all_goals
    have HT : Hid (Turned (r :: pv.ownBlock.toList) w (w5.setCell ⟨r, 1, none⟩ (.slice A5 (n + 1) c5))) := ((Turned.of_below HB2.out _).trans (T5.out.more (fun k hk => List.mem_cons_of_mem _ hk)) (Fresh.refl _ _)).setCell (.inl (by simp)) _
    have HO : Hid ((w5.setCell ⟨r, 1, none⟩ (.slice A5 (n + 1) c5)).ownsRow B 42 12 (.slice A5 (n + 1) c5) (n + 1) (xs ++ [a0, a1, a2, a3, a4, a5, a6, a7, a8, a9, a10, a11])) := own_setCell O5.out (own_kind O5.out R5.out (by decide)) _
    have HG : Hid (Blk (w5.setCell ⟨r, 1, none⟩ (.slice A5 (n + 1) c5)) r 58 #[rv, .slice A5 (n + 1) c5]) := R5.out.set_ 1 _
    clear R5 K5 O5 T5 k5 rf5 r5
    go_wp2_with fail
    go_ret
    exact ⟨rfl, HT.out, _, HG.out, HO.out, HAT.out⟩
end Go.Proofs.YtljldbdjkjllhaaGreatDoor

/- The two documents of the laws' awake, piece by piece. -/
namespace Go.Proofs.YtljldbdjkjllhaaGreatDoor
set_option linter.unusedVariables false
open Go.RowKit

def awS1 : Bs := [60, 109, 101, 116, 97, 100, 97, 116, 97, 62, 60, 112, 97, 99, 107, 97, 103, 101, 32, 116, 121, 112, 101, 61, 34, 114, 112, 109, 34, 62, 60, 110, 97, 109, 101, 62, 97, 60, 47, 110, 97, 109, 101, 62, 60, 97, 114, 99, 104, 62, 110, 111, 97, 114, 99, 104, 60, 47, 97, 114, 99, 104, 62, 60, 118, 101, 114, 115, 105, 111, 110, 32, 101, 112, 111, 99, 104, 61, 34, 48, 34, 32, 118, 101, 114, 61, 34, 49, 34, 32, 114, 101, 108, 61, 34, 50, 34, 47, 62, 60, 102, 111, 114, 109, 97, 116, 62, 60, 114, 112, 109, 58, 114, 101, 113, 117, 105, 114, 101, 115, 62, 60, 114, 112, 109, 58, 101, 110, 116, 114, 121, 32, 110, 97, 109, 101, 61, 34, 98, 34, 32, 102, 108, 97, 103, 115, 61, 34, 71, 69, 34, 32, 118, 101, 114, 61, 34, 51, 34, 47, 62, 60, 47, 114, 112, 109, 58, 114, 101, 113, 117, 105, 114, 101, 115, 62, 60, 47, 102, 111, 114, 109, 97, 116, 62, 60, 47, 112, 97, 99, 107, 97, 103, 101, 62, 60, 47, 109, 101, 116, 97, 100, 97, 116, 97, 62]
def awP1 : List Pc := [⟨1, [109, 101, 116, 97, 100, 97, 116, 97], [], []⟩, ⟨1, [112, 97, 99, 107, 97, 103, 101], [([116, 121, 112, 101], [114, 112, 109])], []⟩, ⟨1, [110, 97, 109, 101], [], []⟩, ⟨3, [], [], [97]⟩, ⟨2, [110, 97, 109, 101], [], []⟩, ⟨1, [97, 114, 99, 104], [], []⟩, ⟨3, [], [], [110, 111, 97, 114, 99, 104]⟩, ⟨2, [97, 114, 99, 104], [], []⟩, ⟨1, [118, 101, 114, 115, 105, 111, 110], [([101, 112, 111, 99, 104], [48]), ([118, 101, 114], [49]), ([114, 101, 108], [50])], []⟩, ⟨2, [118, 101, 114, 115, 105, 111, 110], [], []⟩, ⟨1, [102, 111, 114, 109, 97, 116], [], []⟩, ⟨1, [114, 112, 109, 58, 114, 101, 113, 117, 105, 114, 101, 115], [], []⟩, ⟨1, [114, 112, 109, 58, 101, 110, 116, 114, 121], [([110, 97, 109, 101], [98]), ([102, 108, 97, 103, 115], [71, 69]), ([118, 101, 114], [51])], []⟩, ⟨2, [114, 112, 109, 58, 101, 110, 116, 114, 121], [], []⟩, ⟨2, [114, 112, 109, 58, 114, 101, 113, 117, 105, 114, 101, 115], [], []⟩, ⟨2, [102, 111, 114, 109, 97, 116], [], []⟩, ⟨2, [112, 97, 99, 107, 97, 103, 101], [], []⟩, ⟨2, [109, 101, 116, 97, 100, 97, 116, 97], [], []⟩]
theorem awAll1 : allX awS1 = (awP1, 0) := by kernel_rfl
def awS2 : Bs := [60, 111, 116, 104, 101, 114, 47, 62]
def awP2 : List Pc := [⟨1, [111, 116, 104, 101, 114], [], []⟩, ⟨2, [111, 116, 104, 101, 114], [], []⟩]
theorem awAll2 : allX awS2 = (awP2, 0) := by kernel_rfl
end Go.Proofs.YtljldbdjkjllhaaGreatDoor

/- What is done with the pieces of some documents, as a function; and what lies in memory meanwhile. -/
namespace Go.Proofs.YtljldbdjkjllhaaGreatDoor
set_option linter.unusedSimpArgs false
set_option linter.unusedVariables false
open Go.RowKit

def metaN : Bs := [109, 101, 116, 97, 100, 97, 116, 97]
/-- The kinds of open elements. -/
inductive Kd where
  | top
  | md
  | pa
  | t1
  | t2
  | fm
  | rq
  | no
/-- A package that is read: its texts, and what it requires. -/
structure Px where
  nm : Bs
  ev : Bs
  ar : Bs
  rq : Option (Bs × Bs)
def px0 : Px := ⟨[], [], [], none⟩
def depOf (q : Bs × Bs) : Ev.Dep := .mk 1 (mkS q.1) 6 (mkS q.2) []
def depsOf : Option (Bs × Bs) → List Ev.Dep
  | none => []
  | some q => [depOf q]
def pkgOf (p : Px) : Ev.Pkg := ⟨mkS p.nm, mkS p.ev, mkS p.ar, ⟨#[]⟩, fun i => if i = 1 then depsOf p.rq else [], []⟩
def chkX (p : Px) : Int := Ev.chkN (pkgOf p) true
structure Sx where
  stk : List (Kd × Bs)
  cur : Option Px
  got : List Px
inductive Rx where
  | go (s : Sx)
  | bad (n : Int)
def goX (s : Sx) (k : Kd) : Option Rx := some (.go ⟨(k, []) :: s.stk, s.cur, s.got⟩)
def startX (s : Sx) (p : Pc) : Option Rx :=
  match s.stk, s.cur with
  | [(.top, [])], _ => if p.name = metaN then goX s .md else some (.bad 110)
  | [(.md, []), (.top, [])], none => if p.name = packN then (if attrX typeN p.attrs [] = rpmN then (if s.got.length < 200 then some (.go ⟨[(.pa, []), (.md, []), (.top, [])], some px0, s.got⟩) else none) else goX s .no) else goX s .no
  | (.pa, []) :: q :: r, some c => if p.name = nameN_ then goX s .t1 else if p.name = archN_ then goX s .t2 else if p.name = versN_ then some (.go ⟨(.no, []) :: s.stk, some ⟨c.nm, verX p.attrs, c.ar, c.rq⟩, s.got⟩) else if p.name = formN_ then goX s .fm else goX s .no
  | (.fm, []) :: q :: r, some c => if p.name = kName 1 then goX s .rq else none
  | (.rq, []) :: q :: r, some c => if p.name = entrN ∧ Lib.hasPrefix (attrX nameN_ p.attrs []) [40] = false ∧ attrX flagN p.attrs [] = geN ∧ ¬ attrX preN p.attrs [] = [49] ∧ c.rq = none then some (.go ⟨(.no, []) :: s.stk, some ⟨c.nm, c.ev, c.ar, some (attrX nameN_ p.attrs [], verX p.attrs)⟩, s.got⟩) else none
  | (.t1, []) :: q :: r, _ => goX s .no
  | (.t2, []) :: q :: r, _ => goX s .no
  | (.no, []) :: q :: r, _ => goX s .no
  | _, _ => none
def textX (s : Sx) (p : Pc) : Option Rx :=
  match s.stk with
  | (k, []) :: r => if p.text = [] then none else some (.go ⟨(k, p.text) :: r, s.cur, s.got⟩)
  | _ => none
def endX (s : Sx) : Option Rx :=
  match s.stk, s.cur with
  | (.t1, t) :: q :: r, some c => some (.go ⟨q :: r, some ⟨trimX t, c.ev, c.ar, c.rq⟩, s.got⟩)
  | (.t2, t) :: q :: r, some c => some (.go ⟨q :: r, some ⟨c.nm, c.ev, trimX t, c.rq⟩, s.got⟩)
  | (.pa, t) :: q :: r, some c => if (∀ d ∈ depsOf c.rq, Ev.checkN d = 0) then (if chkX c = 0 then (if s.got.length < 200 then some (.go ⟨q :: r, none, s.got ++ [c]⟩) else none) else some (.bad (chkX c))) else none
  | (.md, t) :: q :: r, _ => some (.go ⟨q :: r, s.cur, s.got⟩)
  | (.fm, t) :: q :: r, _ => some (.go ⟨q :: r, s.cur, s.got⟩)
  | (.rq, t) :: q :: r, _ => some (.go ⟨q :: r, s.cur, s.got⟩)
  | (.no, t) :: q :: r, _ => some (.go ⟨q :: r, s.cur, s.got⟩)
  | _, _ => none
def stepX (s : Sx) (p : Pc) : Option Rx := if p.kind = 1 then startX s p else if p.kind = 3 then textX s p else if p.kind = 2 then endX s else none
def runX : List Pc → Sx → Option Rx
  | [], s => some (.go s)
  | p :: r, s => match stepX s p with
    | some (.go s') => runX r s'
    | x => x
theorem runX_go {p : Pc} {r : List Pc} {s s' : Sx} (h : stepX s p = some (.go s')) : runX (p :: r) s = runX r s' := by
  show (match stepX s p with | some (.go s') => runX r s' | x => x) = _
  rw [h]
theorem runX_bad {p : Pc} {r : List Pc} {s : Sx} {n : Int} (h : stepX s p = some (.bad n)) : runX (p :: r) s = some (.bad n) := by
  show (match stepX s p with | some (.go s') => runX r s' | x => x) = _
  rw [h]
theorem runX_none {p : Pc} {r : List Pc} {s : Sx} (h : stepX s p = none) : runX (p :: r) s = none := by
  show (match stepX s p with | some (.go s') => runX r s' | x => x) = _
  rw [h]
theorem runX_app : ∀ (a b : List Pc) (s : Sx), runX (a ++ b) s = match runX a s with
    | some (.go s') => runX b s'
    | x => x
  | [], b, s => rfl
  | p :: r, b, s => by
    cases h : stepX s p with
    | none =>
      rw [runX_none h]
      exact runX_none h
    | some x =>
      cases x with
      | bad n =>
        rw [runX_bad h]
        exact runX_bad h
      | go s' =>
        rw [runX_go h]
        exact (runX_go (r := r ++ b) h).trans (runX_app r b s')
/-- A piece whose texts are no longer than a document's. -/
def SmallP (p : Pc) : Prop := (∀ a ∈ p.attrs, a.2.length ≤ 100000) ∧ p.text.length ≤ 100000
theorem attrX_small (nm : Bs) : ∀ (l : Al) (v : Bs), (∀ a ∈ l, a.2.length ≤ 100000) → v.length ≤ 100000 → (attrX nm l v).length ≤ 100000
  | [], v, _, h => h
  | a :: r, v, hl, h => by
    show (attrX nm r (if a.1 = nm then a.2 else v)).length ≤ _
    refine attrX_small nm r _ (fun b hb => hl b (by simp [hb])) ?_
    split
    · exact hl a (by simp)
    · exact h

/-- Blocks that a reading of pieces may turn. -/
def Lo (w : World) (F : List Nat) : Prop := ∀ k ∈ F, ∃ t cs, Blk w k t cs ∧ (t = 58 ∨ t = 65 ∨ t = 42 ∨ t = 5)
section
variable {w w' : World} {F G : List Nat}
theorem Lo.nil (w : World) : Lo w [] := fun k hk => by cases hk
theorem Lo.add (h : Lo w F) (h' : Lo w G) : Lo w (F ++ G) := fun k hk => by
  rcases List.mem_append.1 hk with hk | hk
  · exact h k hk
  · exact h' k hk
theorem Lo.one {g : Nat} {t : TypeId} {cs : Array Value} (h : Blk w g t cs) (ht : t = 58 ∨ t = 65 ∨ t = 42 ∨ t = 5) : Lo w [g] := fun k hk => by
  simp at hk
  subst hk
  exact ⟨t, cs, h, ht⟩
theorem Lo.cons {g : Nat} {t : TypeId} {cs : Array Value} (h : Blk w g t cs) (ht : t = 58 ∨ t = 65 ∨ t = 42 ∨ t = 5) (h' : Lo w F) : Lo w (g :: F) := Lo.add (Lo.one h ht) h'
theorem Lo.row {base n sz : Nat} {e : TypeId} {v : Value} {xs : List Value} (h : w.ownsRow base e sz v n xs) (ht : e = 58 ∨ e = 65 ∨ e = 42 ∨ e = 5) : Lo w v.ownBlock.toList := fun k hk => by
  have hk : v.ownBlock = some k := by simpa using hk
  rcases h.2 with ⟨rfl, _⟩ | ⟨g, cap, cur, rfl, _, hg, _⟩
  · cases hk
  · injection hk with hk
    subst hk
    exact ⟨e, cur, hg, ht⟩
theorem Lo.loose (h : Lo w F) : Loose w F := fun k hk => by
  obtain ⟨t, cs, hb, ht⟩ := h k hk
  refine ⟨fun t' cs' h' => ?_, fun l hm => map_not_blk hm hb rfl⟩
  by_cases e : t' = t
  · rw [e]
    rcases ht with rfl | rfl | rfl | rfl <;> decide
  · exact absurd rfl (Blk.kind h' hb e)
theorem Lo.dep {g : Nat} {cs : Array Value} (h : Lo w F) (hb : Blk w g 44 cs) : g ∉ F := fun hk => by
  obtain ⟨t, cs', hb', ht⟩ := h g hk
  refine Blk.kind hb hb' ?_ rfl
  rcases ht with rfl | rfl | rfl | rfl <;> decide
end
/-- What a package requires, in memory. -/
def RqAt (w : World) : Option (Bs × Bs) → Value → Prop
  | none, v => v = .slice none 0 0
  | some q, v => ∃ g cc cur, v = .slice (some ⟨g, 0, none⟩) 1 cc ∧ 1 ≤ cc ∧ cc ≤ maxLen ∧ Blk w g 44 cur ∧ ∀ j, j < 5 → cur[j]? = (#[.int .i64 1, .string (mkS q.1), .int .i64 6, .string (mkS q.2), .slice none 0 0] : Array Value)[j]?
theorem RqAt.stay {w w' : World} {F : List Nat} {q : Option (Bs × Bs)} {v : Value} (h : RqAt w q v) (ht : Turned F w w') (hF : Lo w F) : RqAt w' q v := by
  cases q with
  | none => exact h
  | some q =>
    obtain ⟨g, cc, cur, h1, h2, h3, h4, h5⟩ := h
    exact ⟨g, cc, cur, h1, h2, h3, h4.turned ht (hF.dep h4), h5⟩
theorem RqAt.one {w : World} {q : Option (Bs × Bs)} {v : Value} (h : RqAt w q v) : ∃ A n c, v = .slice A n c := by
  cases q with
  | none => exact ⟨_, _, _, h⟩
  | some q =>
    obtain ⟨g, cc, cur, h1, _⟩ := h
    exact ⟨_, _, _, h1⟩
def rowX (p : Px) (v : Value) : Array Value := #[.string (mkS p.nm), .string (mkS p.ev), .string (mkS p.ar), .string ⟨#[]⟩, .slice none 0 0, v, .slice none 0 0, .slice none 0 0, .slice none 0 0, .slice none 0 0, .slice none 0 0, .slice none 0 0]
/-- An open element's functions. -/
def KdAt (w : World) (r pk : Nat) : Kd → Option Nat → Value → Prop
  | .top, mo, en => en = .nilFunc ∧ ∃ m, mo = some m ∧ w.heap[m]? = some (mapO [(mkS metaN, beginV 25 r)])
  | .md, mo, en => en = .nilFunc ∧ ∃ m, mo = some m ∧ w.heap[m]? = some (mapO [(mkS packN, beginV 43 r)])
  | .pa, mo, en => ∃ m rb, mo = some m ∧ en = packEnd pk rb ∧ PackM w pk m ∧ Blk w rb 95 #[.pointer (some ⟨r, 0, none⟩)]
  | .t1, mo, en => mo = none ∧ ∃ ub pb, en = endV ub ∧ Blk w ub 143 #[putV 141 pb] ∧ Blk w pb 119 #[.pointer (some ⟨pk, 0, none⟩)]
  | .t2, mo, en => mo = none ∧ ∃ ub pb, en = endV ub ∧ Blk w ub 143 #[putV 142 pb] ∧ Blk w pb 119 #[.pointer (some ⟨pk, 0, none⟩)]
  | .fm, mo, en => en = .nilFunc ∧ ∃ m, mo = some m ∧ FormM w pk m
  | .rq, mo, en => en = .nilFunc ∧ ∃ m n, mo = some m ∧ w.heap[m]? = some (mapO [(mkS entrN, entV n ⟨pk, 5, none⟩ (some ⟨pk, 6, none⟩))])
  | .no, mo, en => mo = none ∧ en = .nilFunc
theorem KdAt.stay {w w' : World} {F : List Nat} {r pk : Nat} {k : Kd} {mo : Option Nat} {en : Value} (h : KdAt w r pk k mo en) (ht : Turned F w w') (hF : Loose w F) : KdAt w' r pk k mo en := by
  cases k with
  | top => obtain ⟨h1, m, h2, h3⟩ := h; exact ⟨h1, m, h2, map_stay h3 ht hF⟩
  | md => obtain ⟨h1, m, h2, h3⟩ := h; exact ⟨h1, m, h2, map_stay h3 ht hF⟩
  | pa => obtain ⟨m, rb, h1, h2, h3, h4⟩ := h; exact ⟨m, rb, h1, h2, h3.stay ht hF, Blk.stay h4 ht hF (by decide)⟩
  | t1 => obtain ⟨h0, ub, pb, h1, h2, h3⟩ := h; exact ⟨h0, ub, pb, h1, Blk.stay h2 ht hF (by decide), Blk.stay h3 ht hF (by decide)⟩
  | t2 => obtain ⟨h0, ub, pb, h1, h2, h3⟩ := h; exact ⟨h0, ub, pb, h1, Blk.stay h2 ht hF (by decide), Blk.stay h3 ht hF (by decide)⟩
  | fm => obtain ⟨h1, m, h2, h3⟩ := h; exact ⟨h1, m, h2, h3.stay ht hF⟩
  | rq => obtain ⟨h1, m, n, h2, h3⟩ := h; exact ⟨h1, m, n, h2, map_stay h3 ht hF⟩
  | no => exact h
def upOf : List Nat → Option Addr
  | [] => none
  | g :: _ => some ⟨g, 0, none⟩
def FrAt (w : World) (B r pk : Nat) (k : Kd) (g : Nat) (up : Option Addr) (tv : Value) : Prop := B ≤ g ∧ ∃ mo en, Blk w g 65 #[.map mo, en, .pointer up, tv] ∧ KdAt w r pk k mo en
theorem FrAt.stay {w w' : World} {F : List Nat} {B r pk : Nat} {k : Kd} {g : Nat} {up : Option Addr} {tv : Value} (h : FrAt w B r pk k g up tv) (ht : Turned F w w') (hF : Lo w F) (hn : g ∉ F) : FrAt w' B r pk k g up tv := by
  obtain ⟨h0, mo, en, h1, h2⟩ := h
  exact ⟨h0, mo, en, h1.turned ht hn, h2.stay ht hF.loose⟩
def TailAt (w : World) (B r pk : Nat) : List (Kd × Bs) → List Nat → Prop
  | [], [] => True
  | k :: s, g :: t => k.2 = [] ∧ FrAt w B r pk k.1 g (upOf t) (.slice none 0 0) ∧ (∀ h ∈ t, h < g) ∧ TailAt w B r pk s t
  | _, _ => False
theorem TailAt.stay {w w' : World} {F : List Nat} {B r pk : Nat} (ht : Turned F w w') (hF : Lo w F) : ∀ {s : List (Kd × Bs)} {t : List Nat}, TailAt w B r pk s t → (∀ g ∈ t, g ∉ F) → TailAt w' B r pk s t
  | [], [], _, _ => trivial
  | k :: s, g :: t, ⟨h1, h2, h3, h4⟩, hn => ⟨h1, h2.stay ht hF (hn g (by simp)), h3, h4.stay ht hF (fun x hx => hn x (by simp [hx]))⟩
def GotAt (w : World) : List Px → List Value → Prop
  | [], [] => True
  | p :: s, v :: t => RqAt w p.rq v ∧ GotAt w s t
  | _, _ => False
def gotC : List Px → List Value → List Value
  | p :: s, v :: t => (rowX p v).toList ++ gotC s t
  | _, _ => []
theorem GotAt.stay {w w' : World} {F : List Nat} (ht : Turned F w w') (hF : Lo w F) : ∀ {s : List Px} {t : List Value}, GotAt w s t → GotAt w' s t
  | [], [], _ => trivial
  | p :: s, v :: t, ⟨h1, h2⟩ => ⟨h1.stay ht hF, h2.stay ht hF⟩
theorem GotAt.snoc {w : World} {p : Px} {v : Value} (hv : RqAt w p.rq v) : ∀ {s : List Px} {t : List Value}, GotAt w s t → GotAt w (s ++ [p]) (t ++ [v]) ∧ gotC (s ++ [p]) (t ++ [v]) = gotC s t ++ (rowX p v).toList
  | [], [], _ => ⟨⟨hv, trivial⟩, by simp [gotC]⟩
  | q :: s, u :: t, ⟨h1, h2⟩ => by
    obtain ⟨a, b⟩ := GotAt.snoc hv h2
    refine ⟨⟨h1, a⟩, ?_⟩
    show (rowX q u).toList ++ gotC (s ++ [p]) (t ++ [v]) = ((rowX q u).toList ++ gotC s t) ++ _
    rw [b, List.append_assoc]
/-- The reader among the pieces. -/
structure RM (w : World) (B r pk : Nat) (k : Kd × Bs) (rest : List (Kd × Bs)) (cur : Option Px) (got : List Px) (g : Nat) (gs : List Nat) (tv vp rv : Value) (ov : List Value) : Prop where
  rd : Blk w r 58 #[.pointer (some ⟨g, 0, none⟩), vp]
  rB : B ≤ r
  top : FrAt w B r pk k.1 g (upOf gs) tv
  tvr : w.ownsRow B 5 1 tv k.2.length (Lib.byteCells k.2)
  tv0 : k.2 = [] → tv = .slice none 0 0
  lt : ∀ h ∈ gs, h < g
  tail : TailAt w B r pk rest gs
  cur : ∀ c, cur = some c → B ≤ pk ∧ Blk w pk 42 (rowX c rv) ∧ RqAt w c.rq rv ∧ vp.ownBlock ≠ some pk
  row : w.ownsRow B 42 12 vp got.length (gotC got ov)
  got : GotAt w got ov
  tabs : Ev.Tabs w
  flags : FlagsAt w
  base : 4 ≤ B ∧ 11 < B
  size : B ≤ w.heap.size
def RS (w : World) (B r : Nat) (s : Sx) : Prop := ∃ k rest, s.stk = k :: rest ∧ ∃ pk g gs tv vp rv ov, RM w B r pk k rest s.cur s.got g gs tv vp rv ov
section
variable {w w' : World} {B r pk g : Nat} {k : Kd × Bs} {rest : List (Kd × Bs)} {cur : Option Px} {got : List Px} {gs : List Nat} {tv vp rv : Value} {ov : List Value} {F : List Nat}
theorem FlagsAt.turned (h : FlagsAt w) (ht : Turned F w w') (hF : 11 ∉ F) : FlagsAt w' := by
  obtain ⟨t, h⟩ := h
  exact ⟨t, h.turned ht hF⟩
theorem RM.tabs' (h : RM w B r pk k rest cur got g gs tv vp rv ov) (ht : Turned F w w') (hF : ∀ x ∈ F, B ≤ x) : Ev.Tabs w' ∧ FlagsAt w' ∧ B ≤ w'.heap.size :=
  ⟨h.tabs.turned ht (fun x hx => Nat.le_trans h.base.1 (hF x hx)), h.flags.turned ht (fun hx => by have := hF _ hx; have := h.base.2; omega), Nat.le_trans h.size ht.size⟩
theorem RM.below (h : RM w B r pk k rest cur got g gs tv vp rv ov) (hb : Below w.heap.size w w') : RM w' B r pk k rest cur got g gs tv vp rv ov := by
  have ht : Turned [] w w' := Turned.of_below hb []
  obtain ⟨h1, h2, h3⟩ := h.tabs' ht (fun x hx => by cases hx)
  exact ⟨Blk.mono h.rd hb, h.rB, h.top.stay ht (Lo.nil _) (by simp), own_turned h.tvr ht (fun _ _ => by simp), h.tv0, h.lt, h.tail.stay ht (Lo.nil _) (fun _ _ => by simp), fun c hc => by
    obtain ⟨a, b, c, d⟩ := h.cur c hc
    exact ⟨a, Blk.mono b hb, c.stay ht (Lo.nil _), d⟩, own_turned h.row ht (fun _ _ => by simp), h.got.stay ht (Lo.nil _), h1, h2, h.base, h3⟩
/-- An element begins within. -/
theorem RM.push (h : RM w B r pk k rest cur got g gs tv vp rv ov) (hk0 : k.2 = []) (ht : Turned F w w') (hF : Lo w F) (hFB : ∀ x ∈ F, B ≤ x) (hv : ∀ x, vp.ownBlock = some x → x ∉ F)
    {pk' g' : Nat} {mo : Option Nat} {en : Value} {kd : Kd} {cur' : Option Px} {rv' : Value} (hr : Blk w' r 58 #[.pointer (some ⟨g', 0, none⟩), vp]) (hn : Blk w' g' 65 #[.map mo, en, .pointer (some ⟨g, 0, none⟩), .slice none 0 0]) (hg' : w.heap.size ≤ g') (hk : KdAt w' r pk' kd mo en)
    (htl : TailAt w' B r pk' (k :: rest) (g :: gs)) (hc : ∀ c, cur' = some c → B ≤ pk' ∧ Blk w' pk' 42 (rowX c rv') ∧ RqAt w' c.rq rv' ∧ vp.ownBlock ≠ some pk') :
    RM w' B r pk' (kd, []) (k :: rest) cur' got g' (g :: gs) (.slice none 0 0) vp rv' ov := by
  obtain ⟨h1, h2, h3⟩ := h.tabs' ht hFB
  have hgl : g < w.heap.size := by obtain ⟨_, mo, en, hb, _⟩ := h.top; exact hb.lt
  refine ⟨hr, h.rB, ⟨Nat.le_trans h.size hg', mo, en, hn, hk⟩, World.ownsRow_nil _ _ _ _, fun _ => rfl, ?_, htl, hc, own_turned h.row ht hv, h.got.stay ht hF, h1, h2, h.base, h3⟩
  intro x hx
  rcases List.mem_cons.1 hx with rfl | hx
  · omega
  · have := h.lt x hx; omega
/-- What is open stays. -/
theorem RM.all (h : RM w B r pk k rest cur got g gs tv vp rv ov) (hk0 : k.2 = []) (ht : Turned F w w') (hF : Lo w F) (hn : ∀ x ∈ g :: gs, x ∉ F) : TailAt w' B r pk (k :: rest) (g :: gs) := by
  refine ⟨hk0, ?_, h.lt, h.tail.stay ht hF (fun x hx => hn x (by simp [hx]))⟩
  have := h.top.stay ht hF (hn g (by simp))
  rw [h.tv0 hk0] at this
  exact this
theorem RM.frame_open (h : RM w B r pk k rest cur got g gs tv vp rv ov) : ∀ x ∈ g :: gs, ∃ cs, Blk w x 65 cs := by
  have ht : ∀ (s : List (Kd × Bs)) (t : List Nat), TailAt w B r pk s t → ∀ x ∈ t, ∃ cs, Blk w x 65 cs := by
    intro s
    induction s with
    | nil => intro t h x hx; cases t with
      | nil => cases hx
      | cons _ _ => exact h.elim
    | cons a s ih => intro t h x hx; cases t with
      | nil => cases hx
      | cons b t =>
        obtain ⟨_, ⟨_, mo, en, hb, _⟩, _, h4⟩ := h
        rcases List.mem_cons.1 hx with rfl | hx
        · exact ⟨_, hb⟩
        · exact ih t h4 x hx
  intro x hx
  rcases List.mem_cons.1 hx with rfl | hx
  · obtain ⟨_, mo, en, hb, _⟩ := h.top
    exact ⟨_, hb⟩
  · exact ht _ _ h.tail x hx
theorem RM.far {t : TypeId} {cs : Array Value} {y : Nat} (h : RM w B r pk k rest cur got g gs tv vp rv ov) (hy : Blk w y t cs) (ht : t ≠ 65) : ∀ x ∈ g :: gs, x ∉ [y] := fun x hx hk => by
  obtain ⟨cs', hb⟩ := h.frame_open x hx
  simp at hk
  exact Blk.kind hy hb ht hk.symm
end
end Go.Proofs.YtljldbdjkjllhaaGreatDoor
