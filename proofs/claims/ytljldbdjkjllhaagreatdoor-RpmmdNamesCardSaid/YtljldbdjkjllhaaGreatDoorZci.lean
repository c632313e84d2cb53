/- What gives up is caught: xmlpull's caught and its closure. Next: what its closure does. Next. All that is told, as a function; what is left falls. -/
import Derived.Test.YtljldbdjkjllhaaGreatDoorZca
import Derived.Lib.IfaceEq
import Derived.Defers
import Derived.Recover
import Derived.Laws.Pointers
import Derived.Test.YtljldbdjkjllhaaGreatDoorZch
import Derived.StillTailTactics
/- What gives up is caught: xmlpull's caught and its closure. -/
namespace Go.Proofs.YtljldbdjkjllhaaGreatDoor
set_option linter.unusedSimpArgs false
set_option linter.unusedVariables false
open Go.RowKit

theorem assert_some (n : Int) (w : World) : (Instr.typeAssert (.iface 25 (.int .i64 n)) 20 25 true).run Tryz.prog w = .ok (.tuple #[.int .i64 n, .bool true]) w := by
  simp [Instr.typeAssert, run_underlying Tryz.underlying25, Result.andThen]
theorem assert_none (w : World) : (Instr.typeAssert .nilIface 20 25 true).run Tryz.prog w = .ok (.tuple #[.int .i64 0, .bool false]) w := by
  simp [Instr.typeAssert, run_underlying Tryz.underlying25, Tryz.zeroValue25, Result.andThen]
theorem meths_any : Tryz.prog.methodsAt 20 = #[] := by kernel_rfl
theorem under_any : Tryz.prog.underlying 20 = some (.interface (Tryz.prog.methodsAt 20)) := by rw [meths_any]; exact Tryz.underlying20
theorem neq_some (n : Int) (w : World) : (binOp .neq 20 (.iface 25 (.int .i64 n)) .nilIface).run Tryz.prog w = .ok (.bool true) w := run_neq_held_nil w _ _ _ under_any
theorem neq_none (w : World) : (binOp .neq 20 .nilIface .nilIface).run Tryz.prog w = .ok (.bool false) w := run_neq_nil_nil w _ under_any
theorem caught_slots (p : Addr) : (#[Value.pointer (some p)] ++ Array.replicate (Tryz.f84.ntmps - (#[Value.pointer (some p)] : Array Value).size) undef) = #[Value.pointer (some p), undef, undef, undef, undef, undef, undef, undef, undef, undef, undef, undef, undef, undef, undef, undef, undef, undef] := by
  rw [Tryz.ntmps84]; rfl
set_option maxHeartbeats 400000 in
set_option maxRecDepth 100000 in
theorem catch_pan (p : Addr) (x n : Int) (w : World) (hc : w.cell? p = some (.int .i64 x)) (hz : w.frozen? p = false) :
    CallsD Tryz.prog 84 #[.pointer (some p)] (.panicking [{ v := .iface 25 (.int .i64 n), recovered := false }]) w fun e u' w' =>
      e = .returned (.tuple #[]) ∧ u' = .panicking [{ v := .iface 25 (.int .i64 n), recovered := true }] ∧ w' = w.setCell p (.int .i64 n) := by
  refine callsD_of_wpS Tryz.func84 rfl fun c₀ cs hu => ?_
  rw [caught_slots]
  apply wpS_seq
  apply wpS_region
  simp [wpOpsS, go_sem, recoverD, hu, Exit.thenS]
  refine wpS_of_wp ?_
  clear hu
  have ht := assert_some n
  have hn := neq_some n
  go_wp2_with fail
  exact ⟨rfl, _, rfl, _, results_none rfl _ _ _, rfl, rfl, rfl⟩
set_option maxHeartbeats 400000 in
set_option maxRecDepth 100000 in
theorem catch_none (p : Addr) (x : Int) (w : World) (hc : w.cell? p = some (.int .i64 x)) (hz : w.frozen? p = false) :
    CallsD Tryz.prog 84 #[.pointer (some p)] .returning w fun e u' w' =>
      e = .returned (.tuple #[]) ∧ u' = .returning ∧ w' = w.setCell p (.int .i64 0) := by
  refine callsD_of_wpS Tryz.func84 rfl fun c₀ cs hu => ?_
  rw [caught_slots]
  apply wpS_seq
  apply wpS_region
  simp [wpOpsS, go_sem, recoverD, hu, Exit.thenS]
  refine wpS_of_wp ?_
  have HU := Lib.hid hu
  clear hu
  have ht := assert_none
  have hn := neq_none
  go_wp2_with fail
  exact ⟨rfl, _, (by cases c₀; have := HU.out; simp at this; subst this; rfl), _, results_none rfl _ _ _, rfl, rfl, rfl⟩

/-- What is done either answers, or gives up with an error's number; the blocks of F it may turn. -/
def Done (F : List Nat) (w : World) (Q : World → Prop) (Qp : Int → World → Prop) (e : Ending) (w' : World) : Prop :=
  Turned F w w' ∧ ((e = .returned (.tuple #[]) ∧ Q w') ∨ ∃ n, e = gaveUp n ∧ Qp n w')
set_option maxHeartbeats 400000 in
set_option maxRecDepth 100000 in
theorem caught_any (g : FuncId) (caps : Array Value) (ef : ∀ args w, (callFunc g args).run Tryz.prog w = .ok (.enter g args) w) (F : List Nat) (Q : World → Prop) (Qp : Int → World → Prop) (w0 : World) (hF : ∀ k ∈ F, k < w0.heap.size)
    (hdo : Calls Tryz.prog g caps (w0.alloc (.cells #[.int .i64 0] 25)) (Done F (w0.alloc (.cells #[.int .i64 0] 25)) Q Qp)) :
    Calls Tryz.prog 47 #[.func (.func g) #[] caps] w0 fun e w' => ∃ w1, Turned F (w0.alloc (.cells #[.int .i64 0] 25)) w1 ∧ Turned [w0.heap.size] w1 w' ∧ ((e = .returned (.int .i64 0) ∧ Q w1) ∨ ∃ n, e = .returned (.int .i64 n) ∧ Qp n w1) := by
  have hmf : ∀ (fn : Fn) (first cap : Array Value) (w : World), (Instr.makeFunc fn first cap).run Tryz.prog w = .ok (.func fn first cap) w := fun _ _ _ _ => rfl
  have HD := Lib.hid hdo
  have K0 := Lib.hid (Blk.new w0 25 #[.int .i64 0])
  have HF := Lib.hid hF
  clear hdo hF
  go_enter_defers Tryz.func47, Tryz.ntmps47
  go_wp2_with fail
  refine HD.out.mono ?_
  rintro e w1 ⟨ht, h | h⟩
  · obtain ⟨rfl, hq⟩ := h
    have K1 := Lib.hid (K0.out.turned ht (fun hm => absurd (HF.out _ hm) (Nat.lt_irrefl _)))
    have HT := Lib.hid ht
    have HQ := Lib.hid hq
    clear ht hq HD K0
    have c0 := K1.out.cell 0
    have f0 := K1.out.free 0
    go_wp2_with fail
    have K2 : Blk (w1.setCell ⟨w0.heap.size, 0, none⟩ (.int .i64 0)) w0.heap.size 25 #[.int .i64 0] := K1.out.set_ 0 (.int .i64 0)
    refine leaves_cons (f := 84) (args := #[.pointer (some ⟨w0.heap.size, 0, none⟩)]) (by simp) (by simp [go_sem]) ?_
    refine (catch_none ⟨w0.heap.size, 0, none⟩ 0 _ (K2.cell 0) (K2.free 0)).mono ?_
    rintro e u' w'' ⟨rfl, rfl, rfl⟩
    have K3 : Blk ((w1.setCell ⟨w0.heap.size, 0, none⟩ (.int .i64 0)).setCell ⟨w0.heap.size, 0, none⟩ (.int .i64 0)) w0.heap.size 25 #[.int .i64 0] := K2.set_ 0 (.int .i64 0)
    have d0 : ((w1.setCell ⟨w0.heap.size, 0, none⟩ (.int .i64 0)).setCell ⟨w0.heap.size, 0, none⟩ (.int .i64 0)).cell? ⟨w0.heap.size, 0, none⟩ = some (.int .i64 0) := K3.cell 0
    have e0 := K3.free 0
    have TT : Turned [w0.heap.size] w1 ((w1.setCell ⟨w0.heap.size, 0, none⟩ (.int .i64 0)).setCell ⟨w0.heap.size, 0, none⟩ (.int .i64 0)) := ((Turned.refl _ _).setCell (.inl (by simp)) _).setCell (.inl (by simp)) _
    refine ⟨.int .i64 0, ?_, w1, HT.out, TT, .inl ⟨rfl, HQ.out⟩⟩
    simp only [results, Tryz.results47]
    simp [go_sem, d0, e0]
  · obtain ⟨n, rfl, hq⟩ := h
    have K1 := Lib.hid (K0.out.turned ht (fun hm => absurd (HF.out _ hm) (Nat.lt_irrefl _)))
    have HT := Lib.hid ht
    have HQ := Lib.hid hq
    clear ht hq HD K0
    have c0 := K1.out.cell 0
    have f0 := K1.out.free 0
    unfold gaveUp
    go_wp2_with fail
    refine leaves_cons (f := 84) (args := #[.pointer (some ⟨w0.heap.size, 0, none⟩)]) (by simp) (by simp [go_sem]) ?_
    refine (catch_pan ⟨w0.heap.size, 0, none⟩ 0 n _ c0 f0).mono ?_
    rintro e u' w'' ⟨rfl, rfl, rfl⟩
    have K3 : Blk (w1.setCell ⟨w0.heap.size, 0, none⟩ (.int .i64 n)) w0.heap.size 25 #[.int .i64 n] := K1.out.set_ 0 (.int .i64 n)
    have d0 : (w1.setCell ⟨w0.heap.size, 0, none⟩ (.int .i64 n)).cell? ⟨w0.heap.size, 0, none⟩ = some (.int .i64 n) := K3.cell 0
    have e0 := K3.free 0
    have TT : Turned [w0.heap.size] w1 (w1.setCell ⟨w0.heap.size, 0, none⟩ (.int .i64 n)) := (Turned.refl _ _).setCell (.inl (by simp)) _
    refine ⟨.int .i64 n, ?_, w1, HT.out, TT, .inr ⟨n, rfl, HQ.out⟩⟩
    simp only [results, Tryz.results47]
    simp [go_sem, d0, e0]
end Go.Proofs.YtljldbdjkjllhaaGreatDoor

/- Next: what its closure does. -/
namespace Go.Proofs.YtljldbdjkjllhaaGreatDoor
set_option linter.unusedSimpArgs false
set_option linter.unusedVariables false
open Go.RowKit

/-- What a reader is that may be asked. -/
structure XOk (s : XS) : Prop where
  rest : s.rest.length ≤ 40000
  opn : s.opn.length ≤ 16
  short : s.short = true → 0 < s.opn.length
section
variable {w w' w0 : World} {B base g : Nat} {vo : Value} {s : XS} {wr : Int}
def zeroP : Array Value := #[.int .i64 0, .string ⟨#[]⟩, .slice none 0 0, .string ⟨#[]⟩]
def pcC (pc : Pc) (A : Option Addr) (c : Nat) : Array Value := #[.int .i64 pc.kind, .string (mkS pc.name), .slice A pc.attrs.length c, .string (mkS pc.text)]
/-- Behind the closure: what was told is stored at q; or nothing. -/
def NxQ (w0 : World) (base g q : Nat) (vo : Value) (s : XS) (wr : Int) (w1 : World) : Prop :=
  ∃ vo' s' pc A c, nextR s = .ok (pc, s') ∧ XRd w1 base g vo' s' wr ∧ Fresh w0 (fOf g vo) (fOf g vo') ∧ Blk w1 q 68 (pcC pc A c) ∧ pc.attrs.length ≤ c ∧ c ≤ maxLen ∧ AlK w1 A pc.attrs
def NxP (w0 : World) (base g q : Nat) (vo : Value) (s : XS) (wr : Int) (n : Int) (w1 : World) : Prop :=
  ∃ vo' s', nextR s = .error n ∧ XRd w1 base g vo' s' wr ∧ Fresh w0 (fOf g vo) (fOf g vo') ∧ Blk w1 q 68 zeroP
set_option maxHeartbeats 4000000 in
set_option maxRecDepth 100000 in
theorem clos_any {b1 q : Nat} (h : XRd w base g vo s wr) (hE : XEnv B w) (hBb : B ≤ base) (ho : XOk s) (hb1 : Blk w b1 70 #[.pointer (some ⟨g, 0, none⟩)]) (hq : Blk w q 68 zeroP) :
    Calls Tryz.prog 48 #[.pointer (some ⟨b1, 0, none⟩), .pointer (some ⟨q, 0, none⟩)] w (Done (q :: fOf g vo) w (NxQ w base g q vo s wr) (NxP w base g q vo s wr)) := by
  have C := Lib.hid (next_any h hE hBb ho.rest ho.opn ho.short)
  have c1 := hb1.cell 0
  simp at c1
  have HX := Lib.hid h
  have HQ := Lib.hid hq
  have hqn : q ∉ fOf g vo := fun hm => h.not_kind hm (by decide) (by decide) hq
  clear h hE hb1 hq ho
  go_enter Tryz.func48, Tryz.ntmps48
  go_wp2_with fail
  refine C.out.mono ?_
  intro en w1 ha
  obtain ⟨ht, vo', s', hx, hf, hor⟩ := ha
  have hq1 := HQ.out.turned ht hqn
  have htq : Turned (q :: fOf g vo) w w1 := ht.more fun k hk => by simp [hk]
  rcases hor with ⟨pc, v, hr, rfl, A, c, rfl, hl, hm, hA⟩ | ⟨k, hr, rfl⟩
  · have hqn' : ∀ k ∈ [q], k ∉ fOf g vo' := fun k hk hm => by simp at hk; subst hk; exact hx.not_kind hm (by decide) (by decide) hq1
    have HB4 := put4_blk (a := .int .i64 pc.kind) (b := .string (mkS pc.name)) (c := .slice A pc.attrs.length c) (d := .string (mkS pc.text)) hq1
    have HT4 : Turned [q] w1 (put4 w1 q (.int .i64 pc.kind) (.string (mkS pc.name)) (.slice A pc.attrs.length c) (.string (mkS pc.text))) := put4_turned
    have HV : Hid (Done (q :: fOf g vo) w (NxQ w base g q vo s wr) (NxP w base g q vo s wr) (.returned (.tuple #[])) (put4 w1 q (.int .i64 pc.kind) (.string (mkS pc.name)) (.slice A pc.attrs.length c) (.string (mkS pc.text)))) :=
      ⟨htq.trans (HT4.more fun k hk => by simp at hk; simp [hk]) (Fresh.refl _ _), .inl ⟨rfl, vo', s', pc, A, c, hr, hx.turned HT4 hqn', hf, HB4, hl, hm, hA.turned HT4 (fun k hk cs hb => by simp at hk; subst hk; exact Blk.kind hb hq1 (by decide) rfl)⟩⟩
    have b0 := hq1.cell 0
    have b1' := hq1.cell 1
    have b2 := hq1.cell 2
    have b3 := hq1.cell 3
    have f0 := hq1.free 0
    have f1 := hq1.free 1
    have f2 := hq1.free 2
    have f3 := hq1.free 3
    unfold zeroP at b0 b1' b2 b3
    simp at b0 b1' b2 b3
    clear ht hx hf hr hA HB4 HT4 htq hq1 C c1
    unfold pcV
    unfold put4 at HV
    go_wp2_with fail
    go_end0
    exact HV.out
  · have HV : Hid (Done (q :: fOf g vo) w (NxQ w base g q vo s wr) (NxP w base g q vo s wr) (gaveUp k) w1) := ⟨htq, .inr ⟨k, rfl, vo', s', hr, hx, hf, hq1⟩⟩
    clear ht hx hf hr htq hq1 C c1
    unfold gaveUp at HV ⊢
    go_wp2_with fail
    exact ⟨rfl, HV.out⟩
theorem XRd.set4 (h : XRd w base g vo s wr) (n : Int) : XRd (w.setCell ⟨g, 4, none⟩ (.int .i64 n)) base g vo s n :=
  ⟨Blk.set_ h.blk 4 (.int .i64 n), own_setCell (p := ⟨g, 4, none⟩) h.row h.vo_ne _, h.far⟩
theorem fOf_lt (h : XRd w base g vo s wr) : ∀ k ∈ fOf g vo, k < w.heap.size := fun k hk => by
  rcases fOf_mem.1 hk with rfl | hk
  · exact Blk.lt h.blk
  · exact (h.row.lt k hk).2
end
end Go.Proofs.YtljldbdjkjllhaaGreatDoor

/- Next. -/
namespace Go.Proofs.YtljldbdjkjllhaaGreatDoor
set_option linter.unusedSimpArgs false
set_option linter.unusedVariables false
open Go.RowKit

section
variable {w w' w0 : World} {B base g : Nat} {vo : Value} {s : XS} {wr : Int}
def NextPost (w : World) (base g : Nat) (vo : Value) (res : Except Int (Pc × XS)) (e : Ending) (w' : World) : Prop :=
  Turned (fOf g vo) w w' ∧ ∃ vo' s', Fresh w (fOf g vo) (fOf g vo') ∧
    ((∃ pc A c, res = .ok (pc, s') ∧ e = .returned (.tuple #[pcV pc A c, .int .i64 0]) ∧ XRd w' base g vo' s' 0 ∧ pc.attrs.length ≤ c ∧ c ≤ maxLen ∧ AlK w' A pc.attrs) ∨
     (∃ k, res = .error k ∧ e = .returned (.tuple #[.agg zeroP, .int .i64 k]) ∧ XRd w' base g vo' s' k))
theorem results_ct {fn : Func} {t u : Tmp} {e : TypeId} (h : fn.results = #[.cell t e, .tmp u]) (tmps : Array Value) {P : Program} {w : World} {ad : Addr} (hp : tmps[t]?.getD undef = .pointer (some ad)) {v : Value} (hv : (loadVar e ad).run P w = .ok v w) :
    (results fn tmps).run P w = .ok (.tuple #[v, tmps.getD u undef]) w := by
  simp [results, h, hp, asAddr, hv]
theorem enter_clos : ∀ args w, (callFunc 48 args).run Tryz.prog w = .ok (.enter 48 args) w := enters_of Tryz.func48 (by kernel_rfl) rfl
def NW (w : World) (g : Nat) : World := ((w.alloc (.cells #[.pointer (some ⟨g, 0, none⟩)] 70)).alloc (.cells #[.int .i64 0, .string ⟨#[]⟩, .slice none 0 0, .string ⟨#[]⟩] 68)).alloc (.cells #[.int .i64 0, .string ⟨#[]⟩, .slice none 0 0, .string ⟨#[]⟩] 68)
set_option maxHeartbeats 8000000 in
set_option maxRecDepth 1000000 in
theorem Next_live (h : XRd w base g vo s 0) (hE : XEnv B w) (hBb : B ≤ base) (ho : XOk s) :
    Calls Tryz.prog 28 #[.pointer (some ⟨g, 0, none⟩)] w (NextPost w base g vo (nextR s)) := by
  have hz := fOf_lt h
  obtain ⟨W, hW⟩ : ∃ W, W = NW w g := ⟨_, rfl⟩
  have T0 : Turned [] w W := by subst hW; exact (((Turned.refl _ _).alloc _).alloc _).alloc _
  have K1 : Blk W w.heap.size 70 #[.pointer (some ⟨g, 0, none⟩)] := by subst hW; exact ((Blk.new _ _ _).alloc _).alloc _
  have K2 : Blk W (w.heap.size + 1) 68 zeroP := by subst hW; exact (Blk.new' (by simp)).alloc _
  have K3 : Blk W (w.heap.size + 2) 68 zeroP := by subst hW; exact Blk.new' (by simp)
  have hWz : W.heap.size = w.heap.size + 3 := by subst hW; simp [NW]
  have X0 := h.turned T0 (fun k hk => by cases hk)
  have E0 := hE.turned T0 (fun k hk => by cases hk)
  unfold NW at hW
  obtain ⟨res, hres⟩ : ∃ res, res = nextR s := ⟨_, rfl⟩
  rw [← hres]
  have HRES := Lib.hid hres
  clear hres
  go_enter Tryz.func28, Tryz.ntmps28
  go_upto_region 4 with fail
  rw [← hW]
  clear hW
  have c1 : W.cell? ⟨w.heap.size, 0, none⟩ = some (.pointer (some ⟨g, 0, none⟩)) := K1.cell 0
  have c4 : W.cell? ⟨g, 4, none⟩ = some (.int .i64 0) := Blk.cell X0.blk 4
  have hzg := hz g (g_mem _ _)
  have hn1 : w.heap.size ≠ g := by omega
  have hn2 : w.heap.size + 1 ≠ g := by omega
  have hn3 : w.heap.size + 2 ≠ g := by omega
  obtain ⟨WA, hWA⟩ : ∃ WA, WA = W.drew.alloc (.cells #[.int .i64 0] 25) := ⟨_, rfl⟩
  have TA : Turned [] W WA := by subst hWA; exact (Turned.refl _ _).drew.alloc _
  have HCL : Hid (Calls Tryz.prog 48 #[.pointer (some ⟨w.heap.size, 0, none⟩), .pointer (some ⟨w.heap.size + 2, 0, none⟩)] WA (Done ((w.heap.size + 2) :: fOf g vo) WA (NxQ WA base g (w.heap.size + 2) vo s 0) (NxP WA base g (w.heap.size + 2) vo s 0))) :=
    clos_any (X0.turned TA (fun k hk => by cases hk)) (E0.turned TA (fun k hk => by cases hk)) hBb ho (K1.turned TA (fun hk => by cases hk)) (K3.turned TA (fun hk => by cases hk))
  have hWAz : WA.heap.size = w.heap.size + 4 := by subst hWA; show (W.heap.push _).size = _; simp; exact hWz
  have HWA := Lib.hid hWA
  have CC : Hid (Calls Tryz.prog 47 #[.func (.func 48) #[] #[.pointer (some ⟨w.heap.size, 0, none⟩), .pointer (some ⟨w.heap.size + 2, 0, none⟩)]] W.drew fun e w' => ∃ w1, Turned ((w.heap.size + 2) :: fOf g vo) WA w1 ∧ Turned [w.heap.size + 3] w1 w' ∧ ((e = .returned (.int .i64 0) ∧ NxQ WA base g (w.heap.size + 2) vo s 0 w1) ∨ ∃ n, e = .returned (.int .i64 n) ∧ NxP WA base g (w.heap.size + 2) vo s 0 n w1)) := by
    have h1 := caught_any 48 #[.pointer (some ⟨w.heap.size, 0, none⟩), .pointer (some ⟨w.heap.size + 2, 0, none⟩)] enter_clos ((w.heap.size + 2) :: fOf g vo) (NxQ WA base g (w.heap.size + 2) vo s 0) (NxP WA base g (w.heap.size + 2) vo s 0) W.drew (fun k hk => by
      show k < W.heap.size
      rcases List.mem_cons.1 hk with rfl | hk
      · omega
      · have := hz k hk; omega) (by rw [← hWA]; exact HCL.out)
    rw [← hWA] at h1
    have e : W.drew.heap.size = w.heap.size + 3 := hWz
    rw [e] at h1
    exact h1
  have hmf : ∀ (fn : Fn) (first cap : Array Value) (w : World), (Instr.makeFunc fn first cap).run Tryz.prog w = .ok (.func fn first cap) w := fun _ _ _ _ => rfl
  have K4 : Blk WA (w.heap.size + 3) 25 #[.int .i64 0] := by subst hWA; exact Blk.new' hWz
  have hfr : ∀ k ∈ [w.heap.size, w.heap.size + 1, w.heap.size + 3], k ∉ (w.heap.size + 2) :: fOf g vo := fun k hk hm => by
    simp at hk
    rcases List.mem_cons.1 hm with h1 | h1
    · omega
    · have := hz k h1; omega
  have TWA : Turned (fOf g vo) w WA := (T0.more (F' := fOf g vo) (fun k hk => by cases hk)).trans TA (fun k hk => by cases hk)
  have K1A := K1.turned TA (fun hk => by cases hk)
  have K2A := K2.turned TA (fun hk => by cases hk)
  clear h hE hBb ho hWA HCL X0 E0 K1 K2 K3 T0 TA HWA
  go_upto_region 5 with fail
  refine wp_region_S (fun _ w' => w'.cell? ⟨w.heap.size, 0, none⟩ = some (.pointer (some ⟨g, 0, none⟩))) (by kernel_rfl) c1 (fun hS => ?_)
  refine wpAnyS_take (i := 0) (fun w' => w'.cell? ⟨w.heap.size, 0, none⟩ = some (.pointer (some ⟨g, 0, none⟩))) (v := .pointer (some ⟨g, 0, none⟩)) rfl (by kernel_rfl) (by kernel_rfl) (by kernel_rfl) (fun _ _ _ h => h) (fun l w hw hS => hS) (fun _ _ => Iff.rfl) (by kernel_rfl) hS (fun w' hSw => ?_) (by kernel_rfl) (fun hS => ?_)
  · go_simp
  try simp only [List.getElem_toArray, List.getElem_cons_zero, List.getElem_cons_succ, Act.put, List.setIfInBounds_toArray, List.set_cons_zero, List.set_cons_succ]
  refine wpAnyS_take (i := 1) (fun w' => w'.cell? ⟨w.heap.size, 0, none⟩ = some (.pointer (some ⟨g, 0, none⟩))) (v := .func (.func 48) #[] #[.pointer (some ⟨w.heap.size, 0, none⟩), .pointer (some ⟨w.heap.size + 2, 0, none⟩)]) rfl (by kernel_rfl) (by kernel_rfl) (by kernel_rfl) (fun _ _ _ h => h) (fun l w hw hS => hS) (fun _ _ => Iff.rfl) (by kernel_rfl) hS (fun w' hSw => ?_) (by kernel_rfl) (fun hS => ?_)
  · go_simp
  try simp only [List.getElem_toArray, List.getElem_cons_zero, List.getElem_cons_succ, Act.put, List.setIfInBounds_toArray, List.set_cons_zero, List.set_cons_succ]
  refine wpAnyS_one (i := 2) (by kernel_rfl) rfl (fun K7 hK7 => ?_)
  go_simp
  refine CC.out.mono ?_
  rintro e w4 ⟨w1, ht1, ht2, ⟨rfl, vo', s', pc, A, c, hr, hx, hf, hb, hl, hm, hA⟩ | ⟨n, rfl, vo', s', hr, hx, hf, hb⟩⟩
  all_goals
    have K41 := K4.turned ht1 (hfr _ (by simp))
    have J1 := (K1A.turned ht1 (hfr _ (by simp))).turned ht2 (by simp)
    have J2 := (K2A.turned ht1 (hfr _ (by simp))).turned ht2 (by simp)
    have J3 := hb.turned ht2 (by simp)
    have X4 := hx.turned ht2 (fun k hk hm => by simp at hk; subst hk; exact hx.not_kind hm (by decide) (by decide) K41)
    have T4 : Turned (fOf g vo) w w4 := (TWA.trans ht1 (fun k hk => by
      rcases List.mem_cons.1 hk with rfl | hk
      · exact .inr (by omega)
      · exact .inl hk)).new_ ht2 (by omega)
    have HFR : Hid (Fresh w (fOf g vo) (fOf g vo')) := fun k hk => by
      rcases hf k hk with h | h
      · exact .inl h
      · exact .inr (by omega)
  · have hA4 := hA.turned ht2 (fun k hk cs hb' => by simp at hk; subst hk; exact Blk.kind hb' K41 (by decide) rfl)
    have HE : Hid (res = .ok (pc, s')) := HRES.out.trans hr
    clear ht1 ht2 hf hb hx hA hr CC K41
    have e1 : w4.cell? ⟨w.heap.size, 0, none⟩ = some (.pointer (some ⟨g, 0, none⟩)) := J1.cell 0
    refine hK7.out _ _ e1 (fun hS => ?_)
    clear hK7 K7
    try simp only [List.getElem_toArray, List.getElem_cons_zero, List.getElem_cons_succ, Act.put, List.setIfInBounds_toArray, List.set_cons_zero, List.set_cons_succ]
    refine wpAnyS_one (i := 3) (by kernel_rfl) rfl (fun K7 hK7 => ?_)
    go_simp
    refine hK7.out _ _ e1 (fun hS => ?_)
    clear hK7 K7
    try simp only [List.getElem_toArray, List.getElem_cons_zero, List.getElem_cons_succ, Act.put, List.setIfInBounds_toArray, List.set_cons_zero, List.set_cons_succ]
    refine wpAnyS_one (i := 4) (by kernel_rfl) rfl (fun K7 hK7 => ?_)
    go_simp
    refine hK7.out _ _ e1 (fun hS => ?_)
    clear hK7 K7
    try simp only [List.getElem_toArray, List.getElem_cons_zero, List.getElem_cons_succ, Act.put, List.setIfInBounds_toArray, List.set_cons_zero, List.set_cons_succ]
    have f4 := Blk.free X4.blk 4
    have e4 : w4.cell? ⟨g, 4, none⟩ = some (.int .i64 0) := Blk.cell X4.blk 4
    have L1 := J1.far (p := ⟨g, 4, none⟩) (fun e => hn1 e) (.int .i64 0)
    have L2 := J2.far (p := ⟨g, 4, none⟩) (fun e => hn2 e) (.int .i64 0)
    have L3 := J3.far (p := ⟨g, 4, none⟩) (fun e => hn3 e) (.int .i64 0)
    have X5 := X4.set4 0
    have TG : Turned [g] w4 (w4.setCell ⟨g, 4, none⟩ (.int .i64 0)) := (Turned.refl [g] w4).setCell (p := ⟨g, 4, none⟩) (.inl (by simp)) (.int .i64 0)
    have T5 := T4.setCell (p := ⟨g, 4, none⟩) (.inl (g_mem g vo)) (.int .i64 0)
    have A5 := hA4.turned TG (fun k hk cs => by simp at hk; subst hk; exact X4.not_kind (g_mem _ _) (by decide) (by decide))
    generalize hW5 : w4.setCell ⟨g, 4, none⟩ (.int .i64 0) = w5 at *
    have l1 : w5.cell? ⟨w.heap.size, 0, none⟩ = some (.pointer (some ⟨g, 0, none⟩)) := L1.cell 0
    refine wpAnyS_one (i := 5) (by kernel_rfl) rfl (fun K7 hK7 => ?_)
    go_simp
    try rw [hW5]
    refine hK7.out _ _ l1 (fun hS => ?_)
    clear hK7 K7
    try simp only [List.getElem_toArray, List.getElem_cons_zero, List.getElem_cons_succ, Act.put, List.setIfInBounds_toArray, List.set_cons_zero, List.set_cons_succ]
    refine wpAnyS_done (by kernel_rfl) ?_ _
    clear hS hW5 f4 e4 e1 T4 X4 J1 J2 J3 TG
    have l30 : w5.cell? ⟨w.heap.size + 2, 0, none⟩ = some (.int .i64 pc.kind) := L3.cell 0
    have l31 : w5.cell? ⟨w.heap.size + 2, 1, none⟩ = some (.string (mkS pc.name)) := L3.cell 1
    have l32 : w5.cell? ⟨w.heap.size + 2, 2, none⟩ = some (.slice A pc.attrs.length c) := L3.cell 2
    have l33 : w5.cell? ⟨w.heap.size + 2, 3, none⟩ = some (.string (mkS pc.text)) := L3.cell 3
    have l5 : w5.cell? ⟨g, 4, none⟩ = some (.int .i64 0) := Blk.cell X5.blk 4
    have l20 := L2.cell 0
    have l21 := L2.cell 1
    have l22 := L2.cell 2
    have l23 := L2.cell 3
    have f20 := L2.free 0
    have f21 := L2.free 1
    have f22 := L2.free 2
    have f23 := L2.free 3
    unfold zeroP at l20 l21 l22 l23
    simp at l20 l21 l22 l23
    have HB2 := Lib.hid (put4_blk (a := .int .i64 pc.kind) (b := .string (mkS pc.name)) (c := .slice A pc.attrs.length c) (d := .string (mkS pc.text)) L2)
    have HT2 : Turned [w.heap.size + 1] w5 (put4 w5 (w.heap.size + 1) (.int .i64 pc.kind) (.string (mkS pc.name)) (.slice A pc.attrs.length c) (.string (mkS pc.text))) := put4_turned
    have X6 := X5.turned HT2 (fun k hk hm => by simp at hk; subst hk; exact X5.not_kind hm (by decide) (by decide) L2)
    have T6 := T5.new_ HT2 (by omega)
    have A6 := A5.turned HT2 (fun k hk cs hb => by simp at hk; subst hk; exact Blk.kind hb L2 (by decide) rfl)
    have m1 : (put4 w5 (w.heap.size + 1) (.int .i64 pc.kind) (.string (mkS pc.name)) (.slice A pc.attrs.length c) (.string (mkS pc.text))).cell? ⟨w.heap.size, 0, none⟩ = some (.pointer (some ⟨g, 0, none⟩)) := (L1.turned HT2 (by simp)).cell 0
    have m3 := L3.turned HT2 (by simp)
    have m30 : (put4 w5 (w.heap.size + 1) (.int .i64 pc.kind) (.string (mkS pc.name)) (.slice A pc.attrs.length c) (.string (mkS pc.text))).cell? ⟨w.heap.size + 2, 0, none⟩ = some (.int .i64 pc.kind) := m3.cell 0
    have m31 : (put4 w5 (w.heap.size + 1) (.int .i64 pc.kind) (.string (mkS pc.name)) (.slice A pc.attrs.length c) (.string (mkS pc.text))).cell? ⟨w.heap.size + 2, 1, none⟩ = some (.string (mkS pc.name)) := m3.cell 1
    have m32 : (put4 w5 (w.heap.size + 1) (.int .i64 pc.kind) (.string (mkS pc.name)) (.slice A pc.attrs.length c) (.string (mkS pc.text))).cell? ⟨w.heap.size + 2, 2, none⟩ = some (.slice A pc.attrs.length c) := m3.cell 2
    have m33 : (put4 w5 (w.heap.size + 1) (.int .i64 pc.kind) (.string (mkS pc.name)) (.slice A pc.attrs.length c) (.string (mkS pc.text))).cell? ⟨w.heap.size + 2, 3, none⟩ = some (.string (mkS pc.text)) := m3.cell 3
    have m5 : (put4 w5 (w.heap.size + 1) (.int .i64 pc.kind) (.string (mkS pc.name)) (.slice A pc.attrs.length c) (.string (mkS pc.text))).cell? ⟨g, 4, none⟩ = some (.int .i64 0) := Blk.cell X6.blk 4
    have HM := Lib.hid (And.intro m1 (And.intro m5 (And.intro m30 (And.intro m31 (And.intro m32 m33)))))
    have HF : Hid (NextPost w base g vo res (.returned (.tuple #[.agg #[.int .i64 pc.kind, .string (mkS pc.name), .slice A pc.attrs.length c, .string (mkS pc.text)], .int .i64 0])) ((put4 w5 (w.heap.size + 1) (.int .i64 pc.kind) (.string (mkS pc.name)) (.slice A pc.attrs.length c) (.string (mkS pc.text))).drew)) := ⟨T6.drew, vo', s', HFR.out, .inl ⟨pc, A, c, HE.out, rfl, X6.drew, hl, hm, A6⟩⟩
    clear A6 A5
    clear m1 m3 m30 m31 m32 m33 m5 HT2 X6 T6 X5 T5 L1 L2 L3 c1
    go_upto_region 6 with fail
    refine wp_region_S (fun _ w' => w'.cell? ⟨w.heap.size, 0, none⟩ = some (.pointer (some ⟨g, 0, none⟩)) ∧ w'.cell? ⟨g, 4, none⟩ = some (.int .i64 0) ∧ w'.cell? ⟨w.heap.size + 2, 0, none⟩ = some (.int .i64 pc.kind) ∧ w'.cell? ⟨w.heap.size + 2, 1, none⟩ = some (.string (mkS pc.name)) ∧ w'.cell? ⟨w.heap.size + 2, 2, none⟩ = some (.slice A pc.attrs.length c) ∧ w'.cell? ⟨w.heap.size + 2, 3, none⟩ = some (.string (mkS pc.text))) (by kernel_rfl) ⟨l1, l5, l30, l31, l32, l33⟩ (fun hS => ?_)
    refine wpAnyS_take (i := 0) (fun w' => w'.cell? ⟨w.heap.size, 0, none⟩ = some (.pointer (some ⟨g, 0, none⟩)) ∧ w'.cell? ⟨g, 4, none⟩ = some (.int .i64 0) ∧ w'.cell? ⟨w.heap.size + 2, 0, none⟩ = some (.int .i64 pc.kind) ∧ w'.cell? ⟨w.heap.size + 2, 1, none⟩ = some (.string (mkS pc.name)) ∧ w'.cell? ⟨w.heap.size + 2, 2, none⟩ = some (.slice A pc.attrs.length c) ∧ w'.cell? ⟨w.heap.size + 2, 3, none⟩ = some (.string (mkS pc.text))) (v := .agg #[.int .i64 pc.kind, .string (mkS pc.name), .slice A pc.attrs.length c, .string (mkS pc.text)]) rfl (by kernel_rfl) (by kernel_rfl) (by kernel_rfl) (fun _ _ _ h => h) (fun l w hw hS => hS) (fun _ _ => Iff.rfl) (by kernel_rfl) hS (fun w' hSw => ?_) (by kernel_rfl) (fun hS => ?_)
    · obtain ⟨s1, s2, s3, s4, s5, s6⟩ := hSw
      go_simp
    try simp only [List.getElem_toArray, List.getElem_cons_zero, List.getElem_cons_succ, Act.put, List.setIfInBounds_toArray, List.set_cons_zero, List.set_cons_succ]
    refine wpAnyS_take (i := 1) (fun w' => w'.cell? ⟨w.heap.size, 0, none⟩ = some (.pointer (some ⟨g, 0, none⟩)) ∧ w'.cell? ⟨g, 4, none⟩ = some (.int .i64 0) ∧ w'.cell? ⟨w.heap.size + 2, 0, none⟩ = some (.int .i64 pc.kind) ∧ w'.cell? ⟨w.heap.size + 2, 1, none⟩ = some (.string (mkS pc.name)) ∧ w'.cell? ⟨w.heap.size + 2, 2, none⟩ = some (.slice A pc.attrs.length c) ∧ w'.cell? ⟨w.heap.size + 2, 3, none⟩ = some (.string (mkS pc.text))) (v := .pointer (some ⟨g, 0, none⟩)) rfl (by kernel_rfl) (by kernel_rfl) (by kernel_rfl) (fun _ _ _ h => h) (fun l w hw hS => hS) (fun _ _ => Iff.rfl) (by kernel_rfl) hS (fun w' hSw => ?_) (by kernel_rfl) (fun hS => ?_)
    · obtain ⟨s1, s2, s3, s4, s5, s6⟩ := hSw
      go_simp
    try simp only [List.getElem_toArray, List.getElem_cons_zero, List.getElem_cons_succ, Act.put, List.setIfInBounds_toArray, List.set_cons_zero, List.set_cons_succ]
    refine wpAnyS_take (i := 2) (fun w' => w'.cell? ⟨w.heap.size, 0, none⟩ = some (.pointer (some ⟨g, 0, none⟩)) ∧ w'.cell? ⟨g, 4, none⟩ = some (.int .i64 0) ∧ w'.cell? ⟨w.heap.size + 2, 0, none⟩ = some (.int .i64 pc.kind) ∧ w'.cell? ⟨w.heap.size + 2, 1, none⟩ = some (.string (mkS pc.name)) ∧ w'.cell? ⟨w.heap.size + 2, 2, none⟩ = some (.slice A pc.attrs.length c) ∧ w'.cell? ⟨w.heap.size + 2, 3, none⟩ = some (.string (mkS pc.text))) (v := .pointer (some ⟨g, 0, none⟩)) rfl (by kernel_rfl) (by kernel_rfl) (by kernel_rfl) (fun _ _ _ h => h) (fun l w hw hS => hS) (fun _ _ => Iff.rfl) (by kernel_rfl) hS (fun w' hSw => ?_) (by kernel_rfl) (fun hS => ?_)
    · obtain ⟨s1, s2, s3, s4, s5, s6⟩ := hSw
      go_simp
    try simp only [List.getElem_toArray, List.getElem_cons_zero, List.getElem_cons_succ, Act.put, List.setIfInBounds_toArray, List.set_cons_zero, List.set_cons_succ]
    refine wpAnyS_take (i := 3) (fun w' => w'.cell? ⟨w.heap.size, 0, none⟩ = some (.pointer (some ⟨g, 0, none⟩)) ∧ w'.cell? ⟨g, 4, none⟩ = some (.int .i64 0) ∧ w'.cell? ⟨w.heap.size + 2, 0, none⟩ = some (.int .i64 pc.kind) ∧ w'.cell? ⟨w.heap.size + 2, 1, none⟩ = some (.string (mkS pc.name)) ∧ w'.cell? ⟨w.heap.size + 2, 2, none⟩ = some (.slice A pc.attrs.length c) ∧ w'.cell? ⟨w.heap.size + 2, 3, none⟩ = some (.string (mkS pc.text))) (v := .pointer (some ⟨g, 4, none⟩)) rfl (by kernel_rfl) (by kernel_rfl) (by kernel_rfl) (fun _ _ _ h => h) (fun l w hw hS => hS) (fun _ _ => Iff.rfl) (by kernel_rfl) hS (fun w' hSw => ?_) (by kernel_rfl) (fun hS => ?_)
    · obtain ⟨s1, s2, s3, s4, s5, s6⟩ := hSw
      go_simp
    try simp only [List.getElem_toArray, List.getElem_cons_zero, List.getElem_cons_succ, Act.put, List.setIfInBounds_toArray, List.set_cons_zero, List.set_cons_succ]
    refine wpAnyS_take (i := 4) (fun w' => w'.cell? ⟨w.heap.size, 0, none⟩ = some (.pointer (some ⟨g, 0, none⟩)) ∧ w'.cell? ⟨g, 4, none⟩ = some (.int .i64 0) ∧ w'.cell? ⟨w.heap.size + 2, 0, none⟩ = some (.int .i64 pc.kind) ∧ w'.cell? ⟨w.heap.size + 2, 1, none⟩ = some (.string (mkS pc.name)) ∧ w'.cell? ⟨w.heap.size + 2, 2, none⟩ = some (.slice A pc.attrs.length c) ∧ w'.cell? ⟨w.heap.size + 2, 3, none⟩ = some (.string (mkS pc.text))) (v := .int .i64 0) rfl (by kernel_rfl) (by kernel_rfl) (by kernel_rfl) (fun _ _ _ h => h) (fun l w hw hS => hS) (fun _ _ => Iff.rfl) (by kernel_rfl) hS (fun w' hSw => ?_) (by kernel_rfl) (fun hS => ?_)
    · obtain ⟨s1, s2, s3, s4, s5, s6⟩ := hSw
      go_simp
    try simp only [List.getElem_toArray, List.getElem_cons_zero, List.getElem_cons_succ, Act.put, List.setIfInBounds_toArray, List.set_cons_zero, List.set_cons_succ]
    refine wpAnyS_one (i := 5) (by kernel_rfl) rfl (fun K7 hK7 => ?_)
    go_simp
    unfold put4 at HM HF HB2
    refine hK7.out _ _ HM.out (fun hS => ?_)
    clear hK7 K7
    try simp only [List.getElem_toArray, List.getElem_cons_zero, List.getElem_cons_succ, Act.put, List.setIfInBounds_toArray, List.set_cons_zero, List.set_cons_succ]
    refine wpAnyS_one (i := 6) (by kernel_rfl) rfl (fun K7 hK7 => ?_)
    go_simp
    refine hK7.out _ _ HM.out (fun hS => ?_)
    clear hK7 K7
    try simp only [List.getElem_toArray, List.getElem_cons_zero, List.getElem_cons_succ, Act.put, List.setIfInBounds_toArray, List.set_cons_zero, List.set_cons_succ]
    refine wpAnyS_done (by kernel_rfl) ?_ _
    clear hS l1 l5 l20 l21 l22 l23 l30 l31 l32 l33 f20 f21 f22 f23
    go_wp2_with fail
    refine bodyPost_ret (v := .tuple #[.agg #[.int .i64 pc.kind, .string (mkS pc.name), .slice A pc.attrs.length c, .string (mkS pc.text)], .int .i64 0]) ?_ rfl HF.out
    refine (results_ct (t := 2) (u := 3) rfl _ (ad := ⟨w.heap.size + 1, 0, none⟩) rfl (pc_load HB2.out.drew)).trans ?_
    rfl
  · have HE : Hid (res = .error n) := HRES.out.trans hr
    clear ht1 ht2 hf hb hx hr CC K41
    have e1 : w4.cell? ⟨w.heap.size, 0, none⟩ = some (.pointer (some ⟨g, 0, none⟩)) := J1.cell 0
    refine hK7.out _ _ e1 (fun hS => ?_)
    clear hK7 K7
    try simp only [List.getElem_toArray, List.getElem_cons_zero, List.getElem_cons_succ, Act.put, List.setIfInBounds_toArray, List.set_cons_zero, List.set_cons_succ]
    refine wpAnyS_one (i := 3) (by kernel_rfl) rfl (fun K7 hK7 => ?_)
    go_simp
    refine hK7.out _ _ e1 (fun hS => ?_)
    clear hK7 K7
    try simp only [List.getElem_toArray, List.getElem_cons_zero, List.getElem_cons_succ, Act.put, List.setIfInBounds_toArray, List.set_cons_zero, List.set_cons_succ]
    refine wpAnyS_one (i := 4) (by kernel_rfl) rfl (fun K7 hK7 => ?_)
    go_simp
    refine hK7.out _ _ e1 (fun hS => ?_)
    clear hK7 K7
    try simp only [List.getElem_toArray, List.getElem_cons_zero, List.getElem_cons_succ, Act.put, List.setIfInBounds_toArray, List.set_cons_zero, List.set_cons_succ]
    have f4 := Blk.free X4.blk 4
    have e4 : w4.cell? ⟨g, 4, none⟩ = some (.int .i64 0) := Blk.cell X4.blk 4
    have L1 := J1.far (p := ⟨g, 4, none⟩) (fun e => hn1 e) (.int .i64 n)
    have L2 := J2.far (p := ⟨g, 4, none⟩) (fun e => hn2 e) (.int .i64 n)
    have L3 := J3.far (p := ⟨g, 4, none⟩) (fun e => hn3 e) (.int .i64 n)
    have X5 := X4.set4 n
    have TG : Turned [g] w4 (w4.setCell ⟨g, 4, none⟩ (.int .i64 n)) := (Turned.refl [g] w4).setCell (p := ⟨g, 4, none⟩) (.inl (by simp)) (.int .i64 n)
    have T5 := T4.setCell (p := ⟨g, 4, none⟩) (.inl (g_mem g vo)) (.int .i64 n)
    generalize hW5 : w4.setCell ⟨g, 4, none⟩ (.int .i64 n) = w5 at *
    have l1 : w5.cell? ⟨w.heap.size, 0, none⟩ = some (.pointer (some ⟨g, 0, none⟩)) := L1.cell 0
    refine wpAnyS_one (i := 5) (by kernel_rfl) rfl (fun K7 hK7 => ?_)
    go_simp
    try rw [hW5]
    refine hK7.out _ _ l1 (fun hS => ?_)
    clear hK7 K7
    try simp only [List.getElem_toArray, List.getElem_cons_zero, List.getElem_cons_succ, Act.put, List.setIfInBounds_toArray, List.set_cons_zero, List.set_cons_succ]
    refine wpAnyS_done (by kernel_rfl) ?_ _
    clear hS hW5 f4 e4 e1 T4 X4 J1 J2 J3 TG
    have l30 : w5.cell? ⟨w.heap.size + 2, 0, none⟩ = some (.int .i64 0) := L3.cell 0
    have l31 : w5.cell? ⟨w.heap.size + 2, 1, none⟩ = some (.string ⟨#[]⟩) := L3.cell 1
    have l32 : w5.cell? ⟨w.heap.size + 2, 2, none⟩ = some (.slice none 0 0) := L3.cell 2
    have l33 : w5.cell? ⟨w.heap.size + 2, 3, none⟩ = some (.string ⟨#[]⟩) := L3.cell 3
    have l5 : w5.cell? ⟨g, 4, none⟩ = some (.int .i64 n) := Blk.cell X5.blk 4
    have l20 := L2.cell 0
    have l21 := L2.cell 1
    have l22 := L2.cell 2
    have l23 := L2.cell 3
    have f20 := L2.free 0
    have f21 := L2.free 1
    have f22 := L2.free 2
    have f23 := L2.free 3
    unfold zeroP at l20 l21 l22 l23
    simp at l20 l21 l22 l23
    have HB2 := Lib.hid (put4_blk (a := .int .i64 0) (b := .string ⟨#[]⟩) (c := .slice none 0 0) (d := .string ⟨#[]⟩) L2)
    have HT2 : Turned [w.heap.size + 1] w5 (put4 w5 (w.heap.size + 1) (.int .i64 0) (.string ⟨#[]⟩) (.slice none 0 0) (.string ⟨#[]⟩)) := put4_turned
    have X6 := X5.turned HT2 (fun k hk hm => by simp at hk; subst hk; exact X5.not_kind hm (by decide) (by decide) L2)
    have T6 := T5.new_ HT2 (by omega)
    have m1 : (put4 w5 (w.heap.size + 1) (.int .i64 0) (.string ⟨#[]⟩) (.slice none 0 0) (.string ⟨#[]⟩)).cell? ⟨w.heap.size, 0, none⟩ = some (.pointer (some ⟨g, 0, none⟩)) := (L1.turned HT2 (by simp)).cell 0
    have m3 := L3.turned HT2 (by simp)
    have m30 : (put4 w5 (w.heap.size + 1) (.int .i64 0) (.string ⟨#[]⟩) (.slice none 0 0) (.string ⟨#[]⟩)).cell? ⟨w.heap.size + 2, 0, none⟩ = some (.int .i64 0) := m3.cell 0
    have m31 : (put4 w5 (w.heap.size + 1) (.int .i64 0) (.string ⟨#[]⟩) (.slice none 0 0) (.string ⟨#[]⟩)).cell? ⟨w.heap.size + 2, 1, none⟩ = some (.string ⟨#[]⟩) := m3.cell 1
    have m32 : (put4 w5 (w.heap.size + 1) (.int .i64 0) (.string ⟨#[]⟩) (.slice none 0 0) (.string ⟨#[]⟩)).cell? ⟨w.heap.size + 2, 2, none⟩ = some (.slice none 0 0) := m3.cell 2
    have m33 : (put4 w5 (w.heap.size + 1) (.int .i64 0) (.string ⟨#[]⟩) (.slice none 0 0) (.string ⟨#[]⟩)).cell? ⟨w.heap.size + 2, 3, none⟩ = some (.string ⟨#[]⟩) := m3.cell 3
    have m5 : (put4 w5 (w.heap.size + 1) (.int .i64 0) (.string ⟨#[]⟩) (.slice none 0 0) (.string ⟨#[]⟩)).cell? ⟨g, 4, none⟩ = some (.int .i64 n) := Blk.cell X6.blk 4
    have HM := Lib.hid (And.intro m1 (And.intro m5 (And.intro m30 (And.intro m31 (And.intro m32 m33)))))
    have HF : Hid (NextPost w base g vo res (.returned (.tuple #[.agg #[.int .i64 0, .string ⟨#[]⟩, .slice none 0 0, .string ⟨#[]⟩], .int .i64 n])) ((put4 w5 (w.heap.size + 1) (.int .i64 0) (.string ⟨#[]⟩) (.slice none 0 0) (.string ⟨#[]⟩)).drew)) := ⟨T6.drew, vo', s', HFR.out, .inr ⟨n, HE.out, rfl, X6.drew⟩⟩
    clear m1 m3 m30 m31 m32 m33 m5 HT2 X6 T6 X5 T5 L1 L2 L3 c1
    go_upto_region 6 with fail
    refine wp_region_S (fun _ w' => w'.cell? ⟨w.heap.size, 0, none⟩ = some (.pointer (some ⟨g, 0, none⟩)) ∧ w'.cell? ⟨g, 4, none⟩ = some (.int .i64 n) ∧ w'.cell? ⟨w.heap.size + 2, 0, none⟩ = some (.int .i64 0) ∧ w'.cell? ⟨w.heap.size + 2, 1, none⟩ = some (.string ⟨#[]⟩) ∧ w'.cell? ⟨w.heap.size + 2, 2, none⟩ = some (.slice none 0 0) ∧ w'.cell? ⟨w.heap.size + 2, 3, none⟩ = some (.string ⟨#[]⟩)) (by kernel_rfl) ⟨l1, l5, l30, l31, l32, l33⟩ (fun hS => ?_)
    refine wpAnyS_take (i := 0) (fun w' => w'.cell? ⟨w.heap.size, 0, none⟩ = some (.pointer (some ⟨g, 0, none⟩)) ∧ w'.cell? ⟨g, 4, none⟩ = some (.int .i64 n) ∧ w'.cell? ⟨w.heap.size + 2, 0, none⟩ = some (.int .i64 0) ∧ w'.cell? ⟨w.heap.size + 2, 1, none⟩ = some (.string ⟨#[]⟩) ∧ w'.cell? ⟨w.heap.size + 2, 2, none⟩ = some (.slice none 0 0) ∧ w'.cell? ⟨w.heap.size + 2, 3, none⟩ = some (.string ⟨#[]⟩)) (v := .agg #[.int .i64 0, .string ⟨#[]⟩, .slice none 0 0, .string ⟨#[]⟩]) rfl (by kernel_rfl) (by kernel_rfl) (by kernel_rfl) (fun _ _ _ h => h) (fun l w hw hS => hS) (fun _ _ => Iff.rfl) (by kernel_rfl) hS (fun w' hSw => ?_) (by kernel_rfl) (fun hS => ?_)
    · obtain ⟨s1, s2, s3, s4, s5, s6⟩ := hSw
      go_simp
    try simp only [List.getElem_toArray, List.getElem_cons_zero, List.getElem_cons_succ, Act.put, List.setIfInBounds_toArray, List.set_cons_zero, List.set_cons_succ]
    refine wpAnyS_take (i := 1) (fun w' => w'.cell? ⟨w.heap.size, 0, none⟩ = some (.pointer (some ⟨g, 0, none⟩)) ∧ w'.cell? ⟨g, 4, none⟩ = some (.int .i64 n) ∧ w'.cell? ⟨w.heap.size + 2, 0, none⟩ = some (.int .i64 0) ∧ w'.cell? ⟨w.heap.size + 2, 1, none⟩ = some (.string ⟨#[]⟩) ∧ w'.cell? ⟨w.heap.size + 2, 2, none⟩ = some (.slice none 0 0) ∧ w'.cell? ⟨w.heap.size + 2, 3, none⟩ = some (.string ⟨#[]⟩)) (v := .pointer (some ⟨g, 0, none⟩)) rfl (by kernel_rfl) (by kernel_rfl) (by kernel_rfl) (fun _ _ _ h => h) (fun l w hw hS => hS) (fun _ _ => Iff.rfl) (by kernel_rfl) hS (fun w' hSw => ?_) (by kernel_rfl) (fun hS => ?_)
    · obtain ⟨s1, s2, s3, s4, s5, s6⟩ := hSw
      go_simp
    try simp only [List.getElem_toArray, List.getElem_cons_zero, List.getElem_cons_succ, Act.put, List.setIfInBounds_toArray, List.set_cons_zero, List.set_cons_succ]
    refine wpAnyS_take (i := 2) (fun w' => w'.cell? ⟨w.heap.size, 0, none⟩ = some (.pointer (some ⟨g, 0, none⟩)) ∧ w'.cell? ⟨g, 4, none⟩ = some (.int .i64 n) ∧ w'.cell? ⟨w.heap.size + 2, 0, none⟩ = some (.int .i64 0) ∧ w'.cell? ⟨w.heap.size + 2, 1, none⟩ = some (.string ⟨#[]⟩) ∧ w'.cell? ⟨w.heap.size + 2, 2, none⟩ = some (.slice none 0 0) ∧ w'.cell? ⟨w.heap.size + 2, 3, none⟩ = some (.string ⟨#[]⟩)) (v := .pointer (some ⟨g, 0, none⟩)) rfl (by kernel_rfl) (by kernel_rfl) (by kernel_rfl) (fun _ _ _ h => h) (fun l w hw hS => hS) (fun _ _ => Iff.rfl) (by kernel_rfl) hS (fun w' hSw => ?_) (by kernel_rfl) (fun hS => ?_)
    · obtain ⟨s1, s2, s3, s4, s5, s6⟩ := hSw
      go_simp
    try simp only [List.getElem_toArray, List.getElem_cons_zero, List.getElem_cons_succ, Act.put, List.setIfInBounds_toArray, List.set_cons_zero, List.set_cons_succ]
    refine wpAnyS_take (i := 3) (fun w' => w'.cell? ⟨w.heap.size, 0, none⟩ = some (.pointer (some ⟨g, 0, none⟩)) ∧ w'.cell? ⟨g, 4, none⟩ = some (.int .i64 n) ∧ w'.cell? ⟨w.heap.size + 2, 0, none⟩ = some (.int .i64 0) ∧ w'.cell? ⟨w.heap.size + 2, 1, none⟩ = some (.string ⟨#[]⟩) ∧ w'.cell? ⟨w.heap.size + 2, 2, none⟩ = some (.slice none 0 0) ∧ w'.cell? ⟨w.heap.size + 2, 3, none⟩ = some (.string ⟨#[]⟩)) (v := .pointer (some ⟨g, 4, none⟩)) rfl (by kernel_rfl) (by kernel_rfl) (by kernel_rfl) (fun _ _ _ h => h) (fun l w hw hS => hS) (fun _ _ => Iff.rfl) (by kernel_rfl) hS (fun w' hSw => ?_) (by kernel_rfl) (fun hS => ?_)
    · obtain ⟨s1, s2, s3, s4, s5, s6⟩ := hSw
      go_simp
    try simp only [List.getElem_toArray, List.getElem_cons_zero, List.getElem_cons_succ, Act.put, List.setIfInBounds_toArray, List.set_cons_zero, List.set_cons_succ]
    refine wpAnyS_take (i := 4) (fun w' => w'.cell? ⟨w.heap.size, 0, none⟩ = some (.pointer (some ⟨g, 0, none⟩)) ∧ w'.cell? ⟨g, 4, none⟩ = some (.int .i64 n) ∧ w'.cell? ⟨w.heap.size + 2, 0, none⟩ = some (.int .i64 0) ∧ w'.cell? ⟨w.heap.size + 2, 1, none⟩ = some (.string ⟨#[]⟩) ∧ w'.cell? ⟨w.heap.size + 2, 2, none⟩ = some (.slice none 0 0) ∧ w'.cell? ⟨w.heap.size + 2, 3, none⟩ = some (.string ⟨#[]⟩)) (v := .int .i64 n) rfl (by kernel_rfl) (by kernel_rfl) (by kernel_rfl) (fun _ _ _ h => h) (fun l w hw hS => hS) (fun _ _ => Iff.rfl) (by kernel_rfl) hS (fun w' hSw => ?_) (by kernel_rfl) (fun hS => ?_)
    · obtain ⟨s1, s2, s3, s4, s5, s6⟩ := hSw
      go_simp
    try simp only [List.getElem_toArray, List.getElem_cons_zero, List.getElem_cons_succ, Act.put, List.setIfInBounds_toArray, List.set_cons_zero, List.set_cons_succ]
    refine wpAnyS_one (i := 5) (by kernel_rfl) rfl (fun K7 hK7 => ?_)
    go_simp
    unfold put4 at HM HF HB2
    refine hK7.out _ _ HM.out (fun hS => ?_)
    clear hK7 K7
    try simp only [List.getElem_toArray, List.getElem_cons_zero, List.getElem_cons_succ, Act.put, List.setIfInBounds_toArray, List.set_cons_zero, List.set_cons_succ]
    refine wpAnyS_one (i := 6) (by kernel_rfl) rfl (fun K7 hK7 => ?_)
    go_simp
    refine hK7.out _ _ HM.out (fun hS => ?_)
    clear hK7 K7
    try simp only [List.getElem_toArray, List.getElem_cons_zero, List.getElem_cons_succ, Act.put, List.setIfInBounds_toArray, List.set_cons_zero, List.set_cons_succ]
    refine wpAnyS_done (by kernel_rfl) ?_ _
    clear hS l1 l5 l20 l21 l22 l23 l30 l31 l32 l33 f20 f21 f22 f23
    go_wp2_with fail
    refine bodyPost_ret (v := .tuple #[.agg #[.int .i64 0, .string ⟨#[]⟩, .slice none 0 0, .string ⟨#[]⟩], .int .i64 n]) ?_ rfl HF.out
    refine (results_ct (t := 2) (u := 3) rfl _ (ad := ⟨w.heap.size + 1, 0, none⟩) rfl (pc_load HB2.out.drew)).trans ?_
    rfl
end
end Go.Proofs.YtljldbdjkjllhaaGreatDoor

/- All that is told, as a function; what is left falls. -/
namespace Go.Proofs.YtljldbdjkjllhaaGreatDoor
set_option linter.unusedSimpArgs false
set_option linter.unusedVariables false
open Go.RowKit

def muX (s : XS) : Nat := 2 * s.rest.length + (if s.short = true then 1 else 0)
def allN : Nat → XS → List Pc × Int
  | 0, _ => ([], 0)
  | k + 1, s => match nextR s with
    | .error e => ([], e)
    | .ok x => if x.1.kind = 4 then ([], 0) else (x.1 :: (allN k x.2).1, (allN k x.2).2)
theorem allN_err {k : Nat} {s : XS} {e : Int} (h : nextR s = .error e) : allN (k + 1) s = ([], e) := by rw [allN, h]
theorem allN_done {k : Nat} {s : XS} {x : Pc × XS} (h : nextR s = .ok x) (h4 : x.1.kind = 4) : allN (k + 1) s = ([], 0) := by rw [allN, h]; show (if _ then _ else _) = _; rw [if_pos h4]
theorem allN_more {k : Nat} {s : XS} {x : Pc × XS} (h : nextR s = .ok x) (h4 : x.1.kind ≠ 4) : allN (k + 1) s = (x.1 :: (allN k x.2).1, (allN k x.2).2) := by rw [allN, h]; show (if _ then _ else _) = _; rw [if_neg h4]
theorem runR_more : ∀ (k : Nat) {out l : Bs} {x : Bs × Bs}, runR k out l = .ok x → x.1 = out ∨ x.2.length < l.length
  | 0, _, _, _, h => by cases h
  | k + 1, out, l, x, h => by
    unfold runR at h
    obtain ⟨y, hy, h⟩ := bind_ok h
    have h0 : y.1.length + y.2.length = l.length := takeR_both hy
    split at h
    · rename_i hp
      obtain ⟨z, hz, h⟩ := bind_ok h
      have h1 := entityR_len hz; have h2 := trim_lt hp (by decide); have h3 := runR_len k h
      exact .inr (by omega)
    · split at h
      · rename_i hp
        obtain ⟨z, hz, h⟩ := bind_ok h
        have h1 := upToR_len hz; have h2 := trim_lt hp (by decide); have h3 := runR_len k h
        exact .inr (by omega)
      · split at h
        · rename_i hp
          obtain ⟨z, hz, h⟩ := bind_ok h
          obtain ⟨u, hu, h⟩ := bind_ok h
          have h1 := upToR_len hz; have h2 := trim_lt hp (by decide); have h3 := (wantR_len hu).1; have h4 := runR_len k h
          exact .inr (by omega)
        · split at h
          · rename_i hp
            obtain ⟨z, hz, h⟩ := bind_ok h
            obtain ⟨u, hu, h⟩ := bind_ok h
            have h1 := upToR_len hu; have h2 := trim_lt hp (by decide); have h3 := nameR_len hz; have h4 := runR_len k h
            exact .inr (by omega)
          · split at h
            · cases h
            · injection h with h; subst h
              rcases Nat.eq_zero_or_pos y.1.length with h1 | h1
              · exact .inl (by rw [List.eq_nil_of_length_eq_zero h1]; simp)
              · exact .inr (by show y.2.length < _; omega)
theorem attrsR_len : ∀ (k : Nat) {al : Al} {l : Bs} {x : (Al × Bool) × Bs}, attrsR k al l = .ok x → x.2.length < l.length
  | 0, _, _, _, h => by cases h
  | k + 1, al, l, x, h => by
    unfold attrsR at h
    obtain ⟨y, hy, h⟩ := bind_ok h
    have h0 := layoutR_len hy
    split at h
    · rename_i hp; injection h with h; subst h; have := trim_lt hp (by decide); show (Lib.trimPrefix _ _).length < _; omega
    · split at h
      · rename_i hp; injection h with h; subst h; have := trim_lt hp (by decide); show (Lib.trimPrefix _ _).length < _; omega
      · split at h
        · obtain ⟨z, hz, h⟩ := bind_ok h
          have h1 := attrR_len hz; have h2 := attrsR_len k h; omega
        · cases h
theorem startR_mu {s s' : XS} {pc : Pc} (h : startR s = .ok (pc, s')) : s'.rest.length + 1 < s.rest.length ∧ s'.opn.length ≤ 16 ∧ 0 < s'.opn.length ∧ pc.kind = 1 := by
  unfold startR at h
  obtain ⟨n, hn, h⟩ := bind_ok h
  have h0 := nameR_len hn
  split at h
  · rename_i h16
    split at h
    · obtain ⟨a, ha, h⟩ := map_ok h
      have h1 := attrsR_len _ ha
      injection h with h2 h3
      subst h2; subst h3
      refine ⟨by show a.2.length + 1 < _; omega, by show (s.opn ++ [n.1]).length ≤ 16; simp; omega, by show 0 < (s.opn ++ [n.1]).length; simp, rfl⟩
    · cases h
  · cases h
theorem leaveR_mu (s : XS) : (leaveR s).2.rest = s.rest ∧ (leaveR s).2.short = s.short ∧ (leaveR s).2.opn.length ≤ s.opn.length ∧ (leaveR s).1.kind = 2 := by
  refine ⟨rfl, rfl, ?_, rfl⟩
  show s.opn.dropLast.length ≤ _
  simp
theorem endR_mu {s s' : XS} {pc : Pc} (h : endR s = .ok (pc, s')) : s'.rest.length ≤ s.rest.length ∧ s'.opn.length ≤ s.opn.length ∧ s'.short = s.short ∧ pc.kind = 2 := by
  rw [endR_eq] at h
  obtain ⟨n, hn, h⟩ := bind_ok h
  obtain ⟨a, ha, h⟩ := bind_ok h
  obtain ⟨b, hb, h⟩ := bind_ok h
  have h0 := nameR_len hn; have h1 := layoutR_len ha; have h2 := (wantR_len hb).1
  unfold endRest at h
  split at h
  · injection h with h
    have hm := leaveR_mu { s with rest := b.2 }
    rw [h] at hm
    exact ⟨by rw [hm.1]; show b.2.length ≤ _; omega, hm.2.2.1, hm.2.1, hm.2.2.2⟩
  · cases h
theorem mu_eq (s : XS) : muX s = 2 * s.rest.length + (if s.short = true then 1 else 0) := rfl
theorem nextT_mu {s s' : XS} {x : Bs × Bs} {pc : Pc} (hx : x.2.length ≤ s.rest.length) (hs : s.short = false) (ho : s.opn.length ≤ 16) (h : nextT s x = .ok (pc, s')) : 2 * s'.rest.length + 1 < 2 * s.rest.length ∧ s'.opn.length ≤ 16 ∧ (s'.short = true → 0 < s'.opn.length) ∧ pc.kind ≠ 4 := by
  unfold nextT at h
  split at h
  · rename_i hp
    have h1 := endR_mu h
    have h2 := trim_lt hp (by decide)
    have h3 : s'.rest.length ≤ (Lib.trimPrefix x.2 [60, 47]).length := h1.1
    have h4 : s'.opn.length ≤ s.opn.length := h1.2.1
    have h5 : s'.short = s.short := h1.2.2.1
    refine ⟨by omega, by omega, fun h => ?_, by rw [h1.2.2.2]; decide⟩
    rw [h5, hs] at h; cases h
  · obtain ⟨y, hy, h⟩ := bind_ok h
    have h1 := startR_mu h
    have h2 := (wantR_len hy).1
    have h3 : s'.rest.length + 1 < y.2.length := h1.1
    exact ⟨by omega, h1.2.1, fun _ => h1.2.2.1, by rw [h1.2.2.2]; decide⟩
theorem nextR_mu {s s' : XS} {pc : Pc} (ho : XOk s) (h : nextR s = .ok (pc, s')) : XOk s' ∧ (pc.kind ≠ 4 → muX s' < muX s) := by
  have hr := ho.rest
  cases hs : s.short with
  | true =>
    rw [nextR_short hs] at h
    injection h with h
    have hm := leaveR_mu { s with short := false }
    rw [h] at hm
    have h1 : s'.rest = s.rest := hm.1
    have h2 : s'.short = false := hm.2.1
    have h3 : s'.opn.length ≤ s.opn.length := hm.2.2.1
    have := ho.opn
    refine ⟨⟨by rw [h1]; exact hr, by omega, fun h => by rw [h2] at h; cases h⟩, fun _ => ?_⟩
    rw [mu_eq, mu_eq, h1, h2, hs]; simp
  | false =>
    rw [nextR_eq hs] at h
    obtain ⟨x, hx, h⟩ := bind_ok h
    have h0 := runR_len _ hx
    have hm := runR_more _ hx
    have hT : ∀ (h : nextT s x = .ok (pc, s')), XOk s' ∧ (pc.kind ≠ 4 → muX s' < muX s) := fun h => by
      have h1 := nextT_mu h0 hs ho.opn h
      refine ⟨⟨by omega, h1.2.1, h1.2.2.1⟩, fun _ => ?_⟩
      rw [mu_eq, mu_eq, hs]
      have := h1.1
      split <;> simp <;> omega
    split at h
    · split at h
      · rename_i hne
        injection h with h
        injection h with h1 h2
        subst h1; subst h2
        refine ⟨⟨by show x.2.length ≤ _; omega, ho.opn, fun h => by rw [show ({ s with rest := x.2 } : XS).short = s.short from rfl, hs] at h; cases h⟩, fun _ => ?_⟩
        have := hm.resolve_left hne
        rw [mu_eq, mu_eq]
        show 2 * x.2.length + (if s.short = true then 1 else 0) < _
        rw [hs]; simp; exact this
      · split at h
        · cases h
        · exact hT h
    · split at h
      · split at h
        · split at h
          · injection h with h
            injection h with h1 h2
            subst h1; subst h2
            refine ⟨⟨Nat.zero_le _, ho.opn, fun h => by rw [show ({ s with rest := ([] : Bs) } : XS).short = s.short from rfl, hs] at h; cases h⟩, fun h => absurd rfl h⟩
          · cases h
        · exact hT h
      · cases h
/-! No error is 0. -/
def NZ {α : Type} (x : Except Int α) : Prop := ∀ e, x = .error e → e ≠ 0
theorem NZ.bind {α β : Type} {x : Except Int α} {f : α → Except Int β} (h : NZ x) (hf : ∀ a, NZ (f a)) : NZ (x.bind f) := fun e he => by
  cases x with
  | error k =>
    have he : (Except.error k : Except Int β) = .error e := he
    injection he with he; subst he; exact h _ rfl
  | ok a => exact hf a e he
theorem NZ.map {α β : Type} {x : Except Int α} {f : α → β} (h : NZ x) : NZ (x.map f) := fun e he => by
  cases x with
  | error k =>
    have he : (Except.error k : Except Int β) = .error e := he
    injection he with he; subst he; exact h _ rfl
  | ok a =>
    have he : (Except.ok (f a) : Except Int β) = .error e := he
    cases he
theorem NZ.ok {α : Type} {a : α} : NZ (.ok a : Except Int α) := fun e he => by cases he
theorem NZ.err {α : Type} {k : Int} (h : k ≠ 0) : NZ (.error k : Except Int α) := fun e he => by injection he with he; subst he; exact h
theorem NZ.ite {α : Type} {p : Prop} [Decidable p] {x y : Except Int α} (hx : NZ x) (hy : NZ y) : NZ (if p then x else y) := by split <;> assumption
theorem nz_take (n : Nat) (l : Bs) : NZ (takeR n l) := by unfold takeR; exact NZ.ite NZ.ok (NZ.err (by decide))
theorem nz_want (p l : Bs) : NZ (wantR p l) := by unfold wantR; exact NZ.ite NZ.ok (NZ.err (by decide))
theorem nz_upTo (p l : Bs) : NZ (upToR p l) := by unfold upToR; exact NZ.ite ((nz_take _ _).bind fun _ => (nz_want _ _).map) (NZ.err (by decide))
theorem nz_layout (l : Bs) : NZ (layoutR l) := by unfold layoutR; exact (nz_take _ _).map
theorem nz_name (l : Bs) : NZ (nameR l) := by unfold nameR; exact NZ.ite (nz_take _ _) (NZ.err (by decide))
theorem nz_entity (l : Bs) : NZ (entityR l) := by
  rw [entityR_eq]
  refine NZ.ite ?_ (NZ.err (by decide))
  split
  · exact NZ.ok
  · exact NZ.err (by decide)
theorem nz_run : ∀ (k : Nat) (o l : Bs), NZ (runR k o l)
  | 0, _, _ => NZ.err (by decide)
  | k + 1, o, l => by
    unfold runR
    refine NZ.bind (nz_take _ _) fun x => NZ.ite (NZ.bind (nz_entity _) fun y => nz_run k _ _) (NZ.ite (NZ.bind (nz_upTo _ _) fun y => nz_run k _ _) (NZ.ite (NZ.bind (nz_upTo _ _) fun y => NZ.bind (nz_want _ _) fun z => nz_run k _ _) (NZ.ite (NZ.bind (nz_name _) fun y => NZ.bind (nz_upTo _ _) fun z => nz_run k _ _) (NZ.ite (NZ.err (by decide)) NZ.ok))))
theorem nz_value (q : Bs) : ∀ (k : Nat) (o l : Bs), NZ (valueR q k o l)
  | 0, _, _ => NZ.err (by decide)
  | k + 1, o, l => by
    unfold valueR
    exact NZ.bind (nz_take _ _) fun x => NZ.ite (NZ.bind (nz_entity _) fun y => nz_value q k _ _) (nz_want _ _).map
theorem nz_attr (o : Al) (l : Bs) : NZ (attrR o l) := by
  unfold attrR
  exact NZ.bind (nz_name _) fun n => NZ.ite (NZ.ite (NZ.err (by decide)) (NZ.bind (nz_layout _) fun a => NZ.bind (nz_want _ _) fun b => NZ.bind (nz_layout _) fun c => NZ.ite (NZ.map (nz_value _ _ _ _)) (NZ.bind (nz_want _ _) fun d => NZ.map (nz_value _ _ _ _)))) (NZ.err (by decide))
theorem nz_attrs : ∀ (k : Nat) (o : Al) (l : Bs), NZ (attrsR k o l)
  | 0, _, _ => NZ.err (by decide)
  | k + 1, o, l => by
    unfold attrsR
    exact NZ.bind (nz_layout _) fun a => NZ.ite NZ.ok (NZ.ite NZ.ok (NZ.ite (NZ.bind (nz_attr _ _) fun x => nz_attrs k _ _) (NZ.err (by decide))))
theorem nz_start (s : XS) : NZ (startR s) := by
  unfold startR
  exact NZ.bind (nz_name _) fun n => NZ.ite (NZ.ite (NZ.map (nz_attrs _ _ _)) (NZ.err (by decide))) (NZ.err (by decide))
theorem nz_end (s : XS) : NZ (endR s) := by
  unfold endR
  exact NZ.bind (nz_name _) fun n => NZ.bind (nz_layout _) fun a => NZ.bind (nz_want _ _) fun b => NZ.ite NZ.ok (NZ.err (by decide))
theorem nz_next (s : XS) : NZ (nextR s) := by
  unfold nextR
  exact NZ.ite NZ.ok (NZ.bind (nz_run _ _ _) fun x => NZ.ite (NZ.ite NZ.ok (NZ.ite (NZ.err (by decide)) (NZ.ite (nz_end _) (NZ.bind (nz_want _ _) fun y => nz_start _)))) (NZ.ite (NZ.ite (NZ.ite NZ.ok (NZ.err (by decide))) (NZ.ite (nz_end _) (NZ.bind (nz_want _ _) fun y => nz_start _))) (NZ.err (by decide))))
theorem nextR_err {s : XS} {e : Int} (h : nextR s = .error e) : e ≠ 0 := nz_next s e h
end Go.Proofs.YtljldbdjkjllhaaGreatDoor
