/- Whether two lists of pieces are the same: the reference's Same. What all laws begin with: awake. An attribute's value; a version that attributes tell. Maps of functions, known whole. What is done at the start of metadata. What puts an element's text to a package. What stands directly in a package: its functions. A version that attributes tell. What is done at the start of a package. An element of which the text counts: its start, its end, what puts it. The start of a version. -/
import Derived.Test.YtljldbdjkjllhaaGreatDoorZcj
import Derived.Deep.QuietTactic
import Derived.LaidLaws
import Derived.Test.YtljldbdjkjllhaaGreatDoorZaa
import Derived.Deep.LoopGhost
import Derived.MapKept
import Derived.Deep.RegionWith
/- Whether two lists of pieces are the same: the reference's Same. -/
namespace Go.Proofs.YtljldbdjkjllhaaGreatDoor
set_option linter.unusedSimpArgs false
set_option linter.unusedVariables false
open Go.RowKit

def AlR (w : World) (A : Option Addr) (al : Al) : Prop := ∀ j a, al[j]? = some a → ∃ b o, A = some ⟨b, o, none⟩ ∧ w.cell? ⟨b, o + j * 2, none⟩ = some (.string (mkS a.1)) ∧ w.cell? ⟨b, o + j * 2 + 1, none⟩ = some (.string (mkS a.2))
def PcsR (w : World) (A : Option Addr) (ps : List Pc) : Prop := ∀ k pc, ps[k]? = some pc → ∃ b o A' c', A = some ⟨b, o, none⟩ ∧ w.cell? ⟨b, o + k * 4, none⟩ = some (.int .i64 pc.kind) ∧ w.cell? ⟨b, o + k * 4 + 1, none⟩ = some (.string (mkS pc.name)) ∧ w.cell? ⟨b, o + k * 4 + 2, none⟩ = some (.slice A' pc.attrs.length c') ∧ w.cell? ⟨b, o + k * 4 + 3, none⟩ = some (.string (mkS pc.text)) ∧ pc.attrs.length ≤ c' ∧ c' ≤ maxLen ∧ AlR w A' pc.attrs
theorem AlK.rd {w : World} {A : Option Addr} {al : Al} (h : AlK w A al) : AlR w A al := fun j a hj => by
  have hl : 0 < al.length := by have := (List.getElem?_eq_some_iff.1 hj).1; omega
  obtain ⟨b, cs, rfl, hb, hp⟩ := h hl
  exact ⟨b, 0, rfl, hp j a hj⟩
theorem cell_below {w w' : World} (hb : Below w.heap.size w w') {a : Addr} {v : Value} (h : w.cell? a = some v) : w'.cell? a = some v := (World.cell?_of_block (hb.block a.block (cell_lt h))).trans h
theorem AlR.below {w w' : World} {A : Option Addr} {al : Al} (h : AlR w A al) (hb : Below w.heap.size w w') : AlR w' A al := fun j a hj => by
  obtain ⟨b, o, e, h1, h2⟩ := h j a hj
  exact ⟨b, o, e, cell_below hb h1, cell_below hb h2⟩
theorem PcsR.below {w w' : World} {A : Option Addr} {ps : List Pc} (h : PcsR w A ps) (hb : Below w.heap.size w w') : PcsR w' A ps := fun k pc hk => by
  obtain ⟨b, o, A', c', e, h1, h2, h3, h4, h5, h6, h7⟩ := h k pc hk
  exact ⟨b, o, A', c', e, cell_below hb h1, cell_below hb h2, cell_below hb h3, cell_below hb h4, h5, h6, h7.below hb⟩
end Go.Proofs.YtljldbdjkjllhaaGreatDoor

/- What all laws begin with: awake. -/
namespace Go.Proofs.YtljldbdjkjllhaaGreatDoor
set_option linter.unusedSimpArgs false
set_option linter.unusedVariables false
open Go.RowKit

theorem pcsR_of {w : World} {base n c : Nat} {A : Option Addr} {ps : List Pc} {cs : List Value} (h : w.ownsRow base 68 4 (.slice A n c) ps.length cs) (hp : PcL w ps cs) : PcsR w A ps := fun k pc hk => by
  obtain ⟨A', c', h0, h1, h2, h3, hl, hm, hA⟩ := hp.at_ hk
  obtain ⟨b, rfl, q0⟩ := own_ats h h0
  obtain ⟨b1, e1, q1⟩ := own_ats h h1
  obtain ⟨b2, e2, q2⟩ := own_ats h h2
  obtain ⟨b3, e3, q3⟩ := own_ats h h3
  injection e1 with e1; injection e1 with e1; subst e1
  injection e2 with e2; injection e2 with e2; subst e2
  injection e3 with e3; injection e3 with e3; subst e3
  refine ⟨b, 0, A', c', rfl, ?_, ?_, ?_, ?_, hl, hm, hA.rd⟩
  · rw [Nat.zero_add]; exact q0
  · rw [Nat.zero_add]; exact q1
  · rw [Nat.zero_add]; exact q2
  · rw [Nat.zero_add]; exact q3
theorem err_cell {w : World} {laid : List (String × DataW Unit)} (h : laidMet Tryz.prog laid w) (hm : ("strconv.ErrSyntax", (Rows.laid_strconv_ErrSyntax : DataW Unit)) ∈ laid) :
    ∃ ev, w.cell? ⟨12, 0, none⟩ = some ev ∧ (ev = .nilIface ∨ ∃ te pe, ev = .iface te pe) := by
  obtain ⟨ps, hv, _, hfz⟩ := h
  obtain ⟨g', t', cs, fuel, p, hg', hty', hvar, hd, hps⟩ := laidVars_mem laid ps hv _ _ hm
  have hg : Tryz.prog.globalNamed "strconv.ErrSyntax" = some 12 := by kernel_rfl
  have hty : (Tryz.prog.globals[12]?).map (·.type) = some 51 := by kernel_rfl
  obtain rfl := Option.some.inj (hg.symm.trans hg')
  obtain rfl := Option.some.inj (hty.symm.trans hty')
  unfold Rows.laid_strconv_ErrSyntax at hd
  obtain ⟨f', u, v, hcs, -, -⟩ := iface_of_trod Tryz.underlying51 hd
  have hsz : cs.size = 1 := by rw [← Array.length_toList, hcs]; rfl
  obtain ⟨⟨c, tc, hb⟩, _⟩ := hfz 12 0 (hps _ (by unfold MemPlace.row; simp; omega))
  have hc : c = cs := by
    unfold World.var? at hvar
    rw [hg] at hvar
    simp [hb] at hvar
    exact hvar
  have hcell := cell_of_row w 12 0 c tc (0, 0) hb
  have h0 : c[0]? = some (.iface u v) := by rw [hc, ← Array.getElem?_toList, hcs]; rfl
  exact ⟨.iface u v, hcell.trans h0, .inr ⟨u, v, rfl⟩⟩
theorem xenv_of {W : World} {laid : List (String × DataW Unit)} (hL : laidMet Tryz.prog laid W) (hm : ("chandler/xmlpull.entities", (Rows.laid_chandler_xmlpull_entities : DataW Unit)) ∈ laid) (hm2 : ("strconv.ErrSyntax", (Rows.laid_strconv_ErrSyntax : DataW Unit)) ∈ laid) (hS : W.ShapedOpen Tryz.prog) : XEnv W.heap.size W := by
  have h1 : ∃ m, W.cell? ⟨5, 0, none⟩ = some (.int .i64 m) := Go.Proofs.cell_of_shapedOpen_int (zero := #[.int .i64 0]) (t := 3) hS (of_decide_eq_true (by kernel_rfl)) (by kernel_rfl) rfl (by kernel_rfl) (by kernel_rfl) Tryz.underlying3
  have h2 := ents_blk hL hm
  have h3 := err_cell hL hm2
  refine ⟨h1, h2, h3, ⟨?_, ?_, ?_⟩, Nat.le_refl _⟩
  · obtain ⟨m, h1⟩ := h1; exact cell_lt h1
  · obtain ⟨t, h2⟩ := h2; exact Blk.lt h2
  · obtain ⟨ev, h3, _⟩ := h3; exact cell_lt h3
end Go.Proofs.YtljldbdjkjllhaaGreatDoor

/- An attribute's value; a version that attributes tell. -/
namespace Go.Proofs.YtljldbdjkjllhaaGreatDoor
set_option linter.unusedSimpArgs false
set_option linter.unusedVariables false
open Go.RowKit

def attrX (nm : Bs) : Al → Bs → Bs
  | [], v => v
  | a :: r, v => attrX nm r (if a.1 = nm then a.2 else v)
theorem attrX_snoc (nm : Bs) : ∀ (l : Al) (a : Bs × Bs) (v : Bs), attrX nm (l ++ [a]) v = if a.1 = nm then a.2 else attrX nm l v
  | [], a, v => rfl
  | b :: r, a, v => attrX_snoc nm r a _
theorem attrX_take {nm : Bs} {l : Al} {k : Nat} {a : Bs × Bs} (h : l[k]? = some a) (v : Bs) : attrX nm (l.take (k + 1)) v = if a.1 = nm then a.2 else attrX nm (l.take k) v := by
  rw [List.take_add_one, h]
  exact attrX_snoc nm _ a v
set_option maxHeartbeats 4000000 in
set_option maxRecDepth 100000 in
theorem attr_val (pc : Pc) (A : Option Addr) (c : Nat) (nm : Bs) (w : World) (hA : AlR w A pc.attrs) (hl : pc.attrs.length ≤ c) (hc : c ≤ maxLen) :
    Calls Tryz.prog 79 #[.agg #[.int .i64 pc.kind, .string (mkS pc.name), .slice A pc.attrs.length c, .string (mkS pc.text)], .string (mkS nm)] w fun e w' => e = .returned (.string (mkS (attrX nm pc.attrs []))) ∧ Below w.heap.size w w' := by
  unfold maxLen at hc
  have HA := Lib.hid hA
  have HB0 : Hid (Below w.heap.size w (w.alloc (.cells #[.int .i64 pc.kind, .string (mkS pc.name), .slice A pc.attrs.length c, .string (mkS pc.text)] 68))) := (Below.refl _ _).alloc (Nat.le_refl _) _
  have HV0 : Hid ((⟨#[]⟩ : ByteArray) = mkS (attrX nm (pc.attrs.take 0) [])) := rfl
  have HEQ : Hid (∀ e : Bs, e = nm → ((mkS e).toList == (mkS nm).toList) = true) := fun e h => str_yes' (by rw [h])
  have HNE : Hid (∀ e : Bs, ¬ e = nm → ((mkS e).toList == (mkS nm).toList) = false) := fun e h => str_ne (fun h2 => h (mkS_inj h2))
  clear hA
  generalize mkS nm = NM at *
  go_enter Tryz.func79, Tryz.ntmps79
  go_wp2_with fail
  obtain ⟨N, hN⟩ : ∃ N, N = pc.attrs.length := ⟨_, rfl⟩
  go_loopg [5, 7, 11] N (fun gk v5 v7 v11 wx => ∃ (wy : World) (k : Nat) (V : ByteArray), wy = wx ∧ k + gk = N ∧ v11 = .int .i64 (k : Int) ∧ v5 = .string V ∧ Hid (V = mkS (attrX nm (pc.attrs.take k) [])) ∧ Hid (Below w.heap.size w wy))
  case atStart => exact ⟨_, 0, _, rfl, by omega, rfl, rfl, HV0, HB0⟩
  case round =>
    obtain ⟨wy, k, V, rfl, hkg, rfl, rfl, HV, HB⟩ := hrel
    clear HB0 HV0
    by_cases hlt : k < pc.attrs.length
    · obtain ⟨a, ha⟩ : ∃ a, pc.attrs[k]? = some a := ⟨_, List.getElem?_eq_getElem hlt⟩
      obtain ⟨b, o, rfl, c0, c1⟩ := HA.out k a ha
      have q0 := cell_below HB.out c0
      have q1 := cell_below HB.out c1
      have hst := attrX_take (nm := nm) ha []
      have HB2 : Hid (Below w.heap.size w (wy.alloc (.cells #[.string (mkS a.1), .string (mkS a.2)] 172))) := HB.out.alloc HB.out.size _
      have hlt' : (k : Int) < (pc.attrs.length : Int) := by omega
      clear c0 c1 HB
      by_cases he : a.1 = nm
      · have t1 := HEQ.out a.1 he
        rw [if_pos he] at hst
        have HV2 : Hid (mkS a.2 = mkS (attrX nm (pc.attrs.take (k + 1)) [])) := by show _ = _; rw [hst]
        clear he hst ha HEQ HNE HV
        generalize pc.attrs.length = M at *
        go_wp2_with fail
        go_roundg (gk - 1)
        case measure => omega
        case rel => exact ⟨_, k + 1, _, rfl, by omega, rfl, rfl, HV2, HB2⟩
      · have t1 := HNE.out a.1 he
        rw [if_neg he] at hst
        have HV2 : Hid (V = mkS (attrX nm (pc.attrs.take (k + 1)) [])) := by show _ = _; rw [hst]; exact HV.out
        clear he hst ha HEQ HNE HV
        generalize pc.attrs.length = M at *
        go_wp2_with fail
        go_roundg (gk - 1)
        case measure => omega
        case rel => exact ⟨_, k + 1, _, rfl, by omega, rfl, rfl, HV2, HB2⟩
    · have hk : pc.attrs.take k = pc.attrs := List.take_of_length_le (by omega)
      have HV2 : Hid (V = mkS (attrX nm pc.attrs [])) := by show _ = _; rw [← hk]; exact HV.out
      have hlt' : ¬ (k : Int) < (pc.attrs.length : Int) := by omega
      clear hk HV HEQ HNE HA
      go_wp2_with fail
      go_ret
      exact ⟨by rw [← HV2.out]; rfl, HB.out⟩
end Go.Proofs.YtljldbdjkjllhaaGreatDoor

/- Maps of functions, known whole. -/
namespace Go.Proofs.YtljldbdjkjllhaaGreatDoor
set_option linter.unusedSimpArgs false
set_option linter.unusedVariables false
open Go.RowKit Go.MapKept

def mapEs : List (ByteArray × Value) → Nat → List MapEntry
  | [], _ => []
  | (k, v) :: r, i => ⟨.string k, v, i⟩ :: mapEs r (i + 1)
def mapO (l : List (ByteArray × Value)) : Obj := .map (mapEs l 0).toArray l.length
def lookO (k : ByteArray) : List (ByteArray × Value) → Option Value
  | [] => none
  | (a, v) :: r => if k = a then some v else lookO k r
theorem mapEs_snoc (k : ByteArray) (v : Value) : ∀ (l : List (ByteArray × Value)) (i : Nat), mapEs (l ++ [(k, v)]) i = mapEs l i ++ [⟨.string k, v, i + l.length⟩]
  | [], i => rfl
  | (a, u) :: r, i => by
    show (⟨.string a, u, i⟩ : MapEntry) :: mapEs (r ++ [(k, v)]) (i + 1) = _
    rw [mapEs_snoc k v r (i + 1)]
    show _ = (⟨.string a, u, i⟩ : MapEntry) :: (mapEs r (i + 1) ++ [⟨.string k, v, i + (r.length + 1)⟩])
    rw [show i + 1 + r.length = i + (r.length + 1) from by omega]
theorem same_str (a b : ByteArray) : Instr.sameNow .string (.string a) (.string b) = some (decide (a = b)) := by
  show some (a == b) = _
  congr 1
  rw [Bool.eq_iff_iff, bytes_beq]
  simp
theorem find_es (k : ByteArray) : ∀ (l : List (ByteArray × Value)) (i j : Nat), (lookO k l = none ∧ Instr.findNow .string (.string k) (mapEs l i) j = some none) ∨ ∃ p v, lookO k l = some v ∧ Instr.findNow .string (.string k) (mapEs l i) j = some (some (p, v))
  | [], i, j => .inl ⟨rfl, rfl⟩
  | (a, v) :: r, i, j => by
    unfold mapEs Instr.findNow lookO
    rw [same_str]
    by_cases h : k = a
    · rw [decide_eq_true h, if_pos h]
      exact .inr ⟨j, v, rfl, rfl⟩
    · rw [decide_eq_false h, if_neg h]
      exact find_es k r (i + 1) (j + 1)
section
variable {P : Program} {w : World} {mty kt et : TypeId} {m : Nat} {l : List (ByteArray × Value)} {k : ByteArray} {v : Value}
theorem run_look (hm : P.underlying mty = some (.map kt et)) (hd : P.underlying kt = some .string) (hz : ∀ w, (zeroValue et).run P w = .ok .nilFunc w) (hb : w.heap[m]? = some (mapO l)) :
    (Instr.lookup mty (.map (some m)) (.string k) false).run P w = .ok ((lookO k l).getD .nilFunc) w := by
  have hk : IsKey .string (.string k) := by simp [IsKey]
  unfold mapO at hb
  rcases find_es k l 0 0 with ⟨h1, h2⟩ | ⟨p, u, h1, h2⟩
  · rw [h1]
    simp [Instr.lookup, run_underlying hm, Go.MapKept.run_getObj_map hb, run_checkKey hd hk, run_findKey hd h2, hz, Result.andThen]
  · rw [h1]
    simp [Instr.lookup, run_underlying hm, Go.MapKept.run_getObj_map hb, run_checkKey hd hk, run_findKey hd h2, Result.andThen]
theorem run_look_nil (hm : P.underlying mty = some (.map kt et)) (hd : P.underlying kt = some .string) (hz : ∀ w, (zeroValue et).run P w = .ok .nilFunc w) :
    (Instr.lookup mty (.map none) (.string k) false).run P w = .ok .nilFunc w := by
  have hk : IsKey .string (.string k) := by simp [IsKey]
  have h2 : Instr.findNow .string (.string k) ([] : List MapEntry) 0 = some none := rfl
  simp [Instr.lookup, run_underlying hm, run_checkKey hd hk, run_findKey hd h2, hz, Result.andThen]
theorem run_put (hm : P.underlying mty = some (.map kt et)) (hd : P.underlying kt = some .string) (hb : w.heap[m]? = some (mapO l)) (hn : lookO k l = none) :
    ∃ w', (Instr.mapUpdate mty (.map (some m)) (.string k) v).run P w = .ok () w' ∧ w'.heap[m]? = some (mapO (l ++ [(k, v)])) ∧ Turned [m] w w' := by
  have hk : IsKey .string (.string k) := by simp [IsKey]
  have hb' := hb
  unfold mapO at hb
  rcases find_es k l 0 0 with ⟨h1, h2⟩ | ⟨p, u, h1, h2⟩
  rotate_left
  · rw [hn] at h1; cases h1
  refine ⟨{ w with heap := w.heap.setIfInBounds m (mapO (l ++ [(k, v)])) }, ?_, (heap_set hb').1, ⟨rfl, rfl, rfl, by simp, fun j hj hjm => (heap_set hb').2 j (fun e => hjm (by simp [e]))⟩⟩
  have he : mapO (l ++ [(k, v)]) = .map ((mapEs l 0).toArray.push ⟨.string k, v, l.length⟩) (l.length + 1) := by
    unfold mapO
    rw [mapEs_snoc]
    simp
  rw [he]
  simp [Instr.mapUpdate, run_underlying hm, Go.MapKept.run_getObj_map hb, run_checkKey hd hk, run_findKey hd h2, run_setObj_map _ hb, Result.andThen]
end
theorem wpList_insert_map {P : Program} (w : World) {ops : Array Oper} {rest : List Oper} {o : Oper} {a : Act} {Q : Exit → Act → World → Prop}
    (hg : o.guard = none) (m x v : Operand) (t : TypeId) (hop : o.op = Op.insert t m x v)
    (kt et : TypeId) (ht : P.underlying t = some (.map kt et)) (hd : P.underlying kt = some .string) (b : Nat) (l : List (ByteArray × Value)) (hm : a.eval m = .map (some b)) (hb : w.heap[b]? = some (mapO l))
    (key : ByteArray) (val : Value) (hx : a.eval x = .string key) (hv : a.eval v = val) (hn : lookO key l = none)
    (hK : ∀ w', w'.heap[b]? = some (mapO (l ++ [(key, val)])) → Turned [b] w w' → wpList P ops Q rest (a.put o.dst undef) w') :
    wpList P ops Q (o :: rest) a w := by
  refine wpList_plain hg fun K' hK' => ?_
  obtain ⟨w', hrun, r1, r2⟩ := run_put (v := val) ht hd hb hn
  unfold Oper.wp
  simp [execOp, hop, hm, hx, hv, hrun, Result.andThen]
  exact hK' _ _ (hK w' r1 r2)
theorem map_new (w : World) : (w.alloc (.map #[] 0)).heap[w.heap.size]? = some (mapO []) := (heap_alloc w _).1
theorem map_turned' {w w' : World} {F : List Nat} {m : Nat} {l : List (ByteArray × Value)} (h : w.heap[m]? = some (mapO l)) (ht : Turned F w w') (hF : m ∉ F) : w'.heap[m]? = some (mapO l) := by
  rw [ht.block m (Array.getElem?_eq_some_iff.1 h).1 hF]; exact h
theorem map_below {w w' : World} {m : Nat} {l : List (ByteArray × Value)} (h : w.heap[m]? = some (mapO l)) (hb : Below w.heap.size w w') : w'.heap[m]? = some (mapO l) := map_turned' h (Turned.of_below hb []) (fun hk => by cases hk)
theorem map_not_blk {w : World} {m g : Nat} {l : List (ByteArray × Value)} {t : TypeId} {cs : Array Value} (h : w.heap[m]? = some (mapO l)) (hb : Blk w g t cs) : m ≠ g := fun e => by
  subst e
  have h1 : some (mapO l) = some (Obj.cells cs t (0, 0)) := h.symm.trans hb
  cases h1
end Go.Proofs.YtljldbdjkjllhaaGreatDoor

/- What is done at the start of metadata. -/
namespace Go.Proofs.YtljldbdjkjllhaaGreatDoor
set_option linter.unusedSimpArgs false
set_option linter.unusedVariables false
open Go.RowKit

theorem el_load {w : World} {p : Nat} {a b : Value} (h : Blk w p 63 #[a, b]) : (loadVar 63 ⟨p, 0, none⟩).run Tryz.prog w = .ok (.agg #[a, b]) w := by
  have b0 := h.cell 0
  have b1 := h.cell 1
  simp at b0 b1
  clear h
  go_simp
theorem makeF : ∀ (fn : Fn) (first cap : Array Value) (w : World), (Instr.makeFunc fn first cap).run Tryz.prog w = .ok (.func fn first cap) w := fun _ _ _ _ => rfl
def packN : Bs := [112, 97, 99, 107, 97, 103, 101]
def beginV (f r : Nat) : Value := .func (.func f) #[.pointer (some ⟨r, 0, none⟩)] #[]
set_option maxHeartbeats 4000000 in
set_option maxRecDepth 100000 in
theorem metadata_any (r : Nat) (pc : Pc) (A : Option Addr) (c : Nat) (w : World) :
    Calls Tryz.prog 25 #[.pointer (some ⟨r, 0, none⟩), .agg #[.int .i64 pc.kind, .string (mkS pc.name), .slice A pc.attrs.length c, .string (mkS pc.text)]] w fun e w' =>
      ∃ m, e = .returned (.tuple #[.agg #[.map (some m), .nilFunc], .int .i64 0]) ∧ w'.heap[m]? = some (mapO [(mkS packN, beginV 43 r)]) ∧ Below w.heap.size w w' := by
  have hmm := @run_makeMap Tryz.prog
  have hmf := makeF
  have hst := fun (a : Addr) (m : _) (w : World) => run_store Tryz.prog w a .nilFunc m rfl
  obtain ⟨w1, hw1⟩ : ∃ w1, w1 = (w.alloc (.cells #[.int .i64 pc.kind, .string (mkS pc.name), .slice A pc.attrs.length c, .string (mkS pc.text)] 68)).alloc (.cells #[.map none, .nilFunc] 63) := ⟨_, rfl⟩
  have K1 : Hid (Blk w1 (w.heap.size + 1) 63 #[.map none, .nilFunc]) := by rw [hw1]; exact Blk.new' (by simp)
  have HB1 : Hid (Below w.heap.size w w1) := by rw [hw1]; exact ((Below.refl _ _).alloc (Nat.le_refl _) _).alloc (by simp) _
  have HM := Lib.hid (map_new w1)
  have hlt := K1.out.lt
  go_enter Tryz.func25, Tryz.ntmps25
  go_upto_region 1 with fail
  rw [← hw1]
  clear hw1
  go_wp2_with (refine wpList_insert_map _ rfl _ _ _ 60 rfl 9 138 Tryz.underlying60 Tryz.underlying9 w1.heap.size [] rfl HM.out _ _ rfl rfl rfl ?_; intro w3 hm3 ht3; have K3 := Lib.hid ((K1.out.alloc (.map #[] 0)).turned ht3 (by simp; omega)); have HM3 := Lib.hid hm3; have HT3 := Lib.hid ht3; clear hm3 ht3; have k0 := K3.out.cell 0; have k1 := K3.out.cell 1; have f0 := K3.out.free 0; have f1 := K3.out.free 1; simp at k0 k1)
  have HK := Lib.hid (el_load ((K3.out.set_ 0 (.map (some w1.heap.size))).set_ 1 .nilFunc))
  have ht : Turned [w.heap.size + 1, w1.heap.size] w1 ((w3.setCell ⟨w.heap.size + 1, 0, none⟩ (.map (some w1.heap.size))).setCell ⟨w.heap.size + 1, 1, none⟩ .nilFunc) := by
    have h1 : Turned [w1.heap.size] w1 w3 := (((Turned.refl [] w1).alloc (.map #[] 0)).more (fun k hk => by cases hk)).trans HT3.out (Fresh.refl _ _)
    exact ((h1.more (fun k hk => by simp at hk; simp [hk])).setCell (.inl (by simp)) _).setCell (.inl (by simp)) _
  have hb : Below w.heap.size w ((w3.setCell ⟨w.heap.size + 1, 0, none⟩ (.map (some w1.heap.size))).setCell ⟨w.heap.size + 1, 1, none⟩ .nilFunc) := HB1.out.trans (ht.below (fun k hk => by have := HB1.out.size; simp at hk; rcases hk with rfl | rfl <;> omega) HB1.out.size)
  have hm : ((w3.setCell ⟨w.heap.size + 1, 0, none⟩ (.map (some w1.heap.size))).setCell ⟨w.heap.size + 1, 1, none⟩ .nilFunc).heap[w1.heap.size]? = some (mapO [(mkS packN, beginV 43 r)]) := by
    refine map_turned' (F := [w.heap.size + 1]) HM3.out (((Turned.refl _ _).setCell (p := ⟨w.heap.size + 1, 0, none⟩) (.inl (by simp)) _).setCell (p := ⟨w.heap.size + 1, 1, none⟩) (.inl (by simp)) _) (by simp; omega)
  refine bodyPost_ret (v := .tuple #[.agg #[.map (some w1.heap.size), .nilFunc], .int .i64 0]) ?_ rfl ⟨w1.heap.size, rfl, hm, hb⟩
  refine (results_ct (t := 4) (u := 5) rfl _ (ad := ⟨w.heap.size + 1, 0, none⟩) rfl HK.out).trans ?_
  rfl
end Go.Proofs.YtljldbdjkjllhaaGreatDoor

/- What puts an element's text to a package. -/
namespace Go.Proofs.YtljldbdjkjllhaaGreatDoor
set_option linter.unusedSimpArgs false
set_option linter.unusedVariables false
open Go.RowKit

/-- What puts a text to the package whose pointer lies at pb. -/
def putV (f pb : Nat) : Value := .func (.func f) #[] #[.pointer (some ⟨pb, 0, none⟩)]
theorem Blk.mono {w w' : World} {g : Nat} {t : TypeId} {cs : Array Value} (h : Blk w g t cs) (hb : Below w.heap.size w w') : Blk w' g t cs := Blk.below h hb (Blk.lt h)
/-- The function at the start of a textTo element: what it captures. -/
structure TextB (w : World) (f pb : Nat) (v : Value) : Prop where
  is : ∃ eb ub, v = .func (.func 194) #[] #[.pointer (some ⟨eb, 0, none⟩)] ∧ Blk w eb 61 #[.func (.func 193) #[] #[.pointer (some ⟨ub, 0, none⟩)]] ∧ Blk w ub 143 #[putV f pb]
theorem TextB.below {w w' : World} {f pb : Nat} {v : Value} (h : TextB w f pb v) (hb : Below w.heap.size w w') : TextB w' f pb v := by
  obtain ⟨eb, ub, h1, h2, h3⟩ := h.is
  exact ⟨eb, ub, h1, Blk.mono h2 hb, Blk.mono h3 hb⟩
set_option maxHeartbeats 4000000 in
set_option maxRecDepth 100000 in
theorem textTo_any (f pb : Nat) (w : World) : Calls Tryz.prog 140 #[putV f pb] w fun e w' => ∃ v, e = .returned v ∧ TextB w' f pb v ∧ Below w.heap.size w w' := by
  have hmf := makeF
  have hst := fun (fn : Fn) (x y : Array Value) (a : Addr) (m : _) (w : World) => run_store Tryz.prog w a (.func fn x y) m rfl
  have HV : Hid (∀ v, v = .func (.func 194) #[] #[.pointer (some ⟨w.heap.size + 1, 0, none⟩)] → TextB ((w.alloc (.cells #[putV f pb] 143)).alloc (.cells #[.func (.func 193) #[] #[.pointer (some ⟨w.heap.size, 0, none⟩)]] 61)) f pb v ∧ Below w.heap.size w ((w.alloc (.cells #[putV f pb] 143)).alloc (.cells #[.func (.func 193) #[] #[.pointer (some ⟨w.heap.size, 0, none⟩)]] 61))) := by
    rintro v rfl
    refine ⟨⟨w.heap.size + 1, w.heap.size, rfl, Blk.new' (by simp), (Blk.new _ _ _).alloc _⟩, ((Below.refl _ _).alloc (Nat.le_refl _) _).alloc (by simp) _⟩
  unfold putV at *
  go_enter Tryz.func140, Tryz.ntmps140
  go_wp2_with fail
  go_ret
  exact ⟨_, rfl, HV.out _ rfl⟩
theorem TextB.map {w w' : World} {f pb : Nat} {v : Value} {m : Nat} {l : List (ByteArray × Value)} (h : TextB w f pb v) (hm : w.heap[m]? = some (mapO l)) (ht : Turned [m] w w') : TextB w' f pb v := by
  obtain ⟨eb, ub, h1, h2, h3⟩ := h.is
  exact ⟨eb, ub, h1, h2.turned ht (fun hk => by simp at hk; exact map_not_blk hm h2 hk.symm), h3.turned ht (fun hk => by simp at hk; exact map_not_blk hm h3 hk.symm)⟩
/-- What turns while a text is read: blocks of these kinds alone. -/
def MutT (t : TypeId) : Bool := [(63 : Nat), 65, 58, 42, 5, 44].contains t
def Loose (w : World) (F : List Nat) : Prop := ∀ k ∈ F, (∀ t cs, Blk w k t cs → MutT t = true) ∧ ∀ l, w.heap[k]? ≠ some (mapO l)
theorem Loose.nil (w : World) : Loose w [] := fun k hk => by cases hk
theorem Loose.one {w : World} {k : Nat} {t : TypeId} {cs : Array Value} (h : Blk w k t cs) (ht : MutT t = true) : Loose w [k] := fun j hj => by
  simp at hj
  subst hj
  refine ⟨fun t' cs' h' => ?_, fun l hm => map_not_blk hm h rfl⟩
  by_cases e : t' = t
  · rw [e]; exact ht
  · exact absurd rfl (Blk.kind h' h e)
theorem Loose.add {w : World} {F G : List Nat} (h : Loose w F) (h' : Loose w G) : Loose w (F ++ G) := fun k hk => by
  rcases List.mem_append.1 hk with hk | hk
  · exact h k hk
  · exact h' k hk
theorem Loose.row {w : World} {base n sz : Nat} {e : TypeId} {v : Value} {xs : List Value} (h : w.ownsRow base e sz v n xs) (ht : MutT e = true) : Loose w v.ownBlock.toList := fun k hk => by
  have hk : v.ownBlock = some k := by simpa using hk
  rcases h.2 with ⟨rfl, _⟩ | ⟨g, cap, cur, rfl, _, hg, _⟩
  · cases hk
  · injection hk with hk
    subst hk
    exact Loose.one (show Blk w g e cur from hg) ht g (by simp)
theorem Blk.stay {w w' : World} {F : List Nat} {g : Nat} {t : TypeId} {cs : Array Value} (h : Blk w g t cs) (ht : Turned F w w') (hF : Loose w F) (hm : MutT t = false) : Blk w' g t cs :=
  Blk.turned h ht (fun hk => by have := (hF g hk).1 t cs h; rw [hm] at this; cases this)
theorem map_stay {w w' : World} {F : List Nat} {m : Nat} {l : List (ByteArray × Value)} (h : w.heap[m]? = some (mapO l)) (ht : Turned F w w') (hF : Loose w F) : w'.heap[m]? = some (mapO l) :=
  map_turned' h ht (fun hk => (hF m hk).2 l h)
theorem TextB.stay {w w' : World} {F : List Nat} {f pb : Nat} {v : Value} (h : TextB w f pb v) (ht : Turned F w w') (hF : Loose w F) : TextB w' f pb v := by
  obtain ⟨eb, ub, h1, h2, h3⟩ := h.is
  exact ⟨eb, ub, h1, Blk.stay h2 ht hF (by decide), Blk.stay h3 ht hF (by decide)⟩
end Go.Proofs.YtljldbdjkjllhaaGreatDoor

/- What stands directly in a package: its functions. -/
namespace Go.Proofs.YtljldbdjkjllhaaGreatDoor
set_option linter.unusedSimpArgs false
set_option linter.unusedVariables false
open Go.RowKit

def nameN_ : Bs := [110, 97, 109, 101]
def archN_ : Bs := [97, 114, 99, 104]
def versN_ : Bs := [118, 101, 114, 115, 105, 111, 110]
def formN_ : Bs := [102, 111, 114, 109, 97, 116]
def packEs (pb : Nat) (v1 v2 : Value) : List (ByteArray × Value) := [(mkS nameN_, v1), (mkS archN_, v2), (mkS versN_, putV 143 pb), (mkS formN_, putV 145 pb)]
/-- The map of a package whose cells lie at pk. -/
def PackM (w : World) (pk m : Nat) : Prop := ∃ pb v1 v2, w.heap[m]? = some (mapO (packEs pb v1 v2)) ∧ TextB w 141 pb v1 ∧ TextB w 142 pb v2 ∧ Blk w pb 119 #[.pointer (some ⟨pk, 0, none⟩)]
theorem PackM.below {w w' : World} {pk m : Nat} (h : PackM w pk m) (hb : Below w.heap.size w w') : PackM w' pk m := by
  obtain ⟨pb, v1, v2, h1, h2, h3, h4⟩ := h
  exact ⟨pb, v1, v2, map_below h1 hb, h2.below hb, h3.below hb, Blk.mono h4 hb⟩
theorem PackM.stay {w w' : World} {F : List Nat} {pk m : Nat} (h : PackM w pk m) (ht : Turned F w w') (hF : Loose w F) : PackM w' pk m := by
  obtain ⟨pb, v1, v2, h1, h2, h3, h4⟩ := h
  exact ⟨pb, v1, v2, map_stay h1 ht hF, h2.stay ht hF, h3.stay ht hF, Blk.stay h4 ht hF (by decide)⟩
theorem k_is (l m : Bs) (v : Value) (r : List (ByteArray × Value)) (h : l ≠ m) : lookO (mkS l) ((mkS m, v) :: r) = lookO (mkS l) r := by
  show (if mkS l = mkS m then some v else lookO (mkS l) r) = _
  rw [if_neg (fun e => h (mkS_inj e))]
theorem k_hit (l : Bs) (v : Value) (r : List (ByteArray × Value)) : lookO (mkS l) ((mkS l, v) :: r) = some v := by
  show (if mkS l = mkS l then some v else lookO (mkS l) r) = _
  rw [if_pos rfl]
set_option maxHeartbeats 4000000 in
set_option maxRecDepth 100000 in
theorem inPackage_any (pk : Nat) (w : World) : Calls Tryz.prog 81 #[.pointer (some ⟨pk, 0, none⟩)] w fun e w' => ∃ m, e = .returned (.map (some m)) ∧ PackM w' pk m ∧ Below w.heap.size w w' := by
  have hmm := @run_makeMap Tryz.prog
  have hmf := makeF
  have CT := Lib.hid (fun f pb w => textTo_any f pb w)
  obtain ⟨w1, hw1⟩ : ∃ w1, w1 = w.alloc (.cells #[.pointer (some ⟨pk, 0, none⟩)] 119) := ⟨_, rfl⟩
  have K1 : Hid (Blk w1 w.heap.size 119 #[.pointer (some ⟨pk, 0, none⟩)]) := by rw [hw1]; exact Blk.new _ _ _
  have HB1 : Hid (Below w.heap.size w w1) := by rw [hw1]; exact (Below.refl _ _).alloc (Nat.le_refl _) _
  have HM1 := Lib.hid (map_new w1)
  have HBm : Hid (Below w1.heap.size w1 (w1.alloc (.map #[] 0))) := (Below.refl _ _).alloc (Nat.le_refl _) _
  have N1 : Hid (lookO (mkS nameN_) [] = none) := rfl
  have N2 : Hid (∀ v1, lookO (mkS archN_) [(mkS nameN_, v1)] = none) := fun v1 => by show _ = _; rw [k_is _ _ _ _ (by decide)]; rfl
  have N3 : Hid (∀ v1 v2, lookO (mkS versN_) [(mkS nameN_, v1), (mkS archN_, v2)] = none) := fun v1 v2 => by show _ = _; rw [k_is _ _ _ _ (by decide), k_is _ _ _ _ (by decide)]; rfl
  have N4 : Hid (∀ v1 v2 v3, lookO (mkS formN_) [(mkS nameN_, v1), (mkS archN_, v2), (mkS versN_, v3)] = none) := fun v1 v2 v3 => by show _ = _; rw [k_is _ _ _ _ (by decide), k_is _ _ _ _ (by decide), k_is _ _ _ _ (by decide)]; rfl
  unfold putV at CT
  go_enter Tryz.func81, Tryz.ntmps81
  go_upto_region 1 with fail
  rw [← hw1]
  clear hw1
  go_wp2_with fail
  refine (CT.out _ _ _).mono ?_
  rintro e w2 ⟨v1, rfl, hT1, hb2⟩
  have HM2 := Lib.hid (map_below HM1.out hb2)
  have hbb : Below w1.heap.size w1 w2 := HBm.out.trans (hb2.mono (by simp))
  have HB2 := Lib.hid (HB1.out.trans (hbb.mono HB1.out.size))
  have K2 := Lib.hid (K1.out.below hbb K1.out.lt)
  have HTu2 : Hid (w.heap.size ≤ w1.heap.size) := HB1.out.size
  have HT1 := Lib.hid hT1
  clear hT1 hb2 hbb HM1 HBm
  go_wp2_with (refine wpList_insert_map _ rfl _ _ _ 60 rfl 9 138 Tryz.underlying60 Tryz.underlying9 w1.heap.size [] rfl HM2.out _ _ rfl rfl N1.out ?_; intro w3 hm ht; have HM3 := Lib.hid hm; have HB3 := Lib.hid (HB2.out.trans (ht.below (B := w.heap.size) (fun k hk => by have h9 := HTu2.out; simp at hk; subst hk; exact h9) HB2.out.size)); have K3 := Lib.hid (K2.out.turned ht (fun hk => by simp at hk; exact map_not_blk HM2.out K2.out hk.symm)); have HT13 := Lib.hid (HT1.out.map HM2.out ht); clear hm ht HM2 HB2 K2 HT1)
  refine (CT.out _ _ _).mono ?_
  rintro e w4 ⟨v2, rfl, hT2, hb4⟩
  have HM4 := Lib.hid (map_below HM3.out hb4)
  have HB4 := Lib.hid (HB3.out.trans (hb4.mono HB3.out.size))
  have K4 := Lib.hid (K3.out.below hb4 K3.out.lt)
  have HT14 := Lib.hid (HT13.out.below hb4)
  have HT24 := Lib.hid hT2
  clear hT2 hb4 HM3 HB3 K3 HT13
  go_wp2_with (first | (refine wpList_insert_map _ rfl _ _ _ 60 rfl 9 138 Tryz.underlying60 Tryz.underlying9 w1.heap.size [(mkS nameN_, v1)] rfl HM4.out _ _ rfl rfl (N2.out _) ?_; intro w5 hm ht; have HM5 := Lib.hid hm; have HB5 := Lib.hid (HB4.out.trans (ht.below (B := w.heap.size) (fun k hk => by have h9 := HTu2.out; simp at hk; subst hk; exact h9) HB4.out.size)); have K5 := Lib.hid (K4.out.turned ht (fun hk => by simp at hk; exact map_not_blk HM4.out K4.out hk.symm)); have HT15 := Lib.hid (HT14.out.map HM4.out ht); have HT25 := Lib.hid (HT24.out.map HM4.out ht); clear hm ht HM4 HB4 K4 HT14 HT24) | (refine wpList_insert_map _ rfl _ _ _ 60 rfl 9 138 Tryz.underlying60 Tryz.underlying9 w1.heap.size [(mkS nameN_, v1), (mkS archN_, v2)] rfl HM5.out _ _ rfl rfl (N3.out _ _) ?_; intro w6 hm ht; have HM6 := Lib.hid hm; have HB6 := Lib.hid (HB5.out.trans (ht.below (B := w.heap.size) (fun k hk => by have h9 := HTu2.out; simp at hk; subst hk; exact h9) HB5.out.size)); have K6 := Lib.hid (K5.out.turned ht (fun hk => by simp at hk; exact map_not_blk HM5.out K5.out hk.symm)); have HT16 := Lib.hid (HT15.out.map HM5.out ht); have HT26 := Lib.hid (HT25.out.map HM5.out ht); clear hm ht HM5 HB5 K5 HT15 HT25) | (refine wpList_insert_map _ rfl _ _ _ 60 rfl 9 138 Tryz.underlying60 Tryz.underlying9 w1.heap.size [(mkS nameN_, v1), (mkS archN_, v2), (mkS versN_, putV 143 w.heap.size)] rfl HM6.out _ _ rfl rfl (N4.out _ _ _) ?_; intro w7 hm ht; have HM7 := Lib.hid hm; have HB7 := Lib.hid (HB6.out.trans (ht.below (B := w.heap.size) (fun k hk => by have h9 := HTu2.out; simp at hk; subst hk; exact h9) HB6.out.size)); have K7 := Lib.hid (K6.out.turned ht (fun hk => by simp at hk; exact map_not_blk HM6.out K6.out hk.symm)); have HT17 := Lib.hid (HT16.out.map HM6.out ht); have HT27 := Lib.hid (HT26.out.map HM6.out ht); clear hm ht HM6 HB6 K6 HT16 HT26))
  go_ret
  exact ⟨_, rfl, ⟨_, _, _, HM7.out, HT17.out, HT27.out, K7.out⟩, HB7.out⟩
end Go.Proofs.YtljldbdjkjllhaaGreatDoor

/- A version that attributes tell. -/
namespace Go.Proofs.YtljldbdjkjllhaaGreatDoor
set_option linter.unusedSimpArgs false
set_option linter.unusedVariables false
open Go.RowKit

def verN : Bs := [118, 101, 114]
def epoN : Bs := [101, 112, 111, 99, 104]
def relN : Bs := [114, 101, 108]
def verX (al : Al) : Bs := (if attrX epoN al [] ≠ [] ∧ attrX epoN al [] ≠ [48] then attrX epoN al [] ++ 58 :: attrX verN al [] else attrX verN al []) ++ (if attrX relN al [] ≠ [] then 45 :: attrX relN al [] else [])
theorem str_is {l m : Bs} (h : l = m) : ((mkS l).toList == (mkS m).toList) = true := str_yes' (by rw [h])
theorem str_nil_is {l : Bs} (h : l = []) : ((mkS l).toList == ([] : List UInt8)) = true := by subst h; first | rfl | kernel_rfl | decide +kernel
theorem str_nil_no {l : Bs} (h : ¬ l = []) : ((mkS l).toList == ([] : List UInt8)) = false := by
  have h1 := str_ne (a := mkS l) (b := mkS []) (fun e => h (mkS_inj e))
  have h2 : (mkS []).toList = [] := by first | rfl | kernel_rfl | decide +kernel
  rw [h2] at h1
  exact h1
theorem zero_is {l : Bs} (h : l = [48]) : ((mkS l).toList == ([48] : List UInt8)) = true := by subst h; first | rfl | kernel_rfl | decide +kernel
theorem zero_no {l : Bs} (h : ¬ l = [48]) : ((mkS l).toList == ([48] : List UInt8)) = false := by
  have h1 := str_ne (a := mkS l) (b := mkS [48]) (fun e => h (mkS_inj e))
  have h2 : (mkS [48]).toList = [48] := by first | rfl | kernel_rfl | decide +kernel
  rw [h2] at h1
  exact h1
set_option maxHeartbeats 8000000 in
set_option maxRecDepth 100000 in
theorem version_val (pc : Pc) (A : Option Addr) (c : Nat) (w : World) (hA : AlR w A pc.attrs) (hl : pc.attrs.length ≤ c) (hc : c ≤ maxLen) (hz : ∀ nm, (attrX nm pc.attrs []).length ≤ 100000) :
    Calls Tryz.prog 144 #[.agg #[.int .i64 pc.kind, .string (mkS pc.name), .slice A pc.attrs.length c, .string (mkS pc.text)]] w fun e w' => e = .returned (.string (mkS (verX pc.attrs))) ∧ Below w.heap.size w w' := by
  have CV := Lib.hid (fun nm w' (hb : Below w.heap.size w w') => attr_val pc A c nm w' (hA.below hb) hl hc)
  obtain ⟨w1, hw1⟩ : ∃ w1, w1 = w.alloc (.cells #[.int .i64 pc.kind, .string (mkS pc.name), .slice A pc.attrs.length c, .string (mkS pc.text)] 68) := ⟨_, rfl⟩
  have K : Hid (Blk w1 w.heap.size 68 #[.int .i64 pc.kind, .string (mkS pc.name), .slice A pc.attrs.length c, .string (mkS pc.text)]) := by rw [hw1]; exact Blk.new _ _ _
  have HB1 : Hid (Below w.heap.size w w1) := by rw [hw1]; exact (Below.refl _ _).alloc (Nat.le_refl _) _
  have C1 := Lib.hid (CV.out verN)
  have C2 := Lib.hid (CV.out epoN)
  have C3 := Lib.hid (CV.out relN)
  have z1 := hz verN
  have z2 := hz epoN
  have z3 := hz relN
  have HVX : Hid (verX pc.attrs = (if attrX epoN pc.attrs [] ≠ [] ∧ attrX epoN pc.attrs [] ≠ [48] then attrX epoN pc.attrs [] ++ 58 :: attrX verN pc.attrs [] else attrX verN pc.attrs []) ++ (if attrX relN pc.attrs [] ≠ [] then 45 :: attrX relN pc.attrs [] else [])) := rfl
  clear CV hA hz
  generalize attrX verN pc.attrs [] = v at *
  generalize attrX epoN pc.attrs [] = ep at *
  generalize attrX relN pc.attrs [] = re at *
  generalize verX pc.attrs = X at *
  have y1 : (mkS v).size ≤ 100000 := by rw [mkS_size]; exact z1
  have y2 : (mkS ep).size ≤ 100000 := by rw [mkS_size]; exact z2
  have y3 : (mkS re).size ≤ 100000 := by rw [mkS_size]; exact z3
  clear z1 z2 z3
  have q1 : mkS verN = ⟨#[118, 101, 114]⟩ := rfl
  have q2 : mkS epoN = ⟨#[101, 112, 111, 99, 104]⟩ := rfl
  have q3 : mkS relN = ⟨#[114, 101, 108]⟩ := rfl
  rw [q1] at C1
  rw [q2] at C2
  rw [q3] at C3
  clear q1 q2 q3
  have TE := Lib.hid (fun h => str_nil_is (l := ep) h)
  have TE' := Lib.hid (fun h => str_nil_no (l := ep) h)
  have T0 := Lib.hid (fun h => zero_is (l := ep) h)
  have T0' := Lib.hid (fun h => zero_no (l := ep) h)
  have TR := Lib.hid (fun h => str_nil_is (l := re) h)
  have TR' := Lib.hid (fun h => str_nil_no (l := re) h)
  generalize hV : mkS v = V at *
  generalize hE : mkS ep = E at *
  generalize hR : mkS re = R at *
  have LV : Hid (V.data.toList = v) := by show _ = _; rw [← hV]; rfl
  have LE : Hid (E.data.toList = ep) := by show _ = _; rw [← hE]; rfl
  have LR : Hid (R.data.toList = re) := by show _ = _; rw [← hR]; rfl
  clear hV hE hR
  go_enter Tryz.func144, Tryz.ntmps144
  go_upto_region 1 with fail
  rw [← hw1]
  clear hw1
  have l0 := K.out.cell 0
  have l1 := K.out.cell 1
  have l2 := K.out.cell 2
  have l3 := K.out.cell 3
  simp at l0 l1 l2 l3
  go_wp2_with fail
  refine (C1.out _ HB1.out).mono ?_
  rintro e w2 ⟨rfl, hb⟩
  have HB2 := Lib.hid (HB1.out.trans (hb.mono HB1.out.size))
  have K2 := Lib.hid (K.out.below hb K.out.lt)
  clear hb l0 l1 l2 l3 C1
  have l0 := K2.out.cell 0
  have l1 := K2.out.cell 1
  have l2 := K2.out.cell 2
  have l3 := K2.out.cell 3
  simp at l0 l1 l2 l3
  go_wp2_with fail
  refine (C2.out _ HB2.out).mono ?_
  rintro e w3 ⟨rfl, hb⟩
  have HB3 := Lib.hid (HB2.out.trans (hb.mono HB2.out.size))
  have K3 := Lib.hid (K2.out.below hb K2.out.lt)
  clear hb l0 l1 l2 l3 C2
  have l0 := K3.out.cell 0
  have l1 := K3.out.cell 1
  have l2 := K3.out.cell 2
  have l3 := K3.out.cell 3
  simp at l0 l1 l2 l3
  by_cases h1 : ep = []
  · have te := TE.out h1
    go_wp2_with fail
    refine (C3.out _ HB3.out).mono ?_
    rintro e w4 ⟨rfl, hb⟩
    have HB4 := Lib.hid (HB3.out.trans (hb.mono HB3.out.size))
    clear hb l0 l1 l2 l3 C3
    by_cases hr : re = []
    · have tr := TR.out hr
      have HV : Hid (mkS X = V) := by show _ = _; rw [HVX.out, if_neg (fun h => h.1 h1), if_neg (fun h => h hr)]; exact s_ext (by simp only [bl_app, mkS_list, LV.out, LE.out, LR.out]; simp)
      clear hr HVX K K2 K3
      go_wp2_with fail
      go_ret
      exact ⟨by rw [HV.out]; rfl, HB4.out⟩
    · have tr := TR'.out hr
      have HV : Hid (mkS X = V ++ (⟨#[45]⟩ ++ R)) := by show _ = _; rw [HVX.out, if_neg (fun h => h.1 h1), if_pos hr]; exact s_ext (by simp only [bl_app, mkS_list, LV.out, LE.out, LR.out]; simp)
      clear hr HVX K K2 K3
      go_wp2_with fail
      go_ret
      exact ⟨by rw [HV.out]; rfl, HB4.out⟩
  · have te := TE'.out h1
    by_cases h2 : ep = [48]
    · have t0 := T0.out h2
      go_wp2_with fail
      refine (C3.out _ HB3.out).mono ?_
      rintro e w4 ⟨rfl, hb⟩
      have HB4 := Lib.hid (HB3.out.trans (hb.mono HB3.out.size))
      clear hb l0 l1 l2 l3 C3
      by_cases hr : re = []
      · have tr := TR.out hr
        have HV : Hid (mkS X = V) := by show _ = _; rw [HVX.out, if_neg (fun h => h.2 h2), if_neg (fun h => h hr)]; exact s_ext (by simp only [bl_app, mkS_list, LV.out, LE.out, LR.out]; simp)
        clear hr HVX K K2 K3
        go_wp2_with fail
        go_ret
        exact ⟨by rw [HV.out]; rfl, HB4.out⟩
      · have tr := TR'.out hr
        have HV : Hid (mkS X = V ++ (⟨#[45]⟩ ++ R)) := by show _ = _; rw [HVX.out, if_neg (fun h => h.2 h2), if_pos hr]; exact s_ext (by simp only [bl_app, mkS_list, LV.out, LE.out, LR.out]; simp)
        clear hr HVX K K2 K3
        go_wp2_with fail
        go_ret
        exact ⟨by rw [HV.out]; rfl, HB4.out⟩
    · have t0 := T0'.out h2
      go_wp2_with fail
      refine (C3.out _ HB3.out).mono ?_
      rintro e w4 ⟨rfl, hb⟩
      have HB4 := Lib.hid (HB3.out.trans (hb.mono HB3.out.size))
      clear hb l0 l1 l2 l3 C3
      by_cases hr : re = []
      · have tr := TR.out hr
        have HV : Hid (mkS X = (E ++ ⟨#[58]⟩ ++ V)) := by show _ = _; rw [HVX.out, if_pos ⟨h1, h2⟩, if_neg (fun h => h hr)]; exact s_ext (by simp only [bl_app, mkS_list, LV.out, LE.out, LR.out]; simp)
        clear hr HVX K K2 K3
        go_wp2_with fail
        go_ret
        exact ⟨by rw [HV.out]; rfl, HB4.out⟩
      · have tr := TR'.out hr
        have HV : Hid (mkS X = (E ++ ⟨#[58]⟩ ++ V) ++ (⟨#[45]⟩ ++ R)) := by show _ = _; rw [HVX.out, if_pos ⟨h1, h2⟩, if_pos hr]; exact s_ext (by simp only [bl_app, mkS_list, LV.out, LE.out, LR.out]; simp)
        clear hr HVX K K2 K3
        go_wp2_with fail
        go_ret
        exact ⟨by rw [HV.out]; rfl, HB4.out⟩
end Go.Proofs.YtljldbdjkjllhaaGreatDoor

/- What is done at the start of a package. -/
namespace Go.Proofs.YtljldbdjkjllhaaGreatDoor
set_option linter.unusedSimpArgs false
set_option linter.unusedVariables false
open Go.RowKit

def typeN : Bs := [116, 121, 112, 101]
def rpmN : Bs := [114, 112, 109]
def zeroPk : Array Value := #[.string ⟨#[]⟩, .string ⟨#[]⟩, .string ⟨#[]⟩, .string ⟨#[]⟩, .slice none 0 0, .slice none 0 0, .slice none 0 0, .slice none 0 0, .slice none 0 0, .slice none 0 0, .slice none 0 0, .slice none 0 0]
def packEnd (pk rb : Nat) : Value := .func (.func 80) #[] #[.pointer (some ⟨pk, 0, none⟩), .pointer (some ⟨rb, 0, none⟩)]
theorem rpm_is {l : Bs} (h : l = rpmN) : ((mkS l).toList == ([114, 112, 109] : List UInt8)) = true := by subst h; first | rfl | kernel_rfl | decide +kernel
theorem rpm_no {l : Bs} (h : ¬ l = rpmN) : ((mkS l).toList == ([114, 112, 109] : List UInt8)) = false := by
  have h1 := str_ne (a := mkS l) (b := mkS rpmN) (fun e => h (mkS_inj e))
  have h2 : (mkS rpmN).toList = [114, 112, 109] := by first | rfl | kernel_rfl | decide +kernel
  rw [h2] at h1
  exact h1
set_option maxHeartbeats 4000000 in
set_option maxRecDepth 100000 in
theorem pack_other (r : Nat) (pc : Pc) (A : Option Addr) (c : Nat) (w : World) (hA : AlR w A pc.attrs) (hl : pc.attrs.length ≤ c) (hc : c ≤ maxLen) (hk : ¬ attrX typeN pc.attrs [] = rpmN) :
    Calls Tryz.prog 43 #[.pointer (some ⟨r, 0, none⟩), .agg #[.int .i64 pc.kind, .string (mkS pc.name), .slice A pc.attrs.length c, .string (mkS pc.text)]] w fun e w' =>
      e = .returned (.tuple #[.agg #[.map none, .nilFunc], .int .i64 0]) ∧ Below w.heap.size w w' := by
  have hst := fun (a : Addr) (m : _) (w : World) => run_store Tryz.prog w a .nilFunc m rfl
  have CV := Lib.hid (fun w' (hb : Below w.heap.size w w') => attr_val pc A c typeN w' (hA.below hb) hl hc)
  have q1 : mkS typeN = ⟨#[116, 121, 112, 101]⟩ := rfl
  rw [q1] at CV
  have tn := rpm_no hk
  obtain ⟨w1, hw1⟩ : ∃ w1, w1 = ((w.alloc (.cells #[.pointer (some ⟨r, 0, none⟩)] 95)).alloc (.cells #[.int .i64 pc.kind, .string (mkS pc.name), .slice A pc.attrs.length c, .string (mkS pc.text)] 68)).alloc (.cells #[.map none, .nilFunc] 63) := ⟨_, rfl⟩
  have K1 : Hid (Blk w1 (w.heap.size + 1) 68 #[.int .i64 pc.kind, .string (mkS pc.name), .slice A pc.attrs.length c, .string (mkS pc.text)]) := by rw [hw1]; exact (Blk.new' (by simp)).alloc _
  have E1 : Hid (Blk w1 (w.heap.size + 2) 63 #[.map none, .nilFunc]) := by rw [hw1]; exact Blk.new' (by simp)
  have HB1 : Hid (Below w.heap.size w w1) := by rw [hw1]; exact (((Below.refl _ _).alloc (Nat.le_refl _) _).alloc (by simp) _).alloc (by simp; omega) _
  clear hA hk q1
  generalize attrX typeN pc.attrs [] = ty at *
  generalize mkS ty = TY at *
  go_enter Tryz.func43, Tryz.ntmps43
  go_upto_region 1 with fail
  rw [← hw1]
  clear hw1
  have l0 := K1.out.cell 0
  have l1 := K1.out.cell 1
  have l2 := K1.out.cell 2
  have l3 := K1.out.cell 3
  simp at l0 l1 l2 l3
  go_wp2_with fail
  refine (CV.out _ HB1.out).mono ?_
  rintro e w2 ⟨rfl, hb⟩
  have HB2 := Lib.hid (HB1.out.trans (hb.mono HB1.out.size))
  have E2 := E1.out.below hb E1.out.lt
  have k0 := E2.cell 0
  have k1 := E2.cell 1
  have f0 := E2.free 0
  have f1 := E2.free 1
  simp at k0 k1
  have HK := Lib.hid (el_load ((E2.set_ 0 (.map none)).set_ 1 .nilFunc))
  have HBZ : Hid (Below w.heap.size w ((w2.setCell ⟨w.heap.size + 2, 0, none⟩ (.map none)).setCell ⟨w.heap.size + 2, 1, none⟩ .nilFunc)) := (HB2.out.setCell (by simp) _).setCell (by simp) _
  clear hb l0 l1 l2 l3 CV E2
  go_wp2_with fail
  refine bodyPost_ret (v := .tuple #[.agg #[.map none, .nilFunc], .int .i64 0]) ?_ rfl ⟨rfl, HBZ.out⟩
  refine (results_ct (t := 4) (u := 5) rfl _ (ad := ⟨w.heap.size + 2, 0, none⟩) rfl HK.out).trans ?_
  rfl
set_option maxHeartbeats 4000000 in
set_option maxRecDepth 100000 in
theorem pack_rpm (r : Nat) (pc : Pc) (A : Option Addr) (c : Nat) (w : World) (hA : AlR w A pc.attrs) (hl : pc.attrs.length ≤ c) (hc : c ≤ maxLen) (hk : attrX typeN pc.attrs [] = rpmN) {Ap : Option Addr} {n cp : Nat} (hr : w.cell? ⟨r, 1, none⟩ = some (.slice Ap n cp)) (hn : n < 200) :
    Calls Tryz.prog 43 #[.pointer (some ⟨r, 0, none⟩), .agg #[.int .i64 pc.kind, .string (mkS pc.name), .slice A pc.attrs.length c, .string (mkS pc.text)]] w fun e w' =>
      ∃ m pk rb, e = .returned (.tuple #[.agg #[.map (some m), packEnd pk rb], .int .i64 0]) ∧ PackM w' pk m ∧ Blk w' rb 95 #[.pointer (some ⟨r, 0, none⟩)] ∧ Blk w' pk 42 zeroPk ∧ w.heap.size ≤ pk ∧ Below w.heap.size w w' := by
  have hst := fun (fn : Fn) (x y : Array Value) (a : Addr) (m : _) (w : World) => run_store Tryz.prog w a (.func fn x y) m rfl
  have hmf := makeF
  have CV := Lib.hid (fun w' (hb : Below w.heap.size w w') => attr_val pc A c typeN w' (hA.below hb) hl hc)
  have CP := Lib.hid (fun pk w => inPackage_any pk w)
  have q1 : mkS typeN = ⟨#[116, 121, 112, 101]⟩ := rfl
  rw [q1] at CV
  have tn := rpm_is hk
  have HR := Lib.hid hr
  obtain ⟨w1, hw1⟩ : ∃ w1, w1 = ((w.alloc (.cells #[.pointer (some ⟨r, 0, none⟩)] 95)).alloc (.cells #[.int .i64 pc.kind, .string (mkS pc.name), .slice A pc.attrs.length c, .string (mkS pc.text)] 68)).alloc (.cells #[.map none, .nilFunc] 63) := ⟨_, rfl⟩
  have R1 : Hid (Blk w1 w.heap.size 95 #[.pointer (some ⟨r, 0, none⟩)]) := by rw [hw1]; exact ((Blk.new _ _ _).alloc _).alloc _
  have K1 : Hid (Blk w1 (w.heap.size + 1) 68 #[.int .i64 pc.kind, .string (mkS pc.name), .slice A pc.attrs.length c, .string (mkS pc.text)]) := by rw [hw1]; exact (Blk.new' (by simp)).alloc _
  have E1 : Hid (Blk w1 (w.heap.size + 2) 63 #[.map none, .nilFunc]) := by rw [hw1]; exact Blk.new' (by simp)
  have HB1 : Hid (Below w.heap.size w w1) := by rw [hw1]; exact (((Below.refl _ _).alloc (Nat.le_refl _) _).alloc (by simp) _).alloc (by simp; omega) _
  clear hA hk q1 hr
  generalize attrX typeN pc.attrs [] = ty at *
  generalize mkS ty = TY at *
  go_enter Tryz.func43, Tryz.ntmps43
  go_upto_region 1 with fail
  rw [← hw1]
  clear hw1
  have l0 := K1.out.cell 0
  have l1 := K1.out.cell 1
  have l2 := K1.out.cell 2
  have l3 := K1.out.cell 3
  simp at l0 l1 l2 l3
  go_wp2_with fail
  refine (CV.out _ HB1.out).mono ?_
  rintro e w2 ⟨rfl, hb⟩
  have HB2 := Lib.hid (HB1.out.trans (hb.mono HB1.out.size))
  have E2 := Lib.hid (E1.out.below hb E1.out.lt)
  have R2 := Lib.hid (R1.out.below hb R1.out.lt)
  have r0 := R2.out.cell 0
  simp at r0
  have r1 := cell_below HB2.out HR.out
  have HP3 : Hid (Blk (w2.alloc (.cells zeroPk 42)) w2.heap.size 42 zeroPk ∧ Below w2.heap.size w2 (w2.alloc (.cells zeroPk 42))) := ⟨Blk.new _ _ _, (Below.refl _ _).alloc (Nat.le_refl _) _⟩
  clear hb l0 l1 l2 l3 CV R1 E1 K1
  unfold zeroPk at HP3
  go_wp2_with fail
  refine (CP.out _ _).mono ?_
  rintro e w4 ⟨m, rfl, hpm, hb4⟩
  have hb24 : Below w2.heap.size w2 w4 := HP3.out.2.trans (hb4.mono (by simp))
  have HPK := Lib.hid (HP3.out.1.below hb4 (by simp))
  have R4 := Lib.hid (R2.out.below hb24 R2.out.lt)
  have E4 := E2.out.below hb24 E2.out.lt
  have HB4 := Lib.hid (HB2.out.trans (hb24.mono HB2.out.size))
  have k0 := E4.cell 0
  have k1 := E4.cell 1
  have f0 := E4.free 0
  have f1 := E4.free 1
  simp at k0 k1
  have HK := Lib.hid (el_load ((E4.set_ 0 (.map (some m))).set_ 1 (packEnd w2.heap.size w.heap.size)))
  have hbz : Turned [w.heap.size + 2] w4 ((w4.setCell ⟨w.heap.size + 2, 0, none⟩ (.map (some m))).setCell ⟨w.heap.size + 2, 1, none⟩ (packEnd w2.heap.size w.heap.size)) := ((Turned.refl _ _).setCell (.inl (by simp)) _).setCell (.inl (by simp)) _
  have HV : Hid (PackM ((w4.setCell ⟨w.heap.size + 2, 0, none⟩ (.map (some m))).setCell ⟨w.heap.size + 2, 1, none⟩ (packEnd w2.heap.size w.heap.size)) w2.heap.size m ∧ Blk ((w4.setCell ⟨w.heap.size + 2, 0, none⟩ (.map (some m))).setCell ⟨w.heap.size + 2, 1, none⟩ (packEnd w2.heap.size w.heap.size)) w.heap.size 95 #[.pointer (some ⟨r, 0, none⟩)] ∧ Blk ((w4.setCell ⟨w.heap.size + 2, 0, none⟩ (.map (some m))).setCell ⟨w.heap.size + 2, 1, none⟩ (packEnd w2.heap.size w.heap.size)) w2.heap.size 42 zeroPk ∧ w.heap.size ≤ w2.heap.size ∧ Below w.heap.size w ((w4.setCell ⟨w.heap.size + 2, 0, none⟩ (.map (some m))).setCell ⟨w.heap.size + 2, 1, none⟩ (packEnd w2.heap.size w.heap.size))) := by
    refine ⟨?_, R4.out.turned hbz (by simp), HPK.out.turned hbz ?_, HB2.out.size, (HB4.out.setCell (by simp) _).setCell (by simp) _⟩
    · exact hpm.stay hbz (Loose.one E4 (by decide))
    · intro hk
      simp at hk
      have := E2.out.lt
      omega
  unfold packEnd at HK HV
  clear hpm hb4 hb24 CP E4 hbz
  go_wp2_with fail
  refine bodyPost_ret (v := .tuple #[.agg #[.map (some m), packEnd w2.heap.size w.heap.size], .int .i64 0]) ?_ rfl ⟨m, w2.heap.size, w.heap.size, rfl, HV.out⟩
  refine (results_ct (t := 4) (u := 5) rfl _ (ad := ⟨w.heap.size + 2, 0, none⟩) rfl HK.out).trans ?_
  rfl
end Go.Proofs.YtljldbdjkjllhaaGreatDoor

/- An element of which the text counts: its start, its end, what puts it. -/
namespace Go.Proofs.YtljldbdjkjllhaaGreatDoor
set_option linter.unusedSimpArgs false
set_option linter.unusedVariables false
open Go.RowKit

def endV (ub : Nat) : Value := .func (.func 193) #[] #[.pointer (some ⟨ub, 0, none⟩)]
set_option maxHeartbeats 4000000 in
set_option maxRecDepth 100000 in
theorem textAt_any (eb ub : Nat) (pc : Pc) (A : Option Addr) (c : Nat) (w : World) (hb : Blk w eb 61 #[endV ub]) :
    Calls Tryz.prog 194 #[.agg #[.int .i64 pc.kind, .string (mkS pc.name), .slice A pc.attrs.length c, .string (mkS pc.text)], .pointer (some ⟨eb, 0, none⟩)] w fun e w' => e = .returned (.tuple #[.agg #[.map none, endV ub], .int .i64 0]) ∧ Below w.heap.size w w' := by
  have hst := fun (fn : Fn) (x y : Array Value) (a : Addr) (m : _) (w : World) => run_store Tryz.prog w a (.func fn x y) m rfl
  obtain ⟨w1, hw1⟩ : ∃ w1, w1 = (w.alloc (.cells #[.int .i64 pc.kind, .string (mkS pc.name), .slice A pc.attrs.length c, .string (mkS pc.text)] 68)).alloc (.cells #[.map none, .nilFunc] 63) := ⟨_, rfl⟩
  have E1 : Blk w1 (w.heap.size + 1) 63 #[.map none, .nilFunc] := by rw [hw1]; exact Blk.new' (by simp)
  have HB1 : Below w.heap.size w w1 := by rw [hw1]; exact ((Below.refl _ _).alloc (Nat.le_refl _) _).alloc (by simp) _
  have q0 := (Blk.mono hb HB1).cell 0
  have k0 := E1.cell 0
  have k1 := E1.cell 1
  have f0 := E1.free 0
  have f1 := E1.free 1
  simp at q0 k0 k1
  have HK := Lib.hid (el_load ((E1.set_ 0 (.map none)).set_ 1 (endV ub)))
  have HBZ : Hid (Below w.heap.size w ((w1.setCell ⟨w.heap.size + 1, 0, none⟩ (.map none)).setCell ⟨w.heap.size + 1, 1, none⟩ (endV ub))) := (HB1.setCell (by simp) _).setCell (by simp) _
  clear HB1 E1 hb
  unfold endV at *
  go_enter Tryz.func194, Tryz.ntmps194
  go_upto_region 1 with fail
  rw [← hw1]
  clear hw1
  go_wp2_with fail
  refine bodyPost_ret (v := .tuple #[.agg #[.map none, .func (.func 193) #[] #[.pointer (some ⟨ub, 0, none⟩)]], .int .i64 0]) ?_ rfl ⟨rfl, HBZ.out⟩
  refine (results_ct (t := 3) (u := 4) rfl _ (ad := ⟨w.heap.size + 1, 0, none⟩) rfl HK.out).trans ?_
  rfl
set_option maxHeartbeats 4000000 in
set_option maxRecDepth 100000 in
theorem put1_any (pb pk : Nat) (cs : Array Value) (s : ByteArray) (w : World) (hb : Blk w pb 119 #[.pointer (some ⟨pk, 0, none⟩)]) (hp : Blk w pk 42 cs) (v : Value) (hv : cs[0]? = some v) :
    Calls Tryz.prog 141 #[.string s, .pointer (some ⟨pb, 0, none⟩)] w fun e w' => e = .returned (.tuple #[]) ∧ w' = w.setCell ⟨pk, 0, none⟩ (.string s) := by
  have p0 := hb.cell 0
  have q0 := hp.cell 0
  have f0 := hp.free 0
  rw [hv] at q0
  simp at p0
  clear hb hp hv
  go_enter Tryz.func141, Tryz.ntmps141
  go_wp2_with fail
  go_end0
  exact ⟨rfl, rfl⟩
theorem enter_put1 : ∀ args w, (callFunc 141 args).run Tryz.prog w = .ok (.enter 141 args) w := enters_of Tryz.func141 (by kernel_rfl) rfl
set_option maxHeartbeats 4000000 in
set_option maxRecDepth 100000 in
theorem textEnd1_any (ub pb pk : Nat) (cs : Array Value) (s : ByteArray) (w : World) (hu : Blk w ub 143 #[putV 141 pb]) (hb : Blk w pb 119 #[.pointer (some ⟨pk, 0, none⟩)]) (hp : Blk w pk 42 cs) (v : Value) (hv : cs[0]? = some v) :
    Calls Tryz.prog 193 #[.string s, .pointer (some ⟨ub, 0, none⟩)] w fun e w' => e = .returned (.int .i64 0) ∧ w' = w.setCell ⟨pk, 0, none⟩ (.string s) := by
  have C := Lib.hid (put1_any pb pk cs s w hb hp v hv)
  have ef := enter_put1
  have u0 := hu.cell 0
  unfold putV at u0
  simp at u0
  clear hu hb hp hv
  go_enter Tryz.func193, Tryz.ntmps193
  go_wp2_with fail
  refine C.out.mono ?_
  rintro e w' ⟨rfl, rfl⟩
  clear C
  go_wp2_with fail
  go_ret
  exact ⟨rfl, rfl⟩
set_option maxHeartbeats 4000000 in
set_option maxRecDepth 100000 in
theorem put2_any (pb pk : Nat) (cs : Array Value) (s : ByteArray) (w : World) (hb : Blk w pb 119 #[.pointer (some ⟨pk, 0, none⟩)]) (hp : Blk w pk 42 cs) (v : Value) (hv : cs[2]? = some v) :
    Calls Tryz.prog 142 #[.string s, .pointer (some ⟨pb, 0, none⟩)] w fun e w' => e = .returned (.tuple #[]) ∧ w' = w.setCell ⟨pk, 2, none⟩ (.string s) := by
  have p0 := hb.cell 0
  have q0 := hp.cell 2
  have f0 := hp.free 2
  rw [hv] at q0
  simp at p0
  clear hb hp hv
  go_enter Tryz.func142, Tryz.ntmps142
  go_wp2_with fail
  go_end0
  exact ⟨rfl, rfl⟩
theorem enter_put2 : ∀ args w, (callFunc 142 args).run Tryz.prog w = .ok (.enter 142 args) w := enters_of Tryz.func142 (by kernel_rfl) rfl
set_option maxHeartbeats 4000000 in
set_option maxRecDepth 100000 in
theorem textEnd2_any (ub pb pk : Nat) (cs : Array Value) (s : ByteArray) (w : World) (hu : Blk w ub 143 #[putV 142 pb]) (hb : Blk w pb 119 #[.pointer (some ⟨pk, 0, none⟩)]) (hp : Blk w pk 42 cs) (v : Value) (hv : cs[2]? = some v) :
    Calls Tryz.prog 193 #[.string s, .pointer (some ⟨ub, 0, none⟩)] w fun e w' => e = .returned (.int .i64 0) ∧ w' = w.setCell ⟨pk, 2, none⟩ (.string s) := by
  have C := Lib.hid (put2_any pb pk cs s w hb hp v hv)
  have ef := enter_put2
  have u0 := hu.cell 0
  unfold putV at u0
  simp at u0
  clear hu hb hp hv
  go_enter Tryz.func193, Tryz.ntmps193
  go_wp2_with fail
  refine C.out.mono ?_
  rintro e w' ⟨rfl, rfl⟩
  clear C
  go_wp2_with fail
  go_ret
  exact ⟨rfl, rfl⟩
end Go.Proofs.YtljldbdjkjllhaaGreatDoor

/- The start of a version. -/
namespace Go.Proofs.YtljldbdjkjllhaaGreatDoor
set_option linter.unusedSimpArgs false
set_option linter.unusedVariables false
open Go.RowKit

set_option maxHeartbeats 8000000 in
set_option maxRecDepth 100000 in
theorem verAt_any (pb pk : Nat) (cs : Array Value) (pc : Pc) (A : Option Addr) (c : Nat) (w : World) (hA : AlR w A pc.attrs) (hl : pc.attrs.length ≤ c) (hc : c ≤ maxLen) (hz : ∀ nm, (attrX nm pc.attrs []).length ≤ 100000) (hb : Blk w pb 119 #[.pointer (some ⟨pk, 0, none⟩)]) (hp : Blk w pk 42 cs) (v : Value) (hv : cs[1]? = some v) :
    Calls Tryz.prog 143 #[.agg #[.int .i64 pc.kind, .string (mkS pc.name), .slice A pc.attrs.length c, .string (mkS pc.text)], .pointer (some ⟨pb, 0, none⟩)] w fun e w' => e = .returned (.tuple #[.agg #[.map none, .nilFunc], .int .i64 0]) ∧ Turned [pk] w w' ∧ Blk w' pk 42 (cs.setIfInBounds 1 (.string (mkS (verX pc.attrs)))) := by
  have hst := fun (a : Addr) (m : _) (w : World) => run_store Tryz.prog w a .nilFunc m rfl
  obtain ⟨w1, hw1⟩ : ∃ w1, w1 = (w.alloc (.cells #[.int .i64 pc.kind, .string (mkS pc.name), .slice A pc.attrs.length c, .string (mkS pc.text)] 68)).alloc (.cells #[.map none, .nilFunc] 63) := ⟨_, rfl⟩
  have K1 : Hid (Blk w1 w.heap.size 68 #[.int .i64 pc.kind, .string (mkS pc.name), .slice A pc.attrs.length c, .string (mkS pc.text)]) := by rw [hw1]; exact (Blk.new _ _ _).alloc _
  have E1 : Hid (Blk w1 (w.heap.size + 1) 63 #[.map none, .nilFunc]) := by rw [hw1]; exact Blk.new' (by simp)
  have HB1 : Hid (Below w.heap.size w w1) := by rw [hw1]; exact ((Below.refl _ _).alloc (Nat.le_refl _) _).alloc (by simp) _
  have CV := Lib.hid (version_val pc A c w1.drew ((hA.below HB1.out).below (Below.refl _ w1).drew) hl hc hz)
  have P1 := Lib.hid (Blk.mono hb HB1.out)
  have Q1 := Lib.hid (Blk.mono hp HB1.out)
  have HQ := Lib.hid hp
  have HV := Lib.hid hv
  have l0 := K1.out.cell 0
  have l1 := K1.out.cell 1
  have l2 := K1.out.cell 2
  have l3 := K1.out.cell 3
  have p0 := P1.out.cell 0
  simp at l0 l1 l2 l3 p0
  have hne : pk ≠ w.heap.size + 1 := by have := hp.lt; omega
  clear hA hz hb hp hv
  generalize verX pc.attrs = X at *
  go_enter Tryz.func143, Tryz.ntmps143
  go_upto_region 1 with fail
  rw [← hw1]
  clear hw1
  go_region_with (go_at_call 144; refine CV.out.mono ?_; rintro e w2 ⟨rfl, hb2'⟩; have hb2 : Below w1.heap.size w1 w2 := (Below.refl w1.heap.size w1).drew.trans hb2'; have HB2 := Lib.hid hb2; have q2 := Blk.mono Q1.out hb2; have k0 := q2.cell 1; rw [HV.out] at k0; have f0 := q2.free 1; have p2 := (Blk.mono P1.out hb2).cell 0; simp at p2; clear hb2 hb2' q2)
  all_goals
    have E3 := Lib.hid ((Blk.mono E1.out HB2.out).far (p := ⟨pk, 1, none⟩) (fun e => hne e.symm) (.string (mkS X)))
    have Q3 := Lib.hid ((Blk.mono Q1.out HB2.out).set_ 1 (.string (mkS X)))
    have hT : Turned [pk] w (w2.setCell ⟨pk, 1, none⟩ (.string (mkS X))) := (Turned.of_below (HB1.out.trans (HB2.out.mono HB1.out.size)) [pk]).setCell (.inl (by simp)) _
    have HT := Lib.hid hT
    have hlt := HB1.out.size
    have hlt2 := HB2.out.size
    have hsz : (w2.setCell ⟨pk, 1, none⟩ (.string (mkS X))).heap.size = w2.heap.size := by simp [World.setCell]
    clear hT k0 f0 p2 p0 l0 l1 l2 l3 CV P1 Q1 K1 HQ HV
    generalize w2.setCell ⟨pk, 1, none⟩ (.string (mkS X)) = w3 at *
    have k0 := E3.out.cell 0
    have k1 := E3.out.cell 1
    have f0 := E3.out.free 0
    have f1 := E3.out.free 1
    simp at k0 k1
    have HK := Lib.hid (el_load ((E3.out.set_ 0 (.map none)).set_ 1 .nilFunc))
    have HR : Hid (Turned [pk] w ((w3.setCell ⟨w.heap.size + 1, 0, none⟩ (.map none)).setCell ⟨w.heap.size + 1, 1, none⟩ .nilFunc) ∧ Blk ((w3.setCell ⟨w.heap.size + 1, 0, none⟩ (.map none)).setCell ⟨w.heap.size + 1, 1, none⟩ .nilFunc) pk 42 (cs.setIfInBounds 1 (.string (mkS X)))) :=
      ⟨(HT.out.setCell (.inr (by simp)) _).setCell (.inr (by simp)) _, (Q3.out.far (p := ⟨w.heap.size + 1, 0, none⟩) hne _).far (p := ⟨w.heap.size + 1, 1, none⟩) hne _⟩
    clear Q3 HT HB2 HB1 E1
    go_wp2_with fail
    refine bodyPost_ret (v := .tuple #[.agg #[.map none, .nilFunc], .int .i64 0]) ?_ rfl ⟨rfl, HR.out⟩
    refine (results_ct (t := 3) (u := 4) rfl _ (ad := ⟨w.heap.size + 1, 0, none⟩) rfl HK.out).trans ?_
    rfl
end Go.Proofs.YtljldbdjkjllhaaGreatDoor
