/- Maps of functions, known whole. strings.ContainsFunc of closures that allocate. Whether one of a list's things is so: slices.IndexFunc and slices.ContainsFunc at texts and dependencies. Which texts an architecture, a vendor, a file may be; which dependencies a package may have. -/
import Derived.Test.YtdhgiammfpjniaaGreatDoorZaaa
import Derived.MapKept
import Derived.Shelf.Strings.FuncGrows
import Derived.Test.YtdhgiammfpjniaaGreatDoorZaac
import Derived.Test.YtdhgiammfpjniaaGreatDoorZaal
import Derived.Test.YtdhgiammfpjniaaGreatDoorZaah
/- Maps of functions, known whole. -/
namespace Go.Proofs.YtdhgiammfpjniaaGreatDoor
set_option linter.unusedSimpArgs false
set_option linter.unusedVariables false
open Go.RowKit Go.MapKept

def mapEs : List (ByteArray × Value) → Nat → List MapEntry
  | [], _ => []
  | (k, v) :: r, i => ⟨.string k, v, i⟩ :: mapEs r (i + 1)
def mapO (l : List (ByteArray × Value)) : Obj := .map (mapEs l 0).toArray l.length
def lookO (k : ByteArray) : List (ByteArray × Value) → Option Value
  | [] => none
  | (a, v) :: r => if k = a then some v else lookO k r
theorem mapEs_snoc (k : ByteArray) (v : Value) : ∀ (l : List (ByteArray × Value)) (i : Nat), mapEs (l ++ [(k, v)]) i = mapEs l i ++ [⟨.string k, v, i + l.length⟩]
  | [], i => rfl
  | (a, u) :: r, i => by
    show (⟨.string a, u, i⟩ : MapEntry) :: mapEs (r ++ [(k, v)]) (i + 1) = _
    rw [mapEs_snoc k v r (i + 1)]
    show _ = (⟨.string a, u, i⟩ : MapEntry) :: (mapEs r (i + 1) ++ [⟨.string k, v, i + (r.length + 1)⟩])
    rw [show i + 1 + r.length = i + (r.length + 1) from by omega]
theorem same_str (a b : ByteArray) : Instr.sameNow .string (.string a) (.string b) = some (decide (a = b)) := by
  show some (a == b) = _
  congr 1
  rw [Bool.eq_iff_iff, bytes_beq]
  simp
theorem find_es (k : ByteArray) : ∀ (l : List (ByteArray × Value)) (i j : Nat), (lookO k l = none ∧ Instr.findNow .string (.string k) (mapEs l i) j = some none) ∨ ∃ p v, lookO k l = some v ∧ Instr.findNow .string (.string k) (mapEs l i) j = some (some (p, v))
  | [], i, j => .inl ⟨rfl, rfl⟩
  | (a, v) :: r, i, j => by
    unfold mapEs Instr.findNow lookO
    rw [same_str]
    by_cases h : k = a
    · rw [decide_eq_true h, if_pos h]
      exact .inr ⟨j, v, rfl, rfl⟩
    · rw [decide_eq_false h, if_neg h]
      exact find_es k r (i + 1) (j + 1)
section
variable {P : Program} {w : World} {mty kt et : TypeId} {m : Nat} {l : List (ByteArray × Value)} {k : ByteArray} {v : Value}
theorem run_look (hm : P.underlying mty = some (.map kt et)) (hd : P.underlying kt = some .string) (hz : ∀ w, (zeroValue et).run P w = .ok .nilFunc w) (hb : w.heap[m]? = some (mapO l)) :
    (Instr.lookup mty (.map (some m)) (.string k) false).run P w = .ok ((lookO k l).getD .nilFunc) w := by
  have hk : IsKey .string (.string k) := by simp [IsKey]
  unfold mapO at hb
  rcases find_es k l 0 0 with ⟨h1, h2⟩ | ⟨p, u, h1, h2⟩
  · rw [h1]
    simp [Instr.lookup, run_underlying hm, Go.MapKept.run_getObj_map hb, run_checkKey hd hk, run_findKey hd h2, hz, Result.andThen]
  · rw [h1]
    simp [Instr.lookup, run_underlying hm, Go.MapKept.run_getObj_map hb, run_checkKey hd hk, run_findKey hd h2, Result.andThen]
theorem run_put (hm : P.underlying mty = some (.map kt et)) (hd : P.underlying kt = some .string) (hb : w.heap[m]? = some (mapO l)) (hn : lookO k l = none) :
    ∃ w', (Instr.mapUpdate mty (.map (some m)) (.string k) v).run P w = .ok () w' ∧ w'.heap[m]? = some (mapO (l ++ [(k, v)])) ∧ Turned [m] w w' := by
  have hk : IsKey .string (.string k) := by simp [IsKey]
  have hb' := hb
  unfold mapO at hb
  rcases find_es k l 0 0 with ⟨h1, h2⟩ | ⟨p, u, h1, h2⟩
  rotate_left
  · rw [hn] at h1; cases h1
  refine ⟨{ w with heap := w.heap.setIfInBounds m (mapO (l ++ [(k, v)])) }, ?_, (heap_set hb').1, ⟨rfl, rfl, rfl, by simp, fun j hj hjm => (heap_set hb').2 j (fun e => hjm (by simp [e]))⟩⟩
  have he : mapO (l ++ [(k, v)]) = .map ((mapEs l 0).toArray.push ⟨.string k, v, l.length⟩) (l.length + 1) := by
    unfold mapO
    rw [mapEs_snoc]
    simp
  rw [he]
  simp [Instr.mapUpdate, run_underlying hm, Go.MapKept.run_getObj_map hb, run_checkKey hd hk, run_findKey hd h2, run_setObj_map _ hb, Result.andThen]
end
theorem wpList_insert_map {P : Program} (w : World) {ops : Array Oper} {rest : List Oper} {o : Oper} {a : Act} {Q : Exit → Act → World → Prop}
    (hg : o.guard = none) (m x v : Operand) (t : TypeId) (hop : o.op = Op.insert t m x v)
    (kt et : TypeId) (ht : P.underlying t = some (.map kt et)) (hd : P.underlying kt = some .string) (b : Nat) (l : List (ByteArray × Value)) (hm : a.eval m = .map (some b)) (hb : w.heap[b]? = some (mapO l))
    (key : ByteArray) (val : Value) (hx : a.eval x = .string key) (hv : a.eval v = val) (hn : lookO key l = none)
    (hK : ∀ w', w'.heap[b]? = some (mapO (l ++ [(key, val)])) → Turned [b] w w' → wpList P ops Q rest (a.put o.dst undef) w') :
    wpList P ops Q (o :: rest) a w := by
  refine wpList_plain hg fun K' hK' => ?_
  obtain ⟨w', hrun, r1, r2⟩ := run_put (v := val) ht hd hb hn
  unfold Oper.wp
  simp [execOp, hop, hm, hx, hv, hrun, Result.andThen]
  exact hK' _ _ (hK w' r1 r2)
theorem map_new (w : World) : (w.alloc (.map #[] 0)).heap[w.heap.size]? = some (mapO []) := (heap_alloc w _).1
theorem map_turned' {w w' : World} {F : List Nat} {m : Nat} {l : List (ByteArray × Value)} (h : w.heap[m]? = some (mapO l)) (ht : Turned F w w') (hF : m ∉ F) : w'.heap[m]? = some (mapO l) := by
  rw [ht.block m (Array.getElem?_eq_some_iff.1 h).1 hF]; exact h
theorem map_below {w w' : World} {m : Nat} {l : List (ByteArray × Value)} (h : w.heap[m]? = some (mapO l)) (hb : Below w.heap.size w w') : w'.heap[m]? = some (mapO l) := map_turned' h (Turned.of_below hb []) (fun hk => by cases hk)
theorem map_not_blk {w : World} {m g : Nat} {l : List (ByteArray × Value)} {t : TypeId} {cs : Array Value} (h : w.heap[m]? = some (mapO l)) (hb : Blk w g t cs) : m ≠ g := fun e => by
  subst e
  have h1 : some (mapO l) = some (Obj.cells cs t (0, 0)) := h.symm.trans hb
  cases h1
end Go.Proofs.YtdhgiammfpjniaaGreatDoor

/- strings.ContainsFunc of closures that allocate. -/
namespace Go.Proofs.YtdhgiammfpjniaaGreatDoor
open Go.Shelf
open Go.RowKit Go.Lib in
theorem Tryz.strings_ContainsFunc_grows (g : Nat) (lb : Array Value) (eg : ∀ args w, (callFunc g args).run Tryz.prog w = .ok (.enter g args) w) (p : Nat → Bool) (s : ByteArray) (w : World) (hp : PredGrows Tryz.prog g lb p w) :
    Calls Tryz.prog 122 #[.string s, .func (.func g) #[] lb] w fun e w' => e = .returned (.bool (decide (0 ≤ Lib.idxFunc p true s))) ∧ Below w.heap.size w w' := Any.strings_ContainsFunc_grows Tryz.laysGw17 g lb eg p s w hp
end Go.Proofs.YtdhgiammfpjniaaGreatDoor

/- Whether one of a list's things is so: slices.IndexFunc and slices.ContainsFunc at texts and dependencies. -/
namespace Go.Proofs.YtdhgiammfpjniaaGreatDoor.Ev
set_option linter.unusedSimpArgs false
set_option linter.unusedVariables false
open Go.RowKit

/-- What may be told of a list by asking one after the other. -/
def Anys {α : Type} (l : List α) (G : α → Bool → Prop) (b : Bool) : Prop := (b = true ∧ ∃ a ∈ l, G a true) ∨ (b = false ∧ ∀ a ∈ l, G a false)
theorem Anys.det {α : Type} {l : List α} {G : α → Bool → Prop} {p : α → Bool} {b : Bool} (h : Anys l G b) (hg : ∀ a b, G a b → b = p a) : b = l.any p := by
  rcases h with ⟨rfl, a, ha, h1⟩ | ⟨rfl, h1⟩
  · exact (List.any_eq_true.2 ⟨a, ha, (hg a true h1).symm⟩).symm
  · symm
    rw [List.any_eq_false]
    intro a ha
    rw [← hg a false (h1 a ha)]
    decide
theorem alls_snoc {α : Type} {l : List α} {k : Nat} {a : α} {P : α → Prop} (h : ∀ x ∈ l.take k, P x) (hk : l[k]? = some a) (ha : P a) : ∀ x ∈ l.take (k + 1), P x := by
  rw [List.take_add_one, hk]
  intro x hx
  rcases List.mem_append.1 hx with hx | hx
  · exact h x hx
  · simp at hx; subst hx; exact ha

def IdxPost {α : Type} (l : List α) (G : α → Bool → Prop) (e : Ending) : Prop := ∃ (n : Int) (b : Bool), decide (0 ≤ n) = b ∧ Anys l G b ∧ e = .returned (.int .i64 n)
def BoolPost (R : Bool → Prop) (e : Ending) : Prop := ∃ b, R b ∧ e = .returned (.bool b)
def NumPost (R : Int → Prop) (e : Ending) : Prop := ∃ n, R n ∧ e = .returned (.int .i64 n)
set_option maxHeartbeats 2000000 in
set_option maxRecDepth 100000 in
theorem depIndex_any (f : FuncId) (ef : ∀ args w, (callFunc f args).run Tryz.prog w = .ok (.enter f args) w) (G : Dep → Bool → Prop) (ds : List Dep) (A : Option Addr) (c : Nat) (S : Nat → Prop) (w0 : World) (hA : ArgsAt w0 S ds A) (hl : ds.length ≤ c) (hc : c ≤ maxLen)
    (hp : ∀ d ∈ ds, ∀ (t : Value) (w : World), Below w0.heap.size w0 w → Lay w S d t → Calls Tryz.prog f #[.agg (rowD d t)] w fun e w' => BoolPost (G d) e ∧ Below w.heap.size w w') :
    Calls Tryz.prog 130 #[.slice A ds.length c, .func (.func f) #[] #[]] w0 fun e w' => IdxPost ds G e ∧ Below w0.heap.size w0 w' := by
  unfold maxLen at hc
  rcases Nat.eq_zero_or_pos ds.length with h0 | h0
  · obtain rfl := List.eq_nil_of_length_eq_zero h0
    clear hA h0 hp
    go_enter Tryz.func130, Tryz.ntmps130
    go_wp2_with fail
    go_loop [8] (fun i => i = .int .i64 0) (fun i => 0)
    case atStart => rfl
    case round =>
      subst hrel
      go_wp2_with fail
      go_ret
      exact ⟨⟨-1, false, by decide, .inr ⟨rfl, by simp⟩, rfl⟩, Below.refl _ _⟩
  obtain ⟨b, o, -, rfl, -, -, -⟩ := hA 0 ds[0] (List.getElem?_eq_getElem h0)
  have HA : Hid (∀ (k : Nat) (hk : k < ds.length), ∃ t, S b ∧ CellsD w0 b (o + k * 5) ds[k] t ∧ Lay w0 S ds[k] t) := fun k hk => by
    obtain ⟨b', o', t, e, h1, h2, h3⟩ := hA k ds[k] (List.getElem?_eq_getElem hk)
    injection e with e
    injection e with e1 e2
    subst e1; subst e2
    exact ⟨t, h1, h2, h3⟩
  have HPr := Lib.hid hp
  clear hA hp
  go_enter Tryz.func130, Tryz.ntmps130
  go_wp2_with fail
  go_loopw [8] (fun i wx => ∃ k : Nat, k ≤ ds.length ∧ i = .int .i64 (k : Int) ∧ Hid (∀ a ∈ ds.take k, G a false) ∧ Hid (Below w0.heap.size w0 wx)) (fun i _ => ds.length - (intOf i).toNat)
  case atStart => exact ⟨0, Nat.zero_le _, rfl, show ∀ a ∈ ds.take 0, G a false from by simp, Below.refl _ _⟩
  case round =>
    obtain ⟨k, hk, rfl, hall, hb⟩ := hrel
    by_cases hlt : k < ds.length
    · obtain ⟨t, hS, hC, hL⟩ := HA.out k hlt
      have hC2 := hC.stay (hb.out.block b hC.lt)
      have hL2 := hL.stay (fun _ h => h) (StayS.below' hb.out)
      obtain ⟨c0, c1, c2, c3, c4⟩ := hC2
      have C := Lib.hid (HPr.out ds[k] (List.getElem_mem hlt) t wr hb.out hL2)
      unfold rowD at C
      have hz := hb.out.size
      clear hS hC hL hL2
      go_wp2_with fail
      refine C.out.mono ?_
      rintro e w1 ⟨⟨bb, hg, rfl⟩, hb1⟩
      have HB : Hid (Below w0.heap.size w0 w1) := hb.out.trans (hb1.mono hz)
      clear hb1 hb C c0 c1 c2 c3 c4
      have HG := Lib.hid hg
      clear hg
      cases bb with
      | false =>
        have HN : Hid (∀ a ∈ ds.take (k + 1), G a false) := alls_snoc hall.out (List.getElem?_eq_getElem hlt) HG.out
        clear hall HG
        go_wp2_with fail
        go_roundw
        case rel => exact ⟨k + 1, by omega, by go_num, HN, HB⟩
        case measure => simp [intOf]; omega
      | true =>
        have HN : Hid (Anys ds G true) := .inl ⟨rfl, ds[k], List.getElem_mem hlt, HG.out⟩
        clear hall HG
        go_wp2_with fail
        go_ret
        exact ⟨⟨k, true, by simp, HN.out, rfl⟩, HB.out⟩
    · have HN : Hid (Anys ds G false) := .inr ⟨rfl, by
        have := hall.out
        rwa [List.take_of_length_le (by omega)] at this⟩
      clear hall
      go_wp2_with fail
      go_ret
      exact ⟨⟨-1, false, by decide, HN.out, rfl⟩, hb.out⟩
set_option maxHeartbeats 1000000 in
set_option maxRecDepth 100000 in
theorem depContains_any (f : FuncId) (ef : ∀ args w, (callFunc f args).run Tryz.prog w = .ok (.enter f args) w) (G : Dep → Bool → Prop) (ds : List Dep) (A : Option Addr) (c : Nat) (S : Nat → Prop) (w0 : World) (hA : ArgsAt w0 S ds A) (hl : ds.length ≤ c) (hc : c ≤ maxLen)
    (hp : ∀ d ∈ ds, ∀ (t : Value) (w : World), Below w0.heap.size w0 w → Lay w S d t → Calls Tryz.prog f #[.agg (rowD d t)] w fun e w' => BoolPost (G d) e ∧ Below w.heap.size w w') :
    Calls Tryz.prog 65 #[.slice A ds.length c, .func (.func f) #[] #[]] w0 fun e w' => BoolPost (Anys ds G) e ∧ Below w0.heap.size w0 w' := by
  have C := Lib.hid (depIndex_any f ef G ds A c S w0 hA hl hc hp)
  clear hA hp
  go_enter Tryz.func65, Tryz.ntmps65
  go_wp2_with fail
  refine C.out.mono ?_
  rintro e w1 ⟨⟨n, b, hn, ha, rfl⟩, hb1⟩
  have HB := Lib.hid hb1
  have HN := Lib.hid hn
  have HA := Lib.hid ha
  clear hb1 hn C ha
  go_wp2_with fail
  go_ret
  exact ⟨⟨b, HA.out, ret_bool HN.out⟩, HB.out⟩

/-- Texts in a row: each in a block of T. -/
def TextsAt (w : World) (T : Nat → Prop) (fl : List ByteArray) (A : Option Addr) : Prop := ∀ k s, fl[k]? = some s → ∃ b o, A = some ⟨b, o, none⟩ ∧ T b ∧ w.cell? ⟨b, o + k, none⟩ = some (.string s)
theorem TextsAt.stay {w w' : World} {T T' : Nat → Prop} {fl : List ByteArray} {A : Option Addr} (h : TextsAt w T fl A) (hT : ∀ b, T b → T' b) (hw : ∀ b, T b → b < w.heap.size → w'.heap[b]? = w.heap[b]?) : TextsAt w' T' fl A := fun k s hk => by
  obtain ⟨b, o, e, h1, h2⟩ := h k s hk
  exact ⟨b, o, e, hT b h1, (World.cell?_of_block (hw b h1 (cell_lt h2))).trans h2⟩
theorem TextsAt.below {w w' : World} {T : Nat → Prop} {fl : List ByteArray} {A : Option Addr} (h : TextsAt w T fl A) (hb : Below w.heap.size w w') : TextsAt w' T fl A := h.stay (fun _ h => h) (fun b _ hl => hb.block b hl)

set_option maxHeartbeats 2000000 in
set_option maxRecDepth 100000 in
theorem strIndex_any (f : FuncId) (ef : ∀ args w, (callFunc f args).run Tryz.prog w = .ok (.enter f args) w) (G : ByteArray → Bool → Prop) (ds : List ByteArray) (A : Option Addr) (c : Nat) (T : Nat → Prop) (w0 : World) (hA : TextsAt w0 T ds A) (hl : ds.length ≤ c) (hc : c ≤ maxLen)
    (hp : ∀ d ∈ ds, ∀ (w : World), Below w0.heap.size w0 w → Calls Tryz.prog f #[.string d] w fun e w' => BoolPost (G d) e ∧ Below w.heap.size w w') :
    Calls Tryz.prog 128 #[.slice A ds.length c, .func (.func f) #[] #[]] w0 fun e w' => IdxPost ds G e ∧ Below w0.heap.size w0 w' := by
  unfold maxLen at hc
  rcases Nat.eq_zero_or_pos ds.length with h0 | h0
  · obtain rfl := List.eq_nil_of_length_eq_zero h0
    clear hA h0 hp
    go_enter Tryz.func128, Tryz.ntmps128
    go_wp2_with fail
    go_loop [8] (fun i => i = .int .i64 0) (fun i => 0)
    case atStart => rfl
    case round =>
      subst hrel
      go_wp2_with fail
      go_ret
      exact ⟨⟨-1, false, by decide, .inr ⟨rfl, by simp⟩, rfl⟩, Below.refl _ _⟩
  obtain ⟨b, o, rfl, -, -⟩ := hA 0 ds[0] (List.getElem?_eq_getElem h0)
  have HA : Hid (∀ (k : Nat) (hk : k < ds.length), w0.cell? ⟨b, o + k, none⟩ = some (.string ds[k])) := fun k hk => by
    obtain ⟨b', o', e, h1, h2⟩ := hA k ds[k] (List.getElem?_eq_getElem hk)
    injection e with e
    injection e with e1 e2
    subst e1; subst e2
    exact h2
  have HPr := Lib.hid hp
  clear hA hp
  go_enter Tryz.func128, Tryz.ntmps128
  go_wp2_with fail
  go_loopw [8] (fun i wx => ∃ k : Nat, k ≤ ds.length ∧ i = .int .i64 (k : Int) ∧ Hid (∀ a ∈ ds.take k, G a false) ∧ Hid (Below w0.heap.size w0 wx)) (fun i _ => ds.length - (intOf i).toNat)
  case atStart => exact ⟨0, Nat.zero_le _, rfl, show ∀ a ∈ ds.take 0, G a false from by simp, Below.refl _ _⟩
  case round =>
    obtain ⟨k, hk, rfl, hall, hb⟩ := hrel
    by_cases hlt : k < ds.length
    · have hC := HA.out k hlt
      have c0 := (World.cell?_of_block (hb.out.block b (cell_lt hC))).trans hC
      have C := Lib.hid (HPr.out ds[k] (List.getElem_mem hlt) wr hb.out)
      have hz := hb.out.size
      clear hC
      go_wp2_with fail
      refine C.out.mono ?_
      rintro e w1 ⟨⟨bb, hg, rfl⟩, hb1⟩
      have HB : Hid (Below w0.heap.size w0 w1) := hb.out.trans (hb1.mono hz)
      clear hb1 hb C c0
      have HG := Lib.hid hg
      clear hg
      cases bb with
      | false =>
        have HN : Hid (∀ a ∈ ds.take (k + 1), G a false) := alls_snoc hall.out (List.getElem?_eq_getElem hlt) HG.out
        clear hall HG
        go_wp2_with fail
        go_roundw
        case rel => exact ⟨k + 1, by omega, by go_num, HN, HB⟩
        case measure => simp [intOf]; omega
      | true =>
        have HN : Hid (Anys ds G true) := .inl ⟨rfl, ds[k], List.getElem_mem hlt, HG.out⟩
        clear hall HG
        go_wp2_with fail
        go_ret
        exact ⟨⟨k, true, by simp, HN.out, rfl⟩, HB.out⟩
    · have HN : Hid (Anys ds G false) := .inr ⟨rfl, by
        have := hall.out
        rwa [List.take_of_length_le (by omega)] at this⟩
      clear hall
      go_wp2_with fail
      go_ret
      exact ⟨⟨-1, false, by decide, HN.out, rfl⟩, hb.out⟩
set_option maxHeartbeats 1000000 in
set_option maxRecDepth 100000 in
theorem strContains_any (f : FuncId) (ef : ∀ args w, (callFunc f args).run Tryz.prog w = .ok (.enter f args) w) (G : ByteArray → Bool → Prop) (ds : List ByteArray) (A : Option Addr) (c : Nat) (T : Nat → Prop) (w0 : World) (hA : TextsAt w0 T ds A) (hl : ds.length ≤ c) (hc : c ≤ maxLen)
    (hp : ∀ d ∈ ds, ∀ (w : World), Below w0.heap.size w0 w → Calls Tryz.prog f #[.string d] w fun e w' => BoolPost (G d) e ∧ Below w.heap.size w w') :
    Calls Tryz.prog 62 #[.slice A ds.length c, .func (.func f) #[] #[]] w0 fun e w' => BoolPost (Anys ds G) e ∧ Below w0.heap.size w0 w' := by
  have C := Lib.hid (strIndex_any f ef G ds A c T w0 hA hl hc hp)
  clear hA hp
  go_enter Tryz.func62, Tryz.ntmps62
  go_wp2_with fail
  refine C.out.mono ?_
  rintro e w1 ⟨⟨n, b, hn, ha, rfl⟩, hb1⟩
  have HB := Lib.hid hb1
  have HN := Lib.hid hn
  have HA := Lib.hid ha
  clear hb1 hn C ha
  go_wp2_with fail
  go_ret
  exact ⟨⟨b, HA.out, ret_bool HN.out⟩, HB.out⟩
end Go.Proofs.YtdhgiammfpjniaaGreatDoor.Ev

/- Which texts an architecture, a vendor, a file may be; which dependencies a package may have. -/
namespace Go.Proofs.YtdhgiammfpjniaaGreatDoor.Ev
set_option linter.unusedSimpArgs false
set_option linter.unusedVariables false
open Go.RowKit

def archOther (x : Nat) : Bool := (decide (x < 97) || decide (122 < x)) && (decide (x < 48) || decide (57 < x)) && !decide (x = 95)
def vendorOther (x : Nat) : Bool := decide (x < 32) || decide (126 < x)
set_option maxRecDepth 100000 in
theorem archOther_any (x : Nat) (hx : x ≤ 1114111) (w : World) : Calls Tryz.prog 121 #[.int .i32 (x : Int)] w fun e w' => e = .returned (.bool (archOther x)) ∧ w = w' := by
  obtain ⟨y, hy⟩ : ∃ y, y = archOther x := ⟨_, rfl⟩
  rw [← hy]
  have h := Lib.hid hy
  clear hy
  go_enter Tryz.func121, Tryz.ntmps121
  go_wp2_with fail
  all_goals
    go_ret
    refine ⟨ret_bool ?_, rfl⟩
    rw [h.out, Bool.eq_iff_iff]
    simp [archOther] <;> omega
set_option maxRecDepth 100000 in
theorem vendorOther_any (x : Nat) (hx : x ≤ 1114111) (w : World) : Calls Tryz.prog 123 #[.int .i32 (x : Int)] w fun e w' => e = .returned (.bool (vendorOther x)) ∧ w = w' := by
  obtain ⟨y, hy⟩ : ∃ y, y = vendorOther x := ⟨_, rfl⟩
  rw [← hy]
  have h := Lib.hid hy
  clear hy
  go_enter Tryz.func123, Tryz.ntmps123
  go_wp2_with fail
  all_goals
    go_ret
    refine ⟨ret_bool ?_, rfl⟩
    rw [h.out, Bool.eq_iff_iff]
    simp [vendorOther] <;> omega
/-- Has a text a rune of a kind? -/
def hasRune (p : Nat → Bool) (s : ByteArray) : Bool := decide (0 ≤ Lib.idxFunc p true s)
def archB (s : ByteArray) : Bool := decide (s.size ≠ 0) && decide (s.size ≤ 20) && !hasRune archOther s
def vendorB (s : ByteArray) : Bool := decide (s.size ≤ 60) && !hasRune vendorOther s
set_option maxHeartbeats 1000000 in
set_option maxRecDepth 100000 in
theorem isArch_any (s : ByteArray) (w : World) : Calls Tryz.prog 59 #[.string s] w fun e w' => e = .returned (.bool (archB s)) ∧ Below w.heap.size w w' := by
  have C0 : ∀ W, Calls Tryz.prog 122 #[.string s, .func (.func 121) #[] #[]] W fun e w' => e = .returned (.bool (hasRune archOther s)) ∧ Below W.heap.size W w' := fun W =>
    Tryz.strings_ContainsFunc_grows 121 #[] (enters_of Tryz.func121 (by kernel_rfl) rfl) archOther s W (fun W' x hx _ => (archOther_any x hx W').mono fun e w' h => ⟨h.1, by rw [← h.2]; exact Below.refl _ _⟩)
  have C := Lib.hid C0
  clear C0
  obtain ⟨x, hx⟩ : ∃ x, x = archB s := ⟨_, rfl⟩
  rw [← hx]
  have HX := Lib.hid hx
  clear hx
  by_cases h0 : s.size = 0
  · have HV : Hid (x = false) := HX.out.trans (by simp [archB, h0])
    obtain rfl := empty_of h0
    clear HX h0 C
    go_enter Tryz.func59, Tryz.ntmps59
    go_wp2_with fail
    go_ret
    exact ⟨by rw [HV.out]; rfl, Below.refl _ _⟩
  obtain ⟨b1, b2, b3⟩ := blank_of h0
  by_cases h20 : s.size ≤ 20
  · have HV : Hid (x = !hasRune archOther s) := HX.out.trans (by simp [archB, h0, h20])
    have t20 : (s.size : Int) ≤ 20 := by omega
    clear HX
    generalize hasRune archOther s = y at C HV
    go_enter Tryz.func59, Tryz.ntmps59
    go_wp2_with fail
    refine (C.out _).mono ?_
    rintro e w1 ⟨rfl, hb1⟩
    have HB := Lib.hid hb1
    clear hb1 C
    go_wp2_with fail
    go_ret
    exact ⟨by rw [HV.out]; rfl, HB.out⟩
  · have HV : Hid (x = false) := HX.out.trans (by simp [archB, h20])
    have t20 : ¬ (s.size : Int) ≤ 20 := by omega
    clear HX C
    go_enter Tryz.func59, Tryz.ntmps59
    go_wp2_with fail
    go_ret
    exact ⟨by rw [HV.out]; rfl, Below.refl _ _⟩
set_option maxHeartbeats 1000000 in
set_option maxRecDepth 100000 in
theorem isVendor_any (s : ByteArray) (w : World) : Calls Tryz.prog 60 #[.string s] w fun e w' => e = .returned (.bool (vendorB s)) ∧ Below w.heap.size w w' := by
  have C0 : ∀ W, Calls Tryz.prog 122 #[.string s, .func (.func 123) #[] #[]] W fun e w' => e = .returned (.bool (hasRune vendorOther s)) ∧ Below W.heap.size W w' := fun W =>
    Tryz.strings_ContainsFunc_grows 123 #[] (enters_of Tryz.func123 (by kernel_rfl) rfl) vendorOther s W (fun W' x hx _ => (vendorOther_any x hx W').mono fun e w' h => ⟨h.1, by rw [← h.2]; exact Below.refl _ _⟩)
  have C := Lib.hid C0
  clear C0
  obtain ⟨x, hx⟩ : ∃ x, x = vendorB s := ⟨_, rfl⟩
  rw [← hx]
  have HX := Lib.hid hx
  clear hx
  by_cases h20 : s.size ≤ 60
  · have HV : Hid (x = !hasRune vendorOther s) := HX.out.trans (by simp [vendorB, h20])
    have t20 : (s.size : Int) ≤ 60 := by omega
    clear HX
    generalize hasRune vendorOther s = y at C HV
    go_enter Tryz.func60, Tryz.ntmps60
    go_wp2_with fail
    refine (C.out _).mono ?_
    rintro e w1 ⟨rfl, hb1⟩
    have HB := Lib.hid hb1
    clear hb1 C
    go_wp2_with fail
    go_ret
    exact ⟨by rw [HV.out]; rfl, HB.out⟩
  · have HV : Hid (x = false) := HX.out.trans (by simp [vendorB, h20])
    have t20 : ¬ (s.size : Int) ≤ 60 := by omega
    clear HX C
    go_enter Tryz.func60, Tryz.ntmps60
    go_wp2_with fail
    go_ret
    exact ⟨by rw [HV.out]; rfl, Below.refl _ _⟩
/-- May a text be no file's? -/
def noFile (s : ByteArray) : Bool := !Lib.hasPrefix s.data.toList [47] || !nameB s.data.toList
set_option maxHeartbeats 1000000 in
set_option maxRecDepth 100000 in
theorem isNoFile_any (s : ByteArray) (w : World) (hT : Tabs w) : Calls Tryz.prog 63 #[.string s] w fun e w' => e = .returned (.bool (noFile s)) ∧ Below w.heap.size w w' := by
  have CP := Lib.hid (Tryz.strings_HasPrefix s ⟨#[47]⟩ w)
  have CN := Lib.hid (name_any s w hT)
  clear hT
  obtain ⟨x, hx⟩ : ∃ x, x = noFile s := ⟨_, rfl⟩
  rw [← hx]
  have HX := Lib.hid hx
  clear hx
  unfold noFile at HX
  go_enter Tryz.func63, Tryz.ntmps63
  go_wp2_with fail
  refine CP.out.mono ?_
  rintro e w1 ⟨rfl, rfl⟩
  cases hp : Lib.hasPrefix s.data.toList [47] with
  | false =>
    have HV : Hid (x = true) := HX.out.trans (by rw [hp]; rfl)
    clear HX hp CP CN
    go_wp2_with fail
    go_ret
    exact ⟨by rw [HV.out]; rfl, Below.refl _ _⟩
  | true =>
    have HV : Hid (x = !nameB s.data.toList) := HX.out.trans (by rw [hp]; rfl)
    clear HX hp CP
    generalize nameB s.data.toList = y at CN HV
    go_wp2_with fail
    refine CN.out.mono ?_
    rintro e w2 ⟨rfl, hb⟩
    have HB := Lib.hid hb
    clear hb CN
    go_wp2_with fail
    go_ret
    exact ⟨by rw [HV.out]; rfl, HB.out⟩
set_option maxHeartbeats 1000000 in
set_option maxRecDepth 100000 in
theorem isNoName_any (d : Dep) (t : Value) (w : World) : Calls Tryz.prog 127 #[.agg (rowD d t)] w fun e w' => e = .returned (.bool (!decide (d.kind = 1))) ∧ Below w.heap.size w w' := by
  have HB : Hid (Below w.heap.size w (w.alloc (.cells (rowD d t) 39))) := (Below.refl _ _).alloc (Nat.le_refl _) _
  unfold rowD at HB ⊢
  go_enter Tryz.func127, Tryz.ntmps127
  go_wp2_with fail
  go_ret
  refine ⟨ret_bool ?_, HB.out⟩
  rw [Bool.eq_iff_iff]; simp
def noOffer (d : Dep) : Bool := !decide (d.kind = 1) || !decide (d.op = 0) && !decide (d.op = 2)
set_option maxHeartbeats 1000000 in
set_option maxRecDepth 100000 in
theorem isNoOffer_any (d : Dep) (t : Value) (w : World) : Calls Tryz.prog 126 #[.agg (rowD d t)] w fun e w' => e = .returned (.bool (noOffer d)) ∧ Below w.heap.size w w' := by
  have HB : Hid (Below w.heap.size w (w.alloc (.cells (rowD d t) 39))) := (Below.refl _ _).alloc (Nat.le_refl _) _
  have C := Lib.hid (isNoName_any d t (w.alloc (.cells (rowD d t) 39)))
  have K := Lib.hid (Blk.new w 39 (rowD d t))
  obtain ⟨x, hx⟩ : ∃ x, x = noOffer d := ⟨_, rfl⟩
  rw [← hx]
  have HX := Lib.hid hx
  clear hx
  unfold noOffer at HX
  unfold rowD at HB C K ⊢
  go_enter Tryz.func126, Tryz.ntmps126
  go_wp2_with fail
  refine C.out.mono ?_
  rintro e w1 ⟨rfl, hb1⟩
  have HB1 : Hid (Below w.heap.size w w1) := HB.out.trans (hb1.mono (by simp))
  have K1 := K.out.below hb1 (by simp)
  have k2 := K1.cell 2
  simp at k2
  clear hb1 C HB K K1
  by_cases hk : d.kind = 1
  · rw [decide_eq_true hk]
    by_cases h0 : d.op = 0
    · have HV : Hid (x = false) := HX.out.trans (by simp [hk, h0])
      have t0 : (d.op == 0) = true := by simp [h0]
      have t0' : (d.op != 0) = false := by simp [h0]
      clear hk h0 HX
      go_wp2_with fail
      go_ret
      exact ⟨by rw [HV.out]; rfl, HB1.out⟩
    · by_cases h2 : d.op = 2
      · have HV : Hid (x = false) := HX.out.trans (by simp [hk, h2])
        have t0' : (d.op != 0) = true := by simp [h0]
        have t2' : (d.op != 2) = false := by simp [h2]
        clear hk h0 h2 HX
        go_wp2_with fail
        go_ret
        exact ⟨by rw [HV.out]; rfl, HB1.out⟩
      · have HV : Hid (x = true) := HX.out.trans (by simp [hk, h0, h2])
        have t0' : (d.op != 0) = true := by simp [h0]
        have t2' : (d.op != 2) = true := by simp [h2]
        clear hk h0 h2 HX
        go_wp2_with fail
        go_ret
        exact ⟨by rw [HV.out]; rfl, HB1.out⟩
  · have HV : Hid (x = true) := HX.out.trans (by simp [hk])
    rw [decide_eq_false hk]
    clear hk HX
    go_wp2_with fail
    go_ret
    exact ⟨by rw [HV.out]; rfl, HB1.out⟩
set_option maxHeartbeats 1000000 in
set_option maxRecDepth 100000 in
/-- .. which asks Check, whatever it may answer. -/
theorem isNoDep_any (d : Dep) (t : Value) (w : World) (Q : Int → Prop) (hC : ∀ w', Below w.heap.size w w' → Calls Tryz.prog 182 #[.agg (rowD d t)] w' fun e w2 => NumPost Q e ∧ Below w'.heap.size w' w2) :
    Calls Tryz.prog 125 #[.agg (rowD d t)] w fun e w' => BoolPost (fun b => ∃ n, Q n ∧ b = !decide (n = 0)) e ∧ Below w.heap.size w w' := by
  have hb : Below w.heap.size w (w.alloc (.cells (rowD d t) 39)) := (Below.refl _ _).alloc (Nat.le_refl _) _
  have C := Lib.hid (hC _ hb)
  have HB := Lib.hid hb
  clear hC hb
  unfold rowD at HB C ⊢
  go_enter Tryz.func125, Tryz.ntmps125
  go_wp2_with fail
  refine C.out.mono ?_
  rintro e w1 ⟨⟨n, hq, rfl⟩, hb1⟩
  have HB1 : Hid (Below w.heap.size w w1) := HB.out.trans (hb1.mono (by simp))
  have HQ := Lib.hid hq
  clear hb1 C HB hq
  go_wp2_with fail
  go_ret
  refine ⟨⟨_, ⟨n, HQ.out, rfl⟩, ret_bool ?_⟩, HB1.out⟩
  rw [Bool.eq_iff_iff]; simp
end Go.Proofs.YtdhgiammfpjniaaGreatDoor.Ev
