/- What stands in what a package says of its format: its functions. The functions of a format: the walk. The starts of a format, and of a list in it. A dependency that an entry tells: those with a GE alone. A dependency that an entry tells: those with a GE alone. The start of an entry: it is put to a list that has none yet. The start of an element that is left out. -/
import Derived.Test.YtljldbdjkjllhaaGreatDoorZda
import Derived.Deep.LoopGhost
import Derived.Deep.RegionLaw
import Derived.Test.YtljldbdjkjllhaaGreatDoorZaa
/- What stands in what a package says of its format: its functions. -/
namespace Go.Proofs.YtljldbdjkjllhaaGreatDoor
set_option linter.unusedSimpArgs false
set_option linter.unusedVariables false
open Go.RowKit

def kindCs (pk : Nat) : Array Value := #[.string (mkS [114, 112, 109, 58, 112, 114, 111, 118, 105, 100, 101, 115]), .pointer (some ⟨pk, 4, none⟩), .pointer none, .string (mkS [114, 112, 109, 58, 114, 101, 113, 117, 105, 114, 101, 115]), .pointer (some ⟨pk, 5, none⟩), .pointer (some ⟨pk, 6, none⟩), .string (mkS [114, 112, 109, 58, 99, 111, 110, 102, 108, 105, 99, 116, 115]), .pointer (some ⟨pk, 7, none⟩), .pointer none, .string (mkS [114, 112, 109, 58, 111, 98, 115, 111, 108, 101, 116, 101, 115]), .pointer (some ⟨pk, 8, none⟩), .pointer none, .string (mkS [114, 112, 109, 58, 114, 101, 99, 111, 109, 109, 101, 110, 100, 115]), .pointer (some ⟨pk, 9, none⟩), .pointer none, .string (mkS [114, 112, 109, 58, 115, 117, 112, 112, 108, 101, 109, 101, 110, 116, 115]), .pointer (some ⟨pk, 10, none⟩), .pointer none]
set_option maxHeartbeats 8000000 in
set_option maxRecDepth 100000 in
theorem kinds_any (pk : Nat) (w : World) : Calls Tryz.prog 197 #[.pointer (some ⟨pk, 0, none⟩)] w fun e w' => ∃ b, e = .returned (.slice (some ⟨b, 0, none⟩) 6 6) ∧ Blk w' b 211 (kindCs pk) ∧ Below w.heap.size w w' := by
  have HV : Hid (Blk ((w.alloc (.cells (kindCs pk) 211)).drew) w.heap.size 211 (kindCs pk) ∧ Below w.heap.size w ((w.alloc (.cells (kindCs pk) 211)).drew)) := ⟨(Blk.new _ _ _).drew, ((Below.refl _ _).alloc (Nat.le_refl _) _).drew⟩
  unfold kindCs mkS at *
  go_enter Tryz.func197, Tryz.ntmps197
  go_upto_region 1 with fail
  go_region
  go_wp2_with fail
  go_ret
  exact ⟨_, rfl, HV.out⟩
def kName : Nat → Bs
  | 0 => [114, 112, 109, 58, 112, 114, 111, 118, 105, 100, 101, 115]
  | 1 => [114, 112, 109, 58, 114, 101, 113, 117, 105, 114, 101, 115]
  | 2 => [114, 112, 109, 58, 99, 111, 110, 102, 108, 105, 99, 116, 115]
  | 3 => [114, 112, 109, 58, 111, 98, 115, 111, 108, 101, 116, 101, 115]
  | 4 => [114, 112, 109, 58, 114, 101, 99, 111, 109, 109, 101, 110, 100, 115]
  | 5 => [114, 112, 109, 58, 115, 117, 112, 112, 108, 101, 109, 101, 110, 116, 115]
  | _ => []
def kF : Nat → Nat
  | 0 => 4
  | 1 => 5
  | 2 => 7
  | 3 => 8
  | 4 => 9
  | 5 => 10
  | _ => 0
def kG (pk : Nat) : Nat → Option Addr
  | 1 => some ⟨pk, 6, none⟩
  | _ => none
theorem kind_at (pk : Nat) : ∀ i, i < 6 → (kindCs pk)[i * 3]? = some (.string (mkS (kName i))) ∧ (kindCs pk)[i * 3 + 1]? = some (.pointer (some ⟨pk, kF i, none⟩)) ∧ (kindCs pk)[i * 3 + 2]? = some (.pointer (kG pk i))
  | 0, _ => ⟨rfl, rfl, rfl⟩
  | 1, _ => ⟨rfl, rfl, rfl⟩
  | 2, _ => ⟨rfl, rfl, rfl⟩
  | 3, _ => ⟨rfl, rfl, rfl⟩
  | 4, _ => ⟨rfl, rfl, rfl⟩
  | 5, _ => ⟨rfl, rfl, rfl⟩
  | n + 6, h => by omega
def venN : Bs := [114, 112, 109, 58, 118, 101, 110, 100, 111, 114]
def filN : Bs := [102, 105, 108, 101]
def kEs : List Nat → Nat → List (ByteArray × Value)
  | [], _ => []
  | b :: r, i => (mkS (kName i), putV 198 b) :: kEs r (i + 1)
theorem kEs_snoc (b : Nat) : ∀ (l : List Nat) (i : Nat), kEs (l ++ [b]) i = kEs l i ++ [(mkS (kName (i + l.length)), putV 198 b)]
  | [], i => rfl
  | a :: r, i => by
    show _ :: kEs (r ++ [b]) (i + 1) = _ :: (kEs r (i + 1) ++ [_])
    rw [kEs_snoc b r (i + 1), show i + 1 + r.length = i + (r.length + 1) from by omega]
    rfl
theorem kEs_mem : ∀ (l : List Nat) (i : Nat) (e : ByteArray × Value), e ∈ kEs l i → ∃ j, i ≤ j ∧ j < i + l.length ∧ e.1 = mkS (kName j)
  | [], i, e, h => by cases h
  | b :: r, i, e, h => by
    rcases List.mem_cons.1 h with rfl | h
    · exact ⟨i, Nat.le_refl _, by simp, rfl⟩
    · obtain ⟨j, h1, h2, h3⟩ := kEs_mem r (i + 1) e h
      exact ⟨j, by omega, by simp; omega, h3⟩
theorem look_none {k : ByteArray} : ∀ {l : List (ByteArray × Value)}, (∀ e ∈ l, e.1 ≠ k) → lookO k l = none
  | [], _ => rfl
  | (a, v) :: r, h => by
    show (if k = a then some v else lookO k r) = none
    rw [if_neg (fun e => h (a, v) (by simp) e.symm)]
    exact look_none (fun e he => h e (by simp [he]))
theorem kName_inj : ∀ i j, i < 6 → j < 6 → kName i = kName j → i = j := by
  have h : ∀ i j : Fin 6, kName i.val = kName j.val → i = j := by decide
  intro i j hi hj he
  have := h ⟨i, hi⟩ ⟨j, hj⟩ he
  simpa using this
theorem kName_no : ∀ i, i < 6 → kName i ≠ venN ∧ kName i ≠ filN := by
  have h : ∀ i : Fin 6, kName i.val ≠ venN ∧ kName i.val ≠ filN := by decide
  exact fun i hi => h ⟨i, hi⟩
def formEs (v1 v2 : Value) (l : List Nat) : List (ByteArray × Value) := (mkS venN, v1) :: (mkS filN, v2) :: kEs l 0
theorem form_new {v1 v2 : Value} {l : List Nat} (h : l.length < 6) : lookO (mkS (kName l.length)) (formEs v1 v2 l) = none := by
  refine look_none fun e he => ?_
  have hn := kName_no l.length h
  rcases List.mem_cons.1 he with rfl | he
  · exact fun e => hn.1 (mkS_inj e).symm
  · rcases List.mem_cons.1 he with rfl | he
    · exact fun e => hn.2 (mkS_inj e).symm
    · obtain ⟨j, -, h2, h3⟩ := kEs_mem l 0 e he
      intro h4
      rw [h3] at h4
      have := kName_inj j l.length (by omega) h (mkS_inj h4)
      omega
theorem wpList_update_map {P : Program} (w : World) {ops : Array Oper} {rest : List Oper} {o : Oper} {a : Act} {Q : Exit → Act → World → Prop}
    (hg : o.guard = none) (m x v : Operand) (t : TypeId) (hop : o.op = Op.mapUpdate t m x v)
    (kt et : TypeId) (ht : P.underlying t = some (.map kt et)) (hd : P.underlying kt = some .string) (b : Nat) (l : List (ByteArray × Value)) (hm : a.eval m = .map (some b)) (hb : w.heap[b]? = some (mapO l))
    (key : ByteArray) (val : Value) (hx : a.eval x = .string key) (hv : a.eval v = val) (hn : lookO key l = none)
    (hK : ∀ w', w'.heap[b]? = some (mapO (l ++ [(key, val)])) → Turned [b] w w' → wpList P ops Q rest (a.put o.dst undef) w') :
    wpList P ops Q (o :: rest) a w := by
  refine wpList_plain hg fun K' hK' => ?_
  obtain ⟨w', hrun, r1, r2⟩ := run_put (v := val) ht hd hb hn
  unfold Oper.wp
  simp [execOp, hop, hm, hx, hv, hrun, Result.andThen]
  exact hK' _ _ (hK w' r1 r2)
/-- The map of a format: l: where what it captures lies. -/
structure FormX (w : World) (pk m pb : Nat) (v1 v2 : Value) (l : List Nat) : Prop where
  map : w.heap[m]? = some (mapO (formEs v1 v2 l))
  t1 : TextB w 195 pb v1
  t2 : TextB w 196 pb v2
  box : Blk w pb 119 #[.pointer (some ⟨pk, 0, none⟩)]
  ks : ∀ i b, l[i]? = some b → Blk w b 211 #[.string (mkS (kName i)), .pointer (some ⟨pk, kF i, none⟩), .pointer (kG pk i)]
def FormM (w : World) (pk m : Nat) : Prop := ∃ (l : List Nat) (pb : Nat) (v1 v2 : Value), l.length = 6 ∧ FormX w pk m pb v1 v2 l
section
variable {w w' w1 : World} {F : List Nat} {pk m pb : Nat} {v1 v2 : Value} {l : List Nat}
theorem FormX.below (h : FormX w pk m pb v1 v2 l) (hb : Below w.heap.size w w') : FormX w' pk m pb v1 v2 l :=
  ⟨map_below h.map hb, h.t1.below hb, h.t2.below hb, Blk.mono h.box hb, fun i b hi => Blk.mono (h.ks i b hi) hb⟩
theorem FormM.below (h : FormM w pk m) (hb : Below w.heap.size w w') : FormM w' pk m := by
  obtain ⟨l, pb, v1, v2, hl, h⟩ := h
  exact ⟨l, pb, v1, v2, hl, h.below hb⟩
theorem FormM.stay (h : FormM w pk m) (ht : Turned F w w') (hF : Loose w F) : FormM w' pk m := by
  obtain ⟨l, pb, v1, v2, hl, h⟩ := h
  exact ⟨l, pb, v1, v2, hl, map_stay h.map ht hF, h.t1.stay ht hF, h.t2.stay ht hF, Blk.stay h.box ht hF (by decide), fun i b hi => Blk.stay (h.ks i b hi) ht hF (by decide)⟩
/-- One more is put into it. -/
theorem FormX.put {b : Nat} (h0 : FormX w pk m pb v1 v2 l) (hw1 : Below w.heap.size w w1) (hb : Blk w1 b 211 #[.string (mkS (kName l.length)), .pointer (some ⟨pk, kF l.length, none⟩), .pointer (kG pk l.length)])
    (ht : Turned [m] w1 w') (hm : w'.heap[m]? = some (mapO (formEs v1 v2 l ++ [(mkS (kName l.length), putV 198 b)]))) : FormX w' pk m pb v1 v2 (l ++ [b]) := by
  have h := h0.below hw1
  have hn : ∀ {g : Nat} {t : TypeId} {cs : Array Value}, Blk w1 g t cs → Blk w' g t cs := fun hg => hg.turned ht (fun hk => by simp at hk; exact map_not_blk h.map hg hk.symm)
  refine ⟨?_, h.t1.map h.map ht, h.t2.map h.map ht, hn h.box, fun i c hi => ?_⟩
  · rw [show formEs v1 v2 (l ++ [b]) = formEs v1 v2 l ++ [(mkS (kName l.length), putV 198 b)] from by unfold formEs; rw [kEs_snoc, Nat.zero_add]; rfl]
    exact hm
  · by_cases hi' : i < l.length
    · rw [List.getElem?_append_left hi'] at hi
      exact hn (h.ks i c hi)
    · rw [List.getElem?_append_right (by omega)] at hi
      have h0 : i = l.length := by
        have := (List.getElem?_eq_some_iff.1 hi).1
        simp at this; omega
      subst h0
      simp at hi
      subst hi
      exact hn hb
end
end Go.Proofs.YtljldbdjkjllhaaGreatDoor

/- The functions of a format: the walk. -/
namespace Go.Proofs.YtljldbdjkjllhaaGreatDoor
set_option linter.unusedSimpArgs false
set_option linter.unusedVariables false
open Go.RowKit

set_option maxHeartbeats 8000000 in
set_option maxRecDepth 100000 in
theorem inFormat_any (pk : Nat) (w : World) : Calls Tryz.prog 146 #[.pointer (some ⟨pk, 0, none⟩)] w fun e w' => ∃ m, e = .returned (.map (some m)) ∧ FormM w' pk m ∧ Below w.heap.size w w' := by
  have hmm := @run_makeMap Tryz.prog
  have hmf := makeF
  have CT := Lib.hid (fun f pb w => textTo_any f pb w)
  have CK := Lib.hid (fun w => kinds_any pk w)
  obtain ⟨w1, hw1⟩ : ∃ w1, w1 = w.alloc (.cells #[.pointer (some ⟨pk, 0, none⟩)] 119) := ⟨_, rfl⟩
  have K1 : Hid (Blk w1 w.heap.size 119 #[.pointer (some ⟨pk, 0, none⟩)]) := by rw [hw1]; exact Blk.new _ _ _
  have HB1 : Hid (Below w.heap.size w w1) := by rw [hw1]; exact (Below.refl _ _).alloc (Nat.le_refl _) _
  have HM1 := Lib.hid (map_new w1)
  have HBm : Hid (Below w1.heap.size w1 (w1.alloc (.map #[] 0))) := (Below.refl _ _).alloc (Nat.le_refl _) _
  have N1 : Hid (lookO (mkS venN) [] = none) := rfl
  have N2 : Hid (∀ v1, lookO (mkS filN) [(mkS venN, v1)] = none) := fun v1 => by show _ = _; rw [k_is _ _ _ _ (by decide)]; rfl
  unfold putV at CT
  go_enter Tryz.func146, Tryz.ntmps146
  go_upto_region 1 with fail
  rw [← hw1]
  clear hw1
  go_wp2_with fail
  refine (CT.out _ _ _).mono ?_
  rintro e w2 ⟨v1, rfl, hT1, hb2⟩
  have HM2 := Lib.hid (map_below HM1.out hb2)
  have hbb : Below w1.heap.size w1 w2 := HBm.out.trans (hb2.mono (by simp))
  have HB2 := Lib.hid (HB1.out.trans (hbb.mono HB1.out.size))
  have K2 := Lib.hid (K1.out.below hbb K1.out.lt)
  have HTu2 : Hid (w.heap.size ≤ w1.heap.size) := HB1.out.size
  have HT1 := Lib.hid hT1
  clear hT1 hb2 hbb HM1 HBm
  go_wp2_with (refine wpList_insert_map _ rfl _ _ _ 60 rfl 9 138 Tryz.underlying60 Tryz.underlying9 w1.heap.size [] rfl HM2.out _ _ rfl rfl N1.out ?_; intro w3 hm ht; have HM3 := Lib.hid hm; have HB3 := Lib.hid (HB2.out.trans (ht.below (B := w.heap.size) (fun k hk => by have h9 := HTu2.out; simp at hk; subst hk; exact h9) HB2.out.size)); have K3 := Lib.hid (K2.out.turned ht (fun hk => by simp at hk; exact map_not_blk HM2.out K2.out hk.symm)); have HT13 := Lib.hid (HT1.out.map HM2.out ht); clear hm ht HM2 HB2 K2 HT1)
  refine (CT.out _ _ _).mono ?_
  rintro e w4 ⟨v2, rfl, hT2, hb4⟩
  have HM4 := Lib.hid (map_below HM3.out hb4)
  have HB4 := Lib.hid (HB3.out.trans (hb4.mono HB3.out.size))
  have K4 := Lib.hid (K3.out.below hb4 K3.out.lt)
  have HT14 := Lib.hid (HT13.out.below hb4)
  have HT24 := Lib.hid hT2
  clear hT2 hb4 HM3 HB3 K3 HT13 CT
  go_upto_region 2 with (refine wpList_insert_map _ rfl _ _ _ 60 rfl 9 138 Tryz.underlying60 Tryz.underlying9 w1.heap.size [(mkS venN, v1)] rfl HM4.out _ _ rfl rfl (N2.out _) ?_; intro w5 hm ht; have HM5 := Lib.hid hm; have HB5 := Lib.hid (HB4.out.trans (ht.below (B := w.heap.size) (fun k hk => by have h9 := HTu2.out; simp at hk; subst hk; exact h9) HB4.out.size)); have K5 := Lib.hid (K4.out.turned ht (fun hk => by simp at hk; exact map_not_blk HM4.out K4.out hk.symm)); have HT15 := Lib.hid (HT14.out.map HM4.out ht); have HT25 := Lib.hid (HT24.out.map HM4.out ht); clear hm ht HM4 HB4 K4 HT14 HT24)
  have p0 := K5.out.cell 0
  simp at p0
  have HF5 : Hid (FormX w5 pk w1.heap.size w.heap.size v1 v2 []) := ⟨HM5.out, HT15.out, HT25.out, K5.out, fun i b h => by cases h⟩
  go_wp2_with fail
  refine (CK.out _).mono ?_
  rintro e w6 ⟨kb, rfl, hk6, hb6⟩
  have HK6 := Lib.hid hk6
  have HF6 := Lib.hid (HF5.out.below hb6)
  have HB6 := Lib.hid (HB5.out.trans (hb6.mono HB5.out.size))
  have HKA := Lib.hid (kind_at pk)
  clear hk6 hb6 HF5 HB5 HM5 HT15 HT25 K5 p0 CK
  go_wp2_with fail
  go_loopg [5, 15] 6 (fun gk v5 v15 wx => ∃ (wy : World) (l : List Nat), wy = wx ∧ l.length + gk = 6 ∧ v15 = .int .i64 (l.length : Int) ∧ Hid (FormX wy pk w1.heap.size w.heap.size v1 v2 l) ∧ Hid (Blk wy kb 211 (kindCs pk)) ∧ Hid (Below w.heap.size w wy))
  case atStart => exact ⟨_, [], rfl, rfl, rfl, HF6, HK6, HB6⟩
  case round =>
    obtain ⟨wy, l, rfl, hlg, rfl, HF, HK, HB⟩ := hrel
    clear HF6 HK6 HB6
    by_cases hlt : l.length < 6
    · obtain ⟨h1, h2, h3⟩ := HKA.out l.length hlt
      have q0 := (HK.out.cell (l.length * 3)).trans h1
      have q1 := (HK.out.cell (l.length * 3 + 1)).trans h2
      have q2 := (HK.out.cell (l.length * 3 + 2)).trans h3
      have hlt' : (l.length : Int) < 6 := by omega
      have HBA : Hid (Below wy.heap.size wy (wy.alloc (.cells #[.string (mkS (kName l.length)), .pointer (some ⟨pk, kF l.length, none⟩), .pointer (kG pk l.length)] 211))) := (Below.refl _ _).alloc (Nat.le_refl _) _
      have HMA := Lib.hid (map_below HF.out.map HBA.out)
      have HNA := Lib.hid (form_new (v1 := v1) (v2 := v2) hlt)
      have HPUT : Hid (∀ w8, w8.heap[w1.heap.size]? = some (mapO (formEs v1 v2 l ++ [(mkS (kName l.length), .func (.func 198) #[] #[.pointer (some ⟨wy.heap.size, 0, none⟩)])])) → Turned [w1.heap.size] (wy.alloc (.cells #[.string (mkS (kName l.length)), .pointer (some ⟨pk, kF l.length, none⟩), .pointer (kG pk l.length)] 211)) w8 → Hid (FormX w8 pk w1.heap.size w.heap.size v1 v2 (l ++ [wy.heap.size])) ∧ Hid (Blk w8 kb 211 (kindCs pk)) ∧ Hid (Below w.heap.size w w8)) := by
        intro w8 hm ht
        refine ⟨HF.out.put HBA.out (Blk.new _ _ _) ht hm, ?_, ?_⟩
        · exact (Blk.mono HK.out HBA.out).turned ht (fun hk => by simp at hk; exact map_not_blk HMA.out (Blk.mono HK.out HBA.out) hk.symm)
        · have h9 := HTu2.out
          exact HB.out.trans ((HBA.out.mono HB.out.size).trans (ht.below (B := w.heap.size) (fun k hk => by simp at hk; subst hk; exact h9) (Nat.le_trans HB.out.size HBA.out.size)))
      have hll : (l ++ [wy.heap.size]).length = l.length + 1 := by simp
      clear HF HK h1 h2 h3
      go_wp2_with (refine wpList_update_map _ rfl _ _ _ 60 rfl 9 138 Tryz.underlying60 Tryz.underlying9 w1.heap.size (formEs v1 v2 l) rfl HMA.out _ _ rfl rfl HNA.out ?_; intro w8 hm ht; have HX := HPUT.out w8 hm ht; clear hm ht)
      go_roundg (gk - 1)
      case measure => omega
      case rel => exact ⟨_, l ++ [wy.heap.size], rfl, by rw [hll]; omega, by rw [hll]; rfl, HX.1, HX.2.1, HX.2.2⟩
    · have h6 : l.length = 6 := by omega
      have hlt' : ¬ (l.length : Int) < 6 := by omega
      have HV : Hid (FormM wy pk w1.heap.size) := ⟨l, _, _, _, h6, HF.out⟩
      clear h6 HF HK
      go_wp2_with fail
      go_ret
      exact ⟨_, rfl, HV.out, HB.out⟩
end Go.Proofs.YtljldbdjkjllhaaGreatDoor

/- The starts of a format, and of a list in it. -/
namespace Go.Proofs.YtljldbdjkjllhaaGreatDoor
set_option linter.unusedSimpArgs false
set_option linter.unusedVariables false
open Go.RowKit

set_option maxHeartbeats 4000000 in
set_option maxRecDepth 100000 in
theorem formAt_any (pb pk : Nat) (pc : Pc) (A : Option Addr) (c : Nat) (w : World) (hb : Blk w pb 119 #[.pointer (some ⟨pk, 0, none⟩)]) :
    Calls Tryz.prog 145 #[.agg #[.int .i64 pc.kind, .string (mkS pc.name), .slice A pc.attrs.length c, .string (mkS pc.text)], .pointer (some ⟨pb, 0, none⟩)] w fun e w' => ∃ m, e = .returned (.tuple #[.agg #[.map (some m), .nilFunc], .int .i64 0]) ∧ FormM w' pk m ∧ Below w.heap.size w w' := by
  have hst := fun (a : Addr) (m : _) (w : World) => run_store Tryz.prog w a .nilFunc m rfl
  have CF := Lib.hid (fun w => inFormat_any pk w)
  obtain ⟨w1, hw1⟩ : ∃ w1, w1 = (w.alloc (.cells #[.int .i64 pc.kind, .string (mkS pc.name), .slice A pc.attrs.length c, .string (mkS pc.text)] 68)).alloc (.cells #[.map none, .nilFunc] 63) := ⟨_, rfl⟩
  have E1 : Hid (Blk w1 (w.heap.size + 1) 63 #[.map none, .nilFunc]) := by rw [hw1]; exact Blk.new' (by simp)
  have HB1 : Hid (Below w.heap.size w w1) := by rw [hw1]; exact ((Below.refl _ _).alloc (Nat.le_refl _) _).alloc (by simp) _
  have p0 := (Blk.mono hb HB1.out).cell 0
  simp at p0
  clear hb
  go_enter Tryz.func145, Tryz.ntmps145
  go_upto_region 1 with fail
  rw [← hw1]
  clear hw1
  go_wp2_with fail
  refine (CF.out _).mono ?_
  rintro e w2 ⟨m, rfl, hfm, hb2⟩
  have E2 := E1.out.below hb2 E1.out.lt
  have k0 := E2.cell 0
  have k1 := E2.cell 1
  have f0 := E2.free 0
  have f1 := E2.free 1
  simp at k0 k1
  have HK := Lib.hid (el_load ((E2.set_ 0 (.map (some m))).set_ 1 .nilFunc))
  have hB2 := HB1.out.trans (hb2.mono HB1.out.size)
  have HR : Hid (FormM ((w2.setCell ⟨w.heap.size + 1, 0, none⟩ (.map (some m))).setCell ⟨w.heap.size + 1, 1, none⟩ .nilFunc) pk m ∧ Below w.heap.size w ((w2.setCell ⟨w.heap.size + 1, 0, none⟩ (.map (some m))).setCell ⟨w.heap.size + 1, 1, none⟩ .nilFunc)) :=
    ⟨hfm.stay (F := [w.heap.size + 1]) (((Turned.refl _ _).setCell (.inl (by simp)) _).setCell (.inl (by simp)) _) (Loose.one E2 (by decide)), (hB2.setCell (by simp) _).setCell (by simp) _⟩
  clear hfm hb2 hB2 E2 CF E1 HB1
  go_wp2_with fail
  refine bodyPost_ret (v := .tuple #[.agg #[.map (some m), .nilFunc], .int .i64 0]) ?_ rfl ⟨m, rfl, HR.out⟩
  refine (results_ct (t := 3) (u := 4) rfl _ (ad := ⟨w.heap.size + 1, 0, none⟩) rfl HK.out).trans ?_
  rfl
def entrN : Bs := [114, 112, 109, 58, 101, 110, 116, 114, 121]
/-- What is done at the start of an entry: n: the list's name; a, g: where it is put. -/
def entV (n : Bs) (a : Addr) (g : Option Addr) : Value := .func (.func 199) #[.agg #[.string (mkS n), .pointer (some a), .pointer g]] #[]
set_option maxHeartbeats 4000000 in
set_option maxRecDepth 100000 in
theorem listAt_any (kb : Nat) (n : Bs) (a : Addr) (g : Option Addr) (pc : Pc) (A : Option Addr) (c : Nat) (w : World) (hb : Blk w kb 211 #[.string (mkS n), .pointer (some a), .pointer g]) :
    Calls Tryz.prog 198 #[.agg #[.int .i64 pc.kind, .string (mkS pc.name), .slice A pc.attrs.length c, .string (mkS pc.text)], .pointer (some ⟨kb, 0, none⟩)] w fun e w' => ∃ m, e = .returned (.tuple #[.agg #[.map (some m), .nilFunc], .int .i64 0]) ∧ w'.heap[m]? = some (mapO [(mkS entrN, entV n a g)]) ∧ Below w.heap.size w w' := by
  have hmm := @run_makeMap Tryz.prog
  have hmf := makeF
  have hst := fun (a : Addr) (m : _) (w : World) => run_store Tryz.prog w a .nilFunc m rfl
  obtain ⟨w1, hw1⟩ : ∃ w1, w1 = (w.alloc (.cells #[.int .i64 pc.kind, .string (mkS pc.name), .slice A pc.attrs.length c, .string (mkS pc.text)] 68)).alloc (.cells #[.map none, .nilFunc] 63) := ⟨_, rfl⟩
  have K1 : Hid (Blk w1 (w.heap.size + 1) 63 #[.map none, .nilFunc]) := by rw [hw1]; exact Blk.new' (by simp)
  have HB1 : Hid (Below w.heap.size w w1) := by rw [hw1]; exact ((Below.refl _ _).alloc (Nat.le_refl _) _).alloc (by simp) _
  have HM := Lib.hid (map_new w1)
  have hlt := K1.out.lt
  have hbm : Blk (w1.alloc (.map #[] 0)) kb 211 #[.string (mkS n), .pointer (some a), .pointer g] := (Blk.mono hb HB1.out).alloc _
  have b0 := hbm.cell 0
  have b1 := hbm.cell 1
  have b2 := hbm.cell 2
  simp at b0 b1 b2
  clear hb hbm
  go_enter Tryz.func198, Tryz.ntmps198
  go_upto_region 1 with fail
  rw [← hw1]
  clear hw1
  go_wp2_with (refine wpList_insert_map _ rfl _ _ _ 60 rfl 9 138 Tryz.underlying60 Tryz.underlying9 w1.heap.size [] rfl HM.out _ _ rfl rfl rfl ?_; intro w3 hm3 ht3; have K3 := Lib.hid ((K1.out.alloc (.map #[] 0)).turned ht3 (by simp; omega)); have HM3 := Lib.hid hm3; have HT3 := Lib.hid ht3; clear hm3 ht3 b0 b1 b2; have k0 := K3.out.cell 0; have k1 := K3.out.cell 1; have f0 := K3.out.free 0; have f1 := K3.out.free 1; simp at k0 k1)
  have HK := Lib.hid (el_load ((K3.out.set_ 0 (.map (some w1.heap.size))).set_ 1 .nilFunc))
  have ht : Turned [w.heap.size + 1, w1.heap.size] w1 ((w3.setCell ⟨w.heap.size + 1, 0, none⟩ (.map (some w1.heap.size))).setCell ⟨w.heap.size + 1, 1, none⟩ .nilFunc) := by
    have h1 : Turned [w1.heap.size] w1 w3 := (((Turned.refl [] w1).alloc (.map #[] 0)).more (fun k hk => by cases hk)).trans HT3.out (Fresh.refl _ _)
    exact ((h1.more (fun k hk => by simp at hk; simp [hk])).setCell (.inl (by simp)) _).setCell (.inl (by simp)) _
  have hb : Below w.heap.size w ((w3.setCell ⟨w.heap.size + 1, 0, none⟩ (.map (some w1.heap.size))).setCell ⟨w.heap.size + 1, 1, none⟩ .nilFunc) := HB1.out.trans (ht.below (fun k hk => by have := HB1.out.size; simp at hk; rcases hk with rfl | rfl <;> omega) HB1.out.size)
  have hm : ((w3.setCell ⟨w.heap.size + 1, 0, none⟩ (.map (some w1.heap.size))).setCell ⟨w.heap.size + 1, 1, none⟩ .nilFunc).heap[w1.heap.size]? = some (mapO [(mkS entrN, entV n a g)]) := by
    refine map_turned' (F := [w.heap.size + 1]) HM3.out (((Turned.refl _ _).setCell (p := ⟨w.heap.size + 1, 0, none⟩) (.inl (by simp)) _).setCell (p := ⟨w.heap.size + 1, 1, none⟩) (.inl (by simp)) _) (by simp; omega)
  refine bodyPost_ret (v := .tuple #[.agg #[.map (some w1.heap.size), .nilFunc], .int .i64 0]) ?_ rfl ⟨w1.heap.size, rfl, hm, hb⟩
  refine (results_ct (t := 3) (u := 4) rfl _ (ad := ⟨w.heap.size + 1, 0, none⟩) rfl HK.out).trans ?_
  rfl
end Go.Proofs.YtljldbdjkjllhaaGreatDoor

/- A dependency that an entry tells: those with a GE alone. -/
namespace Go.Proofs.YtljldbdjkjllhaaGreatDoor
set_option linter.unusedSimpArgs false
set_option linter.unusedVariables false
open Go.RowKit

def flagCs : Array Value := #[.string ⟨#[]⟩, .string ⟨#[76, 84]⟩, .string ⟨#[69, 81]⟩, .string ⟨#[76, 69]⟩, .string ⟨#[71, 84]⟩, .string ⟨#[]⟩, .string ⟨#[71, 69]⟩, .string ⟨#[]⟩]
def FlagsAt (w : World) : Prop := ∃ t, Blk w 11 t flagCs
theorem FlagsAt.below {w w' : World} (h : FlagsAt w) (hb : Below w.heap.size w w') : FlagsAt w' := by
  obtain ⟨t, h⟩ := h
  exact ⟨t, Blk.mono h hb⟩
set_option maxHeartbeats 4000000 in
set_option maxRecDepth 100000 in
theorem comparison_ge (w : World) (hF : FlagsAt w) : Calls Tryz.prog 258 #[.string ⟨#[71, 69]⟩] w fun e w' => e = .returned (.tuple #[.int .i64 6, .bool true]) ∧ w = w' := by
  obtain ⟨t0, hB⟩ := hF
  have c0 := hB.cell 0
  have c1 := hB.cell 1
  have c2 := hB.cell 2
  have c3 := hB.cell 3
  have c4 := hB.cell 4
  have c5 := hB.cell 5
  have c6 := hB.cell 6
  have c7 := hB.cell 7
  unfold flagCs at c0 c1 c2 c3 c4 c5 c6 c7
  simp at c0 c1 c2 c3 c4 c5 c6 c7
  clear hB
  have ix0 : ∀ w, (Instr.index 161 (.agg #[.string ⟨#[]⟩, .string ⟨#[76, 84]⟩, .string ⟨#[69, 81]⟩, .string ⟨#[76, 69]⟩, .string ⟨#[71, 84]⟩, .string ⟨#[]⟩, .string ⟨#[71, 69]⟩, .string ⟨#[]⟩]) (.int .i64 0)).run Tryz.prog w = .ok (.string ⟨#[]⟩) w := fun _ => by kernel_rfl
  have ix1 : ∀ w, (Instr.index 161 (.agg #[.string ⟨#[]⟩, .string ⟨#[76, 84]⟩, .string ⟨#[69, 81]⟩, .string ⟨#[76, 69]⟩, .string ⟨#[71, 84]⟩, .string ⟨#[]⟩, .string ⟨#[71, 69]⟩, .string ⟨#[]⟩]) (.int .i64 1)).run Tryz.prog w = .ok (.string ⟨#[76, 84]⟩) w := fun _ => by kernel_rfl
  have ix2 : ∀ w, (Instr.index 161 (.agg #[.string ⟨#[]⟩, .string ⟨#[76, 84]⟩, .string ⟨#[69, 81]⟩, .string ⟨#[76, 69]⟩, .string ⟨#[71, 84]⟩, .string ⟨#[]⟩, .string ⟨#[71, 69]⟩, .string ⟨#[]⟩]) (.int .i64 2)).run Tryz.prog w = .ok (.string ⟨#[69, 81]⟩) w := fun _ => by kernel_rfl
  have ix3 : ∀ w, (Instr.index 161 (.agg #[.string ⟨#[]⟩, .string ⟨#[76, 84]⟩, .string ⟨#[69, 81]⟩, .string ⟨#[76, 69]⟩, .string ⟨#[71, 84]⟩, .string ⟨#[]⟩, .string ⟨#[71, 69]⟩, .string ⟨#[]⟩]) (.int .i64 3)).run Tryz.prog w = .ok (.string ⟨#[76, 69]⟩) w := fun _ => by kernel_rfl
  have ix4 : ∀ w, (Instr.index 161 (.agg #[.string ⟨#[]⟩, .string ⟨#[76, 84]⟩, .string ⟨#[69, 81]⟩, .string ⟨#[76, 69]⟩, .string ⟨#[71, 84]⟩, .string ⟨#[]⟩, .string ⟨#[71, 69]⟩, .string ⟨#[]⟩]) (.int .i64 4)).run Tryz.prog w = .ok (.string ⟨#[71, 84]⟩) w := fun _ => by kernel_rfl
  have ix5 : ∀ w, (Instr.index 161 (.agg #[.string ⟨#[]⟩, .string ⟨#[76, 84]⟩, .string ⟨#[69, 81]⟩, .string ⟨#[76, 69]⟩, .string ⟨#[71, 84]⟩, .string ⟨#[]⟩, .string ⟨#[71, 69]⟩, .string ⟨#[]⟩]) (.int .i64 5)).run Tryz.prog w = .ok (.string ⟨#[]⟩) w := fun _ => by kernel_rfl
  have ix6 : ∀ w, (Instr.index 161 (.agg #[.string ⟨#[]⟩, .string ⟨#[76, 84]⟩, .string ⟨#[69, 81]⟩, .string ⟨#[76, 69]⟩, .string ⟨#[71, 84]⟩, .string ⟨#[]⟩, .string ⟨#[71, 69]⟩, .string ⟨#[]⟩]) (.int .i64 6)).run Tryz.prog w = .ok (.string ⟨#[71, 69]⟩) w := fun _ => by kernel_rfl
  have t0 : ((⟨#[]⟩ : ByteArray).toList == (⟨#[71, 69]⟩ : ByteArray).toList) = false := by decide +kernel
  have t1 : ((⟨#[76, 84]⟩ : ByteArray).toList == (⟨#[71, 69]⟩ : ByteArray).toList) = false := by decide +kernel
  have t2 : ((⟨#[69, 81]⟩ : ByteArray).toList == (⟨#[71, 69]⟩ : ByteArray).toList) = false := by decide +kernel
  have t3 : ((⟨#[76, 69]⟩ : ByteArray).toList == (⟨#[71, 69]⟩ : ByteArray).toList) = false := by decide +kernel
  have t4 : ((⟨#[71, 84]⟩ : ByteArray).toList == (⟨#[71, 69]⟩ : ByteArray).toList) = false := by decide +kernel
  have t5 : ((⟨#[]⟩ : ByteArray).toList == (⟨#[71, 69]⟩ : ByteArray).toList) = false := by decide +kernel
  have t6 : ((⟨#[71, 69]⟩ : ByteArray).toList == (⟨#[71, 69]⟩ : ByteArray).toList) = true := by decide +kernel
  go_enter Tryz.func258, Tryz.ntmps258
  go_wp2_with fail
  clear c0 c1 c2 c3 c4 c5 c6 c7
  go_loopg [4, 5, 7] 6 (fun gk v4 v5 v7 wx => ∃ k : Nat, w = wx ∧ k + gk = 6 ∧ v7 = .int .i64 (k : Int))
  case atStart => exact ⟨0, rfl, by omega, rfl⟩
  case round =>
    obtain ⟨k, rfl, hkg, rfl⟩ := hrel
    have hk' : k = 0 ∨ k = 1 ∨ k = 2 ∨ k = 3 ∨ k = 4 ∨ k = 5 ∨ k = 6 := by omega
    have HKG := Lib.hid hkg
    clear hkg
    rcases hk' with rfl | rfl | rfl | rfl | rfl | rfl | rfl
    · clear ix1 t1 ix2 t2 ix3 t3 ix4 t4 ix5 t5 ix6 t6
      go_wp2_with fail
      go_roundg (gk - 1)
      case measure => have := HKG.out; omega
      case rel => exact ⟨1, rfl, by have := HKG.out; omega, rfl⟩
    · clear ix0 t0 ix2 t2 ix3 t3 ix4 t4 ix5 t5 ix6 t6
      go_wp2_with fail
      go_roundg (gk - 1)
      case measure => have := HKG.out; omega
      case rel => exact ⟨2, rfl, by have := HKG.out; omega, rfl⟩
    · clear ix0 t0 ix1 t1 ix3 t3 ix4 t4 ix5 t5 ix6 t6
      go_wp2_with fail
      go_roundg (gk - 1)
      case measure => have := HKG.out; omega
      case rel => exact ⟨3, rfl, by have := HKG.out; omega, rfl⟩
    · clear ix0 t0 ix1 t1 ix2 t2 ix4 t4 ix5 t5 ix6 t6
      go_wp2_with fail
      go_roundg (gk - 1)
      case measure => have := HKG.out; omega
      case rel => exact ⟨4, rfl, by have := HKG.out; omega, rfl⟩
    · clear ix0 t0 ix1 t1 ix2 t2 ix3 t3 ix5 t5 ix6 t6
      go_wp2_with fail
      go_roundg (gk - 1)
      case measure => have := HKG.out; omega
      case rel => exact ⟨5, rfl, by have := HKG.out; omega, rfl⟩
    · clear ix0 t0 ix1 t1 ix2 t2 ix3 t3 ix4 t4 ix6 t6
      go_wp2_with fail
      go_roundg (gk - 1)
      case measure => have := HKG.out; omega
      case rel => exact ⟨6, rfl, by have := HKG.out; omega, rfl⟩
    · clear ix0 t0 ix1 t1 ix2 t2 ix3 t3 ix4 t4 ix5 t5
      go_wp2_with fail
      go_ret2
      exact ⟨rfl, rfl⟩

end Go.Proofs.YtljldbdjkjllhaaGreatDoor

/- A dependency that an entry tells: those with a GE alone. -/
namespace Go.Proofs.YtljldbdjkjllhaaGreatDoor
set_option linter.unusedSimpArgs false
set_option linter.unusedVariables false
open Go.RowKit

def flagN : Bs := [102, 108, 97, 103, 115]
def geN : Bs := [71, 69]
def depC (nm ev : Bs) : Array Value := #[.int .i64 1, .string (mkS nm), .int .i64 6, .string (mkS ev), .slice none 0 0]
def zeroD : Array Value := #[.int .i64 0, .string ⟨#[]⟩, .int .i64 0, .string ⟨#[]⟩, .slice none 0 0]
theorem dep_load {w : World} {g : Nat} {a b c d e : Value} (h : Blk w g 44 #[a, b, c, d, e]) : (loadVar 44 ⟨g, 0, none⟩).run Tryz.prog w = .ok (.agg #[a, b, c, d, e]) w := by
  have b0 := h.cell 0
  have b1 := h.cell 1
  have b2 := h.cell 2
  have b3 := h.cell 3
  have b4 := h.cell 4
  simp at b0 b1 b2 b3 b4
  clear h
  go_simp
set_option maxHeartbeats 8000000 in
set_option maxRecDepth 100000 in
theorem dependency_ge (pc : Pc) (A : Option Addr) (c : Nat) (w : World) (hF : FlagsAt w) (hA : AlR w A pc.attrs) (hl : pc.attrs.length ≤ c) (hc : c ≤ maxLen) (hz : ∀ nm, (attrX nm pc.attrs []).length ≤ 100000)
    (hnp : Lib.hasPrefix (attrX nameN_ pc.attrs []) [40] = false) (hge : attrX flagN pc.attrs [] = geN) :
    Calls Tryz.prog 241 #[.agg #[.int .i64 pc.kind, .string (mkS pc.name), .slice A pc.attrs.length c, .string (mkS pc.text)]] w fun e w' => e = .returned (.tuple #[.agg (depC (attrX nameN_ pc.attrs []) (verX pc.attrs)), .int .i64 0]) ∧ Below w.heap.size w w' := by
  have CV := Lib.hid (fun nm w' (hb : Below w.heap.size w w') => attr_val pc A c nm w' (hA.below hb) hl hc)
  have CX := Lib.hid (fun w' (hb : Below w.heap.size w w') => version_val pc A c w' (hA.below hb) hl hc hz)
  have CC := Lib.hid (fun w' (hb : Below w.heap.size w w') => comparison_ge w' (hF.below hb))
  have C1 := Lib.hid (CV.out nameN_)
  have C2 := Lib.hid (CV.out flagN)
  have q1 : mkS nameN_ = ⟨#[110, 97, 109, 101]⟩ := rfl
  have q2 : mkS flagN = ⟨#[102, 108, 97, 103, 115]⟩ := rfl
  have q3 : mkS geN = ⟨#[71, 69]⟩ := rfl
  rw [q1] at C1
  rw [q2, hge, q3] at C2
  have CP := Lib.hid (fun w => Tryz.strings_HasPrefix (mkS (attrX nameN_ pc.attrs [])) ⟨#[40]⟩ w)
  rw [show Lib.hasPrefix (mkS (attrX nameN_ pc.attrs [])).data.toList (⟨#[40]⟩ : ByteArray).data.toList = false from hnp] at CP
  obtain ⟨w1, hw1⟩ : ∃ w1, w1 = (w.alloc (.cells #[.int .i64 pc.kind, .string (mkS pc.name), .slice A pc.attrs.length c, .string (mkS pc.text)] 68)).alloc (.cells zeroD 44) := ⟨_, rfl⟩
  have K1 : Hid (Blk w1 w.heap.size 68 #[.int .i64 pc.kind, .string (mkS pc.name), .slice A pc.attrs.length c, .string (mkS pc.text)]) := by rw [hw1]; exact (Blk.new _ _ _).alloc _
  have Z1 : Hid (Blk w1 (w.heap.size + 1) 44 zeroD) := by rw [hw1]; exact Blk.new' (by simp)
  have HB1 : Hid (Below w.heap.size w w1) := by rw [hw1]; exact ((Below.refl _ _).alloc (Nat.le_refl _) _).alloc (by simp) _
  clear CV hA hz hnp hge hF q1 q2 q3
  generalize attrX nameN_ pc.attrs [] = nm at *
  generalize verX pc.attrs = ev at *
  unfold zeroD at hw1
  unfold depC
  generalize mkS nm = NM at *
  generalize mkS ev = EV at *
  go_enter Tryz.func241, Tryz.ntmps241
  go_upto_region 1 with fail
  rw [← hw1]
  clear hw1
  have l0 := K1.out.cell 0
  have l1 := K1.out.cell 1
  have l2 := K1.out.cell 2
  have l3 := K1.out.cell 3
  simp at l0 l1 l2 l3
  go_wp2_with fail
  refine (C1.out _ HB1.out).mono ?_
  rintro e w2 ⟨rfl, hb⟩
  have HB2 := Lib.hid (HB1.out.trans (hb.mono HB1.out.size))
  have K2 := Lib.hid (K1.out.below hb K1.out.lt)
  have Z2 := Lib.hid (Z1.out.below hb Z1.out.lt)
  clear hb l0 l1 l2 l3 C1 K1 Z1
  have l0 := K2.out.cell 0
  have l1 := K2.out.cell 1
  have l2 := K2.out.cell 2
  have l3 := K2.out.cell 3
  simp at l0 l1 l2 l3
  go_wp2_with fail
  refine (CP.out _).mono ?_
  rintro e w2' ⟨rfl, rfl⟩
  clear CP
  go_wp2_with fail
  refine (C2.out _ HB2.out).mono ?_
  rintro e w3 ⟨rfl, hb⟩
  have HB3 := Lib.hid (HB2.out.trans (hb.mono HB2.out.size))
  have K3 := Lib.hid (K2.out.below hb K2.out.lt)
  have Z3 := Lib.hid (Z2.out.below hb Z2.out.lt)
  clear hb l0 l1 l2 l3 C2 K2 Z2
  go_wp2_with fail
  refine (CC.out _ HB3.out).mono ?_
  rintro e w3' ⟨rfl, rfl⟩
  clear CC
  obtain ⟨w4, hw4⟩ : ∃ w4, w4 = w3.alloc (.cells #[.int .i64 1, .string NM, .int .i64 6, .string ⟨#[]⟩, .slice none 0 0] 44) := ⟨_, rfl⟩
  have D4 : Hid (Blk w4 w3.heap.size 44 #[.int .i64 1, .string NM, .int .i64 6, .string ⟨#[]⟩, .slice none 0 0]) := by rw [hw4]; exact Blk.new _ _ _
  have hb4 : Below w3.heap.size w3 w4 := by rw [hw4]; exact (Below.refl _ _).alloc (Nat.le_refl _) _
  have HB4 := Lib.hid (HB3.out.trans (hb4.mono HB3.out.size))
  have K4 := Lib.hid (Blk.mono K3.out hb4)
  have Z4 := Lib.hid (Blk.mono Z3.out hb4)
  have hne : ¬ w.heap.size + 1 = w3.heap.size := by have := Z3.out.lt; omega
  clear hb4 K3 Z3
  have l0 := K4.out.cell 0
  have l1 := K4.out.cell 1
  have l2 := K4.out.cell 2
  have l3 := K4.out.cell 3
  simp at l0 l1 l2 l3
  go_upto_region 11 with fail
  rw [← hw4]
  clear hw4
  go_wp2_with fail
  refine (CX.out _ HB4.out).mono ?_
  rintro e w5 ⟨rfl, hb⟩
  have HB5 := Lib.hid (HB4.out.trans (hb.mono HB4.out.size))
  have D5 := D4.out.below hb D4.out.lt
  have Z5 := Z4.out.below hb Z4.out.lt
  have d0 := D5.cell 0
  have d1 := D5.cell 1
  have d2 := D5.cell 2
  have d3 := D5.cell 3
  have d4 := D5.cell 4
  have e3 := D5.free 3
  have z0 := Z5.cell 0
  have z1 := Z5.cell 1
  have z2 := Z5.cell 2
  have z3 := Z5.cell 3
  have z4 := Z5.cell 4
  have f0 := Z5.free 0
  have f1 := Z5.free 1
  have f2 := Z5.free 2
  have f3 := Z5.free 3
  have f4 := Z5.free 4
  unfold zeroD at z0 z1 z2 z3 z4
  simp at d0 d1 d2 d3 d4 z0 z1 z2 z3 z4
  have Z6 := Z5.far (p := ⟨w3.heap.size, 3, none⟩) hne (.string EV)
  have HK := Lib.hid (dep_load (((((Z6.set_ 0 (.int .i64 1)).set_ 1 (.string NM)).set_ 2 (.int .i64 6)).set_ 3 (.string EV)).set_ 4 (.slice none 0 0)))
  have HBZ : Hid (Below w.heap.size w ((((((w5.setCell ⟨w3.heap.size, 3, none⟩ (.string EV)).setCell ⟨w.heap.size + 1, 0, none⟩ (.int .i64 1)).setCell ⟨w.heap.size + 1, 1, none⟩ (.string NM)).setCell ⟨w.heap.size + 1, 2, none⟩ (.int .i64 6)).setCell ⟨w.heap.size + 1, 3, none⟩ (.string EV)).setCell ⟨w.heap.size + 1, 4, none⟩ (.slice none 0 0))) :=
    (((((HB5.out.setCell (by have := HB3.out.size; simpa using this) _).setCell (by simp) _).setCell (by simp) _).setCell (by simp) _).setCell (by simp) _).setCell (by simp) _
  clear hb D5 Z5 Z6 CX l0 l1 l2 l3 K4 Z4 D4 HB1 HB2 HB3 HB4 HB5
  go_wp2_with fail
  refine bodyPost_ret (v := .tuple #[.agg #[.int .i64 1, .string NM, .int .i64 6, .string EV, .slice none 0 0], .int .i64 0]) ?_ rfl ⟨rfl, HBZ.out⟩
  refine (results_ct (t := 2) (u := 3) rfl _ (ad := ⟨w.heap.size + 1, 0, none⟩) rfl HK.out).trans ?_
  rfl
end Go.Proofs.YtljldbdjkjllhaaGreatDoor

/- The start of an entry: it is put to a list that has none yet. -/
namespace Go.Proofs.YtljldbdjkjllhaaGreatDoor
set_option linter.unusedSimpArgs false
set_option linter.unusedVariables false
open Go.RowKit

def preN : Bs := [112, 114, 101]
theorem one_no {l : Bs} (h : ¬ l = [49]) : ((mkS l).toList == ([49] : List UInt8)) = false := by
  have h1 := str_ne (a := mkS l) (b := mkS [49]) (fun e => h (mkS_inj e))
  have h2 : (mkS [49]).toList = [49] := by first | rfl | kernel_rfl | decide +kernel
  rw [h2] at h1
  exact h1
theorem info_dep : ∃ i z, Tryz.prog.info? 44 = some i ∧ i.zero = some z ∧ z.cells.size = 5 ∧ i.size = 5 ∧ i.bytes = 72 := by
  have h : (Tryz.prog.info? 44).map (fun i => (i.zero.map fun z => z.cells.size, i.size, i.bytes)) = some (some 5, 5, 72) := by kernel_rfl
  obtain ⟨i, hi, h2⟩ := Option.map_eq_some_iff.1 h
  simp only [Prod.mk.injEq] at h2
  obtain ⟨z, hz, hz1⟩ := Option.map_eq_some_iff.1 h2.1
  exact ⟨i, z, hi, hz, hz1, h2.2.1, h2.2.2⟩
theorem row_blk {w : World} {base e sz n c : Nat} {A : Option Addr} {xs : List Value} (h : w.ownsRow base e sz (.slice A (n + 1) c) (n + 1) xs) : ∃ g cur, A = some ⟨g, 0, none⟩ ∧ Blk w g e cur ∧ base ≤ g ∧ cur.toList.take ((n + 1) * sz) = xs ∧ xs.length = (n + 1) * sz := by
  rcases h.2 with ⟨hv, h0⟩ | ⟨g, cap, cur, hv, hb, hg, h1, h2, h3, h4⟩
  · injection hv with h1 h2
    omega
  · injection hv with e1
    exact ⟨g, cur, e1, hg, hb, h4, h.1⟩
theorem five_sets (cur : Array Value) (h : 5 ≤ cur.size) (a b c d e : Value) : ∀ j, j < 5 → (((((cur.setIfInBounds 0 a).setIfInBounds 1 b).setIfInBounds 2 c).setIfInBounds 3 d).setIfInBounds 4 e)[j]? = (#[a, b, c, d, e] : Array Value)[j]?
  | 0, _ => by
    have h0 : 0 < cur.size := by omega
    have h1 : 1 < cur.size := by omega
    have h2 : 2 < cur.size := by omega
    have h3 : 3 < cur.size := by omega
    have h4 : 4 < cur.size := by omega
    simp [Array.getElem?_setIfInBounds, h0, h1, h2, h3, h4]
  | 1, _ => by
    have h0 : 0 < cur.size := by omega
    have h1 : 1 < cur.size := by omega
    have h2 : 2 < cur.size := by omega
    have h3 : 3 < cur.size := by omega
    have h4 : 4 < cur.size := by omega
    simp [Array.getElem?_setIfInBounds, h0, h1, h2, h3, h4]
  | 2, _ => by
    have h0 : 0 < cur.size := by omega
    have h1 : 1 < cur.size := by omega
    have h2 : 2 < cur.size := by omega
    have h3 : 3 < cur.size := by omega
    have h4 : 4 < cur.size := by omega
    simp [Array.getElem?_setIfInBounds, h0, h1, h2, h3, h4]
  | 3, _ => by
    have h0 : 0 < cur.size := by omega
    have h1 : 1 < cur.size := by omega
    have h2 : 2 < cur.size := by omega
    have h3 : 3 < cur.size := by omega
    have h4 : 4 < cur.size := by omega
    simp [Array.getElem?_setIfInBounds, h0, h1, h2, h3, h4]
  | 4, _ => by
    have h0 : 0 < cur.size := by omega
    have h1 : 1 < cur.size := by omega
    have h2 : 2 < cur.size := by omega
    have h3 : 3 < cur.size := by omega
    have h4 : 4 < cur.size := by omega
    simp [Array.getElem?_setIfInBounds, h0, h1, h2, h3, h4]
  | n + 5, h => by omega
def ENT (w : World) (pk : Nat) (cs : Array Value) (NM EV : ByteArray) (w' : World) : Prop := Turned [pk] w w' ∧ ∃ g cc, 1 ≤ cc ∧ cc ≤ maxLen ∧ Blk w' pk 42 (cs.setIfInBounds 5 (.slice (some ⟨g, 0, none⟩) 1 cc)) ∧ w.heap.size ≤ g ∧ ∃ cur, Blk w' g 44 cur ∧ ∀ j, j < 5 → cur[j]? = (#[.int .i64 1, .string NM, .int .i64 6, .string EV, .slice none 0 0] : Array Value)[j]?
section
variable {w w5 : World} {pk g el c5 : Nat} {cs cur : Array Value} {NM EV : ByteArray}
theorem ent_A (hb : Below w.heap.size w w5) (G5 : Blk w5 g 44 cur) (hg5 : cur.size ≥ 5) (P5 : Blk w5 pk 42 cs) (E5 : Blk w5 el 63 #[.map none, .nilFunc]) (hgl : w.heap.size ≤ g) (hn5 : 1 ≤ c5) (hm5 : c5 ≤ maxLen) :
    ENT w pk cs NM EV ((((((w5.setCell ⟨g, 0, none⟩ (.int .i64 1)).setCell ⟨g, 1, none⟩ (.string NM)).setCell ⟨g, 2, none⟩ (.int .i64 6)).setCell ⟨g, 3, none⟩ (.string EV)).setCell ⟨g, 4, none⟩ (.slice none 0 0)).setCell ⟨pk, 5, none⟩ (.slice (some ⟨g, 0, none⟩) 1 c5)) ∧ Blk ((((((w5.setCell ⟨g, 0, none⟩ (.int .i64 1)).setCell ⟨g, 1, none⟩ (.string NM)).setCell ⟨g, 2, none⟩ (.int .i64 6)).setCell ⟨g, 3, none⟩ (.string EV)).setCell ⟨g, 4, none⟩ (.slice none 0 0)).setCell ⟨pk, 5, none⟩ (.slice (some ⟨g, 0, none⟩) 1 c5)) el 63 #[.map none, .nilFunc] := by
  have hgp : g ≠ pk := Blk.kind G5 P5 (by decide)
  have hge : g ≠ el := Blk.kind G5 E5 (by decide)
  have hpe : pk ≠ el := Blk.kind P5 E5 (by decide)
  refine ⟨⟨?_, g, c5, hn5, hm5, ?_, hgl, _, ?_, five_sets cur hg5 _ _ _ _ _⟩, ?_⟩
  · exact ((((((Turned.of_below hb [pk]).setCell (.inr hgl) _).setCell (.inr hgl) _).setCell (.inr hgl) _).setCell (.inr hgl) _).setCell (.inr hgl) _).setCell (.inl (by simp)) _
  · exact Blk.set_ (((((P5.far (Ne.symm hgp) _).far (Ne.symm hgp) _).far (Ne.symm hgp) _).far (Ne.symm hgp) _).far (Ne.symm hgp) _) 5 _
  · exact (Blk.set_ (Blk.set_ (Blk.set_ (Blk.set_ (Blk.set_ G5 0 _) 1 _) 2 _) 3 _) 4 _).far hgp _
  · exact (((((E5.far (Ne.symm hge) _).far (Ne.symm hge) _).far (Ne.symm hge) _).far (Ne.symm hge) _).far (Ne.symm hge) _).far (Ne.symm hpe) _
theorem ent_B (hb : Below w.heap.size w w5) (G5 : Blk w5 g 44 cur) (hg5 : cur.size ≥ 5) (P5 : Blk w5 pk 42 cs) (E5 : Blk w5 el 63 #[.map none, .nilFunc]) (hgl : w.heap.size ≤ g) (hn5 : 1 ≤ c5) (hm5 : c5 ≤ maxLen) :
    ENT w pk cs NM EV ((((((w5.setCell ⟨pk, 5, none⟩ (.slice (some ⟨g, 0, none⟩) 1 c5)).setCell ⟨g, 0, none⟩ (.int .i64 1)).setCell ⟨g, 1, none⟩ (.string NM)).setCell ⟨g, 2, none⟩ (.int .i64 6)).setCell ⟨g, 3, none⟩ (.string EV)).setCell ⟨g, 4, none⟩ (.slice none 0 0)) ∧ Blk ((((((w5.setCell ⟨pk, 5, none⟩ (.slice (some ⟨g, 0, none⟩) 1 c5)).setCell ⟨g, 0, none⟩ (.int .i64 1)).setCell ⟨g, 1, none⟩ (.string NM)).setCell ⟨g, 2, none⟩ (.int .i64 6)).setCell ⟨g, 3, none⟩ (.string EV)).setCell ⟨g, 4, none⟩ (.slice none 0 0)) el 63 #[.map none, .nilFunc] := by
  have hgp : g ≠ pk := Blk.kind G5 P5 (by decide)
  have hge : g ≠ el := Blk.kind G5 E5 (by decide)
  have hpe : pk ≠ el := Blk.kind P5 E5 (by decide)
  refine ⟨⟨?_, g, c5, hn5, hm5, ?_, hgl, _, ?_, five_sets cur hg5 _ _ _ _ _⟩, ?_⟩
  · exact ((((((Turned.of_below hb [pk]).setCell (.inl (by simp)) _).setCell (.inr hgl) _).setCell (.inr hgl) _).setCell (.inr hgl) _).setCell (.inr hgl) _).setCell (.inr hgl) _
  · exact (((((Blk.set_ P5 5 _).far (Ne.symm hgp) _).far (Ne.symm hgp) _).far (Ne.symm hgp) _).far (Ne.symm hgp) _).far (Ne.symm hgp) _
  · exact Blk.set_ (Blk.set_ (Blk.set_ (Blk.set_ (Blk.set_ (G5.far hgp _) 0 _) 1 _) 2 _) 3 _) 4 _
  · exact (((((E5.far (Ne.symm hpe) _).far (Ne.symm hge) _).far (Ne.symm hge) _).far (Ne.symm hge) _).far (Ne.symm hge) _).far (Ne.symm hge) _
theorem ent_el {W : World} (h : ENT w pk cs NM EV W) (hE : Blk W el 63 #[.map none, .nilFunc]) (hel : w.heap.size ≤ el) :
    ENT w pk cs NM EV ((W.setCell ⟨el, 0, none⟩ (.map none)).setCell ⟨el, 1, none⟩ .nilFunc) ∧ (loadVar 63 ⟨el, 0, none⟩).run Tryz.prog ((W.setCell ⟨el, 0, none⟩ (.map none)).setCell ⟨el, 1, none⟩ .nilFunc) = .ok (.agg #[.map none, .nilFunc]) ((W.setCell ⟨el, 0, none⟩ (.map none)).setCell ⟨el, 1, none⟩ .nilFunc) := by
  obtain ⟨ht, g, cc, h1, h2, hP, hgl, cur, hG, hj⟩ := h
  have hpe : pk ≠ el := Blk.kind hP hE (by decide)
  have hge : g ≠ el := Blk.kind hG hE (by decide)
  refine ⟨⟨(ht.setCell (.inr hel) _).setCell (.inr hel) _, g, cc, h1, h2, (hP.far hpe _).far hpe _, hgl, cur, (hG.far hge _).far hge _, hj⟩, ?_⟩
  have hK := Blk.set_ (Blk.set_ hE 0 (.map none)) 1 .nilFunc
  exact el_load hK
end
set_option maxHeartbeats 16000000 in
set_option maxRecDepth 100000 in
theorem entry_any (n : Bs) (pk : Nat) (cs : Array Value) (pc : Pc) (A : Option Addr) (c : Nat) (w : World) (hF : FlagsAt w) (hA : AlR w A pc.attrs) (hl : pc.attrs.length ≤ c) (hc : c ≤ maxLen) (hz : ∀ nm, (attrX nm pc.attrs []).length ≤ 100000)
    (hnp : Lib.hasPrefix (attrX nameN_ pc.attrs []) [40] = false) (hge : attrX flagN pc.attrs [] = geN) (hpre : ¬ attrX preN pc.attrs [] = [49]) (hp : Blk w pk 42 cs) (h5 : cs[5]? = some (.slice none 0 0)) :
    Calls Tryz.prog 199 #[.agg #[.string (mkS n), .pointer (some ⟨pk, 5, none⟩), .pointer (some ⟨pk, 6, none⟩)], .agg #[.int .i64 pc.kind, .string (mkS pc.name), .slice A pc.attrs.length c, .string (mkS pc.text)]] w fun e w' =>
      e = .returned (.tuple #[.agg #[.map none, .nilFunc], .int .i64 0]) ∧ ENT w pk cs (mkS (attrX nameN_ pc.attrs [])) (mkS (verX pc.attrs)) w' := by
  have hst := fun (a : Addr) (m : _) (w : World) => run_store Tryz.prog w a .nilFunc m rfl
  have CD := Lib.hid (fun w' (hb : Below w.heap.size w w') => dependency_ge pc A c w' (hF.below hb) (hA.below hb) hl hc hz hnp hge)
  have CV := Lib.hid (fun w' (hb : Below w.heap.size w w') => attr_val pc A c preN w' (hA.below hb) hl hc)
  have q1 : mkS preN = ⟨#[112, 114, 101]⟩ := rfl
  rw [q1] at CV
  have tp := one_no hpre
  obtain ⟨i0, z0, hi, hz0, hz1, hz2, hz3⟩ := info_dep
  have HI := Lib.hid hi
  obtain ⟨w1, hw1⟩ : ∃ w1, w1 = ((w.alloc (.cells #[.string (mkS n), .pointer (some ⟨pk, 5, none⟩), .pointer (some ⟨pk, 6, none⟩)] 211)).alloc (.cells #[.int .i64 pc.kind, .string (mkS pc.name), .slice A pc.attrs.length c, .string (mkS pc.text)] 68)).alloc (.cells #[.map none, .nilFunc] 63) := ⟨_, rfl⟩
  have B1 : Hid (Blk w1 w.heap.size 211 #[.string (mkS n), .pointer (some ⟨pk, 5, none⟩), .pointer (some ⟨pk, 6, none⟩)]) := by rw [hw1]; exact ((Blk.new _ _ _).alloc _).alloc _
  have K1 : Hid (Blk w1 (w.heap.size + 1) 68 #[.int .i64 pc.kind, .string (mkS pc.name), .slice A pc.attrs.length c, .string (mkS pc.text)]) := by rw [hw1]; exact (Blk.new' (by simp)).alloc _
  have E1 : Hid (Blk w1 (w.heap.size + 2) 63 #[.map none, .nilFunc]) := by rw [hw1]; exact Blk.new' (by simp)
  have HB1 : Hid (Below w.heap.size w w1) := by rw [hw1]; exact (((Below.refl _ _).alloc (Nat.le_refl _) _).alloc (by simp) _).alloc (by simp; omega) _
  have HP := Lib.hid hp
  have H5 := Lib.hid h5
  have hplt := hp.lt
  clear hA hz hnp hge hF q1 hpre hi hp h5
  generalize attrX preN pc.attrs [] = pr at *
  generalize mkS pr = PR at *
  generalize attrX nameN_ pc.attrs [] = nm at *
  generalize verX pc.attrs = ev at *
  unfold depC at *
  generalize mkS nm = NM at *
  generalize mkS ev = EV at *
  generalize mkS n = NN at *
  go_enter Tryz.func199, Tryz.ntmps199
  go_upto_region 1 with fail
  rw [← hw1]
  clear hw1
  have l0 := K1.out.cell 0
  have l1 := K1.out.cell 1
  have l2 := K1.out.cell 2
  have l3 := K1.out.cell 3
  simp at l0 l1 l2 l3
  go_wp2_with fail
  refine (CD.out _ HB1.out).mono ?_
  rintro e w2 ⟨rfl, hb⟩
  obtain ⟨w3, hw3⟩ : ∃ w3, w3 = w2.alloc (.cells #[.int .i64 1, .string NM, .int .i64 6, .string EV, .slice none 0 0] 44) := ⟨_, rfl⟩
  have D3 : Hid (Blk w3 w2.heap.size 44 #[.int .i64 1, .string NM, .int .i64 6, .string EV, .slice none 0 0]) := by rw [hw3]; exact Blk.new _ _ _
  have hb3 : Below w1.heap.size w1 w3 := hb.trans (by rw [hw3]; exact (Below.refl _ _).alloc hb.size _)
  have HB3 := Lib.hid (HB1.out.trans (hb3.mono HB1.out.size))
  have K3 := Lib.hid (Blk.mono K1.out hb3)
  have B3 := Lib.hid (Blk.mono B1.out hb3)
  have E3 := Lib.hid (Blk.mono E1.out hb3)
  clear hb hb3 l0 l1 l2 l3 K1 B1 E1 CD
  have l0 := K3.out.cell 0
  have l1 := K3.out.cell 1
  have l2 := K3.out.cell 2
  have l3 := K3.out.cell 3
  have b1 := B3.out.cell 1
  have b2 := B3.out.cell 2
  simp at l0 l1 l2 l3 b1 b2
  go_upto_region 2 with fail
  rw [← hw3]
  clear hw3
  go_wp2_with fail
  refine (CV.out _ HB3.out).mono ?_
  rintro e w4 ⟨rfl, hb⟩
  have HB4 := Lib.hid (HB3.out.trans (hb.mono HB3.out.size))
  have E4 := Lib.hid (Blk.mono E3.out hb)
  have D4 := Lib.hid (Blk.mono D3.out hb)
  have P4 := Lib.hid (Blk.mono HP.out HB4.out)
  clear hb l0 l1 l2 l3 b1 b2 K3 B3 E3 D3 CV
  go_wp2_with fail
  have p5c := (P4.out.cell 5).trans H5.out
  have p5f := P4.out.free 5
  have d0 := D4.out.cell 0
  have d1 := D4.out.cell 1
  have d2 := D4.out.cell 2
  have d3 := D4.out.cell 3
  have d4 := D4.out.cell 4
  simp at d0 d1 d2 d3 d4
  have hdl := D4.out.lt
  have hpl := P4.out.lt
  go_region_law (refine step_append_at rfl (.tmp 32) (.tmp 35) 40 rfl w.heap.size 44 i0 z0 5 72 Tryz.underlying40 HI.out hz0 hz2 hz3 hz1 (by decide) (.slice none 0 0) 0 [] (by simp [Act.eval, Act.put]) (World.ownsRow_nil _ _ _ _) ⟨w4.heap.size, 0, none⟩ 1 1 [.int .i64 0, .string ⟨#[]⟩, .int .i64 0, .string ⟨#[]⟩, .slice none 0 0] (by simp [Act.eval, Act.put]) rfl (cells_at (t := 44) (us := #[.int .i64 0, .string ⟨#[]⟩, .int .i64 0, .string ⟨#[]⟩, .slice none 0 0]) (by repeat (first | exact Blk.new _ _ _ | refine Blk.drew ?_ | refine Blk.drewN ?_ _ | refine Blk.alloc ?_ _)) rfl) (fun u hu => by simp at hu; rcases hu with rfl | rfl | rfl | rfl | rfl <;> rfl) (by unfold maxLen; omega) (by omega) (by have := HB4.out.size; simp; omega) ?_; intro v5 w5 hown hg hat; obtain ⟨A5, c5, rfl, hn5, hm5⟩ := own_form' hown; obtain ⟨g, cur, rfl, hgb, hgl, htk, hxl⟩ := row_blk hown; have T5 : Hid (Turned [] w4 w5) := (by refine Turned.grown (w' := _) (row := none) ?_ hg (fun k hk => by cases hk); repeat (first | exact Turned.refl _ _ | refine Turned.drew ?_ | refine Turned.drewN ?_ _ | refine Turned.alloc ?_ _)); have G5 := Lib.hid hgb; have P5 := Lib.hid (P4.out.turned T5.out (fun hk => by cases hk)); have E5 := Lib.hid (E4.out.turned T5.out (fun hk => by cases hk)); have D5 := Lib.hid (D4.out.turned T5.out (fun hk => by cases hk)); have c5' := (P5.out.cell 5).trans H5.out; have f5' := P5.out.free 5; have d0 := D5.out.cell 0; have d1 := D5.out.cell 1; have d2 := D5.out.cell 2; have d3 := D5.out.cell 3; have d4 := D5.out.cell 4; simp at d0 d1 d2 d3 d4; have hg5 : cur.size ≥ 5 := (by have := congrArg List.length htk; simp at this; omega); have g0 := G5.out.cell 0; have g1 := G5.out.cell 1; have g2 := G5.out.cell 2; have g3 := G5.out.cell 3; have g4 := G5.out.cell 4; rw [Array.getElem?_eq_getElem (by omega)] at g0 g1 g2 g3 g4; have gf0 := G5.out.free 0; have gf1 := G5.out.free 1; have gf2 := G5.out.free 2; have gf3 := G5.out.free 3; have gf4 := G5.out.free 4; have HGL := Lib.hid hgl; have hgp : ¬ g = pk := Blk.kind G5.out P5.out (by decide); have hpg : ¬ pk = g := fun e => hgp e.symm; have hge : g ≠ w.heap.size + 2 := Blk.kind G5.out E5.out (by decide); unfold maxLen at hm5; clear hown hg hat hgb hgl htk hxl)
  all_goals
    have hb45 : Below w.heap.size w w5 := HB4.out.trans (T5.out.below (fun k hk => by cases hk) HB4.out.size)
    have HA := Lib.hid (ent_A (w := w) (NM := NM) (EV := EV) hb45 G5.out hg5 P5.out E5.out HGL.out hn5 (by unfold maxLen; exact hm5))
    have HB := Lib.hid (ent_B (w := w) (NM := NM) (EV := EV) hb45 G5.out hg5 P5.out E5.out HGL.out hn5 (by unfold maxLen; exact hm5))
    clear hb45 d0 d1 d2 d3 d4 g0 g1 g2 g3 g4 gf0 gf1 gf2 gf3 gf4 c5' f5' T5 G5 P5 E5 D5 HB4 E4 D4 P4 HP H5 HI hdl hpl p5c p5f HGL hgp hpg hge
    obtain ⟨WA, hWA⟩ : ∃ W, W = ((((((w5.setCell ⟨g, 0, none⟩ (.int .i64 1)).setCell ⟨g, 1, none⟩ (.string NM)).setCell ⟨g, 2, none⟩ (.int .i64 6)).setCell ⟨g, 3, none⟩ (.string EV)).setCell ⟨g, 4, none⟩ (.slice none 0 0)).setCell ⟨pk, 5, none⟩ (.slice (some ⟨g, 0, none⟩) 1 c5)) := ⟨_, rfl⟩
    obtain ⟨WB, hWB⟩ : ∃ W, W = ((((((w5.setCell ⟨pk, 5, none⟩ (.slice (some ⟨g, 0, none⟩) 1 c5)).setCell ⟨g, 0, none⟩ (.int .i64 1)).setCell ⟨g, 1, none⟩ (.string NM)).setCell ⟨g, 2, none⟩ (.int .i64 6)).setCell ⟨g, 3, none⟩ (.string EV)).setCell ⟨g, 4, none⟩ (.slice none 0 0)) := ⟨_, rfl⟩
    rw [← hWA] at HA
    rw [← hWB] at HB
    first
    | (rw [← hWA]; clear hWA hWB HB; have HX := Lib.hid HA.out; clear HA)
    | (rw [← hWB]; clear hWA hWB HA; have HX := Lib.hid HB.out; clear HB)
    have HZ := Lib.hid (ent_el HX.out.1 HX.out.2 (by omega))
    have e0 := HX.out.2.cell 0
    have e1 := HX.out.2.cell 1
    have ef0 := HX.out.2.free 0
    have ef1 := HX.out.2.free 1
    simp at e0 e1
    clear HX hl hc hz0 hz1 hz2 hz3 hplt hg5 hn5 hm5
    go_wp2_with fail
    refine bodyPost_ret (v := .tuple #[.agg #[.map none, .nilFunc], .int .i64 0]) ?_ rfl ⟨rfl, HZ.out.1⟩
    refine (results_ct (t := 4) (u := 5) rfl _ (ad := ⟨w.heap.size + 2, 0, none⟩) rfl HZ.out.2).trans ?_
    rfl
end Go.Proofs.YtljldbdjkjllhaaGreatDoor

/- The start of an element that is left out. -/
namespace Go.Proofs.YtljldbdjkjllhaaGreatDoor
set_option linter.unusedSimpArgs false
set_option linter.unusedVariables false
open Go.RowKit

/-- What is to be done within: none, or a map of functions. -/
def WithinAt (w : World) (nm : Bs) (wv v : Value) : Prop := (wv = .map none ∧ v = .nilFunc) ∨ ∃ m l, wv = .map (some m) ∧ w.heap[m]? = some (mapO l) ∧ (lookO (mkS nm) l).getD .nilFunc = v
theorem neq_nil_nil (w : World) : (Go.binOp .neq 138 .nilFunc .nilFunc).run Tryz.prog w = .ok (.bool false) w := by kernel_rfl
theorem zeroBegin : ∀ w, (zeroValue 138).run Tryz.prog w = .ok .nilFunc w := fun w => by kernel_rfl
theorem WithinAt.run {w : World} {nm : Bs} {wv v : Value} (h : WithinAt w nm wv v) : (Instr.lookup 60 wv (.string (mkS nm)) false).run Tryz.prog w = .ok v w := by
  rcases h with ⟨rfl, rfl⟩ | ⟨m, l, rfl, hm, hv⟩
  · exact run_look_nil Tryz.underlying60 Tryz.underlying9 zeroBegin
  · rw [← hv]
    exact run_look Tryz.underlying60 Tryz.underlying9 zeroBegin hm
theorem WithinAt.below {w w' : World} {nm : Bs} {wv v : Value} (h : WithinAt w nm wv v) (hb : Below w.heap.size w w') : WithinAt w' nm wv v := by
  rcases h with h | ⟨m, l, h1, hm, hv⟩
  · exact .inl h
  · exact .inr ⟨m, l, h1, map_below hm hb, hv⟩
theorem WithinAt.drewN {w : World} {nm : Bs} {wv v : Value} (h : WithinAt w nm wv v) (n : Nat) : WithinAt (w.drewN n) nm wv v := h
theorem WithinAt.form {w : World} {nm : Bs} {wv v : Value} (h : WithinAt w nm wv v) : ∃ m, wv = .map m := by
  rcases h with ⟨rfl, _⟩ | ⟨m, l, rfl, _⟩
  · exact ⟨_, rfl⟩
  · exact ⟨_, rfl⟩
/-- Behind a start: the new innermost one stands in a block of its own. -/
def Started (w : World) (r g0 : Nat) (vp mv ev : Value) (w' : World) : Prop := Turned [r] w w' ∧ ∃ g, Blk w' r 58 #[.pointer (some ⟨g, 0, none⟩), vp] ∧ Blk w' g 65 #[mv, ev, .pointer (some ⟨g0, 0, none⟩), .slice none 0 0] ∧ w.heap.size ≤ g
set_option maxHeartbeats 4000000 in
set_option maxRecDepth 100000 in
theorem start_out (r g0 : Nat) (vp en : Value) (mv : Option Nat) (ar : Addr) (tx : Value) (pc : Pc) (A : Option Addr) (c : Nat) (w : World) (hr : Blk w r 58 #[.pointer (some ⟨g0, 0, none⟩), vp]) (hg : Blk w g0 65 #[.map mv, en, .pointer (some ar), tx]) (hw : WithinAt w pc.name (.map mv) .nilFunc) :
    Calls Tryz.prog 44 #[.pointer (some ⟨r, 0, none⟩), .agg #[.int .i64 pc.kind, .string (mkS pc.name), .slice A pc.attrs.length c, .string (mkS pc.text)]] w fun e w' => e = .returned (.int .i64 0) ∧ Started w r g0 vp (.map none) .nilFunc w' := by
  obtain ⟨w1, hw1⟩ : ∃ w1, w1 = (w.alloc (.cells #[.int .i64 pc.kind, .string (mkS pc.name), .slice A pc.attrs.length c, .string (mkS pc.text)] 68)).alloc (.cells #[.map none, .nilFunc, .pointer (some ⟨g0, 0, none⟩), .slice none 0 0] 65) := ⟨_, rfl⟩
  have K1 : Hid (Blk w1 w.heap.size 68 #[.int .i64 pc.kind, .string (mkS pc.name), .slice A pc.attrs.length c, .string (mkS pc.text)]) := by rw [hw1]; exact (Blk.new _ _ _).alloc _
  have N1 : Hid (Blk w1 (w.heap.size + 1) 65 #[.map none, .nilFunc, .pointer (some ⟨g0, 0, none⟩), .slice none 0 0]) := by rw [hw1]; exact Blk.new' (by simp)
  have HB1 : Hid (Below w.heap.size w w1) := by rw [hw1]; exact ((Below.refl _ _).alloc (Nat.le_refl _) _).alloc (by simp) _
  have R1 := Lib.hid (Blk.mono hr HB1.out)
  have G1 := Lib.hid (Blk.mono hg HB1.out)
  have HLK : ∀ n, (Instr.lookup 60 (.map mv) (.string (mkS pc.name)) false).run Tryz.prog (w1.drewN n) = .ok .nilFunc (w1.drewN n) := fun n => ((hw.below HB1.out).drewN n).run
  have hlk0 : (Instr.lookup 60 (.map mv) (.string (mkS pc.name)) false).run Tryz.prog w1 = .ok .nilFunc w1 := (hw.below HB1.out).run
  have r0 := (hr.alloc (.cells #[.int .i64 pc.kind, .string (mkS pc.name), .slice A pc.attrs.length c, .string (mkS pc.text)] 68)).cell 0
  simp at r0
  have hrl := hr.lt
  have hne : ¬ r = w.heap.size + 1 := by omega
  clear hr hg hw
  go_enter Tryz.func44, Tryz.ntmps44
  go_upto_region 2 with fail
  rw [← hw1]
  clear hw1 r0
  have r0 := R1.out.cell 0
  have f0 := R1.out.free 0
  have g0' := G1.out.cell 0
  have g2 := G1.out.cell 2
  have l0 := K1.out.cell 0
  have l1 := K1.out.cell 1
  simp at r0 g0' g2 l0 l1
  go_quiet (fail)
  have HBQ : Hid (Below w.heap.size w (w1.drewN nq)) := below_drewN' (n := nq) HB1.out
  have RQ : Hid (Blk (w1.drewN nq) r 58 #[.pointer (some ⟨g0, 0, none⟩), vp]) := R1.out
  have GQ : Hid (Blk (w1.drewN nq) g0 65 #[.map mv, en, .pointer (some ar), tx]) := G1.out
  have NQ : Hid (Blk (w1.drewN nq) (w.heap.size + 1) 65 #[.map none, .nilFunc, .pointer (some ⟨g0, 0, none⟩), .slice none 0 0]) := N1.out
  clear r0 f0 g0' g2 l0 l1 HLK hlk0 HB1 R1 G1 N1 K1
  generalize w1.drewN nq = w2 at HBQ RQ GQ NQ ⊢
  have r0 := RQ.out.cell 0
  have f0 := RQ.out.free 0
  have g2 := GQ.out.cell 2
  simp at r0 g2
  have hq0 := neq_nil_nil w2
  go_wp2_with fail
  go_ret
  exact ⟨rfl, (Turned.of_below HBQ.out [r]).setCell (.inl (by simp)) _, w.heap.size + 1, RQ.out.set_ 0 _, NQ.out.far (fun e => hne e.symm) _, by omega⟩
end Go.Proofs.YtljldbdjkjllhaaGreatDoor
