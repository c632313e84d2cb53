/- Whether a dependency may be: check, Check. A stanza in memory, and the package that is made of it. -/
import Derived.Test.YtdhgiammfpjniaaGreatDoorZaap
import Derived.Test.YtdhgiammfpjniaaGreatDoorZaar
/- Whether a dependency may be: check, Check. -/
namespace Go.Proofs.YtdhgiammfpjniaaGreatDoor.Ev
set_option linter.unusedSimpArgs false
set_option linter.unusedVariables false
open Go.RowKit

def Looked (d : Dep) (w0 : World) (e : Ending) (w' : World) : Prop := Below w0.heap.size w0 w' ∧ ((mayPart d = true ∧ e = .returned (.tuple #[])) ∨ (mayPart d = false ∧ e = gaveUp 50))
set_option maxHeartbeats 1000000 in
set_option maxRecDepth 100000 in
theorem look_any (d : Dep) (s : Value) (S : Nat → Prop) (w0 : World) (hL : Lay w0 S d s) (hT : Tabs w0) :
    Calls Tryz.prog 220 #[.agg (rowD d s)] w0 (Looked d w0) := by
  obtain ⟨A, c, rfl, _, _⟩ := hL.form_
  have HB : Hid (Below w0.heap.size w0 (w0.alloc (.cells (rowD d (.slice A d.args.length c)) 39))) := (Below.refl _ _).alloc (Nat.le_refl _) _
  have C := Lib.hid (part_any d (.slice A d.args.length c) S _ (hL.stay (fun _ h => h) (StayS.below' HB.out)) (hT.below HB.out hT.two))
  have CY := Lib.hid must_yes
  have CN := Lib.hid must_no
  unfold rowD at HB C ⊢
  clear hL hT
  go_enter Tryz.func220, Tryz.ntmps220
  go_wp2_with fail
  refine C.out.mono ?_
  rintro e w1 ⟨rfl, hb1⟩
  have HB1 : Hid (Below w0.heap.size w0 w1) := HB.out.trans (hb1.mono (by simp))
  clear hb1 HB C
  cases hm : mayPart d with
  | true =>
    go_wp2_with fail
    refine (CY.out _).mono ?_
    rintro e w2 ⟨rfl, rfl⟩
    go_wp2_with fail
    go_end0
    exact ⟨HB1.out, .inl ⟨hm, rfl⟩⟩
  | false =>
    go_wp2_with fail
    refine (CN.out _).mono ?_
    rintro e w2 ⟨rfl, rfl⟩
    have HP : Hid (Looked d w0 (gaveUp 50) w1) := ⟨HB1.out, .inr ⟨hm, rfl⟩⟩
    clear hm
    unfold gaveUp
    go_wp2_with fail
    exact ⟨rfl, HP.out⟩

theorem looks (d : Dep) (N : Nat) : Sees 220 #[] d N (fun _ F _ => F = []) (fun a => !mayPart a) where
  enters := enters_of Tryz.func220 (by kernel_rfl) rfl
  stab := fun l F w w' G h _ _ => h
  call := fun S l F w a t hF hL _ _ _ hT => by
    subst hF
    refine (look_any a t S w hL hT).mono ?_
    rintro e w' ⟨hb, h⟩
    refine ⟨[], Turned.of_below hb [], fun k hk => (by cases hk), fun k hk => (by cases hk), ?_⟩
    rcases h with ⟨h1, rfl⟩ | ⟨h1, rfl⟩
    · exact .inl ⟨by simp [h1], rfl, rfl⟩
    · exact .inr ⟨by simp [h1], rfl⟩

/-- What a check does. -/
def Checked1 (d : Dep) (w0 : World) (e : Ending) (w' : World) : Prop := Below w0.heap.size w0 w' ∧ ((checkN d = 0 ∧ e = .returned (.tuple #[])) ∨ (checkN d ≠ 0 ∧ e = gaveUp (checkN d)))
theorem check_deep {d : Dep} (hf : form d = true) : checkN d = if 16 < leaves d then 51 else 0 := by unfold checkN; rw [if_pos hf]
set_option maxHeartbeats 1000000 in
set_option maxRecDepth 100000 in
theorem check_any (d : Dep) (s : Value) (S : Nat → Prop) (w0 : World) (hL : Lay w0 S d s) (hC : CleanS w0 S) (hT : Tabs w0) (hN : nodes d ≤ 4194304) :
    Calls Tryz.prog 187 #[.agg (rowD d s)] w0 (Checked1 d w0) := by
  obtain ⟨A, c, rfl, _, _⟩ := hL.form_
  have HB : Hid (Below w0.heap.size w0 (w0.alloc (.cells (rowD d (.slice A d.args.length c)) 39))) := (Below.refl _ _).alloc (Nat.le_refl _) _
  have hSlt : ∀ b, S b → b < w0.heap.size := fun b hb => by obtain ⟨cs, hc⟩ := hC b hb; exact hc.lt
  have hst := StayS.below' (S := S) HB.out
  have CE := Lib.hid (each_any d (.slice A d.args.length c) S _ [] _ _ _ _ _ (looks d (nodes d)) (hL.stay (fun _ h => h) hst) (hC.stay hst) rfl (fun k hk => (by cases hk)) (hT.below HB.out hT.two) (Nat.le_refl _) hN)
  have CM := Lib.hid (fun (hf : form d = true) w (hw : Below w0.heap.size w0 w) => many_any d (.slice A d.args.length c) S w (hL.stay (fun _ h => h) (StayS.below' hw)) (fun b hb => Nat.lt_of_lt_of_le (hSlt b hb) hw.size) hf hN)
  have K := Lib.hid (Blk.new w0 39 (rowD d (.slice A d.args.length c)))
  have HP := Lib.hid (form_parts d)
  unfold rowD at HB CE CM K ⊢
  clear hL hT hC hst hSlt
  go_enter Tryz.func187, Tryz.ntmps187
  go_wp2_with fail
  refine CE.out.mono ?_
  rintro e w1 ⟨F', ht, _, _, h⟩
  have hb1 : Below w0.heap.size w0 w1 := HB.out.trans (ht.of_nil.mono (by simp))
  have K1 := K.out.below ht.of_nil (by simp)
  have k0 := K1.cell 0
  have k1 := K1.cell 1
  have k2 := K1.cell 2
  have k3 := K1.cell 3
  have k4 := K1.cell 4
  rcases h with ⟨rfl, l, _, h1, h2⟩ | ⟨rfl, a, ha, hbad⟩
  · have hf : form d = true := HP.out.2 fun x hx => by simpa using (h2 x (h1 x hx)).2
    have HB1 := Lib.hid hb1
    have C := Lib.hid (CM.out hf w1 hb1)
    have HD := Lib.hid (check_deep hf)
    have hz := hb1.size
    clear h1 h2 ht hb1 K K1 CE CM HP HB hf
    go_wp2_with fail
    refine C.out.mono ?_
    rintro e w2 ⟨rfl, hb2⟩
    have HB2 : Hid (Below w0.heap.size w0 w2) := HB1.out.trans (hb2.mono hz)
    clear hb2 C HB1 k0 k1 k2 k3 k4
    by_cases hm : 16 < leaves d
    · have HV : Hid (checkN d = 51) := HD.out.trans (if_pos hm)
      rw [decide_eq_true hm]
      have HPP : Hid (Checked1 d w0 (gaveUp 51) w2) := ⟨HB2.out, .inr ⟨by rw [HV.out]; decide, by rw [HV.out]⟩⟩
      clear hm HD
      go_wp2_with fail
      exact ⟨rfl, HPP.out⟩
    · have HV : Hid (checkN d = 0) := HD.out.trans (if_neg hm)
      rw [decide_eq_false hm]
      clear hm HD
      go_wp2_with fail
      go_end0
      exact ⟨HB2.out, .inl ⟨HV.out, rfl⟩⟩
  · have hf : checkN d = 50 := check_bad fun h => by
      have := HP.out.1 h a ha
      simp [this] at hbad
    have HPP : Hid (Checked1 d w0 (gaveUp 50) w1) := ⟨hb1, .inr ⟨by rw [hf]; decide, by rw [hf]⟩⟩
    unfold gaveUp
    clear ht hb1 K K1 CE CM HP HB hf k0 k1 k2 k3 k4 hbad ha
    go_wp2_with fail
    exact ⟨rfl, HPP.out⟩

set_option maxHeartbeats 1000000 in
set_option maxRecDepth 100000 in
theorem checkIn_any (d : Dep) (A : Option Addr) (c : Nat) (S : Nat → Prop) (g : Nat) (w0 : World) (hK : Blk w0 g 39 (rowD d (.slice A d.args.length c))) (hL : Lay w0 S d (.slice A d.args.length c)) (hC : CleanS w0 S) (hT : Tabs w0) (hN : nodes d ≤ 4194304) :
    Calls Tryz.prog 214 #[.pointer (some ⟨g, 0, none⟩)] w0 (Checked1 d w0) := by
  have C := Lib.hid (check_any d _ S w0 hL hC hT hN)
  unfold rowD at hK C
  have k0 := hK.cell 0
  have k1 := hK.cell 1
  have k2 := hK.cell 2
  have k3 := hK.cell 3
  have k4 := hK.cell 4
  clear hL hC hT hK
  go_enter Tryz.func214, Tryz.ntmps214
  go_wp2_with fail
  refine C.out.mono ?_
  rintro e w1 ⟨hb, h⟩
  rcases h with ⟨h1, rfl⟩ | ⟨h1, rfl⟩
  · have HB := Lib.hid hb
    have H1 := Lib.hid h1
    clear hb h1 C k0 k1 k2 k3 k4
    go_wp2_with fail
    go_end0
    exact ⟨HB.out, .inl ⟨H1.out, rfl⟩⟩
  · have HPP : Hid (Checked1 d w0 (gaveUp (checkN d)) w1) := ⟨hb, .inr ⟨h1, rfl⟩⟩
    clear hb h1 C k0 k1 k2 k3 k4
    unfold gaveUp
    go_wp2_with fail
    exact ⟨rfl, HPP.out⟩
set_option maxHeartbeats 1000000 in
set_option maxRecDepth 100000 in
theorem depCheck_any (d : Dep) (s : Value) (S : Nat → Prop) (w0 : World) (hL : Lay w0 S d s) (hC : CleanS w0 S) (hT : Tabs w0) (hN : nodes d ≤ 4194304) :
    Calls Tryz.prog 182 #[.agg (rowD d s)] w0 fun e w' => e = .returned (.int .i64 (checkN d)) ∧ Below w0.heap.size w0 w' := by
  obtain ⟨A, c, rfl, _, _⟩ := hL.form_
  have hmf : ∀ (fn : Fn) (first cap : Array Value) (w : World), (Instr.makeFunc fn first cap).run Tryz.prog w = .ok (.func fn first cap) w := fun _ _ _ _ => rfl
  have hb0 : Below w0.heap.size w0 (w0.alloc (.cells (rowD d (.slice A d.args.length c)) 39)) := (Below.refl _ _).alloc (Nat.le_refl _) _
  have hbc : Below w0.heap.size w0 ((w0.alloc (.cells (rowD d (.slice A d.args.length c)) 39)).alloc (.cells #[.int .i64 0] 24)) := hb0.alloc (by simp) _
  have K : Blk ((w0.alloc (.cells (rowD d (.slice A d.args.length c)) 39)).alloc (.cells #[.int .i64 0] 24)) w0.heap.size 39 (rowD d (.slice A d.args.length c)) := (Blk.new _ _ _).alloc _
  have hst := StayS.below' (S := S) hbc
  have CC := Lib.hid (caught_any 214 #[.pointer (some ⟨w0.heap.size, 0, none⟩)] (enters_of Tryz.func214 (by kernel_rfl) rfl) [] (fun _ => checkN d = 0) (fun n _ => n = checkN d) (w0.alloc (.cells (rowD d (.slice A d.args.length c)) 39)) (fun k hk => (by cases hk))
    ((checkIn_any d A c S _ _ K (hL.stay (fun _ h => h) hst) (hC.stay hst) (hT.below hbc hT.two) hN).mono fun e w' h => by
      refine ⟨Turned.of_below h.1 [], ?_⟩
      rcases h.2 with ⟨h1, h2⟩ | ⟨h1, h2⟩
      · exact .inl ⟨h2, h1⟩
      · exact .inr ⟨_, h2, rfl⟩))
  have HB := Lib.hid hb0
  clear hL hC hT hb0 hbc K hst
  unfold rowD at CC HB ⊢
  go_enter Tryz.func182, Tryz.ntmps182
  go_wp2_with fail
  refine CC.out.mono ?_
  rintro e w1 ⟨w2, ht1, ht2, h⟩
  have HB1 : Hid (Below w0.heap.size w0 w1) := by
    have h1 := ht1.of_nil
    have h2 : Below w0.heap.size w2 w1 := ht2.below (fun k hk => by simp at hk; omega) (by have := ht1.size; simp at this; omega)
    exact ((HB.out.alloc (by simp) _).trans (h1.mono (by simp; omega))).trans h2
  rcases h with ⟨rfl, h⟩ | ⟨n, rfl, rfl⟩
  · have HV := Lib.hid h
    clear h ht1 ht2 CC HB
    go_wp2_with fail
    go_ret
    exact ⟨by rw [HV.out]; rfl, HB1.out⟩
  · clear ht1 ht2 CC HB
    go_wp2_with fail
    go_ret
    exact ⟨rfl, HB1.out⟩
end Go.Proofs.YtdhgiammfpjniaaGreatDoor.Ev

/- A stanza in memory, and the package that is made of it. -/
namespace Go.Proofs.YtdhgiammfpjniaaGreatDoor
set_option linter.unusedSimpArgs false
set_option linter.unusedVariables false
open Go.RowKit Go.MapKept

abbrev Stz := List (Bs × List Bs)
def getS : Stz → Bs → List Bs
  | [], _ => []
  | (a, l) :: r, n => if n = a then l else getS r n
def szEs : Stz → List Value → List (ByteArray × Value)
  | (a, _) :: r, v :: t => (mkS a, v) :: szEs r t
  | _, _ => []
def RowsS (w : World) (B : Nat) : Stz → List Value → Prop
  | [], [] => True
  | (_, l) :: r, v :: t => l ≠ [] ∧ w.ownsRow B 9 1 v l.length (l.map fun p => Value.string (mkS p)) ∧ RowsS w B r t
  | _, _ => False
structure SzAt (w : World) (B sm : Nat) (s : Stz) (vs : List Value) : Prop where
  map : w.heap[sm]? = some (mapO (szEs s vs))
  rows : RowsS w B s vs
theorem RowsS.below {w w' : World} {B : Nat} (hb : Below w.heap.size w w') : ∀ {s : Stz} {vs : List Value}, RowsS w B s vs → RowsS w' B s vs
  | [], [], _ => trivial
  | (_, l) :: r, v :: t, ⟨h1, h2, h3⟩ => ⟨h1, own_turned h2 (Turned.of_below hb []) (fun _ _ => by simp), h3.below hb⟩
theorem SzAt.below {w w' : World} {B sm : Nat} {s : Stz} {vs : List Value} (h : SzAt w B sm s vs) (hb : Below w.heap.size w w') : SzAt w' B sm s vs := ⟨map_below h.map hb, h.rows.below hb⟩
section
variable {P : Program} {w : World} {mty kt et : TypeId} {m : Nat} {l : List (ByteArray × Value)} {k : ByteArray}
theorem run_lookS (hm : P.underlying mty = some (.map kt et)) (hd : P.underlying kt = some .string) (hz : ∀ w, (zeroValue et).run P w = .ok (.slice none 0 0) w) (hb : w.heap[m]? = some (mapO l)) :
    (Instr.lookup mty (.map (some m)) (.string k) false).run P w = .ok ((lookO k l).getD (.slice none 0 0)) w := by
  have hk : IsKey .string (.string k) := by simp [IsKey]
  unfold mapO at hb
  rcases find_es k l 0 0 with ⟨h1, h2⟩ | ⟨p, u, h1, h2⟩
  · rw [h1]
    simp [Instr.lookup, run_underlying hm, Go.MapKept.run_getObj_map hb, run_checkKey hd hk, run_findKey hd h2, hz, Result.andThen]
  · rw [h1]
    simp [Instr.lookup, run_underlying hm, Go.MapKept.run_getObj_map hb, run_checkKey hd hk, run_findKey hd h2, Result.andThen]
end
theorem zeroSs : ∀ w, (zeroValue 32).run Tryz.prog w = .ok (.slice none 0 0) w := fun w => by kernel_rfl
/-- A field's lines in memory: nil, or a row. -/
def GotS (w : World) (l : List Bs) (v : Value) : Prop := (l = [] ∧ v = .slice none 0 0) ∨ ∃ g c, v = .slice (some ⟨g, 0, none⟩) l.length c ∧ l.length ≤ c ∧ c ≤ maxLen ∧ l ≠ [] ∧ g < w.heap.size ∧ ∀ (j : Nat) (p : Bs), l[j]? = some p → w.cell? ⟨g, j, none⟩ = some (.string (mkS p))
theorem mkS_inj_ {a b : Bs} (h : mkS a = mkS b) : a = b := by
  have := congrArg (fun s : ByteArray => s.data.toList) h
  simpa [mkS_list] using this
theorem look_got {w : World} {B : Nat} (n : Bs) : ∀ {s : Stz} {vs : List Value}, RowsS w B s vs → GotS w (getS s n) ((lookO (mkS n) (szEs s vs)).getD (.slice none 0 0))
  | [], [], _ => .inl ⟨rfl, rfl⟩
  | (a, l) :: r, v :: t, ⟨h1, h2, h3⟩ => by
    show GotS w (if n = a then l else getS r n) (((if mkS n = mkS a then some v else lookO (mkS n) (szEs r t))).getD _)
    by_cases h : n = a
    · rw [if_pos h, if_pos (by rw [h])]
      have hat : ∀ (j : Nat) (p : Bs), l[j]? = some p → ∃ g, (∃ c, v = .slice (some ⟨g, 0, none⟩) l.length c ∧ l.length ≤ c ∧ c ≤ maxLen) ∧ w.cell? ⟨g, j, none⟩ = some (.string (mkS p)) := fun j p hp => by
        obtain ⟨A, c, rfl, hc1, hc2⟩ := own_form' h2
        obtain ⟨g, rfl, hc⟩ := own_at_ h2 (k := j) (u := .string (mkS p)) (by rw [List.getElem?_map, hp]; rfl)
        exact ⟨g, ⟨c, rfl, hc1, hc2⟩, hc⟩
      obtain ⟨x, hx⟩ : ∃ x, l[0]? = some x := ⟨_, List.getElem?_eq_getElem (by cases l with | nil => exact absurd rfl h1 | cons _ _ => simp)⟩
      obtain ⟨g, ⟨c, rfl, hc1, hc2⟩, hcell⟩ := hat 0 x hx
      refine .inr ⟨g, c, rfl, hc1, hc2, h1, cell_lt hcell, fun j p hp => ?_⟩
      obtain ⟨g', ⟨c', e, _, _⟩, hc⟩ := hat j p hp
      injection e with e
      injection e with e
      injection e with e
      subst e
      exact hc
    · rw [if_neg h, if_neg (fun e => h (mkS_inj_ e))]
      exact look_got n h3
/-! The package. -/
def updF {α : Type} (f : Nat → α) (i : Nat) (x : α) (j : Nat) : α := if j = i then x else f j
def rowT (T : Nat → Bs) (ss : Nat → Value) : Array Value := #[.string (mkS (T 0)), .string (mkS (T 1)), .string (mkS (T 2)), .string (mkS (T 3)), ss 0, ss 1, ss 2, ss 3, ss 4, ss 5, ss 6, .slice none 0 0]
structure PkM (w0 w : World) (pb : Nat) (T : Nat → Bs) (D : Nat → List Ev.Dep) (ss : Nat → Value) (rs : Nat → Ev.Rows5) (F : List Nat) : Prop where
  blk : Blk w pb 37 (rowT T ss)
  own : ∀ i, i < 7 → w.ownsRow w0.heap.size 39 5 (ss i) (rs i).length (Ev.cells5 (rs i))
  is : ∀ i, i < 7 → (rs i).map Prod.fst = D i
  lay : ∀ i, i < 7 → ∀ x ∈ rs i, Ev.Lay w (fun b => b ∈ F) x.1 x.2
  far : ∀ i, i < 7 → ∀ b ∈ F, (ss i).ownBlock ≠ some b
  apart : ∀ i j, i < 7 → j < 7 → i ≠ j → ∀ k, (ss i).ownBlock = some k → (ss j).ownBlock ≠ some k
  dep : ∀ b ∈ F, w0.heap.size ≤ b ∧ ∃ cs, Blk w b 39 cs
  pge : w0.heap.size ≤ pb
  bel : Below w0.heap.size w0 w
def PkSt (w0 w : World) (pb : Nat) (T : Nat → Bs) (D : Nat → List Ev.Dep) : Prop := ∃ ss rs F, PkM w0 w pb T D ss rs F
section
variable {w0 w w' w2 : World} {pb : Nat} {T : Nat → Bs} {D : Nat → List Ev.Dep} {ss : Nat → Value} {rs : Nat → Ev.Rows5} {F : List Nat}
theorem PkM.below (h : PkM w0 w pb T D ss rs F) (hb : Below w.heap.size w w') : PkM w0 w' pb T D ss rs F :=
  ⟨Blk.mono h.blk hb, fun i hi => own_turned (h.own i hi) (Turned.of_below hb []) (fun _ _ => by simp), h.is, fun i hi x hx => Ev.Lay.stay (fun _ h => h) (Ev.StayS.below' hb) x.1 x.2 (h.lay i hi x hx), h.far, h.apart,
    fun b hb' => by
      obtain ⟨h1, cs, h2⟩ := h.dep b hb'
      exact ⟨h1, cs, Blk.mono h2 hb⟩, h.pge, h.bel.trans (hb.mono h.bel.size)⟩
theorem rowT_set (T : Nat → Bs) (ss : Nat → Value) (x : Bs) : ∀ i, i < 4 → (rowT T ss).setIfInBounds i (.string (mkS x)) = rowT (updF T i x) ss
  | 0, _ => rfl
  | 1, _ => rfl
  | 2, _ => rfl
  | 3, _ => rfl
  | n + 4, h => by omega
theorem rowT_put (T : Nat → Bs) (ss : Nat → Value) (v : Value) : ∀ i, i < 7 → (rowT T ss).setIfInBounds (4 + i) v = rowT T (updF ss i v)
  | 0, _ => rfl
  | 1, _ => rfl
  | 2, _ => rfl
  | 3, _ => rfl
  | 4, _ => rfl
  | 5, _ => rfl
  | 6, _ => rfl
  | n + 7, h => by omega
theorem PkM.text (h : PkM w0 w pb T D ss rs F) (i : Nat) (hi : i < 4) (x : Bs) : PkM w0 (w.setCell ⟨pb, i, none⟩ (.string (mkS x))) pb (updF T i x) D ss rs F := by
  have ht : Turned [pb] w (w.setCell ⟨pb, i, none⟩ (.string (mkS x))) := (Turned.refl _ _).setCell (.inl (by simp)) _
  have hn : ∀ b ∈ F, b ∉ [pb] := fun b hb hm => by
    obtain ⟨_, cs, h2⟩ := h.dep b hb
    simp at hm
    exact Blk.kind h2 h.blk (by decide) hm
  refine ⟨by rw [← rowT_set T ss x i hi]; exact h.blk.set_ i _, fun j hj => own_turned (h.own j hj) ht (fun k hk hm => ?_), h.is, fun j hj y hy => Ev.Lay.stay (fun _ h => h) (Ev.StayS.turned ht hn) y.1 y.2 (h.lay j hj y hy), h.far, h.apart, fun b hb => ?_, h.pge, h.bel.trans (ht.below (fun k hk => by simp at hk; rw [hk]; exact h.pge) h.bel.size)⟩
  · simp at hm
    exact own_kind (h.own j hj) h.blk (by decide) (by rw [hk, hm])
  · obtain ⟨h1, cs, h2⟩ := h.dep b hb
    exact ⟨h1, cs, h2.turned ht (hn b hb)⟩
theorem updF_same {α : Type} (f : Nat → α) (i : Nat) (x : α) : updF f i x i = x := if_pos rfl
theorem updF_other {α : Type} (f : Nat → α) {i j : Nat} (x : α) (h : j ≠ i) : updF f i x j = f j := if_neg h
/-- A list grows by what relations answered. -/
theorem PkM.put (h : PkM w0 w pb T D ss rs F) (hb : Below w.heap.size w w') {v : Value} {r : Ev.Rows5} {F' : List Nat} (hr : ReM w w' v r F') {i : Nat} (hi : i < 7) {v'' : Value} {w'' : World}
    (hown : w''.ownsRow w0.heap.size 39 5 v'' ((rs i).length + r.length) (Ev.cells5 (rs i) ++ Ev.cells5 r)) (hg : w'.grownBy w'' (ss i).ownBlock) (hat : v''.ownBlock = (ss i).ownBlock ∨ v''.ownBlock = some w'.heap.size) :
    PkM w0 (w''.setCell ⟨pb, 4 + i, none⟩ v'') pb T (updF D i (D i ++ r.map Prod.fst)) (updF ss i v'') (updF rs i (rs i ++ r)) (F' ++ F) ∧ Turned (pb :: (ss i).ownBlock.toList) w' (w''.setCell ⟨pb, 4 + i, none⟩ v'') := by
  have h' := h.below hb
  have ht1 : Turned (pb :: (ss i).ownBlock.toList) w' w'' := (grown_turned hg).more (fun k hk => List.mem_cons_of_mem _ hk)
  have hblk : Blk w'' pb 37 (rowT T ss) := h'.blk.turned (grown_turned hg) (fun hm => own_kind (h'.own i hi) h'.blk (by decide) (by simpa using hm))
  have ht : Turned (pb :: (ss i).ownBlock.toList) w' (w''.setCell ⟨pb, 4 + i, none⟩ v'') := ht1.setCell (.inl (by simp)) _
  have hdep : ∀ b ∈ F' ++ F, w0.heap.size ≤ b ∧ (∃ cs, Blk w' b 39 cs) ∧ b ∉ pb :: (ss i).ownBlock.toList := fun b hb' => by
    have hne : ∀ cs, Blk w' b 39 cs → b ≠ pb := fun cs hB e => Blk.kind hB h'.blk (by decide) e
    rcases List.mem_append.1 hb' with hm | hm
    · obtain ⟨h1, ⟨cs, h2⟩, h3⟩ := hr.dep b hm
      refine ⟨Nat.le_trans h.bel.size h1, ⟨cs, h2⟩, fun hx => ?_⟩
      rcases List.mem_cons.1 hx with e | hx
      · exact hne cs h2 e
      · have hx' : (ss i).ownBlock = some b := by simpa using hx
        have := own_lt (h.own i hi) hx'
        omega
    · obtain ⟨h1, cs, h2⟩ := h'.dep b hm
      refine ⟨h1, ⟨cs, h2⟩, fun hx => ?_⟩
      rcases List.mem_cons.1 hx with e | hx
      · exact hne cs h2 e
      · exact h.far i hi b hm (by simpa using hx)
  have hst : Ev.StayS (fun b => b ∈ F' ++ F) w' (w''.setCell ⟨pb, 4 + i, none⟩ v'') := Ev.StayS.turned ht (fun b hb' hm => (hdep b hb').2.2 hm)
  have hvlt : ∀ k, v''.ownBlock = some k → (ss i).ownBlock = some k ∨ k = w'.heap.size := fun k hk => by
    rcases hat with e | e
    · exact .inl (by rw [← e]; exact hk)
    · rw [e] at hk
      injection hk with hk
      exact .inr hk.symm
  refine ⟨⟨by rw [← rowT_put T ss v'' i hi]; exact hblk.set_ _ _, fun j hj => ?_, fun j hj => ?_, fun j hj x hx => ?_, fun j hj b hb' hv => ?_, fun j k hj hk hne q hq hq2 => ?_, fun b hb' => ?_, h.pge, h'.bel.trans (ht.below (fun k hk => ?_) h'.bel.size)⟩, ht⟩
  · by_cases e : j = i
    · subst e
      rw [updF_same, updF_same, List.length_append, Ev.cells5_append]
      exact own_setCell hown (own_kind hown hblk (by decide)) _
    · rw [updF_other _ _ e, updF_other _ _ e]
      refine own_turned (h'.own j hj) ht (fun k hk hm => ?_)
      rcases List.mem_cons.1 hm with e2 | hm
      · exact own_kind (h'.own j hj) h'.blk (by decide) (by rw [hk, e2])
      · exact h.apart j i hj hi e k hk (by simpa using hm)
  · by_cases e : j = i
    · subst e
      rw [updF_same, updF_same, List.map_append, h.is j hj]
    · rw [updF_other _ _ e, updF_other _ _ e]
      exact h.is j hj
  · by_cases e : j = i
    · subst e
      rw [updF_same] at hx
      rcases List.mem_append.1 hx with hx | hx
      · exact Ev.Lay.stay (fun _ h => h) hst x.1 x.2 (Ev.Lay.stay (fun b hb => List.mem_append_right _ hb) (Ev.StayS.refl _ _) x.1 x.2 (h'.lay j hj x hx))
      · exact Ev.Lay.stay (fun _ h => h) hst x.1 x.2 (Ev.Lay.stay (fun b hb => List.mem_append_left _ hb) (Ev.StayS.refl _ _) x.1 x.2 (hr.lay x hx))
    · rw [updF_other _ _ e] at hx
      exact Ev.Lay.stay (fun _ h => h) hst x.1 x.2 (Ev.Lay.stay (fun b hb => List.mem_append_right _ hb) (Ev.StayS.refl _ _) x.1 x.2 (h'.lay j hj x hx))
  · obtain ⟨_, ⟨cs, hB⟩, hnm⟩ := hdep b hb'
    by_cases e : j = i
    · subst e
      rw [updF_same] at hv
      rcases hvlt b hv with e2 | e2
      · exact hnm (List.mem_cons_of_mem _ (by rw [e2]; simp))
      · have := hB.lt
        omega
    · rw [updF_other _ _ e] at hv
      rcases List.mem_append.1 hb' with hm | hm
      · have h1 := (hr.dep b hm).1
        have := own_lt (h.own j hj) hv
        omega
      · exact h.far j hj b hm hv
  · have hlt : ∀ j k, j < 7 → (ss j).ownBlock = some k → k < w'.heap.size := fun j k hj hk => own_lt (h'.own j hj) hk
    by_cases e : j = i
    · subst e
      rw [updF_same] at hq
      rw [updF_other _ _ (fun e => hne e.symm)] at hq2
      rcases hvlt q hq with e2 | e2
      · exact h.apart j k hj hk hne q e2 hq2
      · have := hlt k q hk hq2
        omega
    · rw [updF_other _ _ e] at hq
      by_cases e3 : k = i
      · subst e3
        rw [updF_same] at hq2
        rcases hvlt q hq2 with e2 | e2
        · exact h.apart j k hj hk hne q hq e2
        · have := hlt j q hj hq
          omega
      · rw [updF_other _ _ e3] at hq2
        exact h.apart j k hj hk hne q hq hq2
  · obtain ⟨h1, ⟨cs, h2⟩, h3⟩ := hdep b hb'
    exact ⟨h1, cs, h2.turned ht h3⟩
  · rcases List.mem_cons.1 hk with rfl | hk
    · exact h.pge
    · exact ((h.own i hi).lt k (by simpa using hk)).1
end
end Go.Proofs.YtdhgiammfpjniaaGreatDoor
