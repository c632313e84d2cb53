/- Copies in memory of their own: strings.Clone, listApart, depApart. -/
import Derived.Test.YtinldjjbfhpnkaaDoorPPkg
import Derived.Test.YtinldjjbfhpnkaaDoorDCheck
import Derived.Laws.MakeOwn
import Derived.Lib.SliceRun
namespace Go.Proofs.YtinldjjbfhpnkaaDoor
set_option linter.unusedSimpArgs false
set_option linter.unusedVariables false
open Go.RowKit

set_option maxRecDepth 100000 in
theorem cloneL_any (s : ByteArray) (hs : s.size ≤ 281474976710656) (w : World) : Calls Tryd.prog 37 #[.string s] w fun e w' => e = .returned (.string s) ∧ Below w.heap.size w w' := by
  have C := Lib.hid (fun w => Tryd.stringslite_Clone s w hs)
  clear hs
  go_enter Tryd.func37, Tryd.ntmps37
  go_wp2_with fail
  refine (C.out _).mono ?_
  rintro e w1 ⟨rfl, hb1⟩
  go_wp2_with fail
  go_ret
  exact ⟨rfl, hb1⟩
theorem nil_none (t e : TypeId) (h : Tryd.prog.underlying t = some (.slice e)) (n c : Nat) (w : World) : (binOp .eql t (.slice none n c) (.slice none 0 0)).run Tryd.prog w = .ok (.bool true) w := Lib.run_eql_slice_nil w _ _ none n c 0 0 h
theorem nil_some (t e : TypeId) (h : Tryd.prog.underlying t = some (.slice e)) (a : Addr) (n c : Nat) (w : World) : (binOp .eql t (.slice (some a) n c) (.slice none 0 0)).run Tryd.prog w = .ok (.bool false) w := Lib.run_eql_slice_nil w _ _ (some a) n c 0 0 h
/-- A new slice's cells. -/
theorem make_any (t e : TypeId) (sz bytes : Nat) (h1 : Tryd.prog.underlying t = some (.slice e)) (h2 : ∃ i z, Tryd.prog.info? e = some i ∧ i.zero = some z ∧ i.size = sz ∧ i.bytes = bytes) (n : Nat) (hn : bytes * n ≤ 281474976710656) (hm : n ≤ maxLen) :
    ∃ cs : Array Value, cs.size = n * sz ∧ ∀ w : World, (Instr.makeSlice t (.int .i64 (n : Int)) (.int .i64 (n : Int))).run Tryd.prog w = .ok (.slice (some ⟨w.heap.size, 0, none⟩) n n) (w.alloc (.cells cs e)) := by
  obtain ⟨i, z, hi, hz, hs, hb⟩ := h2
  refine ⟨madeCells z.cells (n * i.size), by rw [← hs]; exact size_madeCells _ _, fun w => ?_⟩
  have hm' : (n : Int) ≤ 9223372036854775807 := by unfold maxLen at hm; omega
  have hb' : (i.bytes : Int) * (n : Int) ≤ 281474976710656 := by
    have h : ((bytes * n : Nat) : Int) ≤ 281474976710656 := by omega
    rw [hb]
    rwa [Int.natCast_mul] at h
  have := _root_.Go.run_make (w := w) t e i z h1 hi hz .i64 .i64 (n : Int) (n : Int) (by omega) (Int.le_refl _) hb' hm'
  rw [Int.toNat_natCast] at this
  exact this
theorem info_str : ∃ i z, Tryd.prog.info? 9 = some i ∧ i.zero = some z ∧ i.size = 1 ∧ i.bytes = 16 := by
  have h : (Tryd.prog.info? 9).map (fun i => (i.zero.isSome, i.size, i.bytes)) = some (true, 1, 16) := by kernel_rfl
  obtain ⟨i, hi, h2⟩ := Option.map_eq_some_iff.1 h
  simp only [Prod.mk.injEq] at h2
  obtain ⟨z, hz⟩ := Option.isSome_iff_exists.1 h2.1
  exact ⟨i, z, hi, hz, h2.2.1, h2.2.2⟩

/-- S's blocks are rows of texts, none of them marked. -/
def CleanT (w : World) (T : Nat → Prop) : Prop := ∀ b, T b → ∃ cs, Blk w b 9 cs
theorem CleanT.stay {w w' : World} {T : Nat → Prop} (h : CleanT w T) (hw : StayS T w w') : CleanT w' T := fun b hb => by
  obtain ⟨cs, hc⟩ := h b hb
  exact ⟨cs, (hw b hb hc.lt).trans hc⟩
def AllStr (fl : List ByteArray) : Prop := ∀ s ∈ fl, s.size ≤ 281474976710656
set_option maxHeartbeats 2000000 in
set_option maxRecDepth 100000 in
theorem strApart_any (fl : List ByteArray) (s : Value) (T : Nat → Prop) (w0 : World) (hF : FilesAt w0 T fl s) (hs : AllStr fl) (hn : fl.length ≤ 1073741824) :
    Calls Tryd.prog 64 #[s, .func (.func 37) #[] #[]] w0 fun e w' => Below w0.heap.size w0 w' ∧ ∃ A c T', e = .returned (.slice A fl.length c) ∧ FilesAt w' T' fl (.slice A fl.length c) ∧ CleanT w' T' ∧ ∀ b, T' b → w0.heap.size ≤ b := by
  obtain ⟨A, c, rfl, h1, h2, h3, hA⟩ := hF
  unfold maxLen at h2
  cases A with
  | none =>
    have h30 := h3 rfl
    obtain rfl : fl = [] := List.eq_nil_of_length_eq_zero (by omega)
    obtain rfl := h30
    have HP : Hid (∃ A c T', Ending.returned (.slice none 0 0) = .returned (.slice A ([] : List ByteArray).length c) ∧ FilesAt w0 T' [] (.slice A ([] : List ByteArray).length c) ∧ CleanT w0 T' ∧ ∀ b, T' b → w0.heap.size ≤ b) :=
      ⟨none, 0, fun _ => False, rfl, ⟨none, 0, rfl, Nat.le_refl _, by simp [maxLen], fun _ => rfl, fun k s hk => by simp at hk⟩, (fun b hb => hb.elim), (fun b hb => hb.elim)⟩
    clear h1 h2 h3 hA hs hn
    have qn := nil_none 24 9 Tryd.underlying24 0 0
    go_enter Tryd.func64, Tryd.ntmps64
    go_wp2_with fail
    go_ret
    exact ⟨Below.refl _ _, HP.out⟩
  | some ad =>
    obtain ⟨cs, hcs, hmk⟩ := make_any 24 9 1 16 Tryd.underlying24 info_str fl.length (by omega) (by unfold maxLen; omega)
    have hmk0 := hmk w0
    have ef := enters_of Tryd.func37 (by kernel_rfl) rfl
    have HCS : Hid (cs.size = fl.length) := by show _ = _; omega
    have HA := Lib.hid hA
    have HS := Lib.hid hs
    have hb0 : Below w0.heap.size w0 (w0.alloc (.cells cs 9)) := (Below.refl _ _).alloc (Nat.le_refl _) _
    have K0 : Blk (w0.alloc (.cells cs 9)) w0.heap.size 9 cs := Blk.new _ _ _
    have HI : Hid (Below w0.heap.size w0 (w0.alloc (.cells cs 9)) ∧ ∃ cs', cs'.size = fl.length ∧ Blk (w0.alloc (.cells cs 9)) w0.heap.size 9 cs' ∧ ∀ j, j < 0 → ∀ s, fl[j]? = some s → cs'[j]? = some (.string s)) := ⟨hb0, cs, HCS.out, K0, fun j hj => by omega⟩
    clear hcs hmk hA hs h3 hb0 K0
    have qn := nil_some 24 9 Tryd.underlying24 ad fl.length c w0
    go_enter Tryd.func64, Tryd.ntmps64
    go_wp2_with fail
    clear hmk0
    generalize w0.alloc (.cells cs 9) = w1 at *
    go_loopw [15] (fun v wx => ∃ k : Nat, k ≤ fl.length ∧ v = .int .i64 (k : Int) ∧ Hid (Below w0.heap.size w0 wx ∧ ∃ cs' : Array Value, cs'.size = fl.length ∧ Blk wx w0.heap.size 9 cs' ∧ ∀ j, j < k → ∀ s, fl[j]? = some s → cs'[j]? = some (.string s))) (fun v _ => fl.length - (intOf v).toNat)
    case atStart => exact ⟨0, Nat.zero_le _, rfl, HI⟩
    case round =>
      clear HI
      obtain ⟨k, hk, rfl, HR⟩ := hrel
      obtain ⟨hb, cs', hsz, K, hvals⟩ := HR.out
      by_cases hlt : k < fl.length
      · obtain ⟨b, o, e, hTb, hc⟩ := HA.out k fl[k] (List.getElem?_eq_getElem hlt)
        injection e with e
        subst e
        have hc2 := (World.cell?_of_block (hb.block b (cell_lt hc))).trans hc
        have C := Lib.hid (cloneL_any fl[k] (HS.out _ (List.getElem_mem hlt)))
        have hz := hb.size
        have HB := Lib.hid hb
        have HK := Lib.hid K
        have HV := Lib.hid hvals
        have HSZ := Lib.hid hsz
        clear hc hb K hvals hsz HR
        go_wp2_with fail
        refine (C.out _).mono ?_
        rintro e w2 ⟨rfl, hb2⟩
        have K2 := HK.out.below hb2 HK.out.lt
        have k2 := K2.cell k
        have f2 := K2.free k
        have hkc : k < cs'.size := by have := HSZ.out; omega
        obtain ⟨old, hold⟩ : ∃ old, cs'[k]? = some old := ⟨_, Array.getElem?_eq_getElem hkc⟩
        rw [hold] at k2
        have hN : Below w0.heap.size w0 (w2.setCell ⟨w0.heap.size, k, none⟩ (.string fl[k])) := (HB.out.trans (hb2.mono hz)).setCell (Nat.le_refl _) _
        have KN := K2.set_ k (.string fl[k])
        have HN : Hid (Below w0.heap.size w0 (w2.setCell ⟨w0.heap.size, k, none⟩ (.string fl[k])) ∧ ∃ cs2 : Array Value, cs2.size = fl.length ∧ Blk (w2.setCell ⟨w0.heap.size, k, none⟩ (.string fl[k])) w0.heap.size 9 cs2 ∧ ∀ j, j < k + 1 → ∀ s, fl[j]? = some s → cs2[j]? = some (.string s)) := by
          refine ⟨hN, _, by rw [Array.size_setIfInBounds]; exact HSZ.out, KN, fun j hj s hs => ?_⟩
          by_cases hjk : j = k
          · subst hjk
            rw [List.getElem?_eq_getElem hlt] at hs
            injection hs with hs
            subst hs
            simp [hkc]
          · rw [Array.getElem?_setIfInBounds_ne (Ne.symm hjk)]
            exact HV.out j (by omega) s hs
        clear hb2 K2 hN KN C HB HK HV HSZ hkc hold
        go_wp2_with fail
        go_roundw
        case rel => exact ⟨k + 1, by omega, by go_num, HN⟩
        case measure => simp [intOf]; omega
      · have HP : Hid (∃ A c T', Ending.returned (.slice (some ⟨w0.heap.size, 0, none⟩) fl.length fl.length) = .returned (.slice A fl.length c) ∧ FilesAt wr T' fl (.slice A fl.length c) ∧ CleanT wr T' ∧ ∀ b, T' b → w0.heap.size ≤ b) :=
          ⟨_, _, fun b => b = w0.heap.size, rfl, ⟨_, _, rfl, Nat.le_refl _, by unfold maxLen; omega, (fun h => by cases h), fun j s hj => ⟨_, 0, rfl, rfl, by
            rw [Nat.zero_add, K.cell j]
            exact hvals j (by have := (List.getElem?_eq_some_iff.1 hj).1; omega) s hj⟩⟩, (fun b hb => by subst hb; exact ⟨_, K⟩), (fun b hb => by subst hb; exact Nat.le_refl _)⟩
        have HB := Lib.hid hb
        clear hb K hvals HR hsz
        go_wp2_with fail
        go_ret
        exact ⟨HB.out, HP.out⟩

theorem info_dep3 : ∃ i z, Tryd.prog.info? 80 = some i ∧ i.zero = some z ∧ i.size = 5 ∧ i.bytes = 72 := by
  have h : (Tryd.prog.info? 80).map (fun i => (i.zero.isSome, i.size, i.bytes)) = some (true, 5, 72) := by kernel_rfl
  obtain ⟨i, hi, h2⟩ := Option.map_eq_some_iff.1 h
  simp only [Prod.mk.injEq] at h2
  obtain ⟨z, hz⟩ := Option.isSome_iff_exists.1 h2.1
  exact ⟨i, z, hi, hz, h2.2.1, h2.2.2⟩
/-- A copy of d is answered, in new blocks of its own. -/
def ApartOk (d : Dep) : Prop := ∀ (s : Value) (S : Nat → Prop) (w : World), Lay w S d s → small d → nodes d ≤ 4194304 → Calls Tryd.prog 63 #[.agg (rowD d s)] w fun e w' => Below w.heap.size w w' ∧ ∃ A c S', e = .returned (.agg (rowD d (.slice A d.args.length c))) ∧ Lay w' S' d (.slice A d.args.length c) ∧ CleanS w' S' ∧ ∀ b, S' b → w.heap.size ≤ b
/-- While a list is copied: block g holds the copies of its first things. -/
structure CSt (w0 wx : World) (g : Nat) (n : Nat) (ds : List Dep) (r : Rows5) (S : Nat → Prop) : Prop where
  below : Below w0.heap.size w0 wx
  blk : ∃ cs : Array Value, cs.size = n * 5 ∧ Blk wx g 80 cs ∧ ∀ j, j < r.length * 5 → cs[j]? = (cells5 r)[j]?
  names : r.map Prod.fst = ds.take r.length
  lays : ∀ x ∈ r, Lay wx S x.1 x.2
  clean : CleanS wx S
  far : ∀ b, S b → w0.heap.size ≤ b ∧ b ≠ g
theorem five_cells {cs : Array Value} {k : Nat} {v0 v1 v2 v3 v4 : Value} {r : Rows5} {x : Dep × Value} (hk : r.length = k) (hsz : k * 5 + 5 ≤ cs.size) (h : ∀ j, j < r.length * 5 → cs[j]? = (cells5 r)[j]?) (hv : [v0, v1, v2, v3, v4] = cells5 [x]) :
    ∀ j, j < (r ++ [x]).length * 5 → (((((cs.setIfInBounds (k * 5) v0).setIfInBounds (k * 5 + 1) v1).setIfInBounds (k * 5 + 2) v2).setIfInBounds (k * 5 + 3) v3).setIfInBounds (k * 5 + 4) v4)[j]? = (cells5 (r ++ [x]))[j]? := by
  intro j hj
  subst hk
  rw [cells5_append, ← hv]
  simp only [List.length_append, List.length_cons, List.length_nil] at hj
  by_cases hlt : j < r.length * 5
  · rw [List.getElem?_append_left (by rw [cells5_len]; exact hlt), ← h j hlt]
    rw [Array.getElem?_setIfInBounds_ne (by omega), Array.getElem?_setIfInBounds_ne (by omega), Array.getElem?_setIfInBounds_ne (by omega), Array.getElem?_setIfInBounds_ne (by omega), Array.getElem?_setIfInBounds_ne (by omega)]
  · rw [List.getElem?_append_right (by rw [cells5_len]; omega), cells5_len]
    have : j = r.length * 5 ∨ j = r.length * 5 + 1 ∨ j = r.length * 5 + 2 ∨ j = r.length * 5 + 3 ∨ j = r.length * 5 + 4 := by omega
    rcases this with rfl | rfl | rfl | rfl | rfl
    · rw [Array.getElem?_setIfInBounds_ne (by omega), Array.getElem?_setIfInBounds_ne (by omega), Array.getElem?_setIfInBounds_ne (by omega), Array.getElem?_setIfInBounds_ne (by omega), Array.getElem?_setIfInBounds_self]
      rw [if_pos (by first | omega | (simp; omega)), Nat.sub_self]; rfl
    · rw [Array.getElem?_setIfInBounds_ne (by omega), Array.getElem?_setIfInBounds_ne (by omega), Array.getElem?_setIfInBounds_ne (by omega), Array.getElem?_setIfInBounds_self]
      rw [if_pos (by first | omega | (simp; omega)), Nat.add_sub_cancel_left]; rfl
    · rw [Array.getElem?_setIfInBounds_ne (by omega), Array.getElem?_setIfInBounds_ne (by omega), Array.getElem?_setIfInBounds_self]
      rw [if_pos (by first | omega | (simp; omega)), Nat.add_sub_cancel_left]; rfl
    · rw [Array.getElem?_setIfInBounds_ne (by omega), Array.getElem?_setIfInBounds_self]
      rw [if_pos (by first | omega | (simp; omega)), Nat.add_sub_cancel_left]; rfl
    · rw [Array.getElem?_setIfInBounds_self]
      rw [if_pos (by first | omega | (simp; omega)), Nat.add_sub_cancel_left]; rfl
section
variable {w0 wx w' : World} {g n : Nat} {ds : List Dep} {r : Rows5} {S : Nat → Prop}
theorem CSt.below_ (h : CSt w0 wx g n ds r S) (hb : Below wx.heap.size wx w') : CSt w0 w' g n ds r S := by
  obtain ⟨cs, h1, h2, h3⟩ := h.blk
  exact ⟨h.below.trans (hb.mono h.below.size), ⟨cs, h1, h2.below hb h2.lt, h3⟩, h.names, fun x hx => (h.lays x hx).stay (fun _ h => h) (StayS.below' hb), h.clean.stay (StayS.below' hb), h.far⟩
/-- The five stores of one thing more. -/
def put5 (w : World) (g k : Nat) (d : Dep) (t : Value) : World := ((((w.setCell ⟨g, k * 5, none⟩ (.int .i64 d.kind)).setCell ⟨g, k * 5 + 1, none⟩ (.string d.name)).setCell ⟨g, k * 5 + 2, none⟩ (.int .i64 d.op)).setCell ⟨g, k * 5 + 3, none⟩ (.string d.evr)).setCell ⟨g, k * 5 + 4, none⟩ t
theorem put5_turned (w : World) (g k : Nat) (d : Dep) (s : Value) : Turned [g] w (put5 w g k d s) := (((((Turned.refl _ _).setCell (.inl (by simp)) _).setCell (.inl (by simp)) _).setCell (.inl (by simp)) _).setCell (.inl (by simp)) _).setCell (.inl (by simp)) _
theorem CSt.put (h : CSt w0 wx g n ds r S) (hg : w0.heap.size ≤ g) {d : Dep} {t : Value} {S2 : Nat → Prop} (hd : ds[r.length]? = some d) (hlt : r.length < n) (hL : Lay wx S2 d t) (hC : CleanS wx S2) (hS : ∀ b, S2 b → w0.heap.size ≤ b ∧ b ≠ g) :
    CSt w0 (put5 wx g r.length d t) g n ds (r ++ [(d, t)]) (fun b => S b ∨ S2 b) := by
  obtain ⟨cs, h1, h2, h3⟩ := h.blk
  have ht := put5_turned wx g r.length d t
  have hst : ∀ (T : Nat → Prop), (∀ b, T b → w0.heap.size ≤ b ∧ b ≠ g) → StayS T wx (put5 wx g r.length d t) := fun T hT => StayS.turned ht fun b hb hm => (hT b hb).2 (by simpa using hm)
  have h1' := hst S h.far
  have h2' := hst S2 hS
  refine ⟨h.below.trans (ht.below (fun k hk => by simp at hk; omega) h.below.size), ⟨_, ?_, ((((h2.set_ _ _).set_ _ _).set_ _ _).set_ _ _).set_ _ _, five_cells rfl (by omega) h3 rfl⟩, ?_, fun x hx => ?_, fun b hb => ?_, fun b hb => ?_⟩
  · simp only [Array.size_setIfInBounds]; exact h1
  · rw [List.map_append, h.names, List.length_append]
    show _ = ds.take (r.length + 1)
    rw [List.take_add_one, hd]; rfl
  · rcases List.mem_append.1 hx with hx | hx
    · exact (h.lays x hx).stay (fun _ h => .inl h) h1'
    · simp at hx; subst hx
      exact hL.stay (fun _ h => .inr h) h2'
  · rcases hb with hb | hb
    · exact h.clean.stay h1' b hb
    · exact hC.stay h2' b hb
  · rcases hb with hb | hb
    · exact h.far b hb
    · exact hS b hb
theorem CSt.done (h : CSt w0 wx g n ds r S) (hg : w0.heap.size ≤ g) (hr : r.length = ds.length) (hn : n = ds.length) (hm : ds.length ≤ maxLen) :
    ListAt wx (fun b => S b ∨ b = g) ds (.slice (some ⟨g, 0, none⟩) ds.length ds.length) ∧ CleanS wx (fun b => S b ∨ b = g) ∧ ∀ b, S b ∨ b = g → w0.heap.size ≤ b := by
  obtain ⟨cs, h1, h2, h3⟩ := h.blk
  have hnm := h.names
  rw [hr, List.take_length] at hnm
  refine ⟨⟨_, _, rfl, Nat.le_refl _, hm, (fun h => by cases h), fun j a hj => ?_⟩, fun b hb => ?_, fun b hb => ?_⟩
  · rw [← hnm, List.getElem?_map, Option.map_eq_some_iff] at hj
    obtain ⟨x, hx, rfl⟩ := hj
    have hjl := (List.getElem?_eq_some_iff.1 hx).1
    obtain ⟨q0, q1, q2, q3, q4⟩ := cells5_at hx
    have hc : ∀ i, i < 5 → wx.cell? ⟨g, 0 + j * 5 + i, none⟩ = (cells5 r)[j * 5 + i]? := fun i hi => by
      rw [h2.cell, Nat.zero_add]
      exact h3 _ (by omega)
    exact ⟨g, 0, x.2, rfl, .inr rfl, ⟨(hc 0 (by omega)).trans q0, (hc 1 (by omega)).trans q1, (hc 2 (by omega)).trans q2, (hc 3 (by omega)).trans q3, (hc 4 (by omega)).trans q4⟩, (h.lays x (List.mem_of_getElem? hx)).stay (fun _ h => .inl h) (StayS.refl _ _)⟩
  · rcases hb with hb | rfl
    · exact h.clean b hb
    · exact ⟨cs, h2⟩
  · rcases hb with hb | rfl
    · exact (h.far b hb).1
    · exact hg
end
/-- What a copied list is. -/
def ListNew (w0 : World) (ds : List Dep) (e : Ending) (w' : World) : Prop := Below w0.heap.size w0 w' ∧ ∃ A c S', e = .returned (.slice A ds.length c) ∧ ListAt w' S' ds (.slice A ds.length c) ∧ CleanS w' S' ∧ ∀ b, S' b → w0.heap.size ≤ b
set_option maxHeartbeats 4000000 in
set_option maxRecDepth 100000 in
theorem listApart_of (ds : List Dep) (hall : ∀ d ∈ ds, ApartOk d) (s : Value) (S : Nat → Prop) (w0 : World) (hL : ListAt w0 S ds s) (hsm : ∀ d ∈ ds, small d ∧ nodes d ≤ 4194304) (hn : ds.length ≤ 4194304) :
    Calls Tryd.prog 62 #[s, .func (.func 63) #[] #[]] w0 (ListNew w0 ds) := by
  obtain ⟨A, c, rfl, h1, h2, h3, hA⟩ := hL
  unfold maxLen at h2
  cases A with
  | none =>
    have h30 := h3 rfl
    obtain rfl : ds = [] := List.eq_nil_of_length_eq_zero (by omega)
    obtain rfl := h30
    have HP : Hid (ListNew w0 [] (.returned (.slice none 0 0)) w0) :=
      ⟨Below.refl _ _, none, 0, fun _ => False, rfl, ⟨none, 0, rfl, Nat.le_refl _, by simp [maxLen], fun _ => rfl, fun k s hk => by simp at hk⟩, (fun b hb => hb.elim), (fun b hb => hb.elim)⟩
    have qn := nil_none 23 80 Tryd.underlying23 0 0
    clear h1 h2 h3 hA hsm hn hall
    go_enter Tryd.func62, Tryd.ntmps62
    go_wp2_with fail
    go_ret
    exact HP.out
  | some ad =>
    obtain ⟨cs, hcs, hmk⟩ := make_any 23 80 5 72 Tryd.underlying23 info_dep3 ds.length (by omega) (by unfold maxLen; omega)
    have hmk0 := hmk w0
    have ef := enters_of Tryd.func63 (by kernel_rfl) rfl
    have HA := Lib.hid hA
    have HAL := Lib.hid hall
    have HSM := Lib.hid hsm
    have hb0 : Below w0.heap.size w0 (w0.alloc (.cells cs 80)) := (Below.refl _ _).alloc (Nat.le_refl _) _
    obtain ⟨R, HR⟩ : ∃ R : World → Rows5 → (Nat → Prop) → Prop, Hid (∀ wx r Sr, R wx r Sr ↔ CSt w0 wx w0.heap.size ds.length ds r Sr) := ⟨fun wx r Sr => CSt w0 wx w0.heap.size ds.length ds r Sr, fun _ _ _ => Iff.rfl⟩
    have HI : Hid (R (w0.alloc (.cells cs 80)) [] (fun _ => False)) := (HR.out _ _ _).2 ⟨hb0, ⟨cs, hcs, Blk.new _ _ _, fun j hj => by simp at hj⟩, rfl, (fun x hx => by cases hx), (fun b hb => hb.elim), (fun b hb => hb.elim)⟩
    have qn := nil_some 23 80 Tryd.underlying23 ad ds.length c w0
    clear hcs hmk hA hall h3 hb0 hsm
    go_enter Tryd.func62, Tryd.ntmps62
    go_wp2_with fail
    clear hmk0
    generalize w0.alloc (.cells cs 80) = w1 at *
    go_loopw [15] (fun v wx => ∃ (k : Nat) (r : Rows5) (Sr : Nat → Prop), k ≤ ds.length ∧ v = .int .i64 (k : Int) ∧ r.length = k ∧ Hid (R wx r Sr)) (fun v _ => ds.length - (intOf v).toNat)
    case atStart => exact ⟨0, [], _, Nat.zero_le _, rfl, rfl, HI⟩
    case round =>
      clear HI
      obtain ⟨k, r, Sr, hk, rfl, hrk, HRr⟩ := hrel
      have hO := (HR.out _ _ _).1 HRr.out
      by_cases hlt : k < ds.length
      · obtain ⟨b, o, t, e, hSb, hC, hLa⟩ := HA.out k ds[k] (List.getElem?_eq_getElem hlt)
        injection e with e
        subst e
        obtain ⟨At, ct, rfl, _, _⟩ := hLa.form_
        have hC2 := hC.stay (hO.below.block b hC.lt)
        obtain ⟨c0, c1, c2, c3, c4⟩ := hC2
        have hba : Below wr.heap.size wr (wr.alloc (.cells (rowD ds[k] (.slice At ds[k].args.length ct)) 80)) := (Below.refl _ _).alloc (Nat.le_refl _) _
        have hO2 := hO.below_ hba
        have C := Lib.hid (HAL.out ds[k] (List.getElem_mem hlt) (.slice At ds[k].args.length ct) S (wr.alloc (.cells (rowD ds[k] (.slice At ds[k].args.length ct)) 80)) (hLa.stay (fun _ h => h) (StayS.below' hO2.below)) (HSM.out _ (List.getElem_mem hlt)).1 (HSM.out _ (List.getElem_mem hlt)).2)
        have HO := Lib.hid hO2
        have HLT := Lib.hid (List.getElem?_eq_getElem hlt)
        unfold rowD at C HO
        clear hC hSb hLa hO hba hO2 HRr
        go_wp2_with fail
        refine C.out.mono ?_
        rintro e w2 ⟨hb2, A2, n2, S2, rfl, hL2, hC2, hS2⟩
        have hO3 := HO.out.below_ hb2
        obtain ⟨cs2, hs2, hK2, _⟩ := hO3.blk
        have hg0 : w0.heap.size < wr.heap.size + 1 := by have := HO.out.blk; obtain ⟨q, _, hq, _⟩ := this; have := hq.lt; simpa using this
        have hN := hO3.put (Nat.le_refl _) (d := ds[k]) (by rw [hrk]; exact HLT.out) (by rw [hrk]; exact hlt) hL2 hC2 (fun b hb => by have h1 := hS2 b hb; simp at h1; omega)
        rw [hrk] at hN
        have HN : Hid (R _ _ _) := (HR.out _ _ _).2 hN
        have f0 := hK2.free (k * 5)
        have f1 := hK2.free (k * 5 + 1)
        have f2 := hK2.free (k * 5 + 2)
        have f3 := hK2.free (k * 5 + 3)
        have f4 := hK2.free (k * 5 + 4)
        obtain ⟨o0, q0⟩ : ∃ u, w2.cell? ⟨w0.heap.size, k * 5, none⟩ = some u := ⟨_, (hK2.cell _).trans (Array.getElem?_eq_getElem (by omega))⟩
        obtain ⟨o1, q1⟩ : ∃ u, w2.cell? ⟨w0.heap.size, k * 5 + 1, none⟩ = some u := ⟨_, (hK2.cell _).trans (Array.getElem?_eq_getElem (by omega))⟩
        obtain ⟨o2, q2⟩ : ∃ u, w2.cell? ⟨w0.heap.size, k * 5 + 2, none⟩ = some u := ⟨_, (hK2.cell _).trans (Array.getElem?_eq_getElem (by omega))⟩
        obtain ⟨o3, q3⟩ : ∃ u, w2.cell? ⟨w0.heap.size, k * 5 + 3, none⟩ = some u := ⟨_, (hK2.cell _).trans (Array.getElem?_eq_getElem (by omega))⟩
        obtain ⟨o4, q4⟩ : ∃ u, w2.cell? ⟨w0.heap.size, k * 5 + 4, none⟩ = some u := ⟨_, (hK2.cell _).trans (Array.getElem?_eq_getElem (by omega))⟩
        unfold put5 at HN
        clear hb2 hL2 hC2 hS2 hO3 hs2 hK2 hN HO C hg0
        go_wp2_with fail
        go_roundw
        case rel => exact ⟨k + 1, _, _, by omega, by go_num, by simp [hrk], HN⟩
        case measure => simp [intOf]; omega
      · obtain ⟨hD1, hD2, hD3⟩ := hO.done (Nat.le_refl _) (by omega) rfl (by unfold maxLen; omega)
        have HP : Hid (ListNew w0 ds (.returned (.slice (some ⟨w0.heap.size, 0, none⟩) ds.length ds.length)) wr) := ⟨hO.below, _, _, _, rfl, hD1, hD2, hD3⟩
        clear hD1 hD2 hD3 hO HRr
        go_wp2_with fail
        go_ret
        exact HP.out
end Go.Proofs.YtinldjjbfhpnkaaDoor
