/- The contract of Get. -/
import Derived.Test.YthgagobdkcikiaaDoorSetM
namespace Go.Proofs.YthgagobdkcikiaaDoor
set_option linter.unusedSimpArgs false
set_option linter.unusedVariables false
open Go.RowKit

def zR : RawN := ⟨⟨0, 0, ⟨#[]⟩, none, 0⟩, fun _ => rfl⟩
theorem inner_run {w : World} {vk : Value} {mk mv N : Nat} {S : VSt} (hV : ValP w vk mk mv S N) (key : ByteArray) (id : Int) (hid : okI id) :
    (Instr.lookup 63 (.map (S.inner key)) (.int .i64 id) true).run Tryd.prog w = .ok (.tuple #[valRN ((S.raw key id).getD zR), .bool (S.raw key id).isSome]) w := by
  have hk : keyOf Tryd.prog 3 (.int .i64 id) = some (kdI id) := Maps.keyOf_int_mk Tryd.underlying3 hid
  cases hi : S.inner key with
  | none =>
    rw [hV.ok.none_ key id hi]
    exact Maps.look_nil true lawI Tryd.underlying63 (zeroV w) hk
  | some ib =>
    obtain ⟨D, hm, hA⟩ := hV.inn key ib hi
    obtain ⟨v, ps, hrun, hv⟩ := hm.look_ok lawI Tryd.underlying63 (zeroV w) (rdBy_val (en := enRN) valRN_inj zR) hk
    have h1 := hA.at_ id zR hid
    rw [h1] at hv
    have h2 := rdBy_inv enRN_inj hv
    subst h2
    have h3 := hA.has id hid
    rw [h3] at hrun
    exact hrun
theorem results_ct {fn : Func} {t u : Tmp} {e : TypeId} (h : fn.results = #[.cell t e, .tmp u]) (tmps : Array Value) {P : Program} {w : World} {ad : Addr} {v : Value} (hp : tmps[t]?.getD undef = .pointer (some ad)) (hl : (loadVar e ad).run P w = .ok v w) :
    (results fn tmps).run P w = .ok (.tuple #[v, tmps.getD u undef]) w := by
  simp [results, h, hp, asAddr, hl, Result.andThen]
def GetPost (w : World) (S : VSt) (id : Int) (key : ByteArray) (e : Ending) (w' : World) : Prop :=
  Below w.heap.size w w' ∧ match S.raw key id with
  | none => e = .returned (.tuple #[valRN zR, .int .i64 84])
  | some r => ∃ r' : RawN, e = .returned (.tuple #[valRN r', .int .i64 0]) ∧ r'.1.k = r.1.k ∧ r'.1.n = r.1.n ∧ r'.1.s = r.1.s ∧ (∃ l, RowAt w r.1 l ∧ RowAt w' r'.1 l) ∧ ∀ b, r'.1.a = some b → w.heap.size ≤ b
theorem ct_load {W : World} {g : Nat} {k n : Int} {s : ByteArray} {v : Value} (hv : v = .slice none 0 0 ∨ ∃ b m, v = .slice (some ⟨b, 0, none⟩) m m) (hB : Blk W g 37 #[.int .i64 k, .int .i64 n, .string s, v]) :
    (loadVar 37 ⟨g, 0, none⟩).run Tryd.prog W = .ok (.agg #[.int .i64 k, .int .i64 n, .string s, v]) W := by
  have b0 := hB.cell 0
  have b1 := hB.cell 1
  have b2 := hB.cell 2
  have b3 := hB.cell 3
  simp at b0 b1 b2 b3
  rcases hv with rfl | ⟨b, m, rfl⟩
  all_goals go_simp
set_option maxHeartbeats 2000000 in
set_option maxRecDepth 100000 in
theorem get_any (w : World) (bs : Nat) (vk : Value) (mk mv : Nat) (vd vp : Value) (S : VSt) (N : Nat) (hB : Blk w bs 56 #[vk, .map (some mk), .map (some mv), vd, vp]) (hV : ValP w vk mk mv S N) (id : Int) (hid : okI id) (key : ByteArray) (hkey : key.size ≤ maxLen) :
    Calls Tryd.prog 18 #[.pointer (some ⟨bs, 0, none⟩), .int .i64 id, .string key] w (GetPost w S id key) := by
  obtain ⟨wa, hwa⟩ : ∃ wa, wa = w.alloc (.cells #[.int .i64 0, .int .i64 0, .string ⟨#[]⟩, .slice none 0 0] 37) := ⟨_, rfl⟩
  have hbw : Below w.heap.size w wa := by rw [hwa]; exact (Below.refl _ _).alloc (Nat.le_refl _) _
  have hbl := hB.lt
  have hza : wa.heap.size = w.heap.size + 1 := by rw [hwa]; simp
  have hBa := hB.below hbw hbl
  have hVa := hV.below hbw
  have c2 : wa.cell? ⟨bs, 2, none⟩ = some (.map (some mv)) := hBa.cell 2
  obtain ⟨E, hM, hAg⟩ := hVa.vals
  have hl1 := values_run hM hAg key hkey
  have hl2 := inner_run hVa key id hid
  have KZ : Blk wa w.heap.size 37 #[.int .i64 0, .int .i64 0, .string ⟨#[]⟩, .slice none 0 0] := by rw [hwa]; exact Blk.new _ _ _
  have z0 := KZ.cell 0
  have z1 := KZ.cell 1
  have z2 := KZ.cell 2
  have z3 := KZ.cell 3
  have g0 := KZ.free 0
  have g1 := KZ.free 1
  have g2 := KZ.free 2
  have g3 := KZ.free 3
  simp at z0 z1 z2 z3
  have HKZ := Lib.hid KZ
  have HBW := Lib.hid hbw
  have HV := Lib.hid hV
  have HVA := Lib.hid hVa
  clear hB hV hBa hVa hM hAg hbw KZ
  cases hr : S.raw key id with
  | none =>
    rw [hr] at hl2
    have HP : Hid (∀ e w', GetPost w S id key e w' = (Below w.heap.size w w' ∧ e = .returned (.tuple #[valRN zR, .int .i64 84]))) := fun e w' => by unfold GetPost; rw [hr]
    clear hr
    have hl2' : (Instr.lookup 63 (.map (S.inner key)) (.int .i64 id) true).run Tryd.prog wa = .ok (.tuple #[.agg #[.int .i64 0, .int .i64 0, .string ⟨#[]⟩, .slice none 0 0], .bool false]) wa := hl2
    clear hl2
    go_enter Tryd.func18, Tryd.ntmps18
    go_upto_region 3 with fail
    rw [← hwa]
    clear hwa
    go_wp2_with fail
    have LE := ((((HKZ.out.set_ 0 (.int .i64 0)).set_ 1 (.int .i64 0)).set_ 2 (.string ⟨#[]⟩)).set_ 3 (.slice none 0 0)).alloc (.cells #[.int .i64 0, .int .i64 0, .string ⟨#[]⟩, .slice none 0 0] 37)
    simp at LE
    refine bodyPost_ret (v := .tuple #[.agg #[.int .i64 0, .int .i64 0, .string ⟨#[]⟩, .slice none 0 0], .int .i64 84]) (results_ct (t := 6) (u := 7) rfl _ rfl (ct_load (.inl rfl) LE)) rfl ?_
    rw [HP.out]
    exact ⟨((((HBW.out.setCell (by simp) _).setCell (by simp) _).setCell (by simp) _).setCell (by simp) _).alloc (by simp [World.setCell]; omega) _, rfl⟩
  | some r =>
    rw [hr] at hl2
    have HP : Hid (∀ e w', GetPost w S id key e w' = (Below w.heap.size w w' ∧ ∃ r' : RawN, e = .returned (.tuple #[valRN r', .int .i64 0]) ∧ r'.1.k = r.1.k ∧ r'.1.n = r.1.n ∧ r'.1.s = r.1.s ∧ (∃ l, RowAt w r.1 l ∧ RowAt w' r'.1 l) ∧ ∀ b, r'.1.a = some b → w.heap.size ≤ b)) := fun e w' => by unfold GetPost; rw [hr]
    obtain ⟨l, hl, o1, o2, o3, -, -⟩ := HV.out.lists key id r hr
    clear hr
    obtain ⟨⟨rk, rn, rs, ra, rm⟩, hrn⟩ := r
    simp only at o1
    cases ra with
    | none =>
      obtain rfl : l = [] := hl
      obtain rfl : rm = 0 := hrn rfl
      have hl2' : (Instr.lookup 63 (.map (S.inner key)) (.int .i64 id) true).run Tryd.prog wa = .ok (.tuple #[.agg #[.int .i64 rk, .int .i64 rn, .string rs, .slice none 0 0], .bool true]) wa := hl2
      have CA := Lib.hid (apart_any rk rn rs none 0 [] (wa.alloc (.cells #[.int .i64 rk, .int .i64 rn, .string rs, .slice none 0 0] 37)) o1 o3 o2 Rd.nil (fun _ => ⟨rfl, rfl⟩))
      have HBA : Hid (Below w.heap.size w (wa.alloc (.cells #[.int .i64 rk, .int .i64 rn, .string rs, .slice none 0 0] 37))) := HBW.out.alloc (by omega) _
      have HKA := Lib.hid (HKZ.out.alloc (.cells #[.int .i64 rk, .int .i64 rn, .string rs, .slice none 0 0] 37))
      have HLW : Hid (RowAt w (⟨rk, rn, rs, none, 0⟩ : Raw) []) := rfl
      clear hl2 o1 o2 o3
      go_enter Tryd.func18, Tryd.ntmps18
      go_upto_region 3 with fail
      rw [← hwa]
      clear hwa
      go_wp2_with fail
      refine CA.out.mono ?_
      rintro e w3 ⟨hb3, r', rfl, h1, h2, h3, h4, h5, h6⟩
      have hz3 := hb3.size
      simp at hz3
      have HB3 : Hid (Below w.heap.size w w3) := HBA.out.trans (hb3.mono (by simp; omega))
      have HK3 := Lib.hid (HKA.out.below hb3 (by simp; omega))
      have HRR := Lib.hid (And.intro h1 (And.intro h2 (And.intro h3 h4)))
      have HGE : Hid (∀ b, r'.1.a = some b → w.heap.size < b) := fun b hb => by have := h6 b hb; simp at this; omega
      have y0 := HK3.out.cell 0
      have y1 := HK3.out.cell 1
      have y2 := HK3.out.cell 2
      have y3 := HK3.out.cell 3
      have f0 := HK3.out.free 0
      have f1 := HK3.out.free 1
      have f2 := HK3.out.free 2
      have f3 := HK3.out.free 3
      simp at y0 y1 y2 y3
      clear hb3 h1 h2 h3 h4 h5 h6 CA HBA HKA
      obtain ⟨⟨k', n', s', a', m'⟩, hn'⟩ := r'
      unfold valRN valR listV
      cases a' with
      | none =>
        obtain rfl : m' = 0 := hn' rfl
        simp only
        go_wp2_with fail
        have LE := (((HK3.out.set_ 0 (.int .i64 k')).set_ 1 (.int .i64 n')).set_ 2 (.string s')).set_ 3 (.slice none 0 0)
        simp at LE
        refine bodyPost_ret (v := .tuple #[.agg #[.int .i64 k', .int .i64 n', .string s', .slice none 0 0], .int .i64 0]) (results_ct (t := 6) (u := 7) rfl _ rfl (ct_load (.inl rfl) LE)) rfl ?_
        rw [HP.out]
        obtain ⟨h1, h2, h3, h4⟩ := HRR.out
        exact ⟨(((HB3.out.setCell (by simp) _).setCell (by simp) _).setCell (by simp) _).setCell (by simp) _, ⟨⟨k', n', s', none, 0⟩, fun _ => rfl⟩, rfl, h1, h2, h3, ⟨_, HLW.out, h4⟩, fun b hb => by cases hb⟩
      | some b' =>
        simp only
        go_wp2_with fail
        have LE := (((HK3.out.set_ 0 (.int .i64 k')).set_ 1 (.int .i64 n')).set_ 2 (.string s')).set_ 3 (.slice (some ⟨b', 0, none⟩) m' m')
        simp at LE
        refine bodyPost_ret (v := .tuple #[.agg #[.int .i64 k', .int .i64 n', .string s', .slice (some ⟨b', 0, none⟩) m' m'], .int .i64 0]) (results_ct (t := 6) (u := 7) rfl _ rfl (ct_load (.inr ⟨b', m', rfl⟩) LE)) rfl ?_
        rw [HP.out]
        obtain ⟨h1, h2, h3, h4⟩ := HRR.out
        have hbb := HGE.out b' rfl
        refine ⟨(((HB3.out.setCell (by simp) _).setCell (by simp) _).setCell (by simp) _).setCell (by simp) _, ⟨⟨k', n', s', some b', m'⟩, hn'⟩, rfl, h1, h2, h3, ⟨_, HLW.out, h4.1, ?_⟩, fun b hb => by injection hb with hb; omega⟩
        exact (((h4.2.far (by simp only; omega) _).far (by simp only; omega) _).far (by simp only; omega) _).far (by simp only; omega) _
    | some ab =>
      obtain ⟨hm, hblk⟩ : rm = l.length ∧ Blk w ab 9 (l.map Value.string).toArray := hl
      subst hm
      have hbk := ((hblk.below HBW.out hblk.lt).alloc (.cells #[.int .i64 rk, .int .i64 rn, .string rs, .slice (some ⟨ab, 0, none⟩) l.length l.length] 37))
      have hl2' : (Instr.lookup 63 (.map (S.inner key)) (.int .i64 id) true).run Tryd.prog wa = .ok (.tuple #[.agg #[.int .i64 rk, .int .i64 rn, .string rs, .slice (some ⟨ab, 0, none⟩) l.length l.length], .bool true]) wa := hl2
      have CA := Lib.hid (apart_any rk rn rs (some ⟨ab, 0, none⟩) l.length l (wa.alloc (.cells #[.int .i64 rk, .int .i64 rn, .string rs, .slice (some ⟨ab, 0, none⟩) l.length l.length] 37)) o1 o3 o2 (fun j v hj => ⟨ab, 0, rfl, hbk.lt, by rw [Nat.zero_add, hbk.cell]; simpa using hj⟩) (fun h => by cases h))
      have HBA : Hid (Below w.heap.size w (wa.alloc (.cells #[.int .i64 rk, .int .i64 rn, .string rs, .slice (some ⟨ab, 0, none⟩) l.length l.length] 37))) := HBW.out.alloc (by omega) _
      have HKA := Lib.hid (HKZ.out.alloc (.cells #[.int .i64 rk, .int .i64 rn, .string rs, .slice (some ⟨ab, 0, none⟩) l.length l.length] 37))
      have HLW : Hid (RowAt w (⟨rk, rn, rs, some ab, l.length⟩ : Raw) l) := ⟨rfl, hblk⟩
      clear hl2 o1 o2 o3 hbk
      go_enter Tryd.func18, Tryd.ntmps18
      go_upto_region 3 with fail
      rw [← hwa]
      clear hwa
      go_wp2_with fail
      refine CA.out.mono ?_
      rintro e w3 ⟨hb3, r', rfl, h1, h2, h3, h4, h5, h6⟩
      have hz3 := hb3.size
      simp at hz3
      have HB3 : Hid (Below w.heap.size w w3) := HBA.out.trans (hb3.mono (by simp; omega))
      have HK3 := Lib.hid (HKA.out.below hb3 (by simp; omega))
      have HRR := Lib.hid (And.intro h1 (And.intro h2 (And.intro h3 h4)))
      have HGE : Hid (∀ b, r'.1.a = some b → w.heap.size < b) := fun b hb => by have := h6 b hb; simp at this; omega
      have y0 := HK3.out.cell 0
      have y1 := HK3.out.cell 1
      have y2 := HK3.out.cell 2
      have y3 := HK3.out.cell 3
      have f0 := HK3.out.free 0
      have f1 := HK3.out.free 1
      have f2 := HK3.out.free 2
      have f3 := HK3.out.free 3
      simp at y0 y1 y2 y3
      clear hb3 h1 h2 h3 h4 h5 h6 CA HBA HKA
      obtain ⟨⟨k', n', s', a', m'⟩, hn'⟩ := r'
      unfold valRN valR listV
      cases a' with
      | none =>
        obtain rfl : m' = 0 := hn' rfl
        simp only
        go_wp2_with fail
        have LE := (((HK3.out.set_ 0 (.int .i64 k')).set_ 1 (.int .i64 n')).set_ 2 (.string s')).set_ 3 (.slice none 0 0)
        simp at LE
        refine bodyPost_ret (v := .tuple #[.agg #[.int .i64 k', .int .i64 n', .string s', .slice none 0 0], .int .i64 0]) (results_ct (t := 6) (u := 7) rfl _ rfl (ct_load (.inl rfl) LE)) rfl ?_
        rw [HP.out]
        obtain ⟨h1, h2, h3, h4⟩ := HRR.out
        exact ⟨(((HB3.out.setCell (by simp) _).setCell (by simp) _).setCell (by simp) _).setCell (by simp) _, ⟨⟨k', n', s', none, 0⟩, fun _ => rfl⟩, rfl, h1, h2, h3, ⟨_, HLW.out, h4⟩, fun b hb => by cases hb⟩
      | some b' =>
        simp only
        go_wp2_with fail
        have LE := (((HK3.out.set_ 0 (.int .i64 k')).set_ 1 (.int .i64 n')).set_ 2 (.string s')).set_ 3 (.slice (some ⟨b', 0, none⟩) m' m')
        simp at LE
        refine bodyPost_ret (v := .tuple #[.agg #[.int .i64 k', .int .i64 n', .string s', .slice (some ⟨b', 0, none⟩) m' m'], .int .i64 0]) (results_ct (t := 6) (u := 7) rfl _ rfl (ct_load (.inr ⟨b', m', rfl⟩) LE)) rfl ?_
        rw [HP.out]
        obtain ⟨h1, h2, h3, h4⟩ := HRR.out
        have hbb := HGE.out b' rfl
        refine ⟨(((HB3.out.setCell (by simp) _).setCell (by simp) _).setCell (by simp) _).setCell (by simp) _, ⟨⟨k', n', s', some b', m'⟩, hn'⟩, rfl, h1, h2, h3, ⟨_, HLW.out, h4.1, ?_⟩, fun b hb => by injection hb with hb; omega⟩
        exact (((h4.2.far (by simp only; omega) _).far (by simp only; omega) _).far (by simp only; omega) _).far (by simp only; omega) _
end Go.Proofs.YthgagobdkcikiaaDoor
