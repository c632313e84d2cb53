/- The contract of arch.Parse. -/
import Derived.Test.YtahodhodkgdgnaaTab
namespace Go.Proofs.Ytahodhodkgdgnaa
set_option linter.unusedSimpArgs false
set_option linter.unusedVariables false
open Go.RowKit

/-- What reading a table answers. -/
def PostP (w : World) (r : Option Tb) (e : Ending) (w' : World) : Prop :=
  Below w.heap.size w w' ∧ ((r = none ∧ e = .returned (.tuple #[.pointer none, .int .i64 40])) ∨ ∃ T bt, r = some T ∧ e = .returned (.tuple #[.pointer (some ⟨bt, 0, none⟩), .int .i64 0]) ∧ Tab w' bt T)

theorem clone_any (s : ByteArray) (hs : s.size ≤ 20) (w : World) : Calls Try.prog 17 #[.string s] w fun e w' => e = .returned (.string s) ∧ Below w.heap.size w w' := by
  have C := Lib.hid (Try.stringslite_Clone s w (by omega))
  clear hs
  go_enter Try.func17, Try.ntmps17
  go_wp2_with fail
  refine C.out.mono ?_
  rintro e w1 ⟨rfl, hb⟩
  go_wp2_with fail
  go_ret
  exact ⟨rfl, hb⟩

abbrev MapC (w : World) (bm n : Nat) (D : DataW Unit) : Prop := w.ownsMap Try.prog 9 cElem bm n D
theorem look_run {w : World} {bm n : Nat} {D : DataW Unit} {T : Tb} (hM : MapC w bm n D) (hA : AgreesC D T) {s : ByteArray} (hs : s.size ≤ maxLen) :
    (Instr.lookup 39 (.map (some bm)) (.string s) false).run Try.prog w = .ok (cval ((findT 0 T s.data.toList).getD (0, 0))) w := by
  have hkey := Go.WideMaps.keyOf_string_mk (P := Try.prog) Try.underlying9 hs
  obtain ⟨v, ps, hrun, hv⟩ := World.ownsMap.lookup hM lawS Try.underlying39 (zeroC w) (zd := dC (0, 0)) (zp := []) rfl hkey
  have hat := hA.at_ s (0, 0)
  unfold kdS at hat
  rw [hat] at hv
  obtain rfl := cElem_inv hv
  exact hrun
theorem look_ok_run {w : World} {bm n : Nat} {D : DataW Unit} {T : Tb} (hM : MapC w bm n D) (hA : AgreesC D T) {s : ByteArray} (hs : s.size ≤ maxLen) :
    ∃ v, (Instr.lookup 39 (.map (some bm)) (.string s) true).run Try.prog w = .ok (.tuple #[v, .bool (findT 0 T s.data.toList).isSome]) w := by
  have hkey := Go.WideMaps.keyOf_string_mk (P := Try.prog) Try.underlying9 hs
  obtain ⟨v, ps, hrun, hv⟩ := World.ownsMap.look_ok hM lawS Try.underlying39 (zeroC w) (zd := dC (0, 0)) (zp := []) rfl hkey
  have hh := hA.has s
  unfold kdS at hh
  rw [hh] at hrun
  exact ⟨v, hrun⟩
theorem add_run (a b d : Nat) (ha : a ≤ 17) (hb : b ≤ 17) (hd : d = 0 ∨ d = 1) (w : World) :
    (binOp .add 38 (cval (a, b)) (cval (d, 1))).run Try.prog w = .ok (cval (a + d, b + 1)) w := by
  refine run_complex_sum w .add (.inl rfl) _ _ _ _ _ _ _ _ ?_
  unfold cSumBits
  have h1 : floatBits .add .f64 (fb a) (fb d) = some (fb (a + d)) := by
    rcases hd with rfl | rfl
    · exact fb_add0 a (by omega)
    · exact fb_add a ha
  have h2 : floatBits .add .f64 (fb b) (fb 1) = some (fb (b + 1)) := fb_add b hb
  simp only
  rw [h1, h2]
  rfl

/-- At the loop's head. -/
structure HeadP (w0 : World) (s0 : List UInt8) (bm : Nat) (w : World) (T : Tb) (D : DataW Unit) (sc d : Nat) (s : ByteArray) : Prop where
  below : Below w0.heap.size w0 w
  new : w0.heap.size ≤ bm
  map : MapC w bm T.length D
  are : AgreesC D T
  good : GoodT T
  size : s.size ≤ maxLen
  step : d = 0 ∨ d = 1
  pos : 1 ≤ sc
  le : sc ≤ T.length
  read : readT T (sc + d) [] s.data.toList = parseT s0

/-- What is cut off, and what reading on then is. -/
theorem cut_fact (s : ByteArray) (hs : s.size ≤ maxLen) (T : Tb) (sc : Nat) : ∃ (nm rest : ByteArray) (more : Int),
    (∀ w, Calls Try.prog 15 #[.string s] w fun e w' => e = .returned (.tuple #[.string nm, .string rest, .int .u8 more]) ∧ Below w.heap.size w w') ∧ nm.size ≤ maxLen ∧ rest.size ≤ maxLen ∧
    ((more = 0 ∧ readT T sc [] s.data.toList = if okT T nm.data.toList then some (T ++ [(nm.data.toList, sc)]) else none) ∨
     (more = 62 ∧ rest.size < s.size ∧ readT T sc [] s.data.toList = if okT T nm.data.toList then readT (T ++ [(nm.data.toList, sc)]) (sc + 1) [] rest.data.toList else none) ∨
     (more = 58 ∧ rest.size < s.size ∧ readT T sc [] s.data.toList = if okT T nm.data.toList then readT (T ++ [(nm.data.toList, sc)]) (sc + 0) [] rest.data.toList else none)) := by
  have hcut := read_cut (T := T) (sc := sc) (l := s.data.toList)
  have htk := take_of_while (p := fun c => !isSep c) s.data.toList
  have hdr := drop_of_while (p := fun c => !isSep c) s.data.toList
  obtain ⟨k, hk⟩ : ∃ k, k = (s.data.toList.takeWhile (fun c => !isSep c)).length := ⟨_, rfl⟩
  rw [← hk] at htk hdr
  rw [htk, hdr] at hcut
  have hall : (s.data.toList.take k).all nosep = true := by
    rw [← htk]
    exact while_all _
  have hkl : k ≤ s.size := by rw [hk, ← size_len]; exact while_le _
  by_cases hlt : k < s.size
  · have hb := byte_at hlt
    have hc : isSep (s[k]'hlt) = true := by
      have := while_stop (p := fun c => !isSep c) (l := s.data.toList) (b := s[k]'hlt) (by rw [← hk]; exact hb)
      simpa using this
    have hd : s.data.toList.drop k = s[k]'hlt :: s.data.toList.drop (k + 1) := by
      rw [List.drop_eq_getElem_cons (by rw [size_len]; exact hlt)]
      rw [List.getElem?_eq_getElem (by rw [size_len]; exact hlt)] at hb
      injection hb with hb
      rw [hb]
    rw [hd, read_sep hc] at hcut
    refine ⟨s.extract 0 k, s.extract (k + 1) s.size, ((s[k]'hlt).toNat : Int), fun w => cut_some s hs k hlt hall hc w, ?_, ?_, .inr ?_⟩
    · rw [← size_len, bl_upto, List.length_take, size_len]; omega
    · rw [← size_len, bl_from, List.length_drop, size_len]; omega
    · rw [bl_upto, bl_from]
      have hsz : (s.extract (k + 1) s.size).size < s.size := by rw [← size_len, bl_from, List.length_drop, size_len]; omega
      unfold isSep at hc
      simp only [Bool.or_eq_true, beq_iff_eq] at hc
      rcases hc with hc | hc
      · left
        rw [hc] at hcut ⊢
        exact ⟨rfl, hsz, hcut⟩
      · right
        rw [hc] at hcut ⊢
        exact ⟨rfl, hsz, hcut⟩
  · have hke : k = s.size := by omega
    have h1 : s.data.toList.take k = s.data.toList := List.take_of_length_le (by rw [size_len]; omega)
    have h2 : s.data.toList.drop k = [] := List.drop_eq_nil_of_le (by rw [size_len]; omega)
    rw [h1] at hall hcut
    rw [h2, read_end] at hcut
    exact ⟨s, ⟨#[]⟩, 0, fun w => cut_none s hs hall w, hs, by decide, .inl ⟨rfl, hcut⟩⟩

section
variable {w wr w2 w3 : World} {s0 : List UInt8} {bm : Nat} {T : Tb} {D : DataW Unit} {sc d : Nat} {s : ByteArray}
theorem head_err (H : HeadP w s0 bm wr T D sc d s) (hb : Below wr.heap.size wr w2) (hp : parseT s0 = none) : PostP w (parseT s0) (.returned (.tuple #[.pointer none, .int .i64 40])) w2 :=
  ⟨H.below.trans (hb.mono H.below.size), .inl ⟨hp, rfl⟩⟩
theorem head_map (H : HeadP w s0 bm wr T D sc d s) (hb : Below wr.heap.size wr w2) : MapC w2 bm T.length D :=
  map_turned (F := []) H.map (Turned.of_below hb []) (by simp)
theorem head_next (H : HeadP w s0 bm wr T D sc d s) (hb : Below wr.heap.size wr w2) {nm : ByteArray} (hok : okT T nm.data.toList = true)
    (hM : MapC w3 bm (T.length + 1) (D.put (kdS nm) (dC (sc + d, T.length)))) (hg : w2.grownBy w3 (some bm)) {d' : Nat} (hd : d' = 0 ∨ d' = 1) {rest : ByteArray} (hr : rest.size ≤ maxLen)
    (hread : readT (T ++ [(nm.data.toList, sc + d)]) (sc + d + d') [] rest.data.toList = parseT s0) :
    HeadP w s0 bm w3 (T ++ [(nm.data.toList, sc + d)]) (D.put (kdS nm) (dC (sc + d, T.length))) (sc + d) d' rest := by
  have hf : findT 0 T nm.data.toList = none := by
    unfold okT at hok
    simp only [Bool.and_eq_true, Option.isNone_iff_eq_none] at hok
    exact hok.1.2
  have h1 := H.pos
  have h2 := H.le
  have h3 := H.step
  refine ⟨?_, H.new, ?_, H.are.put nm (sc + d) hf, good_snoc H.good hok (by omega) (by omega), hr, hd, by omega, by rw [List.length_append]; simp; omega, hread⟩
  · have hB := H.below.trans (hb.mono H.below.size)
    exact ((Turned.of_below hB []).grown hg (fun k hk => .inr (by injection hk with hk; have := H.new; omega))).of_nil
  · rw [List.length_append]; exact hM
theorem tab_made (hM : MapC w3 bm T.length D) (hA : AgreesC D T) (hG : GoodT T) : Tab (w3.alloc (.cells #[.map (some bm)] 47)) w3.heap.size T :=
  ⟨hG, bm, D, Blk.new w3 _ _, hM.alloc _, hA⟩
theorem head_end (H : HeadP w s0 bm wr T D sc d s) (hb : Below wr.heap.size wr w2) {nm : ByteArray} (hok : okT T nm.data.toList = true)
    (hM : MapC w3 bm (T.length + 1) (D.put (kdS nm) (dC (sc + d, T.length)))) (hg : w2.grownBy w3 (some bm))
    (hp : parseT s0 = some (T ++ [(nm.data.toList, sc + d)])) : PostP w (parseT s0) (.returned (.tuple #[.pointer (some ⟨w3.heap.size, 0, none⟩), .int .i64 0])) (w3.alloc (.cells #[.map (some bm)] 47)) := by
  have hf : findT 0 T nm.data.toList = none := by
    unfold okT at hok
    simp only [Bool.and_eq_true, Option.isNone_iff_eq_none] at hok
    exact hok.1.2
  have h1 := H.pos
  have h2 := H.le
  have h3 := H.step
  have hB := H.below.trans (hb.mono H.below.size)
  have hB3 : Below w.heap.size w w3 := ((Turned.of_below hB []).grown hg (fun k hk => .inr (by injection hk with hk; have := H.new; omega))).of_nil
  refine ⟨hB3.alloc hB3.size _, .inr ⟨_, _, hp, rfl, tab_made (by rw [List.length_append]; exact hM) (H.are.put nm (sc + d) hf) (good_snoc H.good hok (by omega) (by omega))⟩⟩
end

def noS : ByteArray := ⟨#[110, 111, 97, 114, 99, 104]⟩
def D0 : DataW Unit := (DataW.map []).put (kdS noS) (dC (1, 0))
theorem agrees0 : AgreesC D0 T0 := AgreesC.nil.put noS 1 rfl
theorem start_look {w : World} {bm : Nat} (h : MapC w bm 1 D0) : (Instr.lookup 39 (.map (some bm)) (.string ⟨#[110, 111, 97, 114, 99, 104]⟩) false).run Try.prog w = .ok (cval (1, 0)) w :=
  look_run h agrees0 (s := noS) (by decide)
theorem start_head {w w3 : World} {s0 : ByteArray} (hs : s0.size ≤ maxLen) (hown : MapC w3 w.heap.size 1 D0) (hg : (w.alloc (.map #[] 0)).grownBy w3 (some w.heap.size)) : HeadP w s0.data.toList w.heap.size w3 T0 D0 1 1 s0 :=
  ⟨((((Turned.refl [] w).alloc _).grown hg (fun k hk => .inr (by injection hk with hk; omega)))).of_nil, Nat.le_refl _, hown, agrees0, good0, hs, .inr rfl, Nat.le_refl _, Nat.le_refl _, rfl⟩

set_option maxHeartbeats 4000000 in
set_option maxRecDepth 100000 in
theorem parse_any (s0 : ByteArray) (hs : s0.size ≤ maxLen) (w : World) : Calls Try.prog 9 #[.string s0] w (PostP w (parseT s0.data.toList)) := by
  have hmm := @run_makeMap Try.prog
  have HK := Lib.hid (Go.WideMaps.keyOf_string_mk (P := Try.prog) Try.underlying9 (s := ⟨#[110, 111, 97, 114, 99, 104]⟩) (by decide))
  have HS := Lib.hid hs
  clear hs
  go_enter Try.func9, Try.ntmps9
  go_wp2_with ((refine wpList_insert_own _ rfl (.tmp 12) _ _ 39 rfl 9 38 lawS Try.underlying39 cElem w.heap.size 0 (.map []) rfl (World.ownsMap_made (H := Unit) w Try.prog 9 cElem) (by decide) _ _ _ rfl rfl HK.out _ [] (cElem_val (1, 0)) ?_; intro w3 hown3 hg3; have hlk := start_look hown3; unfold cval at hlk))
  have hd0 := start_head (s0 := s0) HS.out hown3 hg3
  clear hown3 hg3 hlk hmm
  generalize w.heap.size = bm at *
  go_loopg [0, 5, 6] s0.size (fun g v0 v5 v6 wx => ∃ s T D sc d, s.size ≤ g ∧ v0 = .string s ∧ v5 = cval (sc, T.length - 1) ∧ v6 = cval (d, 1) ∧ HeadP w s0.data.toList bm wx T D sc d s)
  case atStart => exact ⟨s0, T0, D0, 1, 1, Nat.le_refl _, rfl, rfl, rfl, hd0⟩
  case round =>
    obtain ⟨s, T, D, sc, d, hsg, rfl, rfl, rfl, hh⟩ := hrel
    have HH := Lib.hid hh
    have hlen := hh.good.few
    have hlen1 : 1 ≤ T.length := (List.getElem?_eq_some_iff.1 hh.good.one).1
    have hsc := hh.le
    obtain ⟨nm, rest, more, hcut, hnm, hrs, hor⟩ := cut_fact s hh.size T (sc + d)
    have hadd := fun w => add_run sc (T.length - 1) d (by omega) (by omega) hh.step w
    rw [show T.length - 1 + 1 = T.length by omega] at hadd
    have hgt := fb_gt T.length (by omega)
    have CUT := Lib.hid hcut
    have CNAME := Lib.hid (fun w => isName_any nm hnm w)
    have HNM := Lib.hid hnm
    have HRS := Lib.hid hrs
    have HOK := Lib.hid (show okT T nm.data.toList = (nameB nm.data.toList && !(findT 0 T nm.data.toList).isSome && !decide (16 < T.length)) by
      unfold okT
      have e1 : (findT 0 T nm.data.toList).isNone = !(findT 0 T nm.data.toList).isSome := by cases findT 0 T nm.data.toList <;> rfl
      have e2 : decide (T.length ≤ 16) = !decide (16 < T.length) := by
        by_cases h : T.length ≤ 16
        · rw [decide_eq_true h, decide_eq_false (by omega)]; rfl
        · rw [decide_eq_false h, decide_eq_true (by omega)]; rfl
      rw [e1, e2])
    clear hh hcut hnm hrs
    unfold cval at hadd
    unfold cval
    simp only at hadd
    have HN : Hid (okT T nm.data.toList = false → parseT s0.data.toList = none) := fun h => by
      rw [← HH.out.read]
      rcases hor with ⟨_, h1⟩ | ⟨_, _, h1⟩ | ⟨_, _, h1⟩ <;> rw [h1, h] <;> rfl
    cases hf : (findT 0 T nm.data.toList).isSome
    case true =>
      have HF := Lib.hid (HN.out (by rw [HOK.out, hf]; simp))
      have HFS := Lib.hid hf
      clear hf hor HN
      go_wp2_with fail
      refine (CUT.out _).mono ?_
      rintro e w1 ⟨rfl, hb1⟩
      obtain ⟨v, hlk⟩ := look_ok_run (head_map HH.out hb1) HH.out.are HNM.out
      rw [HFS.out] at hlk
      have HB1 := Lib.hid hb1
      clear hb1
      go_wp2_with fail
      go_ret2
      exact head_err HH.out HB1.out HF.out
    case false =>
      have HFS := Lib.hid hf
      cases hn : nameB nm.data.toList
      case false =>
        have HF := Lib.hid (HN.out (by rw [HOK.out, hf, hn]; simp))
        rw [hn] at CNAME
        clear hf hn hor HN
        go_wp2_with fail
        refine (CUT.out _).mono ?_
        rintro e w1 ⟨rfl, hb1⟩
        obtain ⟨v, hlk⟩ := look_ok_run (head_map HH.out hb1) HH.out.are HNM.out
        rw [HFS.out] at hlk
        have HB1 := Lib.hid hb1
        clear hb1
        go_wp2_with fail
        refine (CNAME.out _).mono ?_
        rintro e w2 ⟨rfl, rfl⟩
        go_wp2_with fail
        go_ret2
        exact head_err HH.out HB1.out HF.out
      case true =>
        have HFN := Lib.hid hn
        rw [hn] at CNAME
        cases hg : decide (16 < T.length)
        case true =>
          have HF := Lib.hid (HN.out (by rw [HOK.out, hg]; simp))
          rw [hg] at hgt
          clear hf hn hg hor HN
          go_wp2_with fail
          refine (CUT.out _).mono ?_
          rintro e w1 ⟨rfl, hb1⟩
          obtain ⟨v, hlk⟩ := look_ok_run (head_map HH.out hb1) HH.out.are HNM.out
          rw [HFS.out] at hlk
          have HB1 := Lib.hid hb1
          clear hb1
          go_wp2_with fail
          refine (CNAME.out _).mono ?_
          rintro e w2 ⟨rfl, rfl⟩
          go_wp2_with fail
          go_ret2
          exact head_err HH.out HB1.out HF.out
        case false =>
          have HO : Hid (okT T nm.data.toList = true) := by show okT _ _ = true; rw [HOK.out, hf, hn, hg]; rfl
          have HFG := Lib.hid hg
          rw [hg] at hgt
          have HKY := Lib.hid (Go.WideMaps.keyOf_string_mk (P := Try.prog) Try.underlying9 HNM.out)
          have CCL := Lib.hid (fun w => clone_any nm (by
            have := hn
            unfold nameB at this
            simp only [Bool.and_eq_true, decide_eq_true_eq] at this
            rw [← size_len]; exact this.2) w)
          clear hf hn hg HN
          have HR : Hid (more = 0 ∧ parseT s0.data.toList = some (T ++ [(nm.data.toList, sc + d)]) ∨ more = 62 ∧ rest.size < s.size ∧ readT (T ++ [(nm.data.toList, sc + d)]) (sc + d + 1) [] rest.data.toList = parseT s0.data.toList ∨
              more = 58 ∧ rest.size < s.size ∧ readT (T ++ [(nm.data.toList, sc + d)]) (sc + d + 0) [] rest.data.toList = parseT s0.data.toList) := by
            show _ ∨ _ ∨ _
            rw [← HH.out.read]
            rcases hor with ⟨h0, h1⟩ | ⟨h0, hl, h1⟩ | ⟨h0, hl, h1⟩ <;> rw [h1, HO.out]
            · exact .inl ⟨h0, rfl⟩
            · exact .inr (.inl ⟨h0, hl, rfl⟩)
            · exact .inr (.inr ⟨h0, hl, rfl⟩)
          clear hor
          rcases HR.out with ⟨rfl, hp⟩ | ⟨rfl, hl, hp⟩ | ⟨rfl, hl, hp⟩
          all_goals
            have HP := Lib.hid hp
            clear hp HR
            go_wp2_with fail
            refine (CUT.out _).mono ?_
            rintro e w1 ⟨rfl, hb1⟩
            obtain ⟨v, hlk⟩ := look_ok_run (head_map HH.out hb1) HH.out.are HNM.out
            rw [HFS.out] at hlk
            have HB1 := Lib.hid hb1
            clear hb1
            go_wp2_with fail
            refine (CNAME.out _).mono ?_
            rintro e w2 ⟨rfl, rfl⟩
            go_wp2_with fail
            refine (CCL.out _).mono ?_
            rintro e w2 ⟨rfl, hb2⟩
            have HB2 := Lib.hid (HB1.out.trans (hb2.mono HB1.out.size))
            clear hb2 hlk
            go_wp2_with ((at_mapUpdate; refine wpList_mapUpdate_own _ rfl _ _ _ 39 rfl 9 38 lawS Try.underlying39 cElem bm T.length D rfl (head_map HH.out HB2.out) (by unfold maxLen; omega) _ _ _ rfl rfl HKY.out _ [] (cElem_val (sc + d, T.length)) ?_; intro w3 hown3 hg3))
          · go_ret2
            exact head_end HH.out HB2.out HO.out hown3 hg3 HP.out
          · go_roundg rest.size
            case measure => omega
            case rel => exact ⟨rest, _, _, _, 1, Nat.le_refl _, rfl, by simp [cval], rfl, head_next HH.out HB2.out HO.out hown3 hg3 (.inr rfl) HRS.out HP.out⟩
          · go_roundg rest.size
            case measure => omega
            case rel => exact ⟨rest, _, _, _, 0, Nat.le_refl _, rfl, by simp [cval], rfl, head_next HH.out HB2.out HO.out hown3 hg3 (.inl rfl) HRS.out HP.out⟩
end Go.Proofs.Ytahodhodkgdgnaa
