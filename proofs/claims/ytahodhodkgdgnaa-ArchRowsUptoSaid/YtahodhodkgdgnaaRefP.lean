/- The document's answer: the contract of its Parse. -/
import Derived.Test.YtahodhodkgdgnaaRef
namespace Go.Proofs.Ytahodhodkgdgnaa
set_option linter.unusedSimpArgs false
set_option linter.unusedVariables false
open Go.RowKit

theorem infoS : (Try.prog.info? 9).map (fun i => (i.zero, i.size, i.bytes)) = some (some (.string ByteArray.empty), 1, 16) := by kernel_rfl
theorem infoI : (Try.prog.info? 3).map (fun i => (i.zero, i.size, i.bytes)) = some (some (.int .i64 0), 1, 8) := by kernel_rfl

theorem cell_one_at {w : World} {g : Nat} {x : Value} {t : TypeId} (h : w.heap.size = g) : ∀ j u, [x][j]? = some u → (w.alloc (.cells #[x] t)).cell? ((⟨g, 0, none⟩ : Addr).add j) = some u := h ▸ cell_one_new w x t
/-- What reading a table answers. -/
def PostR (w : World) (r : Option Tb) (e : Ending) (w' : World) : Prop :=
  Below w.heap.size w w' ∧ ((r = none ∧ e = .returned (.tuple #[.pointer none, .int .i64 40])) ∨ ∃ T bt, r = some T ∧ e = .returned (.tuple #[.pointer (some ⟨bt, 0, none⟩), .int .i64 0]) ∧ RTab w' bt T)

/-- Half way: the name is there, the score is not. -/
structure RH (base : Nat) (w : World) (bt : Nat) (vn vs : Value) (T : Tb) (s : ByteArray) : Prop where
  blk : Blk w bt 50 #[vn, vs]
  names : w.ownsRow base 9 1 vn (T.length + 1) (nameVs T ++ [.string s])
  scores : w.ownsRow base 3 1 vs T.length (scoreVs T)
section
variable {w0 w1 w2 : World} {base bt : Nat} {vn vs v2 : Value} {T : Tb} {cs : Array Value} {t : TypeId} {s : ByteArray} {sc : Nat}
theorem own_ge {w : World} {e : TypeId} {size n : Nat} {v : Value} {xs : List Value} (h : w.ownsRow base e size v n xs) {k : Nat} (hk : v.ownBlock = some k) : base ≤ k := (h.lt k hk).1
theorem rt_names (H : RT base w1 bt vn vs T) (hg : (w1.alloc (.cells cs t)).grownBy w2 vn.ownBlock) (hO : w2.ownsRow base 9 1 v2 (T.length + 1) (nameVs T ++ [.string s])) :
    RH base (w2.setCell ⟨bt, 0, none⟩ v2) bt v2 vs T s := by
  have hB : Blk w2 bt 50 #[vn, vs] := (H.blk.alloc _).grown hg (fun e => own_kind H.names H.blk (by decide) e.symm)
  have hS : w2.ownsRow base 3 1 vs T.length (scoreVs T) := by
    refine own_turned (F := vn.ownBlock.toList) H.scores (((Turned.refl _ w1).alloc _).grown hg (fun k hk => .inl (by simp [hk]))) fun k hk hm => ?_
    exact own_kinds H.scores H.names (by decide) hk (by simpa using hm)
  exact ⟨by simpa using hB.set_ 0 v2, own_setCell (p := ⟨bt, 0, none⟩) hO (own_kind hO hB (by decide)) v2, own_setCell (p := ⟨bt, 0, none⟩) hS (own_kind hS hB (by decide)) v2⟩
theorem rt_scores (H : RH base w1 bt vn vs T s) (hg : (w1.alloc (.cells cs t)).grownBy w2 vs.ownBlock) (hO : w2.ownsRow base 3 1 v2 (T.length + 1) (scoreVs T ++ [.int .i64 (sc : Int)])) :
    RT base (w2.setCell ⟨bt, 1, none⟩ v2) bt vn v2 (T ++ [(s.data.toList, sc)]) := by
  have hB : Blk w2 bt 50 #[vn, vs] := (H.blk.alloc _).grown hg (fun e => own_kind H.scores H.blk (by decide) e.symm)
  have hN : w2.ownsRow base 9 1 vn (T.length + 1) (nameVs T ++ [.string s]) := by
    refine own_turned (F := vs.ownBlock.toList) H.names (((Turned.refl _ w1).alloc _).grown hg (fun k hk => .inl (by simp [hk]))) fun k hk hm => ?_
    exact own_kinds H.names H.scores (by decide) hk (by simpa using hm)
  have e1 : nameVs (T ++ [(s.data.toList, sc)]) = nameVs T ++ [.string s] := by
    unfold nameVs
    rw [List.map_append]
    show _ ++ [Value.string (mkS s.data.toList)] = _
    rw [← mkS_of rfl]
  have e2 : scoreVs (T ++ [(s.data.toList, sc)]) = scoreVs T ++ [.int .i64 (sc : Int)] := by
    unfold scoreVs; rw [List.map_append]; rfl
  refine ⟨by simpa using hB.set_ 1 v2, ?_, ?_⟩
  · rw [List.length_append, e1]; exact own_setCell (p := ⟨bt, 1, none⟩) hN (own_kind hN hB (by decide)) v2
  · rw [List.length_append, e2]; exact own_setCell (p := ⟨bt, 1, none⟩) hO (own_kind hO hB (by decide)) v2
theorem below_step {n : Nat} {e : TypeId} {size : Nat} {xs : List Value} (hb : Below w0.heap.size w0 w1) (hv : w1.ownsRow w0.heap.size e size vn n xs) (hg : (w1.alloc (.cells cs t)).grownBy w2 vn.ownBlock) (hbt : w0.heap.size ≤ bt) (j : Nat) (u : Value) :
    Below w0.heap.size w0 (w2.setCell ⟨bt, j, none⟩ u) :=
  ((((Turned.of_below hb []).alloc _).grown hg (fun k hk => .inr (own_ge hv hk))).setCell (.inr hbt) u).of_nil
end

/-- At the loop's head. -/
structure HeadR (w0 : World) (l : List UInt8) (bt : Nat) (w : World) (T : Tb) (sc fr i : Nat) : Prop where
  below : Below w0.heap.size w0 w
  new : w0.heap.size ≤ bt
  tab : ∃ vn vs, RT w0.heap.size w bt vn vs T
  good : GoodT T
  pos : 1 ≤ sc
  le : sc ≤ T.length + 1
  read : (i ≤ l.length ∧ fr ≤ i ∧ readT T sc ((l.take i).drop fr) (l.drop i) = parseT l) ∨ (i = l.length + 1 ∧ parseT l = some T)

def startR (w : World) : World := ((w.alloc (.cells #[.string ⟨#[110, 111, 97, 114, 99, 104]⟩] 9)).alloc (.cells #[.int .i64 1] 3)).alloc (.cells #[.slice (some ⟨w.heap.size, 0, none⟩) 1 1, .slice (some ⟨w.heap.size + 1, 0, none⟩) 1 1] 50)
theorem startR_head (w : World) (l : List UInt8) : HeadR w l (w.heap.size + 1 + 1) (startR w) T0 2 0 0 := by
  have hN : (w.alloc (.cells #[.string ⟨#[110, 111, 97, 114, 99, 104]⟩] 9)).ownsRow w.heap.size 9 1 (.slice (some ⟨w.heap.size, 0, none⟩) 1 1) 1 [.string ⟨#[110, 111, 97, 114, 99, 104]⟩] :=
    ⟨rfl, .inr ⟨w.heap.size, 1, _, rfl, Nat.le_refl _, heap_alloc_new w _, Nat.le_refl _, by simp [maxLen], rfl, rfl⟩⟩
  have hs1 : (w.alloc (.cells #[.string ⟨#[110, 111, 97, 114, 99, 104]⟩] 9)).heap.size = w.heap.size + 1 := by simp
  have hS : ((w.alloc (.cells #[.string ⟨#[110, 111, 97, 114, 99, 104]⟩] 9)).alloc (.cells #[.int .i64 1] 3)).ownsRow w.heap.size 3 1 (.slice (some ⟨w.heap.size + 1, 0, none⟩) 1 1) 1 [.int .i64 1] :=
    ⟨rfl, .inr ⟨w.heap.size + 1, 1, _, rfl, Nat.le_succ _, hs1 ▸ heap_alloc_new _ _, Nat.le_refl _, by simp [maxLen], rfl, rfl⟩⟩
  refine ⟨(((Below.refl _ _).alloc (Nat.le_refl _) _).alloc (by simp) _).alloc (by simp; omega) _, by omega, ⟨_, _, ⟨Blk.new' (by simp), (hN.alloc _).alloc _, hS.alloc _⟩⟩, good0, by decide, by decide, .inl ⟨Nat.zero_le _, Nat.le_refl _, ?_⟩⟩
  rfl

section
variable {w0 wr w2 : World} {s : ByteArray} {bt : Nat} {T : Tb} {sc fr i : Nat}
theorem r_end (H : HeadR w0 s.data.toList bt wr T sc fr i) (hi : ¬ i ≤ s.size) : PostR w0 (parseT s.data.toList) (.returned (.tuple #[.pointer (some ⟨bt, 0, none⟩), .int .i64 0])) wr := by
  rcases H.read with h | h
  · rw [size_len] at h; omega
  · obtain ⟨vn, vs, hT⟩ := H.tab
    exact ⟨H.below, .inr ⟨T, bt, h.2, rfl, H.good, _, vn, vs, hT⟩⟩
theorem r_read (H : HeadR w0 s.data.toList bt wr T sc fr i) (hi : i ≤ s.size) : fr ≤ i ∧ readT T sc (s.extract fr i).data.toList (s.data.toList.drop i) = parseT s.data.toList := by
  rcases H.read with h | h
  · rw [bl_mid]; exact h.2
  · rw [size_len] at h; omega
theorem drop_at {l : List UInt8} {i : Nat} {c : UInt8} (h : l[i]? = some c) : l.drop i = c :: l.drop (i + 1) := by
  have hi := (List.getElem?_eq_some_iff.1 h).1
  rw [List.drop_eq_getElem_cons hi]
  rw [List.getElem?_eq_getElem hi] at h
  injection h with h
  rw [h]
theorem r_on (H : HeadR w0 s.data.toList bt wr T sc fr i) (hi : i < s.size) (hn : isSep (s[i]'hi) = false) : HeadR w0 s.data.toList bt wr T sc fr (i + 1) := by
  obtain ⟨h1, h2⟩ := r_read H (by omega)
  have hb := byte_at hi
  refine ⟨H.below, H.new, H.tab, H.good, H.pos, H.le, .inl ⟨by rw [size_len]; omega, by omega, ?_⟩⟩
  rw [drop_at hb, read_other hn, bl_mid] at h2
  rw [← h2]
  congr 1
  rw [List.take_add_one, hb, List.drop_append_of_le_length (by rw [List.length_take, size_len]; omega)]
  rfl
theorem r_err (H : HeadR w0 s.data.toList bt wr T sc fr i) (hb : Below wr.heap.size wr w2) (hp : parseT s.data.toList = none) : PostR w0 (parseT s.data.toList) (.returned (.tuple #[.pointer none, .int .i64 40])) w2 :=
  ⟨H.below.trans (hb.mono H.below.size), .inl ⟨hp, rfl⟩⟩
/-- What becomes of the reading where a name ends. -/
theorem r_name (H : HeadR w0 s.data.toList bt wr T sc fr i) (hi : i ≤ s.size) (hs : ∀ h : i < s.size, isSep (s[i]'h) = true) :
    (okT T (s.extract fr i).data.toList = false → parseT s.data.toList = none) ∧
    (okT T (s.extract fr i).data.toList = true → i = s.size → parseT s.data.toList = some (T ++ [((s.extract fr i).data.toList, sc)])) ∧
    (okT T (s.extract fr i).data.toList = true → ∀ h : i < s.size, readT (T ++ [((s.extract fr i).data.toList, sc)]) (if s[i]'h = 62 then sc + 1 else sc) [] (s.data.toList.drop (i + 1)) = parseT s.data.toList) := by
  obtain ⟨h1, h2⟩ := r_read H hi
  by_cases hlt : i < s.size
  · rw [drop_at (byte_at hlt), read_sep (hs hlt)] at h2
    refine ⟨fun h => ?_, fun _ h => by omega, fun h _ => ?_⟩
    · rw [h] at h2; exact h2.symm
    · rw [h] at h2; exact h2
  · rw [List.drop_eq_nil_of_le (by rw [size_len]; omega), read_end] at h2
    refine ⟨fun h => ?_, fun h _ => ?_, fun _ h => by omega⟩
    · rw [h] at h2; exact h2.symm
    · rw [h] at h2; exact h2.symm
theorem r_next (H : HeadR w0 s.data.toList bt wr T sc fr i) (hok : okT T (s.extract fr i).data.toList = true) (hb : Below w0.heap.size w0 w2) {vn vs : Value} (hT : RT w0.heap.size w2 bt vn vs (T ++ [((s.extract fr i).data.toList, sc)])) (hlt : i < s.size)
    {sc' : Nat} (hsc : sc' = sc ∨ sc' = sc + 1) (hr : readT (T ++ [((s.extract fr i).data.toList, sc)]) sc' [] (s.data.toList.drop (i + 1)) = parseT s.data.toList) :
    HeadR w0 s.data.toList bt w2 (T ++ [((s.extract fr i).data.toList, sc)]) sc' (i + 1) (i + 1) := by
  have h1 := H.pos
  have h2 := H.le
  refine ⟨hb, H.new, ⟨_, _, hT⟩, good_snoc H.good hok h1 h2, by omega, by rw [List.length_append]; simp; omega, .inl ⟨by rw [size_len]; omega, Nat.le_refl _, ?_⟩⟩
  rw [List.drop_of_length_le (by rw [List.length_take]; omega)]
  exact hr
theorem r_last (H : HeadR w0 s.data.toList bt wr T sc fr i) (hok : okT T (s.extract fr i).data.toList = true) (hb : Below w0.heap.size w0 w2) {vn vs : Value} (hT : RT w0.heap.size w2 bt vn vs (T ++ [((s.extract fr i).data.toList, sc)])) (hi : i = s.size)
    (hr : parseT s.data.toList = some (T ++ [((s.extract fr i).data.toList, sc)])) : HeadR w0 s.data.toList bt w2 (T ++ [((s.extract fr i).data.toList, sc)]) sc (i + 1) (i + 1) := by
  have h1 := H.pos
  have h2 := H.le
  exact ⟨hb, H.new, ⟨_, _, hT⟩, good_snoc H.good hok h1 h2, h1, by rw [List.length_append]; simp; omega, .inr ⟨by rw [size_len]; omega, hr⟩⟩
end

set_option maxHeartbeats 4000000 in
set_option maxRecDepth 100000 in
theorem rparse_any (s : ByteArray) (hs : s.size ≤ 4611686018427387904) (w : World) : Calls Try.prog 10 #[.string s] w (PostR w (parseT s.data.toList)) := by
  have HS0 := Lib.hid (startR_head w s.data.toList)
  unfold startR at HS0
  go_enter Try.func10, Try.ntmps10
  go_wp2_with fail
  have hbt : w.heap.size ≤ w.heap.size + 1 + 1 := by omega
  generalize ((w.alloc (.cells #[.string ⟨#[110, 111, 97, 114, 99, 104]⟩] 9)).alloc (.cells #[.int .i64 1] 3)).alloc (.cells #[.slice (some ⟨w.heap.size, 0, none⟩) 1 1, .slice (some ⟨w.heap.size + 1, 0, none⟩) 1 1] 50) = w1 at *
  generalize w.heap.size + 1 + 1 = bt at *
  go_loopg [5, 6, 7] (s.size + 1) (fun g v5 v6 v7 wx => ∃ T sc fr i, i + g = s.size + 1 ∧ v5 = .int .i64 ((sc : Nat) : Int) ∧ v6 = .int .i64 ((fr : Nat) : Int) ∧ v7 = .int .i64 ((i : Nat) : Int) ∧ HeadR w s.data.toList bt wx T sc fr i)
  case atStart => exact ⟨T0, 2, 0, 0, by omega, rfl, rfl, rfl, HS0.out⟩
  case round =>
    obtain ⟨T, sc, fr, i, hig, rfl, rfl, rfl, hh⟩ := hrel
    have HH := Lib.hid hh
    by_cases hle : i ≤ s.size
    · by_cases hlt : i < s.size ∧ ∀ h : i < s.size, isSep (s[i]'h) = false
      · obtain ⟨hlt, hsep⟩ := hlt
        have hsep := hsep hlt
        have HN := Lib.hid (r_on hh hlt hsep)
        unfold isSep at hsep
        simp only [Bool.or_eq_false_iff, beq_eq_false_iff_ne] at hsep
        have t1 : (((s[i]'hlt).toNat : Int) != 62) = true := by
          simp only [bne_iff_ne, ne_eq]; intro e; exact hsep.1 (UInt8.toNat_inj.1 (by show _ = 62; omega))
        have t2 : (((s[i]'hlt).toNat : Int) != 58) = true := by
          simp only [bne_iff_ne, ne_eq]; intro e; exact hsep.2 (UInt8.toNat_inj.1 (by show _ = 58; omega))
        clear hsep hh
        go_wp2_with fail
        go_roundg (gk - 1)
        case measure => omega
        case rel => exact ⟨T, sc, fr, i + 1, by omega, rfl, rfl, by go_num, HN.out⟩
      · have hsp : ∀ h : i < s.size, isSep (s[i]'h) = true := fun h => by
          cases hx : isSep (s[i]'h) with
          | true => rfl
          | false => exact absurd ⟨h, fun _ => hx⟩ hlt
        clear hlt
        obtain ⟨r1, r2, r3⟩ := r_name hh hle hsp
        have hfi := (r_read hh hle).1
        have R1 := Lib.hid r1
        have R2 := Lib.hid r2
        have R3 := Lib.hid r3
        obtain ⟨vn, vs, hT⟩ := hh.tab
        have hfew := hh.good.few
        have hle' := hh.le
        have HG := Lib.hid hh.good
        obtain ⟨An, cn, rfl, hn1, hn2⟩ := own_form' hT.names
        obtain ⟨As, cs, rfl, hs1, hs2⟩ := own_form' hT.scores
        have c0 : wr.cell? ⟨bt, 0, none⟩ = some (.slice An T.length cn) := hT.blk.cell 0
        have HT := Lib.hid hT
        have hns : (s.extract fr i).size ≤ maxLen := by rw [← size_len, bl_mid, List.length_drop, List.length_take, size_len]; unfold maxLen; omega
        have CN := Lib.hid (fun w => refName_any (s.extract fr i) hns w)
        have CS := Lib.hid (rscore_any wr _ bt _ _ T (by omega) (s.extract fr i) hT)
        have HOK := Lib.hid (show okT T (s.extract fr i).data.toList = (nameB (s.extract fr i).data.toList && !decide (0 < scoreT T (s.extract fr i).data.toList) && decide (T.length ≤ 16)) by
          unfold okT
          rw [← HG.out.score_pos]
          cases findT 0 T (s.extract fr i).data.toList <;> rfl)
        clear r1 r2 r3 hT hh hns
        have HWAY : Hid ((∃ h : i < s.size, s[i]'h = 62) ∨ (∃ h : i < s.size, s[i]'h = 58) ∨ i = s.size) := by
          show _ ∨ _ ∨ _
          by_cases h : i < s.size
          · have := hsp h
            unfold isSep at this
            simp only [Bool.or_eq_true, beq_iff_eq] at this
            rcases this with h1 | h1
            · exact .inl ⟨h, h1⟩
            · exact .inr (.inl ⟨h, h1⟩)
          · exact .inr (.inr (by omega))
        clear hsp
        cases hnb : nameB (s.extract fr i).data.toList
        case false =>
          have HF := Lib.hid (R1.out (by rw [HOK.out, hnb]; rfl))
          rw [hnb] at CN
          clear hnb
          rcases HWAY.out with ⟨hlt, hc⟩ | ⟨hlt, hc⟩ | hie
          · have t1 : (((s[i]'hlt).toNat : Int) != 62) = false := by rw [hc]; rfl
            clear hc HWAY
            go_wp2_with fail
            refine (CN.out _).mono ?_
            rintro e w2 ⟨rfl, rfl⟩
            go_wp2_with fail
            go_ret2
            exact r_err HH.out (Below.refl _ _) HF.out
          · have t1 : (((s[i]'hlt).toNat : Int) != 62) = true := by rw [hc]; rfl
            have t2 : (((s[i]'hlt).toNat : Int) != 58) = false := by rw [hc]; rfl
            clear hc HWAY
            go_wp2_with fail
            refine (CN.out _).mono ?_
            rintro e w2 ⟨rfl, rfl⟩
            go_wp2_with fail
            go_ret2
            exact r_err HH.out (Below.refl _ _) HF.out
          · subst hie
            clear HWAY
            go_wp2_with fail
            refine (CN.out _).mono ?_
            rintro e w2 ⟨rfl, rfl⟩
            go_wp2_with fail
            go_ret2
            exact r_err HH.out (Below.refl _ _) HF.out
        case true =>
          rw [hnb] at CN
          by_cases hz : 0 < scoreT T (s.extract fr i).data.toList
          · have HF := Lib.hid (R1.out (by rw [HOK.out, hnb, decide_eq_true hz]; rfl))
            clear hnb HOK R1 R2 R3
            generalize scoreT T (s.extract fr i).data.toList = x at *
            have t3 : decide (0 < x) = true := by simpa using hz
            rcases HWAY.out with ⟨hlt, hc⟩ | ⟨hlt, hc⟩ | hie
            · have t1 : (((s[i]'hlt).toNat : Int) != 62) = false := by rw [hc]; rfl
              clear hc HWAY
              go_wp2_with fail
              refine (CN.out _).mono ?_
              rintro e w2 ⟨rfl, rfl⟩
              go_wp2_with fail
              refine CS.out.mono ?_
              rintro e w2 ⟨rfl, rfl⟩
              go_wp2_with fail
              go_ret2
              exact r_err HH.out (Below.refl _ _) HF.out
            · have t1 : (((s[i]'hlt).toNat : Int) != 62) = true := by rw [hc]; rfl
              have t2 : (((s[i]'hlt).toNat : Int) != 58) = false := by rw [hc]; rfl
              clear hc HWAY
              go_wp2_with fail
              refine (CN.out _).mono ?_
              rintro e w2 ⟨rfl, rfl⟩
              go_wp2_with fail
              refine CS.out.mono ?_
              rintro e w2 ⟨rfl, rfl⟩
              go_wp2_with fail
              go_ret2
              exact r_err HH.out (Below.refl _ _) HF.out
            · subst hie
              clear HWAY
              go_wp2_with fail
              refine (CN.out _).mono ?_
              rintro e w2 ⟨rfl, rfl⟩
              go_wp2_with fail
              refine CS.out.mono ?_
              rintro e w2 ⟨rfl, rfl⟩
              go_wp2_with fail
              go_ret2
              exact r_err HH.out (Below.refl _ _) HF.out
          · have hz0 : scoreT T (s.extract fr i).data.toList = 0 := by omega
            rw [hz0] at CS
            by_cases hm : 16 < T.length
            · have HF := Lib.hid (R1.out (by rw [HOK.out, decide_eq_false (p := T.length ≤ 16) (by omega)]; simp))
              have t4 : decide (16 < T.length) = true := by simpa using hm
              have t5 : (16 : Int) < (T.length : Int) := by omega
              clear hnb HOK R1 R2 R3 hz hz0
              rcases HWAY.out with ⟨hlt, hc⟩ | ⟨hlt, hc⟩ | hie
              · have t1 : (((s[i]'hlt).toNat : Int) != 62) = false := by rw [hc]; rfl
                clear hc HWAY
                go_wp2_with fail
                refine (CN.out _).mono ?_
                rintro e w2 ⟨rfl, rfl⟩
                go_wp2_with fail
                refine CS.out.mono ?_
                rintro e w2 ⟨rfl, rfl⟩
                go_wp2_with fail
                go_ret2
                exact r_err HH.out (Below.refl _ _) HF.out
              · have t1 : (((s[i]'hlt).toNat : Int) != 62) = true := by rw [hc]; rfl
                have t2 : (((s[i]'hlt).toNat : Int) != 58) = false := by rw [hc]; rfl
                clear hc HWAY
                go_wp2_with fail
                refine (CN.out _).mono ?_
                rintro e w2 ⟨rfl, rfl⟩
                go_wp2_with fail
                refine CS.out.mono ?_
                rintro e w2 ⟨rfl, rfl⟩
                go_wp2_with fail
                go_ret2
                exact r_err HH.out (Below.refl _ _) HF.out
              · subst hie
                clear HWAY
                go_wp2_with fail
                refine (CN.out _).mono ?_
                rintro e w2 ⟨rfl, rfl⟩
                go_wp2_with fail
                refine CS.out.mono ?_
                rintro e w2 ⟨rfl, rfl⟩
                go_wp2_with fail
                go_ret2
                exact r_err HH.out (Below.refl _ _) HF.out
            · have HO := Lib.hid (show okT T (s.extract fr i).data.toList = true by rw [HOK.out, hnb, hz0, decide_eq_true (p := T.length ≤ 16) (by omega)]; rfl)
              have t4 : decide (16 < T.length) = false := by simpa using hm
              have t5 : ¬ (16 : Int) < (T.length : Int) := by omega
              obtain ⟨i0, hi, hz0', hz1, hz2⟩ := info_parts infoS
              obtain ⟨j0, ji, jz0, jz1, jz2⟩ := info_parts infoI
              have AP := Lib.hid (And.intro hi (And.intro hz0' (And.intro hz1 hz2)))
              have BP := Lib.hid (And.intro ji (And.intro jz0 (And.intro jz1 jz2)))
              have HNM := Lib.hid (mkS_of (s := s.extract fr i) rfl)
              clear hnb HOK R1 hz hz0 hi hz0' hz1 hz2 ji jz0 jz1 jz2
              have HRS : Hid (w.heap.size ≤ wr.heap.size) := HH.out.below.size
              unfold maxLen at hn2 hs2
              rcases HWAY.out with ⟨hlt, hc⟩ | ⟨hlt, hc⟩ | hie
              · have t1 : (((s[i]'hlt).toNat : Int) != 62) = false := by rw [hc]; rfl
                have t6 : (((s[i]'hlt).toNat : Int) == 62) = true := by rw [hc]; rfl
                have HR := Lib.hid (R3.out HO.out hlt)
                rw [if_pos hc] at HR
                clear hc HWAY R2 R3
                go_wp2_with fail
                refine (CN.out _).mono ?_
                rintro e w2 ⟨rfl, rfl⟩
                go_wp2_with fail
                refine CS.out.mono ?_
                rintro e w2 ⟨rfl, rfl⟩
                go_wp2_with (first
                  | (at_builtin; refine wpList_append_own_at _ rfl (.tmp 62) (.tmp 64) 35 rfl w.heap.size 9 i0 (.string ByteArray.empty) 1 16 Try.underlying35 AP.out.1 AP.out.2.1 AP.out.2.2.1 AP.out.2.2.2 rfl (by decide) (.slice An T.length cn) T.length (nameVs T) rfl (HT.out.names.alloc _) ⟨wr.heap.size, 0, none⟩ 1 1 [.string (s.extract fr i)] rfl rfl (cell_one_new _ _ _) (fun u hu => by simp at hu; subst hu; rfl) (by unfold maxLen; omega) (by omega) (by have := HRS.out; rw [World.size_alloc]; omega) ?_; intro v2 w2 hown2 hg2 hnil2 hat2; obtain ⟨A2, c2, rfl, hc2, hm2⟩ := own_form' hown2; have H2 := Lib.hid (rt_names HT.out hg2 hown2); have B2 := Lib.hid ((HT.out.blk.alloc _).grown hg2 (fun e => own_kind HT.out.names HT.out.blk (by decide) e.symm)); have c02 : w2.cell? ⟨bt, 0, none⟩ = some (.slice An T.length cn) := B2.out.cell 0; have c12 : w2.cell? ⟨bt, 1, none⟩ = some (.slice As T.length cs) := B2.out.cell 1; have f02 := B2.out.free 0; have W2 := Lib.hid (below_step HH.out.below HT.out.names hg2 hbt 0 (.slice A2 (T.length + 1) c2)); clear hown2 hg2 hnil2 hat2)
                  | (at_builtin; refine wpList_append_own_at _ rfl (.tmp 72) (.tmp 74) 48 rfl w.heap.size 3 j0 (.int .i64 0) 1 8 Try.underlying48 BP.out.1 BP.out.2.1 BP.out.2.2.1 BP.out.2.2.2 rfl (by decide) (.slice As T.length cs) T.length (scoreVs T) rfl (H2.out.scores.alloc _) ⟨w2.heap.size, 0, none⟩ 1 1 [.int .i64 (sc : Int)] rfl rfl (cell_one_at (by simp)) (fun u hu => by simp at hu; subst hu; rfl) (by unfold maxLen; omega) (by omega) (by have := W2.out.size; rw [World.size_alloc]; omega) ?_; intro v3 w3 hown3 hg3 hnil3 hat3; obtain ⟨A3, c3, rfl, hc3, hm3⟩ := own_form' hown3; have H3 := Lib.hid (rt_scores H2.out hg3 hown3); have B3 := Lib.hid ((H2.out.blk.alloc _).grown hg3 (fun e => own_kind H2.out.scores H2.out.blk (by decide) e.symm)); have c03 : w3.cell? ⟨bt, 0, none⟩ = some (.slice A2 (T.length + 1) c2) := B3.out.cell 0; have c13 : w3.cell? ⟨bt, 1, none⟩ = some (.slice As T.length cs) := B3.out.cell 1; have f13 := B3.out.free 1; have W3 := Lib.hid (below_step W2.out H2.out.scores hg3 hbt 1 (.slice A3 (T.length + 1) c3)); clear hown3 hg3 hnil3 hat3))
                go_roundg (gk - 1)
                case measure => omega
                case rel => exact ⟨T ++ [((s.extract fr i).data.toList, sc)], sc + 1, i + 1, i + 1, by omega, by go_num, by go_num, by go_num, r_next HH.out HO.out W3.out H3.out hlt (.inr rfl) HR.out⟩
              · have t1 : (((s[i]'hlt).toNat : Int) != 62) = true := by rw [hc]; rfl
                have t2 : (((s[i]'hlt).toNat : Int) != 58) = false := by rw [hc]; rfl
                have t6 : (((s[i]'hlt).toNat : Int) == 62) = false := by rw [hc]; rfl
                have HR := Lib.hid (R3.out HO.out hlt)
                rw [if_neg (by rw [hc]; decide)] at HR
                clear hc HWAY R2 R3
                go_wp2_with fail
                refine (CN.out _).mono ?_
                rintro e w2 ⟨rfl, rfl⟩
                go_wp2_with fail
                refine CS.out.mono ?_
                rintro e w2 ⟨rfl, rfl⟩
                go_wp2_with (first
                  | (at_builtin; refine wpList_append_own_at _ rfl (.tmp 62) (.tmp 64) 35 rfl w.heap.size 9 i0 (.string ByteArray.empty) 1 16 Try.underlying35 AP.out.1 AP.out.2.1 AP.out.2.2.1 AP.out.2.2.2 rfl (by decide) (.slice An T.length cn) T.length (nameVs T) rfl (HT.out.names.alloc _) ⟨wr.heap.size, 0, none⟩ 1 1 [.string (s.extract fr i)] rfl rfl (cell_one_new _ _ _) (fun u hu => by simp at hu; subst hu; rfl) (by unfold maxLen; omega) (by omega) (by have := HRS.out; rw [World.size_alloc]; omega) ?_; intro v2 w2 hown2 hg2 hnil2 hat2; obtain ⟨A2, c2, rfl, hc2, hm2⟩ := own_form' hown2; have H2 := Lib.hid (rt_names HT.out hg2 hown2); have B2 := Lib.hid ((HT.out.blk.alloc _).grown hg2 (fun e => own_kind HT.out.names HT.out.blk (by decide) e.symm)); have c02 : w2.cell? ⟨bt, 0, none⟩ = some (.slice An T.length cn) := B2.out.cell 0; have c12 : w2.cell? ⟨bt, 1, none⟩ = some (.slice As T.length cs) := B2.out.cell 1; have f02 := B2.out.free 0; have W2 := Lib.hid (below_step HH.out.below HT.out.names hg2 hbt 0 (.slice A2 (T.length + 1) c2)); clear hown2 hg2 hnil2 hat2)
                  | (at_builtin; refine wpList_append_own_at _ rfl (.tmp 72) (.tmp 74) 48 rfl w.heap.size 3 j0 (.int .i64 0) 1 8 Try.underlying48 BP.out.1 BP.out.2.1 BP.out.2.2.1 BP.out.2.2.2 rfl (by decide) (.slice As T.length cs) T.length (scoreVs T) rfl (H2.out.scores.alloc _) ⟨w2.heap.size, 0, none⟩ 1 1 [.int .i64 (sc : Int)] rfl rfl (cell_one_at (by simp)) (fun u hu => by simp at hu; subst hu; rfl) (by unfold maxLen; omega) (by omega) (by have := W2.out.size; rw [World.size_alloc]; omega) ?_; intro v3 w3 hown3 hg3 hnil3 hat3; obtain ⟨A3, c3, rfl, hc3, hm3⟩ := own_form' hown3; have H3 := Lib.hid (rt_scores H2.out hg3 hown3); have B3 := Lib.hid ((H2.out.blk.alloc _).grown hg3 (fun e => own_kind H2.out.scores H2.out.blk (by decide) e.symm)); have c03 : w3.cell? ⟨bt, 0, none⟩ = some (.slice A2 (T.length + 1) c2) := B3.out.cell 0; have c13 : w3.cell? ⟨bt, 1, none⟩ = some (.slice As T.length cs) := B3.out.cell 1; have f13 := B3.out.free 1; have W3 := Lib.hid (below_step W2.out H2.out.scores hg3 hbt 1 (.slice A3 (T.length + 1) c3)); clear hown3 hg3 hnil3 hat3))
                go_roundg (gk - 1)
                case measure => omega
                case rel => exact ⟨T ++ [((s.extract fr i).data.toList, sc)], sc, i + 1, i + 1, by omega, rfl, by go_num, by go_num, r_next HH.out HO.out W3.out H3.out hlt (.inl rfl) HR.out⟩
              · have HR := Lib.hid (R2.out HO.out hie)
                have HI := Lib.hid hie
                have hnl : ¬ i < s.size := by omega
                have hnl' : ¬ (i : Int) < (s.size : Int) := by omega
                clear hie HWAY R2 R3
                go_wp2_with fail
                refine (CN.out _).mono ?_
                rintro e w2 ⟨rfl, rfl⟩
                go_wp2_with fail
                refine CS.out.mono ?_
                rintro e w2 ⟨rfl, rfl⟩
                go_wp2_with (first
                  | (at_builtin; refine wpList_append_own_at _ rfl (.tmp 62) (.tmp 64) 35 rfl w.heap.size 9 i0 (.string ByteArray.empty) 1 16 Try.underlying35 AP.out.1 AP.out.2.1 AP.out.2.2.1 AP.out.2.2.2 rfl (by decide) (.slice An T.length cn) T.length (nameVs T) rfl (HT.out.names.alloc _) ⟨wr.heap.size, 0, none⟩ 1 1 [.string (s.extract fr i)] rfl rfl (cell_one_new _ _ _) (fun u hu => by simp at hu; subst hu; rfl) (by unfold maxLen; omega) (by omega) (by have := HRS.out; rw [World.size_alloc]; omega) ?_; intro v2 w2 hown2 hg2 hnil2 hat2; obtain ⟨A2, c2, rfl, hc2, hm2⟩ := own_form' hown2; have H2 := Lib.hid (rt_names HT.out hg2 hown2); have B2 := Lib.hid ((HT.out.blk.alloc _).grown hg2 (fun e => own_kind HT.out.names HT.out.blk (by decide) e.symm)); have c02 : w2.cell? ⟨bt, 0, none⟩ = some (.slice An T.length cn) := B2.out.cell 0; have c12 : w2.cell? ⟨bt, 1, none⟩ = some (.slice As T.length cs) := B2.out.cell 1; have f02 := B2.out.free 0; have W2 := Lib.hid (below_step HH.out.below HT.out.names hg2 hbt 0 (.slice A2 (T.length + 1) c2)); clear hown2 hg2 hnil2 hat2)
                  | (at_builtin; refine wpList_append_own_at _ rfl (.tmp 72) (.tmp 74) 48 rfl w.heap.size 3 j0 (.int .i64 0) 1 8 Try.underlying48 BP.out.1 BP.out.2.1 BP.out.2.2.1 BP.out.2.2.2 rfl (by decide) (.slice As T.length cs) T.length (scoreVs T) rfl (H2.out.scores.alloc _) ⟨w2.heap.size, 0, none⟩ 1 1 [.int .i64 (sc : Int)] rfl rfl (cell_one_at (by simp)) (fun u hu => by simp at hu; subst hu; rfl) (by unfold maxLen; omega) (by omega) (by have := W2.out.size; rw [World.size_alloc]; omega) ?_; intro v3 w3 hown3 hg3 hnil3 hat3; obtain ⟨A3, c3, rfl, hc3, hm3⟩ := own_form' hown3; have H3 := Lib.hid (rt_scores H2.out hg3 hown3); have B3 := Lib.hid ((H2.out.blk.alloc _).grown hg3 (fun e => own_kind H2.out.scores H2.out.blk (by decide) e.symm)); have c03 : w3.cell? ⟨bt, 0, none⟩ = some (.slice A2 (T.length + 1) c2) := B3.out.cell 0; have c13 : w3.cell? ⟨bt, 1, none⟩ = some (.slice As T.length cs) := B3.out.cell 1; have f13 := B3.out.free 1; have W3 := Lib.hid (below_step W2.out H2.out.scores hg3 hbt 1 (.slice A3 (T.length + 1) c3)); clear hown3 hg3 hnil3 hat3))
                go_roundg (gk - 1)
                case measure => omega
                case rel => exact ⟨T ++ [((s.extract fr i).data.toList, sc)], sc, i + 1, i + 1, by omega, rfl, by go_num, by go_num, r_last HH.out HO.out W3.out H3.out HI.out HR.out⟩
    · clear hh
      go_wp2_with fail
      go_ret2
      exact r_end HH.out hle
end Go.Proofs.Ytahodhodkgdgnaa
