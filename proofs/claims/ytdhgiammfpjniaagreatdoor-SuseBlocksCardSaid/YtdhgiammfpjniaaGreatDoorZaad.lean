/- Where the first of some bytes stands in a text of any bytes: the library's own search among bytes below 128. Where the first of some bytes below 128 stands in a text of any bytes. Texts made of bytes. Texts made of bytes. -/
import Derived.Test.YtdhgiammfpjniaaGreatDoorZaab
import Derived.Test.YtdhgiammfpjniaaGreatDoorZaac
import Derived.Laws.RangeAny
import Derived.Laws.Runes
import Derived.Deep.LoopGhost
import Derived.WalkMore
/- Where the first of some bytes stands in a text of any bytes: the library's own search among bytes below 128. -/
namespace Go.Proofs.YtdhgiammfpjniaaGreatDoor
set_option linter.unusedSimpArgs false
set_option linter.unusedVariables false
open Go.RowKit

/-- Bytes below 128, two or three of them. -/
structure Seps (cs : Bs) : Prop where
  low : ∀ c ∈ cs, c.toNat < 128
  two : 2 ≤ cs.length
  few : cs.length ≤ 8
theorem Seps.at_ {cs : Bs} (h : Seps cs) {k : Nat} (hk : k < (mkS cs).size) : ((mkS cs)[k]'hk).toNat < 128 := by
  have h1 := byte_at hk
  exact h.low _ (List.mem_of_getElem? h1)
set_option maxHeartbeats 1000000 in
set_option maxRecDepth 1000000 in
theorem rune_error {cs : Bs} (hs : Seps cs) (w : World) :
    Calls Tryz.prog 163 #[.string (mkS cs), .int .i32 65533] w fun e w' => e = .returned (.int .i64 (-1)) ∧ Below w.heap.size w w' := by
  have HS := Lib.hid hs
  have h2 := hs.two
  have h8 := hs.few
  have hz : (mkS cs).size = cs.length := rfl
  rw [← hz] at h2 h8
  clear hs hz
  obtain ⟨S, hS⟩ : ∃ S, S = mkS cs := ⟨_, rfl⟩
  have HL : Hid (∀ k (hk : k < S.size), (S[k]'hk).toNat < 128) := by intro k hk; subst hS; exact HS.out.at_ hk
  rw [← hS] at h2 h8 ⊢
  clear hS
  go_enter Tryz.func163, Tryz.ntmps163
  go_wp2_with fail
  go_loopg [5, 6] S.size (fun g _ _ wx => ∃ i : Nat, i + g = S.size ∧ wx = w.iter S i)
  case atStart => exact ⟨0, by omega, rfl⟩
  case round =>
    obtain ⟨i, hi, rfl⟩ := hrel
    by_cases hlt : i < S.size
    · have n1 := fun ty => run_next_ascii (P := Tryz.prog) w S i ty hlt (HL.out i hlt)
      have t0 : (((S[i]'hlt).toNat : Int) == 65533) = false := by have := HL.out i hlt; simp; omega
      go_wp2_with fail
      go_roundg (gk - 1)
      case measure => omega
      case rel => exact ⟨i + 1, by omega, rfl⟩
    · have n2 := fun ty => run_next_end (P := Tryz.prog) w S i ty hlt
      go_wp2_with fail
      go_ret
      exact ⟨rfl, (Below.refl _ _).alloc (Nat.le_refl _) _⟩
set_option maxHeartbeats 1000000 in
set_option maxRecDepth 1000000 in
theorem rune_bad (cs : Bs) (r : Int) (h : 128 ≤ r) (h2 : r ≤ 2147483647) (he : r ≠ 65533) (hv : Lib.validRune r = false) (w : World) :
    Calls Tryz.prog 163 #[.string (mkS cs), .int .i32 r] w fun e w' => e = .returned (.int .i64 (-1)) ∧ Below w.heap.size w w' := by
  have t0 : (r == 65533) = false := by simpa using he
  have C := Lib.hid (fun w => Tryz.utf8_ValidRune r w)
  rw [hv] at C
  clear he hv
  go_enter Tryz.func163, Tryz.ntmps163
  go_wp2_with fail
  refine (C.out _).mono ?_
  rintro e w1 ⟨rfl, rfl⟩
  go_wp2_with fail
  go_ret
  exact ⟨rfl, Below.refl _ _⟩
theorem ixb_none {l : Bs} {c : UInt8} (h : ∀ x ∈ l, x ≠ c) : Lib.indexByte l c = -1 := by
  induction l with
  | nil => rfl
  | cons b r ih =>
    unfold Lib.indexByte
    have h1 := h b (by simp)
    have h2 := ih fun x hx => h x (by simp [hx])
    simp [h1, h2]
set_option maxHeartbeats 1000000 in
set_option maxRecDepth 1000000 in
theorem rune_high {cs : Bs} (hs : Seps cs) (r : Int) (h : 128 ≤ r) (h2 : r ≤ 2147483647) (he : r ≠ 65533) (hv : Lib.validRune r = true) (w : World) :
    Calls Tryz.prog 163 #[.string (mkS cs), .int .i32 r] w fun e w' => e = .returned (.int .i64 (-1)) ∧ Below w.heap.size w w' := by
  have t0 : (r == 65533) = false := by simpa using he
  have C := Lib.hid (fun w => Tryz.utf8_ValidRune r w)
  rw [hv] at C
  obtain ⟨f1, f2, f3⟩ := encode_facts r (by rw [validRune_eq]; exact hv) h
  obtain ⟨rs, hrs⟩ : ∃ rs, Utf8.encode r = rs := ⟨_, rfl⟩
  have hcv : ∀ w, (convert 21 9 (.int .i32 r)).run Tryz.prog w = .ok (.string rs) w := fun w => by
    rw [← hrs]; exact run_convert_int_string w _ _ _ _ (by kernel_rfl) Tryz.underlying9
  rw [hrs] at f1 f2 f3
  obtain ⟨k, hk⟩ : ∃ k, rs.size = k + 1 := ⟨rs.size - 1, by omega⟩
  have hb : k < rs.size := by omega
  have hx : 128 ≤ (rs[k]'hb).toNat := by
    have := f3 (by omega)
    have e : rs.size - 1 = k := by omega
    simpa [e] using this
  have hsz : (rs.size : Int) - 1 = (k : Int) := by omega
  obtain ⟨S, hS⟩ : ∃ S, S = mkS cs := ⟨_, rfl⟩
  have HL : Hid (∀ x ∈ S.data.toList, x.toNat < 128) := by intro x hx; subst hS; exact hs.low x hx
  have hS8 : S.size ≤ 8 := by subst hS; exact hs.few
  rw [← hS]
  clear hrs he hv f3 hS hs
  have hk2 : k ≤ 3 := by omega
  have hk1 : 1 ≤ k := by omega
  clear f1 f2 hk
  by_cases h3 : k < S.size
  · have t1 : (((S[k]'h3).toNat : Int) != ((rs[k]'hb).toNat : Int)) = true := by
      have := HL.out _ (List.mem_of_getElem? (byte_at h3))
      simp; omega
    have CI := Lib.hid (fun (p : ByteArray) (hp : ∀ x ∈ p.data.toList, x ∈ S.data.toList) w => by
      have := Tryz.strings_IndexByte p ((rs[k]'hb).toNat : Int) w
      rw [ixb_none (fun x hxm e => by
        have h1 := HL.out x (hp x hxm)
        have : x.toNat = (rs[k]'hb).toNat := by rw [e]; simp
        omega)] at this
      exact this)
    have CI1 := Lib.hid (CI.out (S.extract (k + 1) S.size) (fun x hx => mem_extract hx))
    clear CI
    go_enter Tryz.func163, Tryz.ntmps163
    go_wp2_with fail
    refine (C.out _).mono ?_
    rintro e w1 ⟨rfl, rfl⟩
    go_wp2_with fail
    go_step3
    go_wp2_with fail
    go_loop [9] (fun i => i = .int .i64 (k : Int)) (fun _ => 0)
    case atStart => rfl
    case round =>
      obtain rfl := hrel
      go_wp2_with fail
      go_step3
      go_wp2_with fail
      go_quiet (fail)
      go_wp2_with fail
      go_quiet ((go_at_call 43; exact (CI1.out _).mono fun _ _ ⟨h1, h2⟩ => ⟨h1, _, h2⟩))
      go_wp2_with fail
      rw [Exit.noGoto_ret]
      simp (config := { zetaDelta := true }) only [Exit.inBlock, Exit.then, Exit.noGoto]
      go_ret
      exact ⟨rfl, ⟨rfl, rfl, rfl, Nat.le_refl _, fun _ _ => rfl⟩⟩
  · have h3z : ¬ (k : Int) < (S.size : Int) := by omega
    go_enter Tryz.func163, Tryz.ntmps163
    go_wp2_with fail
    refine (C.out _).mono ?_
    rintro e w1 ⟨rfl, rfl⟩
    go_wp2_with fail
    go_step3
    go_wp2_with fail
    go_loop [9] (fun i => i = .int .i64 (k : Int)) (fun _ => 0)
    case atStart => rfl
    case round =>
      obtain rfl := hrel
      go_wp2_with fail
      go_ret
      exact ⟨rfl, Below.refl _ _⟩
end Go.Proofs.YtdhgiammfpjniaaGreatDoor

/- Where the first of some bytes below 128 stands in a text of any bytes. -/
namespace Go.Proofs.YtdhgiammfpjniaaGreatDoor
set_option linter.unusedSimpArgs false
set_option linter.unusedVariables false
open Go.RowKit

def nos (cs : Bs) (c : UInt8) : Bool := !cs.contains c
/-- Where the first of them stands; -1: nowhere. -/
def anyAt (cs l : Bs) : Int := if plainN cs l < l.length then (plainN cs l : Int) else -1
theorem plainN_nos (cs l : Bs) : plainN cs l = (l.takeWhile (nos cs)).length := rfl
theorem anyAt_hit {cs l : Bs} {k : Nat} {c : UInt8} (h : (l.take k).all (nos cs) = true) (hc : l[k]? = some c) (hs : cs.contains c = true) : anyAt cs l = k := by
  have hk := (List.getElem?_eq_some_iff.1 hc).1
  have := while_is h (Nat.le_of_lt hk) (fun d hd => by rw [hc] at hd; injection hd with hd; subst hd; show (!cs.contains _) = false; rw [hs]; rfl)
  unfold anyAt
  rw [plainN_nos, ← this, if_pos hk]
theorem anyAt_none {cs l : Bs} (h : l.all (nos cs) = true) : anyAt cs l = -1 := by
  have := while_is (l := l) (k := l.length) (by rw [List.take_length]; exact h) (Nat.le_refl _) (fun d hd => by simp at hd)
  unfold anyAt
  rw [plainN_nos, ← this, if_neg (Nat.lt_irrefl _)]
theorem zeroSet (w : World) : (zeroValue 130).run Tryz.prog w = .ok (.agg (Array.replicate 256 (.bool false))) w := by
  have h : (Tryz.prog.info? 130).map (fun i => (i.zero, i.size)) = some (some (.agg (Array.replicate 256 (.bool false))), 256) := by kernel_rfl
  exact (zero_of_info h).1 w
set_option maxHeartbeats 8000000 in
set_option maxRecDepth 1000000 in
theorem indexAny_long {cs : Bs} (hse : Seps cs) (s : ByteArray) (h8 : 8 < s.size) (hs : s.size ≤ maxLen) (w : World) :
    Calls Tryz.prog 94 #[.string s, .string (mkS cs)] w fun e w' => e = .returned (.int .i64 (anyAt cs s.data.toList)) ∧ Below w.heap.size w w' := by
  unfold maxLen at hs
  have hcz : (mkS cs).size ≤ 8 := hse.few
  have hemp : (mkS cs).toList.isEmpty = false := by rw [toList_cons (by have := hse.two; show 0 < cs.length; omega)]
  have hone : (((mkS cs).size : Int) == 1) = false := by have := hse.two; have e : (mkS cs).size = cs.length := rfl; simp; omega
  have CM := Lib.hid (fun w => Tryz.strings_makeASCIISet zeroSet (mkS cs) w (by omega) (fun j b hb => hse.low b (List.mem_of_getElem? hb)))
  have CU := Lib.hid (fun n w => Tryz.strings_shouldUseASCIISet n w)
  obtain ⟨CS, hCS⟩ : ∃ CS, CS = Lib.setCells cs := ⟨_, rfl⟩
  have S1 := Lib.hid (show CS.size = 256 from hCS ▸ Lib.setCells_size _)
  have S2 := Lib.hid (show CS.all (·.oneCell') = true from hCS ▸ Lib.setCells_one _)
  have S3 : Hid (∀ x : UInt8, CS[x.toNat]? = some (.bool (cs.contains x))) := fun x => by
    rw [hCS, Lib.setCells_at]
  rw [mkS_list, ← hCS] at CM
  clear hCS
  have h8z : decide ((8 : Int) < (s.size : Int)) = true := decide_eq_true (by omega)
  have hsc : (storeCells ⟨w.heap.size + 1, 0, none⟩ CS.toList 0).run Tryz.prog ((w.alloc (.cells CS 130)).alloc (.cells (Array.replicate 256 (.bool false)) 130)) = .ok () ((w.alloc (.cells CS 130)).alloc (.cells CS 130)) := by
    have := run_storeCells_new (P := Tryz.prog) (w.alloc (.cells CS 130)) 130 (Array.replicate 256 (.bool false)) CS (by rw [S1.out]; kernel_rfl) (by rw [S1.out, Array.size_replicate]) S2.out
    simpa using this
  generalize mkS cs = SC at *
  have hzs := zeroSet
  go_enter Tryz.func94, Tryz.ntmps94
  go_wp2_with (first
    | (go_at_call 164; refine (CU.out _ _).mono ?_; rintro e w' ⟨rfl, hw⟩; rw [hw, h8z])
    | (go_at_call 88; refine (CM.out _).mono ?_; rintro e w' ⟨rfl, hw⟩; rw [hw]))
  have CC := Lib.hid (fun b x v w hc => Tryz.asciiSet_contains b x v w hc)
  clear hsc CM CU hzs
  have HB : Hid (Below w.heap.size w ((w.alloc (.cells CS 130)).alloc (.cells CS 130))) := ((Below.refl _ _).alloc (Nat.le_refl _) _).alloc (by simp) _
  have HC : Hid (∀ x : UInt8, ((w.alloc (.cells CS 130)).alloc (.cells CS 130)).cell? ⟨w.heap.size + 1, x.toNat, none⟩ = some (.bool (cs.contains x))) := fun x => by
    rw [(Blk.new' (w := w.alloc (.cells CS 130)) (g := w.heap.size + 1) (t := 130) (cs := CS) (by simp)).cell]
    exact S3.out x
  obtain ⟨bg, hbg⟩ : ∃ bg, bg = w.heap.size + 1 := ⟨_, rfl⟩
  rw [← hbg] at HC
  simp only [← hbg]
  clear hbg
  generalize ((w.alloc (.cells CS 130)).alloc (.cells CS 130)) = w1 at *
  go_loop [8] (fun i => ∃ k : Nat, k ≤ s.size ∧ i = .int .i64 (k : Int) ∧ Hid ((s.data.toList.take k).all (nos cs) = true)) (fun i => s.size - (intOf i).toNat)
  case atStart => exact ⟨0, Nat.zero_le _, rfl, show (s.data.toList.take 0).all (nos cs) = true from rfl⟩
  case round =>
    obtain ⟨k, hk, rfl, hall⟩ := hrel
    by_cases hlt : k < s.size
    · have HX := Lib.hid (byte_at hlt)
      have HC1 := Lib.hid (HC.out s[k])
      have HY := Lib.hid (fun (h : cs.contains s[k] = false) => all_snoc hall.out HX.out (show nos cs s[k] = true by unfold nos; rw [h]; rfl))
      have HN := Lib.hid (fun (h : cs.contains s[k] = true) => anyAt_hit hall.out HX.out h)
      have hlt' : (k : Int) < (s.size : Int) := by omega
      clear hall
      generalize cs.contains s[k] = m at *
      cases m
      all_goals
        go_wp2_with fail
        refine (CC.out _ _ _ _ HC1.out).mono ?_
        rintro e w2 ⟨rfl, rfl⟩
        go_wp2_with fail
      · go_round
        case rel => exact ⟨k + 1, by omega, by go_num, HY.out (by simp)⟩
        case measure => simp [intOf]; omega
      · go_ret
        exact ⟨by rw [HN.out (by simp)]; rfl, HB.out⟩
    · have HM := Lib.hid (anyAt_none (l := s.data.toList) (by
        have := hall.out
        rwa [List.take_of_length_le (by rw [size_len]; omega)] at this))
      have hlt' : ¬ (k : Int) < (s.size : Int) := by omega
      go_wp2_with fail
      go_ret
      exact ⟨by rw [HM.out]; rfl, HB.out⟩

/-- A byte that is none of them; what is told of a rune. -/
theorem ixb_some {l : Bs} {c : UInt8} (h : l.contains c = true) : 0 ≤ Lib.indexByte l c := by
  induction l with
  | nil => cases h
  | cons b r ih =>
    unfold Lib.indexByte
    by_cases hb : b = c
    · simp [hb]
    · have h2 : r.contains c = true := by
        rw [List.contains_cons] at h
        have : (c == b) = false := beq_eq_false_iff_ne.2 (Ne.symm hb)
        rw [this, Bool.false_or] at h
        exact h
      have := ih h2
      simp [hb]
      split <;> omega
def runeAt (cs : Bs) (c : Int) : Int := if c < 128 then Lib.indexByte cs c.toNat.toUInt8 else -1
theorem rune_any {cs : Bs} (hs : Seps cs) (c : Int) (h0 : 0 ≤ c) (h2 : c ≤ 2147483647) (w : World) :
    Calls Tryz.prog 163 #[.string (mkS cs), .int .i32 c] w fun e w' => e = .returned (.int .i64 (runeAt cs c)) ∧ Below w.heap.size w w' := by
  by_cases h : c < 128
  · refine (Tryz.strings_IndexRune_ascii (mkS cs) c w h0 h).mono ?_
    rintro e w' ⟨rfl, rfl⟩
    refine ⟨?_, Below.refl _ _⟩
    unfold runeAt
    rw [if_pos h]
    rfl
  · have e : runeAt cs c = -1 := by
      unfold runeAt; rw [if_neg (by omega)]
    rw [e]
    by_cases he : c = 65533
    · subst he; exact rune_error hs w
    · cases hv : Lib.validRune c with
      | true => exact rune_high hs c (by omega) h2 he hv w
      | false => exact rune_bad cs c (by omega) h2 he hv w
theorem nos_high {cs : Bs} (hs : Seps cs) {b : UInt8} (h : 128 ≤ b.toNat) : nos cs b = true := by
  unfold nos
  cases hc : cs.contains b with
  | false => rfl
  | true =>
    have := hs.low b (by simpa using hc)
    omega
theorem get_list {s : ByteArray} {j : Nat} {b : UInt8} (h : s.data.toList[j]? = some b) : s.get! j = b := by
  have hj : j < s.size := by rw [← size_len]; exact (List.getElem?_eq_some_iff.1 h).1
  have e := get_at s j hj
  rw [Nat.add_zero] at e
  rw [e]
  have := byte_at hj
  rw [h] at this
  injection this with this
  exact this.symm
theorem decode_wide {cs : Bs} (hse : Seps cs) (s : ByteArray) (pos : Nat) (h : pos < s.size) (ha : 128 ≤ (s[pos]'h).toNat) :
    pos + (Utf8.decode s pos).2 ≤ s.size ∧ ∀ j b, pos ≤ j → j < pos + (Utf8.decode s pos).2 → s.data.toList[j]? = some b → nos cs b = true := by
  have hn : ¬ (s[pos]'h).toNat < 128 := by omega
  have h0 : ∀ b, s.data.toList[pos]? = some b → nos cs b = true := fun b hb => by
    rw [byte_at h] at hb; injection hb with hb; exact nos_high hse (by rw [← hb]; exact ha)
  have hc : ∀ k, (decide (pos + k < s.size) && (s.get! (pos + k)).toNat / 64 == 2) = true → pos + k < s.size ∧ ∀ b, s.data.toList[pos + k]? = some b → nos cs b = true := fun k hk => by
    simp only [Bool.and_eq_true, decide_eq_true_eq, beq_iff_eq] at hk
    refine ⟨hk.1, fun b hb => ?_⟩
    rw [get_list hb] at hk
    exact nos_high hse (by omega)
  have one : pos + 1 ≤ s.size ∧ ∀ j b, pos ≤ j → j < pos + 1 → s.data.toList[j]? = some b → nos cs b = true :=
    ⟨h, fun j b h1 h2 hb => h0 b (by rwa [show j = pos by omega] at hb)⟩
  simp only [Utf8.decode, get_at s pos h, hn, if_false]
  split
  · rename_i h1
    rw [Bool.and_eq_true] at h1
    have c1 := hc 1 h1.2
    split
    · refine ⟨by show pos + 2 ≤ _; omega, fun j b g1 g2 hb => ?_⟩
      have g2 : j < pos + 2 := g2
      rcases (by omega : j = pos ∨ j = pos + 1) with rfl | rfl
      · exact h0 b hb
      · exact c1.2 b hb
    · exact one
  · split
    · rename_i h1
      obtain ⟨h1, k2⟩ := Bool.and_eq_true_iff.1 h1
      obtain ⟨h1, k1⟩ := Bool.and_eq_true_iff.1 h1
      have c1 := hc 1 k1
      have c2 := hc 2 k2
      split
      · refine ⟨by show pos + 3 ≤ _; omega, fun j b g1 g2 hb => ?_⟩
        have g2 : j < pos + 3 := g2
        rcases (by omega : j = pos ∨ j = pos + 1 ∨ j = pos + 2) with rfl | rfl | rfl
        · exact h0 b hb
        · exact c1.2 b hb
        · exact c2.2 b hb
      · exact one
    · split
      · rename_i h1
        obtain ⟨h1, k3⟩ := Bool.and_eq_true_iff.1 h1
        obtain ⟨h1, k2⟩ := Bool.and_eq_true_iff.1 h1
        obtain ⟨h1, k1⟩ := Bool.and_eq_true_iff.1 h1
        have c1 := hc 1 k1
        have c2 := hc 2 k2
        have c3 := hc 3 k3
        split
        · refine ⟨by show pos + 4 ≤ _; omega, fun j b g1 g2 hb => ?_⟩
          have g2 : j < pos + 4 := g2
          rcases (by omega : j = pos ∨ j = pos + 1 ∨ j = pos + 2 ∨ j = pos + 3) with rfl | rfl | rfl | rfl
          · exact h0 b hb
          · exact c1.2 b hb
          · exact c2.2 b hb
          · exact c3.2 b hb
        · exact one
      · exact one
theorem all_more {cs : Bs} {l : List UInt8} {k n : Nat} (h : (l.take k).all (nos cs) = true) (hm : ∀ j b, k ≤ j → j < k + n → l[j]? = some b → nos cs b = true) : (l.take (k + n)).all (nos cs) = true := by
  induction n with
  | zero => exact h
  | succ n ih =>
    have := ih fun j b h1 h2 => hm j b h1 (by omega)
    rw [← Nat.add_assoc, List.take_add_one, List.all_append, this]
    cases hx : l[k + n]? with
    | none => rfl
    | some b => simp [hm (k + n) b (by omega) (by omega) hx]

/-- A world with an iterator of a text, at a place of it. -/
def Iter (w : World) (b : Nat) (s : ByteArray) (pos : Nat) : Prop := w.heap[b]? = some (.stringIter s pos)
def setIter (w : World) (b : Nat) (s : ByteArray) (pos : Nat) : World := { w with heap := w.heap.setIfInBounds b (.stringIter s pos) }
theorem next_at {P : Program} {w : World} {b : Nat} {s : ByteArray} {pos : Nat} (hi : Iter w b s pos) (ty : TypeId) (h : pos < s.size) :
    (Instr.next (.pointer (some ⟨b, 0, none⟩)) true ty).run P w = .ok (.tuple #[.bool true, .int .i64 pos, .int .i32 (Utf8.decode s pos).1]) (setIter w b s (pos + (Utf8.decode s pos).2)) := by
  have hi' : w.heap[b]? = some (.stringIter s pos) := hi
  simp only [Instr.next, getObj, setObj, Sem.run_bind, Sem.run, hi', Result.andThen, h, if_true]
  simp [goInt, setIter]
theorem next_end {P : Program} {w : World} {b : Nat} {s : ByteArray} {pos : Nat} (hi : Iter w b s pos) (ty : TypeId) (h : ¬ pos < s.size) :
    (Instr.next (.pointer (some ⟨b, 0, none⟩)) true ty).run P w = .ok (.tuple #[.bool false]) w := by
  have hi' : w.heap[b]? = some (.stringIter s pos) := hi
  simp [Instr.next, getObj, Sem.run, hi', h]
theorem iter_set {w : World} {b : Nat} {s : ByteArray} {pos : Nat} (hi : Iter w b s pos) (p' : Nat) : Iter (setIter w b s p') b s p' := by
  have hb := (Array.getElem?_eq_some_iff.1 hi).1
  unfold Iter setIter
  simp [hb]
theorem below_set {B : Nat} {w0 w : World} {b : Nat} {s : ByteArray} {pos : Nat} (h : Below B w0 w) (hb : B ≤ b) : Below B w0 (setIter w b s pos) :=
  ⟨h.os, h.tape, h.output, by simpa [setIter] using h.size, fun k hk => by
    have : (setIter w b s pos).heap[k]? = w.heap[k]? := by
      unfold setIter
      simp only
      rw [Array.getElem?_setIfInBounds_ne (by omega)]
    rw [this]; exact h.block k hk⟩
theorem iter_below {w w' : World} {b : Nat} {s : ByteArray} {pos : Nat} (hi : Iter w b s pos) (h : Below w.heap.size w w') : Iter w' b s pos :=
  (h.block b (Array.getElem?_eq_some_iff.1 hi).1).trans hi

theorem decode_one {cs : Bs} (hse : Seps cs) (s : ByteArray) (i : Nat) (h : i < s.size) (hall : (s.data.toList.take i).all (nos cs) = true) :
    ∃ c n, Utf8.decode s i = (c, n) ∧ 1 ≤ n ∧ c ≤ 2147483647 ∧ ((0 ≤ runeAt cs (c : Int) ∧ anyAt cs s.data.toList = i) ∨ (runeAt cs (c : Int) = -1 ∧ (s.data.toList.take (i + n)).all (nos cs) = true ∧ i + n ≤ s.size)) := by
  by_cases ha : (s[i]'h).toNat < 128
  · refine ⟨_, _, decode_ascii s i h ha, Nat.le_refl _, by omega, ?_⟩
    have hx := byte_at h
    have hr : runeAt cs (((s[i]'h).toNat : Nat) : Int) = Lib.indexByte cs (s[i]'h) := by
      unfold runeAt
      rw [if_pos (by omega)]
      congr 1
      simp
    rw [hr]
    by_cases hs : cs.contains (s[i]'h) = true
    · left
      exact ⟨ixb_some hs, anyAt_hit hall hx hs⟩
    · right
      have hs : cs.contains (s[i]'h) = false := by simpa using hs
      refine ⟨ixb_none fun x hxm e => ?_, all_snoc hall hx (by unfold nos; rw [hs]; rfl), h⟩
      subst e
      have : cs.contains (s[i]'h) = true := by simpa using hxm
      rw [this] at hs; cases hs
  · have ha : 128 ≤ (s[i]'h).toNat := by omega
    obtain ⟨h1, h2⟩ := decode_high s i h ha
    obtain ⟨h3, h4⟩ := decode_wide hse s i h ha
    refine ⟨(Utf8.decode s i).1, (Utf8.decode s i).2, rfl, h2, decode_le s i, .inr ⟨?_, all_more hall h4, h3⟩⟩
    unfold runeAt
    rw [if_neg (by omega)]
set_option maxHeartbeats 8000000 in
set_option maxRecDepth 1000000 in
theorem indexAny_short {cs : Bs} (hse : Seps cs) (s : ByteArray) (h8 : s.size ≤ 8) (w : World) :
    Calls Tryz.prog 94 #[.string s, .string (mkS cs)] w fun e w' => e = .returned (.int .i64 (anyAt cs s.data.toList)) ∧ Below w.heap.size w w' := by
  have CU := Lib.hid (fun n w => Tryz.strings_shouldUseASCIISet n w)
  have CR := Lib.hid (fun c h0 h1 w => rune_any hse c h0 h1 w)
  have h8z : decide ((8 : Int) < (s.size : Int)) = false := decide_eq_false (by omega)
  have hemp : (mkS cs).toList.isEmpty = false := by rw [toList_cons (by have := hse.two; show 0 < cs.length; omega)]
  have hone : (((mkS cs).size : Int) == 1) = false := by have := hse.two; have e : (mkS cs).size = cs.length := rfl; simp; omega
  have HSE := Lib.hid hse
  clear hse
  generalize mkS cs = SC at *
  go_enter Tryz.func94, Tryz.ntmps94
  go_wp2_with (go_at_call 164; refine (CU.out _ _).mono ?_; rintro e w' ⟨rfl, hw⟩; rw [hw, h8z])
  have HB0 : Hid (Below w.heap.size w (w.iter s 0)) := (Below.refl _ _).alloc (Nat.le_refl _) _
  have HI0 : Hid (Iter (w.iter s 0) w.heap.size s 0) := World.iter_heap w s 0
  obtain ⟨bi, hbi⟩ : ∃ bi, bi = w.heap.size := ⟨_, rfl⟩
  have HBI := Lib.hid hbi
  rw [← hbi] at HI0
  simp only [← hbi]
  clear hbi
  generalize w.iter s 0 = w1 at *
  go_loopg [9, 10] s.size (fun g _ _ wx => ∃ i : Nat, i + g = s.size ∧ Iter wx bi s i ∧ Below w.heap.size w wx ∧ Hid ((s.data.toList.take i).all (nos cs) = true))
  case atStart => exact ⟨0, by omega, HI0.out, HB0.out, show (s.data.toList.take 0).all (nos cs) = true from rfl⟩
  case round =>
    obtain ⟨i, hig, hit, hbe, hall⟩ := hrel
    have HIT := Lib.hid hit
    have HBE := Lib.hid hbe
    clear hit hbe
    by_cases hlt : i < s.size
    · have hnx := fun ty => next_at (P := Tryz.prog) HIT.out ty hlt
      have HX := Lib.hid (byte_at hlt)
      obtain ⟨c, n, hcn, hn1, hc2, hor⟩ := decode_one HSE.out s i hlt hall.out
      rw [hcn] at hnx
      have HST := Lib.hid (iter_set HIT.out (i + n))
      have HSB := Lib.hid (below_set (b := bi) (s := s) (pos := i + n) HBE.out (by rw [HBI.out]; exact Nat.le_refl _))
      have HC1 := Lib.hid (CR.out (c : Int) (by omega) (by omega))
      clear hcn hall
      generalize setIter _ _ _ _ = w2 at *
      rcases hor with ⟨hr, hsep⟩ | ⟨hr, hmore, hle⟩
      · have HN := Lib.hid hsep
        clear hsep
        generalize runeAt cs (c : Int) = x at *
        go_wp2_with fail
        refine (HC1.out _).mono ?_
        rintro e w3 ⟨rfl, hb3⟩
        go_wp2_with fail
        go_ret
        exact ⟨by rw [HN.out]; rfl, HSB.out.trans (hb3.mono HSB.out.size)⟩
      · have HM := Lib.hid hmore
        rw [hr] at HC1
        clear hmore hr
        go_wp2_with fail
        refine (HC1.out _).mono ?_
        rintro e w3 ⟨rfl, hb3⟩
        have HB3 := Lib.hid hb3
        clear hb3
        go_wp2_with fail
        go_roundg (gk - n)
        case measure => omega
        case rel => exact ⟨i + n, by omega, iter_below HST.out HB3.out, HSB.out.trans (HB3.out.mono HSB.out.size), HM.out⟩
    · have hnx := fun ty => next_end (P := Tryz.prog) HIT.out ty hlt
      have HM := Lib.hid (anyAt_none (l := s.data.toList) (by
        have := hall.out
        rwa [List.take_of_length_le (by rw [size_len]; omega)] at this))
      go_wp2_with fail
      go_ret
      exact ⟨by rw [HM.out]; rfl, HBE.out⟩
theorem indexAny_any {cs : Bs} (hse : Seps cs) (s : ByteArray) (hs : s.size ≤ maxLen) (w : World) :
    Calls Tryz.prog 94 #[.string s, .string (mkS cs)] w fun e w' => e = .returned (.int .i64 (anyAt cs s.data.toList)) ∧ Below w.heap.size w w' := by
  by_cases h : s.size ≤ 8
  · exact indexAny_short hse s h w
  · exact indexAny_long hse s (by omega) hs w
end Go.Proofs.YtdhgiammfpjniaaGreatDoor

/- Texts made of bytes. -/
namespace Go.Proofs.YtdhgiammfpjniaaGreatDoor
set_option linter.unusedSimpArgs false
set_option linter.unusedVariables false
open Go.RowKit

theorem mkS_size (l : Bs) : (mkS l).size = l.length := rfl
theorem mkS_take (l : Bs) (n : Nat) : (mkS l).extract 0 n = mkS (l.take n) := s_ext (by rw [bl_upto, mkS_list, mkS_list])
theorem mkS_drop (l : Bs) (n : Nat) : (mkS l).extract n (mkS l).size = mkS (l.drop n) := s_ext (by rw [bl_from, mkS_list, mkS_list])
theorem all_while {p : UInt8 → Bool} {l : Bs} : decide ((l.takeWhile p).length = l.length) = l.all p := by
  induction l with
  | nil => rfl
  | cons b l ih =>
    rw [List.takeWhile_cons, List.all_cons]
    cases hb : p b with
    | true => simp only [if_true, List.length_cons, Bool.true_and]; rw [← ih]; simp
    | false => simp
end Go.Proofs.YtdhgiammfpjniaaGreatDoor

/- Texts made of bytes. -/
namespace Go.Proofs.YtdhgiammfpjniaaGreatDoor
set_option linter.unusedSimpArgs false
set_option linter.unusedVariables false
open Go.RowKit

theorem isEmpty_mkS (l : Bs) : (mkS l).toList.isEmpty = l.isEmpty := by rw [ByteArray.toList_eq]; rfl
end Go.Proofs.YtdhgiammfpjniaaGreatDoor
