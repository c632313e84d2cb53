/- Parse: the loop over the pieces. What Escape writes, and what stands for it when it is read. Elements whose texts and values are escaped, piece by piece. The texts of XmlpullEscapes and XmlpullQuiet, and what is told of them. Documents of some elements: what All tells of them, and what the reader makes of that. -/
import Derived.Test.YtljldbdjkjllhaaGreatDoorZdd
import Derived.Test.YtljldbdjkjllhaaGreatDoorZdc
import Derived.Test.YtljldbdjkjllhaaGreatDoorZda
import Derived.Deep.LoopGhost
import Derived.Test.YtljldbdjkjllhaaGreatDoorZca
import Derived.Lib.ItoaNum
import Derived.Test.YtljldbdjkjllhaaGreatDoorZcj
/- Parse: the loop over the pieces. -/
namespace Go.Proofs.YtljldbdjkjllhaaGreatDoor
set_option linter.unusedSimpArgs false
set_option linter.unusedVariables false
open Go.RowKit

section
variable {w : World} {B r c : Nat} {pc : Pc} {A : Option Addr}
theorem RS.below {s : Sx} {w' : World} (h : RS w B r s) (hb : Below w.heap.size w w') : RS w' B r s := by
  obtain ⟨k, rest, e, pk, g, gs, tv, vp, rv, ov, h⟩ := h
  exact ⟨k, rest, e, pk, g, gs, tv, vp, rv, ov, h.below hb⟩
theorem RS.size {s : Sx} (h : RS w B r s) : B ≤ w.heap.size := by
  obtain ⟨k, rest, e, pk, g, gs, tv, vp, rv, ov, h⟩ := h
  exact h.size
theorem Res.from {x : Rx} {n : Int} {w1 w' : World} (hb : Below w.heap.size w w1) (hB : B ≤ w.heap.size) (h : Res w1 B r x n w') : Res w B r x n w' := ⟨(hb.mono hB).trans h.1, h.2⟩
theorem read_step {s : Sx} {x : Rx} (h : RS w B r s) (hz : SmallP pc) (hA : AlR w A pc.attrs) (hl : pc.attrs.length ≤ c) (hc : c ≤ maxLen) (hx : stepX s pc = some x) :
    Calls Tryz.prog 26 #[.pointer (some ⟨r, 0, none⟩), .agg #[.int .i64 pc.kind, .string (mkS pc.name), .slice A pc.attrs.length c, .string (mkS pc.text)]] w fun e w' => ∃ n, e = .returned (.int .i64 n) ∧ Res w B r x n w' := by
  have hB := h.size
  unfold stepX at hx
  by_cases h1 : pc.kind = 1
  · rw [if_pos h1] at hx
    refine (read_start (fun w1 n w' => Res w1 B r x n w') r pc A c w h1 (fun w1 hb1 => ?_)).mono ?_
    · obtain ⟨k, rest, e, pk, g, gs, tv, vp, rv, ov, h⟩ := h.below hb1
      exact start_step e h hz (hA.below hb1) hl hc hx
    · rintro e w' ⟨n, w1, rfl, hb, hr⟩
      exact ⟨n, rfl, hr.from hb hB⟩
  rw [if_neg h1] at hx
  by_cases h3 : pc.kind = 3
  · rw [if_pos h3] at hx
    obtain ⟨k, rest, e, pk, g, gs, tv, vp, rv, ov, h⟩ := h
    exact text_step e h hz h3 hx
  rw [if_neg h3] at hx
  by_cases h2 : pc.kind = 2
  · rw [if_pos h2] at hx
    refine (read_end (fun w1 n w' => Res w1 B r x n w') r pc A c w h2 (fun w1 hb1 => ?_)).mono ?_
    · obtain ⟨k, rest, e, pk, g, gs, tv, vp, rv, ov, h⟩ := h.below hb1
      exact end_step e h hx
    · rintro e w' ⟨n, w1, rfl, hb, hr⟩
      exact ⟨n, rfl, hr.from hb hB⟩
  · rw [if_neg h2] at hx
    cases hx
end
def s0S : Sx := ⟨[(.top, [])], none, []⟩
def PPost (W : World) (er : Int) (X : Rx) (e : Ending) (w' : World) : Prop := Below W.heap.size W w' ∧ match X with
  | .bad n => e = .returned (.tuple #[.slice none 0 0, .int .i64 n]) ∧ n ≠ 0
  | .go s => if er = 0 then ∃ B vp ov, e = .returned (.tuple #[vp, .int .i64 0]) ∧ W.heap.size ≤ B ∧ w'.ownsRow B 42 12 vp s.got.length (gotC s.got ov) ∧ GotAt w' s.got ov else e = .returned (.tuple #[.slice none 0 0, .int .i64 er])
theorem root_new {W w1 w4 : World} {m g : Nat} (hT : Ev.Tabs W) (hF : FlagsAt W) (hb : Below W.heap.size W w1) (h4 : Below w1.heap.size w1 w4) (hr : Blk w4 w1.heap.size 58 #[.pointer (some ⟨g, 0, none⟩), .slice none 0 0])
    (hg : Blk w4 g 65 #[.map (some m), .nilFunc, .pointer none, .slice none 0 0]) (hgl : w1.heap.size ≤ g) (hm : w4.heap[m]? = some (mapO [(mkS metaN, beginV 25 w1.heap.size)])) : RS w4 w1.heap.size w1.heap.size s0S := by
  have hb4 : Below W.heap.size W w4 := hb.trans (h4.mono hb.size)
  have t4 : Turned [] W w4 := Turned.of_below hb4 []
  have ht := hT.two
  have hfl : 11 < W.heap.size := by obtain ⟨t, h⟩ := hF; exact Blk.lt h
  have hs := hb.size
  exact ⟨_, _, rfl, 0, g, [], .slice none 0 0, .slice none 0 0, .slice none 0 0, [], hr, Nat.le_refl _, ⟨hgl, some m, .nilFunc, hg, rfl, m, rfl, hm⟩, World.ownsRow_nil _ _ _ _, fun _ => rfl, fun x hx => (by cases hx), trivial, fun c hc => (by cases hc), World.ownsRow_nil _ _ _ _, trivial, hT.turned t4 (fun x hx => (by cases hx)), hF.turned t4 (by simp), ⟨by omega, by omega⟩, h4.size⟩
theorem run_cons {ps : List Pc} {k : Nat} {pc : Pc} {s : Sx} {X : Rx} (hk : ps[k]? = some pc) (h : runX (ps.drop k) s = some X) : (∃ s', stepX s pc = some (.go s') ∧ runX (ps.drop (k + 1)) s' = some X) ∨ ∃ n, stepX s pc = some (.bad n) ∧ X = .bad n := by
  obtain ⟨hlt, he⟩ := List.getElem?_eq_some_iff.1 hk
  rw [List.drop_eq_getElem_cons hlt, he] at h
  cases hs : stepX s pc with
  | none => rw [runX_none hs] at h; cases h
  | some x =>
    cases x with
    | go s' => rw [runX_go hs] at h; exact .inl ⟨s', rfl, h⟩
    | bad n => rw [runX_bad hs] at h; injection h with h; exact .inr ⟨n, rfl, h.symm⟩
def AllQ (w : World) (r : List Pc × Int) (e : Ending) (w' : World) : Prop := ∃ A c, e = .returned (.tuple #[.slice A r.1.length c, .int .i64 r.2]) ∧ PcsR w' A r.1 ∧ r.1.length ≤ c ∧ c ≤ maxLen ∧ Below w.heap.size w w'
theorem all_q (l : Bs) {w : World} {B : Nat} (hE : XEnv B w) : Calls Tryz.prog 14 #[.string (mkS l)] w (AllQ w (allX l)) := by
  refine (all_any l hE).mono ?_
  rintro e w' ⟨v, cs, rfl, hown, hpc, hb⟩
  obtain ⟨A, c, rfl, hnc, hcm⟩ := own_form' hown
  exact ⟨A, c, rfl, pcsR_of hown hpc, hnc, hcm, hb⟩
set_option maxHeartbeats 8000000 in
set_option maxRecDepth 1000000 in
theorem parse_any (l : Bs) (X : Rx) {W : World} {B0 : Nat} (hE : XEnv B0 W) (hT : Ev.Tabs W) (hF : FlagsAt W) (hz : ∀ p ∈ (allX l).1, SmallP p) (hx : runX (allX l).1 s0S = some X) :
    Calls Tryz.prog 13 #[.string (mkS l)] W (PPost W (allX l).2 X) := by
  have CA := Lib.hid (all_q l hE)
  have HX := Lib.hid hx
  have HZ := Lib.hid hz
  have HT := Lib.hid hT
  have HF := Lib.hid hF
  have hmm := @run_makeMap Tryz.prog
  have hmf := makeF
  clear hE hT hF hz hx
  generalize allX l = rX at *
  obtain ⟨ps, er⟩ := rX
  generalize mkS l = S at *
  go_enter Tryz.func13, Tryz.ntmps13
  go_wp2_with fail
  refine CA.out.mono ?_
  rintro e w1 ⟨A, c, rfl, hp, hpl, hpc, hb⟩
  have HP := Lib.hid hp
  have HB := Lib.hid hb
  unfold maxLen at hpc
  clear CA hp hb
  obtain ⟨w2, hw2⟩ : ∃ w2, w2 = w1.alloc (.cells #[.pointer none, .slice none 0 0] 58) := ⟨_, rfl⟩
  have R2 : Hid (Blk w2 w1.heap.size 58 #[.pointer none, .slice none 0 0]) := by rw [hw2]; exact Blk.new _ _ _
  have HS2 : Hid (w1.heap.size + 1 = w2.heap.size) := by show _ = _; rw [hw2]; simp
  have HB2 : Hid (Below w1.heap.size w1 w2) := by rw [hw2]; exact (Below.refl _ _).alloc (Nat.le_refl _) _
  have HM := Lib.hid (map_new w2)
  go_upto_region 3 with fail
  rw [← hw2]
  clear hw2
  go_upto_region 4 with (refine wpList_insert_map _ rfl _ _ _ 60 rfl 9 138 Tryz.underlying60 Tryz.underlying9 w2.heap.size [] rfl HM.out _ _ rfl rfl rfl ?_; intro w3 hm3 ht3; have R3 := Lib.hid ((R2.out.alloc (.map #[] 0)).turned ht3 (by have := HS2.out; simp; omega)); have HM3 := Lib.hid hm3; have HT3 := Lib.hid ht3; clear hm3 ht3; have k0 := (R3.out.alloc (.cells #[.map (some w2.heap.size), .nilFunc, .pointer none, .slice none 0 0] 65)).cell 0; have f0 := (R3.out.alloc (.cells #[.map (some w2.heap.size), .nilFunc, .pointer none, .slice none 0 0] 65)).free 0; simp at k0)
  have hz2 := HS2.out
  have hz3 : w2.heap.size + 1 ≤ w3.heap.size := by have := HT3.out.size; simpa using this
  have hb3 : Below w1.heap.size w1 w3 := (HB2.out.alloc HB2.out.size _).trans (HT3.out.below (fun x hx => by simp at hx; omega) (by simp; omega))
  have hb4 : Below w1.heap.size w1 ((w3.alloc (.cells #[.map (some w2.heap.size), .nilFunc, .pointer none, .slice none 0 0] 65)).setCell ⟨w1.heap.size, 0, none⟩ (.pointer (some ⟨w3.heap.size, 0, none⟩))) := (hb3.alloc hb3.size _).setCell (Nat.le_refl _) _
  have hm4 : ((w3.alloc (.cells #[.map (some w2.heap.size), .nilFunc, .pointer none, .slice none 0 0] 65)).setCell ⟨w1.heap.size, 0, none⟩ (.pointer (some ⟨w3.heap.size, 0, none⟩))).heap[w2.heap.size]? = some (mapO [(mkS metaN, beginV 25 w1.heap.size)]) := map_turned' (F := [w1.heap.size]) HM3.out (((Turned.refl [w1.heap.size] w3).alloc _).setCell (.inl (by simp)) _) (by simp; omega)
  have HRS : Hid (RS ((w3.alloc (.cells #[.map (some w2.heap.size), .nilFunc, .pointer none, .slice none 0 0] 65)).setCell ⟨w1.heap.size, 0, none⟩ (.pointer (some ⟨w3.heap.size, 0, none⟩))) w1.heap.size w1.heap.size s0S) := root_new HT.out HF.out HB.out hb4 ((R3.out.alloc _).set_ 0 _) ((Blk.new w3 _ _).far (p := ⟨w1.heap.size, 0, none⟩) (by show ¬ w3.heap.size = w1.heap.size; omega) _) (by omega) hm4
  have HB4 := Lib.hid hb4
  clear k0 f0 hm4 hb3 hb4 hz2 hz3 HM3 HT3 R3 HM HB2 HS2 R2 HT HF hmm hmf
  generalize ((w3.alloc (.cells #[.map (some w2.heap.size), .nilFunc, .pointer none, .slice none 0 0] 65)).setCell ⟨w1.heap.size, 0, none⟩ (.pointer (some ⟨w3.heap.size, 0, none⟩))) = w4 at HRS HB4 ⊢
  obtain ⟨N, hN⟩ : ∃ N, N = ps.length := ⟨_, rfl⟩
  have HN := Lib.hid hN
  rw [← hN] at hpl ⊢
  clear hN
  go_wp2_with fail
  go_loopg [8, 9, 25] N (fun gk v8 v9 v25 wx => ∃ (k : Nat) (s : Sx), k + gk = N ∧ v25 = .int .i64 (k : Int) ∧ Hid (RS wx w1.heap.size w1.heap.size s) ∧ Hid (Below w1.heap.size w1 wx) ∧ Hid (runX (ps.drop k) s = some X))
  case atStart => exact ⟨0, s0S, by omega, rfl, HRS, HB4, HX⟩
  case round =>
    obtain ⟨k, s, hkg, rfl, HR, HBk, HXk⟩ := hrel
    clear HRS HB4 HX
    by_cases hlt : k < N
    · have hltI : (k : Int) < (N : Int) := by omega
      obtain ⟨pc, hpk⟩ : ∃ pc, ps[k]? = some pc := ⟨_, List.getElem?_eq_getElem (by have := HN.out; omega)⟩
      obtain ⟨b, o, A', c', rfl, q0, q1, q2, q3, hl, hc, hA⟩ := HP.out.below HBk.out k pc hpk
      have hb5 : Below wr.heap.size wr (wr.alloc (.cells #[.int .i64 pc.kind, .string (mkS pc.name), .slice A' pc.attrs.length c', .string (mkS pc.text)] 68)) := (Below.refl _ _).alloc (Nat.le_refl _) _
      have HR5 := HR.out.below hb5
      have HB5 : Hid (∀ w', Below w1.heap.size (wr.alloc (.cells #[.int .i64 pc.kind, .string (mkS pc.name), .slice A' pc.attrs.length c', .string (mkS pc.text)] 68)) w' → Below w1.heap.size w1 w') := fun w' h => (HBk.out.trans (hb5.mono HBk.out.size)).trans h
      have hsm := HZ.out pc (List.mem_of_getElem? hpk)
      rcases run_cons hpk HXk.out with ⟨s', hs, hx'⟩ | ⟨n, hs, hX⟩
      · have CR := Lib.hid (read_step HR5 hsm (hA.below hb5) hl hc hs)
        have HX' := Lib.hid hx'
        clear hb5 HR5 hsm hs hx' hpk HR HXk hA hl hc
        unfold Res at CR
        go_wp2_with fail
        refine CR.out.mono ?_
        rintro e w5 ⟨n, rfl, hbb, rfl, hrs⟩
        have HRS5 := Lib.hid hrs
        have HB6 := Lib.hid (HB5.out w5 hbb)
        clear hbb hrs CR HB5
        go_wp2_with fail
        go_roundg (gk - 1)
        case measure => omega
        case rel => exact ⟨k + 1, s', by omega, by go_num, HRS5, HB6, HX'⟩
      · have CR := Lib.hid (read_step HR5 hsm (hA.below hb5) hl hc hs)
        have HXn := Lib.hid hX
        clear hb5 HR5 hsm hs hX hpk HR HXk hA hl hc
        unfold Res at CR
        go_wp2_with fail
        refine CR.out.mono ?_
        rintro e w5 ⟨m, rfl, hbb, hm, hn0⟩
        subst hm
        have HB6 := Lib.hid (HB5.out w5 hbb)
        have t1 : (m != 0) = true := by simp [hn0]
        have HN0 := Lib.hid hn0
        clear hbb hn0 CR HB5
        go_wp2_with fail
        go_ret2
        refine ⟨HB.out.trans (HB6.out.mono HB.out.size), ?_⟩
        rw [HXn.out]
        exact ⟨rfl, HN0.out⟩
    · have hltI : ¬ (k : Int) < (N : Int) := by omega
      have hk : ps.drop k = [] := List.drop_eq_nil_of_le (by have := HN.out; omega)
      have HXs : Hid (X = .go s) := by
        have h := HXk.out
        rw [hk] at h
        injection h with h
        exact h.symm
      have HBW := Lib.hid (HB.out.trans (HBk.out.mono HB.out.size))
      clear hk HXk HP HZ
      by_cases he : er = 0
      · subst he
        obtain ⟨k0, rest, _, pk, g, gs, tv, vp, rv, ov, hM⟩ := HR.out
        have r1 := hM.rd.cell 1
        simp at r1
        obtain ⟨Av, cv, rfl, _, _⟩ := own_form' hM.row
        have HM := Lib.hid hM
        clear hM HR
        go_wp2_with fail
        go_ret2
        refine ⟨HBW.out, ?_⟩
        rw [HXs.out]
        show (if (0 : Int) = 0 then _ else _)
        rw [if_pos rfl]
        exact ⟨w1.heap.size, _, ov, rfl, HB.out.size, HM.out.row, HM.out.got⟩
      · have t1 : (er != 0) = true := by simp [he]
        have HE := Lib.hid he
        clear he HR
        go_wp2_with fail
        go_ret2
        refine ⟨HBW.out, ?_⟩
        rw [HXs.out]
        show (if er = 0 then _ else _)
        rw [if_neg HE.out]
        rfl
end Go.Proofs.YtljldbdjkjllhaaGreatDoor

/- What Escape writes, and what stands for it when it is read. -/
namespace Go.Proofs.YtljldbdjkjllhaaGreatDoor
set_option linter.unusedSimpArgs false
set_option linter.unusedVariables false
open Go.RowKit

def escN (c : UInt8) : Option Bs := match ents.find? (fun e => decide (e.2 = c)) with
  | some e => some e.1
  | none => if c.toNat < 32 then some (35 :: (if c.toNat < 10 then [48 + c] else [48 + c / 10, 48 + c % 10])) else none
def escB (c : UInt8) : Bs := match escN c with
  | some n => 38 :: (n ++ [59])
  | none => [c]
def escX : Bs → Bs
  | [] => []
  | c :: r => escB c ++ escX r
theorem escX_app (a b : Bs) : escX (a ++ b) = escX a ++ escX b := by
  induction a with
  | nil => rfl
  | cons c r ih => show escB c ++ escX (r ++ b) = escB c ++ escX r ++ escX b; rw [ih, List.append_assoc]
theorem all_u8 {p : UInt8 → Prop} (h : ∀ k : Fin 256, p (UInt8.ofNat k.val)) (c : UInt8) : p c := by
  have := h ⟨c.toNat, c.toNat_lt⟩
  simpa using this
def escOk (c : UInt8) : Bool := match escN c with
    | some n => !n.contains 59 && !n.contains 45 && !n.contains 62 && !n.contains 60 && !n.contains 39 && !n.contains 34 && n.all (fun b => decide (32 ≤ b.toNat)) && decide (n.length ≤ 4) && decide (charR n = (if xMay c = true then some c.toNat else none)) && decide (Lib.encodeRune (c.toNat : Int) = [c])
    | none => xMay c && decide (32 ≤ c.toNat) && c != 60 && c != 38 && c != 39 && c != 34 && c != 62
theorem escOk_all (c : UInt8) : escOk c = true := by
  revert c
  refine all_u8 ?_
  decide +kernel
structure EscS (c : UInt8) (n : Bs) : Prop where
  n59 : (59 : UInt8) ∉ n
  n45 : (45 : UInt8) ∉ n
  n62 : (62 : UInt8) ∉ n
  n60 : (60 : UInt8) ∉ n
  n39 : (39 : UInt8) ∉ n
  n34 : (34 : UInt8) ∉ n
  may : ∀ b ∈ n, 32 ≤ b.toNat
  len : n.length ≤ 4
  is : charR n = (if xMay c = true then some c.toNat else none)
  enc : Lib.encodeRune (c.toNat : Int) = [c]
theorem escN_some {c : UInt8} {n : Bs} (h : escN c = some n) : EscS c n := by
  have h1 := escOk_all c
  unfold escOk at h1
  rw [h] at h1
  simp at h1
  obtain ⟨⟨⟨⟨⟨⟨⟨⟨⟨a1, a2⟩, a3⟩, a4⟩, a5⟩, a6⟩, a7⟩, a8⟩, a9⟩, a10⟩ := h1
  exact ⟨a1, a2, a3, a4, a5, a6, a7, a8, by simpa using a9, a10⟩
theorem escN_none {c : UInt8} (h : escN c = none) : xMay c = true ∧ 32 ≤ c.toNat ∧ c ≠ 60 ∧ c ≠ 38 ∧ c ≠ 39 ∧ c ≠ 34 ∧ c ≠ 62 := by
  have h1 := escOk_all c
  unfold escOk at h1
  rw [h] at h1
  simp at h1
  obtain ⟨⟨⟨⟨⟨⟨a1, a2⟩, a3⟩, a4⟩, a5⟩, a6⟩, a7⟩ := h1
  exact ⟨a1, a2, a3, a4, a5, a6, a7⟩
theorem escB_some {c : UInt8} {n : Bs} (h : escN c = some n) : escB c = 38 :: (n ++ [59]) := by unfold escB; rw [h]
theorem escB_none {c : UInt8} (h : escN c = none) : escB c = [c] := by unfold escB; rw [h]
theorem escB_len (c : UInt8) : 0 < (escB c).length ∧ (escB c).length ≤ 6 := by
  cases h : escN c with
  | some n => rw [escB_some h]; have := (escN_some h).len; simp; omega
  | none => rw [escB_none h]; simp
theorem escX_len : ∀ l : Bs, l.length ≤ (escX l).length ∧ (escX l).length ≤ 6 * l.length
  | [] => by simp [escX]
  | c :: r => by
    have := escX_len r
    have := escB_len c
    show _ ≤ (escB c ++ escX r).length ∧ (escB c ++ escX r).length ≤ _
    simp; omega
/-! Byte by byte. -/
theorem plain_cons {st l : Bs} {c : UInt8} (h : c ∉ st) (hm : xMay c = true) : plainR st (c :: l) = (plainR st l).map fun x => (c :: x.1, x.2) := by
  have hc : st.contains c = false := by simpa using h
  unfold plainR plainN takeR
  simp only [List.takeWhile_cons, hc, Bool.not_false, if_true, List.length_cons, List.take_succ_cons, List.drop_succ_cons, List.all_cons, hm, Bool.true_and]
  split
  · rfl
  · rfl
theorem plain_stop {st l : Bs} {c : UInt8} (h : c ∈ st) : plainR st (c :: l) = .ok ([], c :: l) := by
  have hc : st.contains c = true := by simpa using h
  unfold plainR plainN takeR
  simp only [List.takeWhile_cons, hc, Bool.not_true]
  rfl
def runF (k : Nat) (out : Bs) (x : Bs × Bs) : RR Bs :=
    if Lib.hasPrefix x.2 [38] = true then (entityR (Lib.trimPrefix x.2 [38])).bind fun y => runR k (out ++ x.1 ++ Lib.encodeRune (y.1 : Int)) y.2
    else if Lib.hasPrefix x.2 cdataB = true then (upToR [93, 93, 62] (Lib.trimPrefix x.2 cdataB)).bind fun y => runR k (out ++ x.1 ++ y.1) y.2
    else if Lib.hasPrefix x.2 [60, 33, 45, 45] = true then (upToR [45, 45] (Lib.trimPrefix x.2 [60, 33, 45, 45])).bind fun y => (wantR [62] y.2).bind fun z => runR k (out ++ x.1) z.2
    else if Lib.hasPrefix x.2 [60, 63] = true then (nameR (Lib.trimPrefix x.2 [60, 63])).bind fun y => (upToR [63, 62] y.2).bind fun z => runR k (out ++ x.1) z.2
    else if Lib.hasPrefix x.2 [60, 33] = true then .error 100 else .ok (out ++ x.1, x.2)
theorem runR_F (k : Nat) (out l : Bs) : runR (k + 1) out l = (plainR [60, 38] l).bind (runF k out) := by rw [runR]; rfl
def valF (q : Bs) (k : Nat) (out : Bs) (x : Bs × Bs) : RR Bs :=
    if Lib.hasPrefix x.2 [38] = true then (entityR (Lib.trimPrefix x.2 [38])).bind fun y => valueR q k (out ++ x.1 ++ Lib.encodeRune (y.1 : Int)) y.2
    else (wantR q x.2).map fun y => (out ++ x.1, y.2)
theorem valR_F (q : Bs) (k : Nat) (out l : Bs) : valueR q (k + 1) out l = (plainR ([60, 38] ++ q) l).bind (valF q k out) := by rw [valueR]; rfl
theorem runF_cons (k : Nat) (out a b : Bs) (c : UInt8) : runF k out (c :: a, b) = runF k (out ++ [c]) (a, b) := by
  unfold runF
  simp only [List.append_assoc, List.cons_append, List.nil_append]
theorem valF_cons (q : Bs) (k : Nat) (out a b : Bs) (c : UInt8) : valF q k out (c :: a, b) = valF q k (out ++ [c]) (a, b) := by
  unfold valF
  simp only [List.append_assoc, List.cons_append, List.nil_append]
theorem run_plain {k : Nat} {out l : Bs} {c : UInt8} (h0 : c ≠ 60) (h1 : c ≠ 38) (hm : xMay c = true) : runR (k + 1) out (c :: l) = runR (k + 1) (out ++ [c]) l := by
  rw [runR_F, runR_F, plain_cons (by simp [h0, h1]) hm]
  cases plainR [60, 38] l with
  | error e => rfl
  | ok x => exact runF_cons k out x.1 x.2 c
theorem val_plain {q : Bs} {k : Nat} {out l : Bs} {c : UInt8} (h : c ∉ [60, 38] ++ q) (hm : xMay c = true) : valueR q (k + 1) out (c :: l) = valueR q (k + 1) (out ++ [c]) l := by
  rw [valR_F, valR_F, plain_cons h hm]
  cases plainR ([60, 38] ++ q) l with
  | error e => rfl
  | ok x => exact valF_cons q k out x.1 x.2 c
theorem pre_one (a : UInt8) (r : Bs) : Lib.hasPrefix (a :: r) [a] = true := by simp [Lib.hasPrefix, List.isPrefixOf]
theorem trim_one (a : UInt8) (r : Bs) : Lib.trimPrefix (a :: r) [a] = r := by unfold Lib.trimPrefix; rw [if_pos (pre_one a r)]; rfl
theorem pre_no {a b : UInt8} {r t : Bs} (h : b ≠ a) : Lib.hasPrefix (a :: r) (b :: t) = false := by simp [Lib.hasPrefix, List.isPrefixOf, h]
theorem pre_no' {a b : UInt8} {r t : Bs} (h : b ≠ a) : ¬ Lib.hasPrefix (a :: r) (b :: t) = true := by rw [pre_no h]; decide
theorem want_one (a : UInt8) (r : Bs) : wantR [a] (a :: r) = .ok ((), r) := by unfold wantR; rw [if_pos (pre_one a r), trim_one]
theorem idx_here {sub l : Bs} {b : UInt8} (h : sub.isPrefixOf (b :: l) = true) : Lib.index (b :: l) sub = 0 := by unfold Lib.index; rw [if_pos h]
theorem idx_step {sub l : Bs} {b : UInt8} {i : Nat} (h : sub.isPrefixOf (b :: l) = false) (hi : Lib.index l sub = (i : Int)) : Lib.index (b :: l) sub = ((i + 1 : Nat) : Int) := by
  unfold Lib.index
  rw [h, hi]
  have : ((i : Int) == -1) = false := by rw [beq_eq_false_iff_ne]; omega
  simp [this]
theorem idx_59 {l : Bs} : ∀ {n : Bs}, (59 : UInt8) ∉ n → Lib.index (n ++ 59 :: l) [59] = (n.length : Int)
  | [], _ => idx_here (by rfl)
  | c :: r, h => by
    have h1 : (59 : UInt8) ∉ r := fun hm => h (by simp [hm])
    have h2 : c ≠ 59 := fun hm => h (by simp [hm])
    refine idx_step (by simp [List.isPrefixOf, Ne.symm h2]) (idx_59 h1)
theorem ent_is {n l : Bs} (h : (59 : UInt8) ∉ n) : entityR (n ++ 59 :: l) = match charR n with
    | some c => .ok (c, l)
    | none => .error 103 := by
  have hi := idx_59 (l := l) h
  have hc : Lib.cut (n ++ 59 :: l) [59] = (n, l, true) := by
    unfold Lib.cut
    rw [if_pos (by rw [hi]; omega), hi]
    simp
  unfold entityR
  rw [hc]
  rfl
theorem run_ent {k : Nat} {out n l : Bs} (h : (59 : UInt8) ∉ n) : runR (k + 1) out (38 :: (n ++ 59 :: l)) = match charR n with
    | some c => runR k (out ++ Lib.encodeRune (c : Int)) l
    | none => .error 103 := by
  rw [runR_F, plain_stop (by decide)]
  show runF k out ([], 38 :: (n ++ 59 :: l)) = _
  unfold runF
  dsimp only
  rw [if_pos (pre_one _ _), trim_one]
  rw [ent_is h]
  cases charR n with
  | none => rfl
  | some c => show runR k (out ++ [] ++ _) l = _; rw [List.append_nil]
theorem val_ent {q : Bs} {k : Nat} {out n l : Bs} (h : (59 : UInt8) ∉ n) : valueR q (k + 1) out (38 :: (n ++ 59 :: l)) = match charR n with
    | some c => valueR q k (out ++ Lib.encodeRune (c : Int)) l
    | none => .error 103 := by
  rw [valR_F, plain_stop (by simp)]
  show valF q k out ([], 38 :: (n ++ 59 :: l)) = _
  unfold valF
  dsimp only
  rw [if_pos (pre_one _ _), trim_one]
  rw [ent_is h]
  cases charR n with
  | none => rfl
  | some c => show valueR q k (out ++ [] ++ _) l = _; rw [List.append_nil]
theorem run_esc : ∀ (t : Bs) {k : Nat} {out r : Bs}, t.all xMay = true → t.length ≤ k → ∃ j, k ≤ j + t.length ∧ j ≤ k ∧ runR (k + 1) out (escX t ++ r) = runR (j + 1) (out ++ t) r
  | [], k, out, r, _, _ => ⟨k, by simp, Nat.le_refl _, by simp [escX]⟩
  | c :: t, k, out, r, h, hk => by
    simp only [List.all_cons, Bool.and_eq_true] at h
    simp only [List.length_cons] at hk
    cases hn : escN c with
    | none =>
      have hs := escN_none hn
      obtain ⟨j, h1, h2, h3⟩ := run_esc t (k := k) (out := out ++ [c]) (r := r) h.2 (by omega)
      refine ⟨j, by simp; omega, h2, ?_⟩
      show runR (k + 1) out (escB c ++ escX t ++ r) = _
      rw [escB_none hn]
      show runR (k + 1) out (c :: (escX t ++ r)) = _
      rw [run_plain hs.2.2.1 hs.2.2.2.1 h.1, h3]
      simp
    | some n =>
      have hs := escN_some hn
      obtain ⟨k', rfl⟩ : ∃ k', k = k' + 1 := ⟨k - 1, by omega⟩
      obtain ⟨j, h1, h2, h3⟩ := run_esc t (k := k') (out := out ++ [c]) (r := r) h.2 (by omega)
      refine ⟨j, by simp; omega, by omega, ?_⟩
      show runR (k' + 1 + 1) out (escB c ++ escX t ++ r) = _
      rw [escB_some hn]
      have e : 38 :: (n ++ [59]) ++ escX t ++ r = 38 :: (n ++ 59 :: (escX t ++ r)) := by simp
      rw [e, run_ent hs.n59, hs.is, if_pos h.1]
      show runR (k' + 1) (out ++ Lib.encodeRune (c.toNat : Int)) _ = _
      rw [hs.enc, h3]
      simp
theorem run_bad : ∀ (t : Bs) {k : Nat} {out r : Bs}, t.all xMay = false → t.length ≤ k → runR (k + 1) out (escX t ++ r) = .error 103
  | [], k, out, r, h, _ => by simp at h
  | c :: t, k, out, r, h, hk => by
    simp only [List.all_cons] at h
    simp only [List.length_cons] at hk
    cases hn : escN c with
    | none =>
      have hs := escN_none hn
      rw [hs.1] at h
      show runR (k + 1) out (escB c ++ escX t ++ r) = _
      rw [escB_none hn]
      show runR (k + 1) out (c :: (escX t ++ r)) = _
      rw [run_plain hs.2.2.1 hs.2.2.2.1 hs.1]
      exact run_bad t (by simpa using h) (by omega)
    | some n =>
      have hs := escN_some hn
      show runR (k + 1) out (escB c ++ escX t ++ r) = _
      rw [escB_some hn]
      have e : 38 :: (n ++ [59]) ++ escX t ++ r = 38 :: (n ++ 59 :: (escX t ++ r)) := by simp
      rw [e, run_ent hs.n59, hs.is]
      cases hm : xMay c with
      | false => rfl
      | true =>
        rw [hm] at h
        obtain ⟨k', rfl⟩ : ∃ k', k = k' + 1 := ⟨k - 1, by omega⟩
        rw [if_pos rfl]
        exact run_bad t (by simpa using h) (by omega)
theorem val_esc (q : Bs) (hq : ∀ b ∈ q, b = 39 ∨ b = 34) : ∀ (t : Bs) {k : Nat} {out r : Bs}, t.all xMay = true → t.length ≤ k → ∃ j, k ≤ j + t.length ∧ j ≤ k ∧ valueR q (k + 1) out (escX t ++ r) = valueR q (j + 1) (out ++ t) r
  | [], k, out, r, _, _ => ⟨k, by simp, Nat.le_refl _, by simp [escX]⟩
  | c :: t, k, out, r, h, hk => by
    simp only [List.all_cons, Bool.and_eq_true] at h
    simp only [List.length_cons] at hk
    cases hn : escN c with
    | none =>
      have hs := escN_none hn
      obtain ⟨j, h1, h2, h3⟩ := val_esc q hq t (k := k) (out := out ++ [c]) (r := r) h.2 (by omega)
      refine ⟨j, by simp; omega, h2, ?_⟩
      show valueR q (k + 1) out (escB c ++ escX t ++ r) = _
      rw [escB_none hn]
      show valueR q (k + 1) out (c :: (escX t ++ r)) = _
      rw [val_plain (by simp [hs.2.2.1, hs.2.2.2.1]; exact fun hm => (hq c hm).elim hs.2.2.2.2.1 hs.2.2.2.2.2.1) h.1, h3]
      simp
    | some n =>
      have hs := escN_some hn
      obtain ⟨k', rfl⟩ : ∃ k', k = k' + 1 := ⟨k - 1, by omega⟩
      obtain ⟨j, h1, h2, h3⟩ := val_esc q hq t (k := k') (out := out ++ [c]) (r := r) h.2 (by omega)
      refine ⟨j, by simp; omega, by omega, ?_⟩
      show valueR q (k' + 1 + 1) out (escB c ++ escX t ++ r) = _
      rw [escB_some hn]
      have e : 38 :: (n ++ [59]) ++ escX t ++ r = 38 :: (n ++ 59 :: (escX t ++ r)) := by simp
      rw [e, val_ent hs.n59, hs.is, if_pos h.1]
      show valueR q (k' + 1) (out ++ Lib.encodeRune (c.toNat : Int)) _ = _
      rw [hs.enc, h3]
      simp
theorem val_bad (q : Bs) (hq : ∀ b ∈ q, b = 39 ∨ b = 34) : ∀ (t : Bs) {k : Nat} {out r : Bs}, t.all xMay = false → t.length ≤ k → valueR q (k + 1) out (escX t ++ r) = .error 103
  | [], k, out, r, h, _ => by simp at h
  | c :: t, k, out, r, h, hk => by
    simp only [List.all_cons] at h
    simp only [List.length_cons] at hk
    cases hn : escN c with
    | none =>
      have hs := escN_none hn
      rw [hs.1] at h
      show valueR q (k + 1) out (escB c ++ escX t ++ r) = _
      rw [escB_none hn]
      show valueR q (k + 1) out (c :: (escX t ++ r)) = _
      rw [val_plain (by simp [hs.2.2.1, hs.2.2.2.1]; exact fun hm => (hq c hm).elim hs.2.2.2.2.1 hs.2.2.2.2.2.1) hs.1]
      exact val_bad q hq t (by simpa using h) (by omega)
    | some n =>
      have hs := escN_some hn
      show valueR q (k + 1) out (escB c ++ escX t ++ r) = _
      rw [escB_some hn]
      have e : 38 :: (n ++ [59]) ++ escX t ++ r = 38 :: (n ++ 59 :: (escX t ++ r)) := by simp
      rw [e, val_ent hs.n59, hs.is]
      cases hm : xMay c with
      | false => rfl
      | true =>
        rw [hm] at h
        obtain ⟨k', rfl⟩ : ∃ k', k = k' + 1 := ⟨k - 1, by omega⟩
        rw [if_pos rfl]
        exact val_bad q hq t (by simpa using h) (by omega)
/-- A value behind its first quote, up to the second. -/
theorem valQ_esc (b : UInt8) (hb : b = 39 ∨ b = 34) (t r : Bs) (h : t.all xMay = true) : valueQ [b] (escX t ++ b :: r) = .ok (t, r) := by
  have hl : t.length ≤ (escX t ++ b :: r).length := by have := (escX_len t).1; simp; omega
  obtain ⟨j, -, -, hj⟩ := val_esc [b] (by simpa using hb) t (out := []) (r := b :: r) h hl
  unfold valueQ
  rw [hj, valR_F, plain_stop (by simp)]
  show valF [b] j ([] ++ t) ([], b :: r) = _
  unfold valF
  dsimp only
  rw [if_neg (pre_no' (by rcases hb with rfl | rfl <;> decide)), want_one]
  simp [Except.map]
theorem valQ_bad (b : UInt8) (hb : b = 39 ∨ b = 34) (t r : Bs) (h : t.all xMay = false) : valueQ [b] (escX t ++ r) = .error 103 := by
  have hl : t.length ≤ (escX t ++ r).length := by have := (escX_len t).1; simp; omega
  exact val_bad [b] (by simpa using hb) t h hl
end Go.Proofs.YtljldbdjkjllhaaGreatDoor

/- Elements whose texts and values are escaped, piece by piece. -/
namespace Go.Proofs.YtljldbdjkjllhaaGreatDoor
set_option linter.unusedSimpArgs false
set_option linter.unusedVariables false
open Go.RowKit

theorem allN_fuel : ∀ (k j : Nat) {s : XS}, XOk s → muX s < k → muX s < j → allN k s = allN j s
  | 0, _, _, _, h, _ => by omega
  | _, 0, _, _, _, h => by omega
  | k + 1, j + 1, s, ho, hk, hj => by
    cases hn : nextR s with
    | error e => rw [allN_err hn, allN_err hn]
    | ok x =>
      by_cases h4 : x.1.kind = 4
      · rw [allN_done hn h4, allN_done hn h4]
      · obtain ⟨ho', hm⟩ := nextR_mu ho (s' := x.2) (pc := x.1) hn
        have := hm h4
        rw [allN_more hn h4, allN_more hn h4, allN_fuel k j ho' (by omega) (by omega)]
def allS (s : XS) : List Pc × Int := allN (muX s + 1) s
/-- From s on just these pieces are told, then it goes on at s'. -/
def Tells (s : XS) (ps : List Pc) (s' : XS) : Prop := XOk s → XOk s' ∧ allS s = (ps ++ (allS s').1, (allS s').2)
theorem Tells.refl (s : XS) : Tells s [] s := fun h => ⟨h, rfl⟩
theorem Tells.trans {s s' s'' : XS} {a b : List Pc} (h : Tells s a s') (h' : Tells s' b s'') : Tells s (a ++ b) s'' := fun ho => by
  obtain ⟨h1, h2⟩ := h ho
  obtain ⟨h3, h4⟩ := h' h1
  exact ⟨h3, by rw [h2, h4, List.append_assoc]⟩
theorem Tells.one {s s' : XS} {p : Pc} (h : nextR s = .ok (p, s')) (h4 : p.kind ≠ 4) : Tells s [p] s' := fun ho => by
  obtain ⟨ho', hm⟩ := nextR_mu ho h
  have := hm h4
  refine ⟨ho', ?_⟩
  unfold allS
  rw [allN_more (x := (p, s')) h h4, allN_fuel (muX s) (muX s' + 1) ho' this (Nat.lt_succ_self _)]
  rfl
theorem allS_err {s : XS} {e : Int} (h : nextR s = .error e) : allS s = ([], e) := allN_err h
theorem allS_done {s s' : XS} {p : Pc} (h : nextR s = .ok (p, s')) (h4 : p.kind = 4) : allS s = ([], 0) := allN_done (x := (p, s')) h h4
theorem allX_short {l : Bs} (h : l.length ≤ 40000) : allX l = allS (s0X l) := by unfold allX; rw [if_neg (by omega)]; rfl
theorem ok0 {l : Bs} (h : l.length ≤ 40000) : XOk (s0X l) := ⟨h, Nat.zero_le _, fun h => by cases h⟩

/-! Names and attributes. -/
theorem bindOk {α β : Type} (x : α) (f : α → Except Int β) : (Except.ok x).bind f = f x := rfl
def NmOk (nm : Bs) : Bool := match nm with
  | [] => false
  | c :: r => xFirst c && (c :: r).all xOf && decide ((c :: r).length ≤ 60)
theorem of_may (c : UInt8) : xOf c = true → xMay c = true := by
  revert c
  refine all_u8 ?_
  decide +kernel
theorem take_all {nm r : Bs} (h : nm.all xMay = true) : takeR nm.length (nm ++ r) = .ok (nm, r) := by
  unfold takeR
  rw [List.take_left' rfl, List.drop_left' rfl, if_pos h]
theorem while_of {nm r : Bs} {p : UInt8 → Bool} {c : UInt8} (h : nm.all p = true) (hc : p c = false) : (nm ++ c :: r).takeWhile p = nm := by
  rw [List.takeWhile_append_of_pos (by simpa using h), List.takeWhile_cons, hc]
  simp
theorem nameR_ok {nm r : Bs} {c : UInt8} (h : NmOk nm = true) (hc : xOf c = false) : nameR (nm ++ c :: r) = .ok (nm, c :: r) := by
  cases nm with
  | nil => cases h
  | cons a t =>
    simp only [NmOk, Bool.and_eq_true, decide_eq_true_eq] at h
    obtain ⟨⟨h1, h2⟩, h3⟩ := h
    have hN : nameN ((a :: t) ++ c :: r) = (a :: t).length := by
      show (if xFirst a = true then (List.takeWhile xOf ((a :: t) ++ c :: r)).length else 0) = _
      rw [if_pos h1, while_of h2 hc]
    unfold nameR
    rw [hN, if_pos ⟨by simp, h3⟩]
    refine take_all ?_
    rw [List.all_eq_true] at h2 ⊢
    exact fun b hb => of_may b (h2 b hb)
theorem lay_none {c : UInt8} {r : Bs} (h : xLay c = false) : layoutR (c :: r) = .ok (false, c :: r) := by
  unfold layoutR
  rw [List.takeWhile_cons, h]
  rfl
theorem lay_one {c : UInt8} {r : Bs} (h : xLay c = false) : layoutR (32 :: c :: r) = .ok (true, c :: r) := by
  unfold layoutR
  rw [List.takeWhile_cons, List.takeWhile_cons, h]
  rfl
theorem first_not_lay (c : UInt8) : xFirst c = true → xLay c = false ∧ c ≠ 62 ∧ c ≠ 47 ∧ c ≠ 33 ∧ c ≠ 63 := by
  revert c
  refine all_u8 ?_
  decide +kernel
theorem esc_head_lay (q : UInt8) (hq : q = 39 ∨ q = 34) : xLay q = false ∧ xOf q = false := by rcases hq with rfl | rfl <;> decide
/-- An attribute. -/
def attrF (al : Al) (nm : Bs) (n2 : Bs) : RR (Bs × Bs) :=
  if al.length < 16 then
    if al.any (fun a => decide (a.1 = nm)) = true then .error 100 else
    (layoutR n2).bind fun a => (wantR [61] a.2).bind fun b => (layoutR b.2).bind fun c =>
      if Lib.hasPrefix c.2 [39] = true then (valueQ [39] (Lib.trimPrefix c.2 [39])).map fun v => ((nm, v.1), v.2)
      else (wantR [34] c.2).bind fun d => (valueQ [34] d.2).map fun v => ((nm, v.1), v.2)
  else .error 104
theorem attrR_F (al : Al) (l : Bs) : attrR al l = (nameR l).bind fun n => attrF al n.1 n.2 := rfl
def quoteF (nm : Bs) (c2 : Bs) : RR (Bs × Bs) :=
      if Lib.hasPrefix c2 [39] = true then (valueQ [39] (Lib.trimPrefix c2 [39])).map fun v => ((nm, v.1), v.2)
      else (wantR [34] c2).bind fun d => (valueQ [34] d.2).map fun v => ((nm, v.1), v.2)
theorem attr_esc {nm v r : Bs} {q : UInt8} {al : Al} (hn : NmOk nm = true) (hq : q = 39 ∨ q = 34) (hl : al.length < 16) (ha : al.any (fun a => decide (a.1 = nm)) = false) :
    attrR al (nm ++ 61 :: q :: (escX v ++ q :: r)) = if v.all xMay = true then .ok ((nm, v), r) else .error 103 := by
  rw [attrR_F, nameR_ok hn (by decide)]
  show attrF al nm (61 :: q :: (escX v ++ q :: r)) = _
  unfold attrF
  rw [if_pos hl, ha, if_neg (by decide), lay_none (by decide), bindOk]
  dsimp only
  rw [want_one, bindOk]
  dsimp only
  rw [lay_none (esc_head_lay q hq).1, bindOk]
  show quoteF nm (q :: (escX v ++ q :: r)) = _
  unfold quoteF
  rcases hq with rfl | rfl
  · rw [if_pos (pre_one _ _), trim_one]
    by_cases hv : v.all xMay = true
    · rw [valQ_esc 39 (.inl rfl) v r hv, if_pos hv]; rfl
    · rw [valQ_bad 39 (.inl rfl) v _ (by simpa using hv), if_neg hv]; rfl
  · rw [if_neg (pre_no' (by decide)), want_one, bindOk]
    dsimp only
    by_cases hv : v.all xMay = true
    · rw [valQ_esc 34 (.inr rfl) v r hv, if_pos hv]; rfl
    · rw [valQ_bad 34 (.inr rfl) v _ (by simpa using hv), if_neg hv]; rfl
def attrsF (k : Nat) (al : Al) (a : Bool × Bs) : RR (Al × Bool) :=
    if Lib.hasPrefix a.2 [62] = true then .ok ((al, false), Lib.trimPrefix a.2 [62])
    else if Lib.hasPrefix a.2 [47, 62] = true then .ok ((al, true), Lib.trimPrefix a.2 [47, 62])
    else if a.1 = true then (attrR al a.2).bind fun x => attrsR k (al ++ [x.1]) x.2 else .error 100
theorem attrsR_F (k : Nat) (al : Al) (l : Bs) : attrsR (k + 1) al l = (layoutR l).bind (attrsF k al) := by rw [attrsR]; rfl
theorem attrs_one {k : Nat} {nm v r : Bs} {q : UInt8} {al : Al} (hn : NmOk nm = true) (hq : q = 39 ∨ q = 34) (hl : al.length < 16) (ha : al.any (fun a => decide (a.1 = nm)) = false) :
    attrsR (k + 1) al (32 :: (nm ++ 61 :: q :: (escX v ++ q :: r))) = if v.all xMay = true then attrsR k (al ++ [(nm, v)]) r else .error 103 := by
  have hh := attr_esc (v := v) (r := r) hn hq hl ha
  cases nm with
  | nil => cases hn
  | cons a t =>
    simp only [NmOk, Bool.and_eq_true, decide_eq_true_eq] at hn
    obtain ⟨hL, h62, h47, -, -⟩ := first_not_lay a hn.1.1
    rw [attrsR_F]
    show Except.bind (layoutR (32 :: a :: (t ++ 61 :: q :: (escX v ++ q :: r)))) _ = _
    rw [lay_one hL]
    show attrsF k al (true, (a :: t) ++ 61 :: q :: (escX v ++ q :: r)) = _
    unfold attrsF
    dsimp only
    have n1 : ¬ Lib.hasPrefix (a :: t ++ 61 :: q :: (escX v ++ q :: r)) [62] = true := pre_no' (Ne.symm h62)
    have n2 : ¬ Lib.hasPrefix (a :: t ++ 61 :: q :: (escX v ++ q :: r)) [47, 62] = true := pre_no' (Ne.symm h47)
    rw [if_neg n1, if_neg n2, if_pos rfl, hh]
    by_cases hv : v.all xMay = true
    · rw [if_pos hv, if_pos hv]; rfl
    · rw [if_neg hv, if_neg hv]; rfl
theorem attrs_end {k : Nat} {al : Al} {r : Bs} : attrsR (k + 1) al (62 :: r) = .ok ((al, false), r) := by
  rw [attrsR_F, lay_none (by decide)]
  show attrsF k al (false, 62 :: r) = _
  unfold attrsF
  dsimp only
  rw [if_pos (pre_one _ _), trim_one]
theorem attrs_slash {k : Nat} {al : Al} {r : Bs} : attrsR (k + 1) al (47 :: 62 :: r) = .ok ((al, true), r) := by
  rw [attrsR_F, lay_none (by decide)]
  show attrsF k al (false, 47 :: 62 :: r) = _
  unfold attrsF
  dsimp only
  rw [if_neg (pre_no' (by decide)), if_pos (by simp [Lib.hasPrefix, List.isPrefixOf])]
  simp [Lib.trimPrefix, Lib.hasPrefix, List.isPrefixOf]

/-! Starts, texts and ends. -/
def SX (r : Bs) (o : List Bs) (b : Bool) : XS := ⟨r, o, b, false⟩
theorem run_lt {k : Nat} {out l : Bs} {c : UInt8} (h1 : c ≠ 33) (h2 : c ≠ 63) : runR (k + 1) out (60 :: c :: l) = .ok (out, 60 :: c :: l) := by
  rw [runR_F, plain_stop (by decide)]
  show runF k out ([], 60 :: c :: l) = _
  unfold runF
  dsimp only
  rw [if_neg (pre_no' (by decide)), if_neg (by simp [cdataB, Lib.hasPrefix, List.isPrefixOf, Ne.symm h1]), if_neg (by simp [Lib.hasPrefix, List.isPrefixOf, Ne.symm h1]), if_neg (by simp [Lib.hasPrefix, List.isPrefixOf, Ne.symm h2]), if_neg (by simp [Lib.hasPrefix, List.isPrefixOf, Ne.symm h1]), List.append_nil]
def nextF (s : XS) (x : Bs × Bs) : Except Int (Pc × XS) :=
    if 0 < s.opn.length then
      if x.1 ≠ [] then .ok (⟨3, [], [], x.1⟩, { s with rest := x.2 })
      else if x.2 = [] then .error 100
      else nextT s x
    else if allLay x.1 = true then
      if x.2 = [] then if s.begun = true then .ok (⟨4, [], [], []⟩, { s with rest := [] }) else .error 100
      else nextT s x
    else .error 100
theorem nextR_F {s : XS} (h : s.short = false) : nextR s = (runR (s.rest.length + 1) [] s.rest).bind (nextF s) := nextR_eq h
theorem nextF_T {s : XS} {c : UInt8} {l : Bs} : nextF s ([], c :: l) = nextT s ([], c :: l) := by
  have h1 : ¬ (c :: l : Bs) = [] := by simp
  have h2 : allLay ([] : Bs) = true := rfl
  have h3 : ¬ ([] : Bs) ≠ [] := by simp
  unfold nextF
  dsimp only
  by_cases ho : 0 < s.opn.length
  · rw [if_pos ho, if_neg h3, if_neg h1]
  · rw [if_neg ho, if_pos h2, if_neg h1]
theorem next_lt {s : XS} {c : UInt8} {l : Bs} (hs : s.short = false) (hr : s.rest = 60 :: c :: l) (h1 : c ≠ 33) (h2 : c ≠ 63) : nextR s = nextT s ([], 60 :: c :: l) := by
  rw [nextR_F hs, hr, run_lt h1 h2]
  exact nextF_T
theorem next_start {o : List Bs} {b : Bool} {c : UInt8} {l : Bs} (h1 : c ≠ 33) (h2 : c ≠ 63) (h3 : c ≠ 47) : nextR (SX (60 :: c :: l) o b) = startR (SX (c :: l) o b) := by
  rw [next_lt rfl rfl h1 h2]
  unfold nextT
  rw [if_neg (by simp [Lib.hasPrefix, List.isPrefixOf, Ne.symm h3])]
  show Except.bind (wantR [60] (60 :: c :: l)) _ = _
  rw [want_one]
  rfl
theorem next_endX {o : List Bs} {b : Bool} {l : Bs} : nextR (SX (60 :: 47 :: l) o b) = endR (SX l o b) := by
  rw [next_lt rfl rfl (by decide) (by decide)]
  unfold nextT
  rw [if_pos (by simp [Lib.hasPrefix, List.isPrefixOf])]
  simp [Lib.trimPrefix, Lib.hasPrefix, List.isPrefixOf, SX]
def startP (nm : Bs) (al : Al) : Pc := ⟨1, nm, al, []⟩
def endP_ (nm : Bs) : Pc := ⟨2, nm, [], []⟩
def textP (t : Bs) : List Pc := if t = [] then [] else [⟨3, [], [], t⟩]
theorem start_is {nm r : Bs} {c : UInt8} {o : List Bs} {b : Bool} (hn : NmOk nm = true) (hc : xOf c = false) (ho : o.length < 16) (hb : 0 < o.length ∨ b = false) :
    nextR (SX (60 :: (nm ++ c :: r)) o b) = (attrsR ((c :: r).length + 1) [] (c :: r)).map fun a => (startP nm a.1.1, ⟨a.2, o ++ [nm], true, a.1.2⟩) := by
  have hnm := nameR_ok (r := r) hn hc
  cases nm with
  | nil => cases hn
  | cons a t =>
    have hn' := hn
    simp only [NmOk, Bool.and_eq_true, decide_eq_true_eq] at hn'
    obtain ⟨-, h62, h47, h33, h63⟩ := first_not_lay a hn'.1.1
    show nextR (SX (60 :: a :: (t ++ c :: r)) o b) = _
    rw [next_start h33 h63 h47]
    unfold startR
    show Except.bind (nameR (a :: t ++ c :: r)) _ = _
    rw [hnm]
    have hm : ∀ (A B C : Except Int (Pc × XS)), (if o.length < 16 then if 0 < o.length ∨ b = false then A else B else C) = A := fun A B C => by rw [if_pos ho, if_pos hb]
    exact hm _ _ _
/-- <nm> -/
theorem open_ {nm r : Bs} {o : List Bs} {b : Bool} (hn : NmOk nm = true) (ho : o.length < 16) (hb : 0 < o.length ∨ b = false) : Tells (SX (60 :: (nm ++ 62 :: r)) o b) [startP nm []] (SX r (o ++ [nm]) true) := by
  refine Tells.one ?_ (by intro h; cases h)
  rw [start_is hn (by decide) ho hb, attrs_end]
  rfl
/-- <nm a="v"> -/
theorem open1 {nm at_ v r : Bs} {q : UInt8} {o : List Bs} {b : Bool} (hn : NmOk nm = true) (ha : NmOk at_ = true) (hq : q = 39 ∨ q = 34) (ho : o.length < 16) (hb : 0 < o.length ∨ b = false) (hv : v.all xMay = true) :
    Tells (SX (60 :: (nm ++ 32 :: (at_ ++ 61 :: q :: (escX v ++ q :: 62 :: r)))) o b) [startP nm [(at_, v)]] (SX r (o ++ [nm]) true) := by
  refine Tells.one ?_ (by intro h; cases h)
  rw [start_is hn (by decide) ho hb, attrs_one ha hq (by simp) (by simp), if_pos hv]
  rw [show (32 :: (at_ ++ 61 :: q :: (escX v ++ q :: 62 :: r))).length = (at_ ++ 61 :: q :: (escX v ++ q :: 62 :: r)).length + 1 from rfl, attrs_end]
  rfl
theorem open1_bad {nm at_ v r : Bs} {q : UInt8} {o : List Bs} {b : Bool} (hn : NmOk nm = true) (ha : NmOk at_ = true) (hq : q = 39 ∨ q = 34) (ho : o.length < 16) (hb : 0 < o.length ∨ b = false) (hv : v.all xMay = false) :
    allS (SX (60 :: (nm ++ 32 :: (at_ ++ 61 :: q :: (escX v ++ q :: r)))) o b) = ([], 103) := by
  refine allS_err ?_
  rw [start_is hn (by decide) ho hb, attrs_one ha hq (by simp) (by simp), if_neg (by rw [hv]; decide)]
  rfl
/-- <nm a="v"/> -/
theorem empty1 {nm at_ v r : Bs} {q : UInt8} {o : List Bs} {b : Bool} (hn : NmOk nm = true) (ha : NmOk at_ = true) (hq : q = 39 ∨ q = 34) (ho : o.length < 16) (hb : 0 < o.length ∨ b = false) (hv : v.all xMay = true) :
    Tells (SX (60 :: (nm ++ 32 :: (at_ ++ 61 :: q :: (escX v ++ q :: 47 :: 62 :: r)))) o b) [startP nm [(at_, v)], endP_ nm] (SX r o true) := by
  have h1 : Tells (SX (60 :: (nm ++ 32 :: (at_ ++ 61 :: q :: (escX v ++ q :: 47 :: 62 :: r)))) o b) [startP nm [(at_, v)]] ⟨r, o ++ [nm], true, true⟩ := by
    refine Tells.one ?_ (by intro h; cases h)
    rw [start_is hn (by decide) ho hb, attrs_one ha hq (by simp) (by simp), if_pos hv]
    rw [show (32 :: (at_ ++ 61 :: q :: (escX v ++ q :: 47 :: 62 :: r))).length = (at_ ++ 61 :: q :: (escX v ++ q :: 47 :: 62 :: r)).length + 1 from rfl, attrs_slash]
    rfl
  refine h1.trans (Tells.one ?_ (by intro h; cases h))
  rw [nextR_short rfl]
  simp [leaveR, endP_, SX]
/-- <nm/> -/
theorem empty0 {nm r : Bs} {o : List Bs} {b : Bool} (hn : NmOk nm = true) (ho : o.length < 16) (hb : 0 < o.length ∨ b = false) : Tells (SX (60 :: (nm ++ 47 :: 62 :: r)) o b) [startP nm [], endP_ nm] (SX r o true) := by
  have h1 : Tells (SX (60 :: (nm ++ 47 :: 62 :: r)) o b) [startP nm []] ⟨r, o ++ [nm], true, true⟩ := by
    refine Tells.one ?_ (by intro h; cases h)
    rw [start_is hn (by decide) ho hb, attrs_slash]
    rfl
  refine h1.trans (Tells.one ?_ (by intro h; cases h))
  rw [nextR_short rfl]
  simp [leaveR, endP_, SX]
/-- </nm> -/
theorem close_ {nm r : Bs} {o : List Bs} (hn : NmOk nm = true) : Tells (SX (60 :: 47 :: (nm ++ 62 :: r)) (o ++ [nm]) true) [endP_ nm] (SX r o true) := by
  refine Tells.one ?_ (by intro h; cases h)
  rw [next_endX, endR_eq]
  show Except.bind (nameR (nm ++ 62 :: r)) _ = _
  rw [nameR_ok hn (by decide), bindOk]
  dsimp only
  rw [lay_none (by decide), bindOk]
  dsimp only
  rw [want_one, bindOk]
  show endRest _ nm = _
  unfold endRest
  rw [if_pos (by show (o ++ [nm]).getLast? = _; simp)]
  simp [leaveR, endP_, SX]
theorem allS_same {s s' : XS} (h : XOk s) (h' : XOk s') (hn : nextR s = nextR s') : allS s = allS s' := by
  cases hx : nextR s' with
  | error e => rw [allS_err (hn.trans hx), allS_err hx]
  | ok x =>
    by_cases h4 : x.1.kind = 4
    · rw [allS_done (p := x.1) (s' := x.2) (hn.trans hx) h4, allS_done (p := x.1) (s' := x.2) hx h4]
    · have a := (Tells.one (p := x.1) (s' := x.2) (hn.trans hx) h4 h).2
      have b := (Tells.one (p := x.1) (s' := x.2) hx h4 h').2
      rw [a, b]
/-- A text, up to where its run ends. -/
theorem text_ {T t l : Bs} {c : UInt8} {o : List Bs} (ho : 0 < o.length) (h : runR (T.length + 1) [] T = .ok (t, 60 :: c :: l)) (h1 : c ≠ 33) (h2 : c ≠ 63) : Tells (SX T o true) (textP t) (SX (60 :: c :: l) o true) := by
  have hlen := runR_len _ h
  by_cases ht : t = []
  · subst ht
    intro hk
    have hk' : XOk (SX (60 :: c :: l) o true) := ⟨Nat.le_trans hlen hk.rest, hk.opn, fun h => by cases h⟩
    refine ⟨hk', ?_⟩
    show _ = (_, _)
    refine allS_same hk hk' ?_
    rw [next_lt (s := SX (60 :: c :: l) o true) rfl rfl h1 h2, nextR_F rfl]
    show Except.bind (runR (T.length + 1) [] T) _ = _
    rw [h]
    show nextF _ ([], 60 :: c :: l) = _
    rw [nextF_T]
    rfl
  · unfold textP
    rw [if_neg ht]
    refine Tells.one ?_ (by intro h; cases h)
    rw [nextR_F rfl]
    show Except.bind (runR (T.length + 1) [] T) _ = _
    rw [h]
    show nextF (SX T o true) (t, 60 :: c :: l) = _
    unfold nextF
    dsimp only
    rw [if_pos (by exact ho), if_pos ht]
    rfl
theorem text_err {T : Bs} {o : List Bs} {e : Int} (h : runR (T.length + 1) [] T = .error e) : allS (SX T o true) = ([], e) := by
  refine allS_err ?_
  rw [nextR_eq rfl]
  show Except.bind (runR (T.length + 1) [] T) _ = _
  rw [h]
  rfl
theorem len_fuel (t r : Bs) : t.length ≤ (escX t ++ r).length := by have := (escX_len t).1; simp; omega
theorem text_close {nm t r : Bs} {o : List Bs} (hn : NmOk nm = true) (ht : t.all xMay = true) : Tells (SX (escX t ++ 60 :: 47 :: (nm ++ 62 :: r)) (o ++ [nm]) true) (textP t ++ [endP_ nm]) (SX r o true) := by
  obtain ⟨j, -, -, hj⟩ := run_esc t (k := (escX t ++ 60 :: 47 :: (nm ++ 62 :: r)).length) (out := []) (r := 60 :: 47 :: (nm ++ 62 :: r)) ht (len_fuel _ _)
  rw [run_lt (by decide) (by decide)] at hj
  rw [List.nil_append] at hj
  exact (text_ (o := o ++ [nm]) (by simp) hj (by decide) (by decide)).trans (close_ hn)
theorem text_bad {t r : Bs} {o : List Bs} (ht : t.all xMay = false) : allS (SX (escX t ++ r) o true) = ([], 103) :=
  text_err (run_bad t ht (len_fuel _ _))
theorem done_ : allS (SX [] [] true) = ([], 0) := by
  refine allS_done (p := ⟨4, [], [], []⟩) (s' := SX [] [] true) ?_ rfl
  first | rfl | kernel_rfl
end Go.Proofs.YtljldbdjkjllhaaGreatDoor

/- The texts of XmlpullEscapes and XmlpullQuiet, and what is told of them. -/
namespace Go.Proofs.YtljldbdjkjllhaaGreatDoor
set_option linter.unusedSimpArgs false
set_option linter.unusedVariables false
open Go.RowKit

theorem whole_ {l : Bs} {ps : List Pc} (hl : l.length ≤ 40000) (h : Tells (SX l [] false) ps (SX [] [] true)) : allX l = (ps, 0) := by
  rw [allX_short hl]
  obtain ⟨-, h2⟩ := h (ok0 hl)
  show allS (SX l [] false) = _
  rw [h2, done_, List.append_nil]
theorem part_ {l : Bs} {ps : List Pc} {s : XS} {e : Int} (hl : l.length ≤ 40000) (h : Tells (SX l [] false) ps s) (he : allS s = ([], e)) : allX l = (ps, e) := by
  rw [allX_short hl]
  obtain ⟨-, h2⟩ := h (ok0 hl)
  show allS (SX l [] false) = _
  rw [h2, he, List.append_nil]
/-! What is not seen. -/
end Go.Proofs.YtljldbdjkjllhaaGreatDoor

/- Documents of some elements: what All tells of them, and what the reader makes of that. -/
namespace Go.Proofs.YtljldbdjkjllhaaGreatDoor
set_option linter.unusedSimpArgs false
set_option linter.unusedVariables false
open Go.RowKit

/-- A part of a document: its bytes ahead of others, whether all in it may stand, what it tells, and what it tells ahead of what may not stand. -/
structure Sg where
  f : Bs → Bs
  good : Bool
  ps : List Pc
  pre : List Pc
def SgOk (o : List Bs) (g : Sg) : Prop := (g.good = true → ∀ R, Tells (SX (g.f R) o true) g.ps (SX R o true)) ∧ (g.good = false → ∀ R, ∃ s, Tells (SX (g.f R) o true) g.pre s ∧ allS s = ([], 103))
def segT (nm t : Bs) : Sg := ⟨fun R => 60 :: (nm ++ 62 :: (escX t ++ 60 :: 47 :: (nm ++ 62 :: R))), t.all xMay, startP nm [] :: (textP t ++ [endP_ nm]), [startP nm []]⟩
def segA (nm at_ v : Bs) : Sg := ⟨fun R => 60 :: (nm ++ 32 :: (at_ ++ 61 :: 34 :: (escX v ++ 34 :: 47 :: 62 :: R))), v.all xMay, [startP nm [(at_, v)], endP_ nm], []⟩
def segE (nm : Bs) : Sg := ⟨fun R => 60 :: (nm ++ 47 :: 62 :: R), true, [startP nm [], endP_ nm], []⟩
def segIn (nm : Bs) (g : Sg) : Sg := ⟨fun R => 60 :: (nm ++ 62 :: g.f (60 :: 47 :: (nm ++ 62 :: R))), g.good, startP nm [] :: (g.ps ++ [endP_ nm]), startP nm [] :: g.pre⟩
def segAt (nm at_ v : Bs) (g : Sg) : Sg := ⟨fun R => 60 :: (nm ++ 32 :: (at_ ++ 61 :: 34 :: (escX v ++ 34 :: 62 :: g.f (60 :: 47 :: (nm ++ 62 :: R))))), v.all xMay && g.good, startP nm [(at_, v)] :: (g.ps ++ [endP_ nm]), if v.all xMay = true then startP nm [(at_, v)] :: g.pre else []⟩
def seg2 (a b : Sg) : Sg := ⟨fun R => a.f (b.f R), a.good && b.good, a.ps ++ b.ps, if a.good = true then a.ps ++ b.pre else a.pre⟩
section
variable {o : List Bs} {nm at_ v t : Bs} {g a b : Sg}
theorem segT_ok (hn : NmOk nm = true) (h1 : 0 < o.length) (h2 : o.length < 16) : SgOk o (segT nm t) :=
  ⟨fun h R => (open_ hn h2 (.inl h1)).trans (text_close hn h), fun h R => ⟨_, open_ hn h2 (.inl h1), text_bad h⟩⟩
theorem segA_ok (hn : NmOk nm = true) (ha : NmOk at_ = true) (h1 : 0 < o.length) (h2 : o.length < 16) : SgOk o (segA nm at_ v) :=
  ⟨fun h R => empty1 hn ha (.inr rfl) h2 (.inl h1) h, fun h R => ⟨_, Tells.refl _, open1_bad hn ha (.inr rfl) h2 (.inl h1) h⟩⟩
theorem segE_ok (hn : NmOk nm = true) (h1 : 0 < o.length) (h2 : o.length < 16) : SgOk o (segE nm) :=
  ⟨fun h R => empty0 hn h2 (.inl h1), fun h R => by cases h⟩
theorem segIn_ok (hn : NmOk nm = true) (h1 : 0 < o.length) (h2 : o.length < 16) (hg : SgOk (o ++ [nm]) g) : SgOk o (segIn nm g) :=
  ⟨fun h R => (open_ hn h2 (.inl h1)).trans ((hg.1 h _).trans (close_ hn)), fun h R => by
    obtain ⟨s, hs, he⟩ := hg.2 h (60 :: 47 :: (nm ++ 62 :: R))
    exact ⟨s, (open_ hn h2 (.inl h1)).trans hs, he⟩⟩
theorem segAt_ok (hn : NmOk nm = true) (ha : NmOk at_ = true) (h1 : 0 < o.length) (h2 : o.length < 16) (hg : SgOk (o ++ [nm]) g) : SgOk o (segAt nm at_ v g) := by
  refine ⟨fun h R => ?_, fun h R => ?_⟩
  · have h : (v.all xMay && g.good) = true := h
    rw [Bool.and_eq_true] at h
    exact (open1 hn ha (.inr rfl) h2 (.inl h1) h.1).trans ((hg.1 h.2 _).trans (close_ hn))
  · have h : (v.all xMay && g.good) = false := h
    by_cases hv : v.all xMay = true
    · rw [hv, Bool.true_and] at h
      obtain ⟨s, hs, he⟩ := hg.2 h (60 :: 47 :: (nm ++ 62 :: R))
      refine ⟨s, ?_, he⟩
      show Tells _ (if v.all xMay = true then startP nm [(at_, v)] :: g.pre else []) s
      rw [if_pos hv]
      exact (open1 hn ha (.inr rfl) h2 (.inl h1) hv).trans hs
    · refine ⟨_, ?_, open1_bad (b := true) (r := 62 :: g.f (60 :: 47 :: (nm ++ 62 :: R))) hn ha (.inr rfl) h2 (.inl h1) (by simpa using hv)⟩
      show Tells _ (if v.all xMay = true then startP nm [(at_, v)] :: g.pre else []) _
      rw [if_neg hv]
      exact Tells.refl _
theorem seg2_ok (ha : SgOk o a) (hb : SgOk o b) : SgOk o (seg2 a b) := by
  refine ⟨fun h R => ?_, fun h R => ?_⟩
  · have h : (a.good && b.good) = true := h
    rw [Bool.and_eq_true] at h
    exact (ha.1 h.1 _).trans (hb.1 h.2 R)
  · have h : (a.good && b.good) = false := h
    by_cases hv : a.good = true
    · rw [hv, Bool.true_and] at h
      obtain ⟨s, hs, he⟩ := hb.2 h R
      refine ⟨s, ?_, he⟩
      show Tells _ (if a.good = true then a.ps ++ b.pre else a.pre) s
      rw [if_pos hv]
      exact (ha.1 hv _).trans hs
    · obtain ⟨s, hs, he⟩ := ha.2 (by simpa using hv) (b.f R)
      refine ⟨s, ?_, he⟩
      show Tells _ (if a.good = true then a.ps ++ b.pre else a.pre) s
      rw [if_neg hv]
      exact hs
def docN (nm : Bs) (g : Sg) : Bs := 60 :: (nm ++ 62 :: g.f (60 :: 47 :: (nm ++ 62 :: [])))
theorem doc_good (hn : NmOk nm = true) (hl : (docN nm g).length ≤ 40000) (hg : SgOk [nm] g) (h : g.good = true) : allX (docN nm g) = (startP nm [] :: (g.ps ++ [endP_ nm]), 0) :=
  whole_ hl ((open_ (o := []) hn (by simp) (.inr rfl)).trans ((hg.1 h _).trans (close_ (o := []) hn)))
theorem doc_bad (hn : NmOk nm = true) (hl : (docN nm g).length ≤ 40000) (hg : SgOk [nm] g) (h : g.good = false) : allX (docN nm g) = (startP nm [] :: g.pre, 103) := by
  obtain ⟨s, hs, he⟩ := hg.2 h (60 :: 47 :: (nm ++ 62 :: []))
  exact part_ hl ((open_ (o := []) hn (by simp) (.inr rfl)).trans hs) he
end
/-! What the reader makes of them. -/
def otherN : Bs := [111, 116, 104, 101, 114]
def noarchN : Bs := [110, 111, 97, 114, 99, 104]
def stkP : List (Kd × Bs) := [(.pa, []), (.md, []), (.top, [])]
def stkM : List (Kd × Bs) := [(.md, []), (.top, [])]
def SgRun (g : Sg) (a : Px → Px) : Prop := ∀ c got, runX g.ps ⟨stkP, some c, got⟩ = some (.go ⟨stkP, some (a c), got⟩) ∧ ∃ s', runX g.pre ⟨stkP, some c, got⟩ = some (.go s')
def setN (t : Bs) (c : Px) : Px := ⟨trimX t, c.ev, c.ar, c.rq⟩
def setA (t : Bs) (c : Px) : Px := ⟨c.nm, c.ev, trimX t, c.rq⟩
def setV (v : Bs) (c : Px) : Px := ⟨c.nm, verX [(verN, v)], c.ar, c.rq⟩
theorem run_T1 (t : Bs) : SgRun (segT nameN_ t) (setN t) := fun c got => by
  refine ⟨?_, _, rfl⟩
  cases t with
  | nil => rfl
  | cons x r => rfl
theorem run_T2 (t : Bs) : SgRun (segT archN_ t) (setA t) := fun c got => by
  refine ⟨?_, _, rfl⟩
  cases t with
  | nil => rfl
  | cons x r => rfl
theorem run_V (v : Bs) : SgRun (segA versN_ verN v) (setV v) := fun c got => ⟨rfl, _, rfl⟩
theorem run_O (t : Bs) : SgRun (segIn otherN (segT nameN_ t)) id := fun c got => by
  refine ⟨?_, _, rfl⟩
  cases t with
  | nil => rfl
  | cons x r => rfl
theorem run_2 {a b : Sg} {f g : Px → Px} (ha : SgRun a f) (hb : SgRun b g) : SgRun (seg2 a b) (fun c => g (f c)) := fun c got => by
  obtain ⟨h1, s1, h2⟩ := ha c got
  obtain ⟨h3, s3, h4⟩ := hb (f c) got
  refine ⟨?_, ?_⟩
  · show runX (a.ps ++ b.ps) _ = _
    rw [runX_app, h1]
    exact h3
  · show ∃ s', runX (if a.good = true then a.ps ++ b.pre else a.pre) _ = _
    split
    · refine ⟨s3, ?_⟩
      rw [runX_app, h1]
      exact h4
    · exact ⟨s1, h2⟩
/-- What Parse answers of a package alone. -/
def outX (c : Px) : Rx := if chkX c = 0 then .go ⟨[(.top, [])], none, [c]⟩ else .bad (chkX c)
def pkX (g : Sg) : Sg := segAt packN typeN rpmN g
theorem end_pa (c : Px) (hq : c.rq = none) (got : List Px) (hl : got.length < 200) : stepX ⟨stkP, some c, got⟩ (endP_ packN) = some (if chkX c = 0 then .go ⟨stkM, none, got ++ [c]⟩ else .bad (chkX c)) := by
  show (if (∀ d ∈ depsOf c.rq, Ev.checkN d = 0) then (if chkX c = 0 then (if got.length < 200 then some (Rx.go ⟨stkM, none, got ++ [c]⟩) else none) else some (.bad (chkX c))) else none) = _
  rw [if_pos (by rw [hq]; intro d hd; cases hd)]
  by_cases h : chkX c = 0
  · rw [if_pos h, if_pos h, if_pos hl]
  · rw [if_neg h, if_neg h]
theorem run_pk {g : Sg} {f : Px → Px} (hg : SgRun g f) (hq : (f px0).rq = none) (got : List Px) (hl : got.length < 200) (rest : List Pc) :
    runX ((pkX g).ps ++ rest) ⟨stkM, none, got⟩ = if chkX (f px0) = 0 then runX rest ⟨stkM, none, got ++ [f px0]⟩ else some (.bad (chkX (f px0))) := by
  have h1 : stepX ⟨stkM, none, got⟩ (startP packN [(typeN, rpmN)]) = some (.go ⟨stkP, some px0, got⟩) := by
    show (if got.length < 200 then some (Rx.go ⟨stkP, some px0, got⟩) else none) = _
    rw [if_pos hl]
  have e : (pkX g).ps ++ rest = startP packN [(typeN, rpmN)] :: (g.ps ++ (endP_ packN :: rest)) := by
    show startP packN [(typeN, rpmN)] :: (g.ps ++ [endP_ packN]) ++ rest = _
    simp
  rw [e, runX_go h1, runX_app, (hg px0 got).1]
  show runX (endP_ packN :: rest) ⟨stkP, some (f px0), got⟩ = _
  have h2 := end_pa (f px0) hq got hl
  by_cases h : chkX (f px0) = 0
  · rw [if_pos h] at h2 ⊢
    exact runX_go h2
  · rw [if_neg h] at h2 ⊢
    exact runX_bad h2
theorem run_pre_pk {g : Sg} {f : Px → Px} (hg : SgRun g f) (got : List Px) (hl : got.length < 200) : ∃ s', runX (pkX g).pre ⟨stkM, none, got⟩ = some (.go s') := by
  have h1 : stepX ⟨stkM, none, got⟩ (startP packN [(typeN, rpmN)]) = some (.go ⟨stkP, some px0, got⟩) := by
    show (if got.length < 200 then some (Rx.go ⟨stkP, some px0, got⟩) else none) = _
    rw [if_pos hl]
  obtain ⟨s', h2⟩ := (hg px0 got).2
  exact ⟨s', (runX_go h1).trans h2⟩
theorem run_md (ps : List Pc) : runX (startP metaN [] :: ps) ⟨[(.top, [])], none, []⟩ = runX ps ⟨stkM, none, []⟩ := rfl
/-- A document of one package. -/
theorem run_one {g : Sg} {f : Px → Px} (hg : SgRun g f) (hq : (f px0).rq = none) : runX (startP metaN [] :: ((pkX g).ps ++ [endP_ metaN])) ⟨[(.top, [])], none, []⟩ = some (outX (f px0)) := by
  rw [run_md, run_pk hg hq [] (by simp)]
  unfold outX
  by_cases h : chkX (f px0) = 0
  · rw [if_pos h, if_pos h]; rfl
  · rw [if_neg h, if_neg h]
end Go.Proofs.YtljldbdjkjllhaaGreatDoor
