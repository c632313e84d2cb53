/- A text that is escaped: the package's own. -/
import Derived.Test.YtoifibnmincodaaGreatDoorXesE
import Derived.Test.YtoifibnmincodaaGreatDoorXesW
import Derived.Deep.LoopGhost
namespace Go.Proofs.YtoifibnmincodaaGreatDoor
set_option linter.unusedSimpArgs false
set_option linter.unusedVariables false
open Go.RowKit

/-- A text that is escaped, up to a place. -/
theorem esc_take {l : Bs} {k : Nat} {c : UInt8} (h : l[k]? = some c) : escX (l.take (k + 1)) = escX (l.take k) ++ escB c := by
  rw [List.take_add_one, h, escX_app]
  show _ ++ (escB c ++ []) = _
  rw [List.append_nil]
theorem str_none {l : Bs} (h : l ≠ []) : ((mkS l).toList == ([] : List UInt8)) = false := by
  have h1 := str_ne (a := mkS l) (b := mkS []) (fun e => h (mkS_inj e))
  have h2 : (mkS []).toList = [] := by first | rfl | kernel_rfl | decide +kernel
  rw [h2] at h1
  exact h1
theorem esc_not (c : UInt8) : escN c ≠ some [] := by
  have h : ∀ c : UInt8, (escN c != some []) = true := all_u8 (p := fun c => (escN c != some []) = true) (by decide +kernel)
  have := h c
  simpa using this
theorem esc_ne {c : UInt8} {n : Bs} (h : escN c = some n) : n ≠ [] := fun e => esc_not c (by rw [h, e])
set_option maxHeartbeats 4000000 in
set_option maxRecDepth 100000 in
theorem escape_any (l : Bs) (hl : l.length ≤ 137438953472) {B : Nat} {w : World} (hE : XEnv B w) (hP : ∀ w', Below w.heap.size w w' → PowA w') :
    Calls Tryz.prog 10 #[.string (mkS l)] w fun e w' => e = .returned (.string (mkS (escX l))) ∧ Below w.heap.size w w' := by
  have CE := Lib.hid (fun c w' (hb : Below w.heap.size w w') => entityOf_any c (hE.below hb) (fun w'' hb' => hP w'' (hb.trans (hb'.mono hb.size))))
  have HB0 : Hid (Bld (w.alloc (.cells #[.pointer none, .slice none 0 0] 49)) w.heap.size w.heap.size [] [w.heap.size]) := Bld.new w
  have HBE0 : Hid (Below w.heap.size w (w.alloc (.cells #[.pointer none, .slice none 0 0] 49))) := (Below.refl _ _).alloc (Nat.le_refl _) _
  have HLN : Hid (∀ k : Nat, ∀ h : k < (mkS l).size, l[k]? = some (mkS l)[k]) := fun k h => byte_at (s := mkS l) h
  have HSZ : Hid (l.length = (mkS l).size) := rfl
  have HES := Lib.hid (fun k => (escX_len (l.take k)).2)
  have hz : (mkS l).size ≤ 137438953472 := by rw [mkS_size]; exact hl
  have HWHOLE : Hid (l.take (mkS l).size = l) := by show l.take _ = l; rw [mkS_size, List.take_length]
  clear hE hP hl
  generalize mkS l = S at *
  go_enter Tryz.func10, Tryz.ntmps10
  go_wp2_with fail
  go_loopg [4, 5, 6, 9] S.size (fun gk v4 v5 v6 v9 wx => ∃ (k : Nat) (F : List Nat), k + gk = S.size ∧ v9 = .int .i64 (k : Int) ∧ Hid (Bld wx w.heap.size w.heap.size (escX (l.take k)) F) ∧ Hid (Below w.heap.size w wx))
  case atStart => exact ⟨0, _, by omega, rfl, HB0, HBE0⟩
  case round =>
    obtain ⟨k, F, hkg, rfl, HB, HBE⟩ := hrel
    clear HB0 HBE0
    by_cases hlt : k < S.size
    · have hbyte := HLN.out k hlt
      have hstep := esc_take hbyte
      have C := Lib.hid (CE.out S[k] _ HBE.out)
      have hsz : (escX (l.take k)).length ≤ 6 * 137438953472 := by
        have h1 := HES.out k
        have h2 : (l.take k).length ≤ k := by simp; omega
        omega
      cases hn : escN S[k] with
      | none =>
        have hV : entV S[k] = .string ⟨#[]⟩ := by unfold entV; rw [hn]; rfl
        rw [escB_none hn] at hstep
        rw [hV] at C
        have HST := Lib.hid hstep
        have CW := Lib.hid (fun wy (hb : Below _ _ wy) => writeByte_any w.heap.size w.heap.size (escX (l.take k)) F S[k] wy (HB.out.below hb) (by omega))
        have HLT : Hid (∀ i ∈ F, w.heap.size ≤ i) := fun i hi => (HB.out.lt i hi).1
        clear hV hn hstep hbyte hsz
        go_wp2_with fail
        refine C.out.mono ?_
        rintro e w2 ⟨rfl, hb⟩
        have C2 := Lib.hid (CW.out w2 hb)
        have HBE2 := Lib.hid (HBE.out.trans (hb.mono HBE.out.size))
        clear hb C CW HBE
        go_wp2_with fail
        refine C2.out.mono ?_
        rintro e w3 ⟨rfl, F', hB', ht, -⟩
        have HB3 : Hid (Bld w3 w.heap.size w.heap.size (escX (l.take (k + 1))) F') := by show Bld _ _ _ _ _; rw [HST.out]; exact hB'
        have HBE3 := Lib.hid (HBE2.out.trans (ht.below HLT.out HBE2.out.size))
        clear hB' ht C2 HBE2 HB
        go_wp2_with fail
        go_roundg (gk - 1)
        case measure => omega
        case rel => exact ⟨k + 1, F', by omega, rfl, HB3, HBE3⟩
      | some n =>
        have hV : entV S[k] = .string (mkS n) := by unfold entV; rw [hn]; rfl
        have tn := str_none (esc_ne hn)
        have hn4 := (escN_some hn).len
        have hn4' := hn4
        rw [escB_some hn] at hstep
        rw [hV] at C
        have hcat : (⟨#[38]⟩ ++ mkS n ++ ⟨#[59]⟩ : ByteArray).data.toList = 38 :: (n ++ [59]) := by simp only [bl_app, mkS_list]; simp
        have HST := Lib.hid hstep
        have CW := Lib.hid (fun wy (hb : Below _ _ wy) => writeString_any w.heap.size w.heap.size (escX (l.take k)) F (⟨#[38]⟩ ++ mkS n ++ ⟨#[59]⟩) wy (HB.out.below hb) (by rw [← size_len, hcat]; simp; omega))
        unfold WrotePost at CW
        rw [hcat] at CW
        have HLT : Hid (∀ i ∈ F, w.heap.size ≤ i) := fun i hi => (HB.out.lt i hi).1
        clear hV hn hstep hbyte hsz hcat hn4
        have hez : (mkS n).size ≤ 4 := by rw [mkS_size]; exact hn4'
        clear hn4'
        generalize mkS n = E at *
        go_wp2_with fail
        refine C.out.mono ?_
        rintro e w2 ⟨rfl, hb⟩
        have C2 := Lib.hid (CW.out w2 hb)
        have HBE2 := Lib.hid (HBE.out.trans (hb.mono HBE.out.size))
        clear hb C CW HBE
        go_wp2_with fail
        refine C2.out.mono ?_
        rintro e w3 ⟨rfl, F', hB', ht, -⟩
        have HB3 : Hid (Bld w3 w.heap.size w.heap.size (escX (l.take (k + 1))) F') := by show Bld _ _ _ _ _; rw [HST.out]; exact hB'
        have HBE3 := Lib.hid (HBE2.out.trans (ht.below HLT.out HBE2.out.size))
        clear hB' ht C2 HBE2 HB
        go_wp2_with fail
        go_roundg (gk - 1)
        case measure => omega
        case rel => exact ⟨k + 1, F', by omega, rfl, HB3, HBE3⟩
    · have C := Lib.hid (string_any w.heap.size w.heap.size (escX (l.take k)) F _ HB.out HBE.out.size)
      have hk : k = S.size := by omega
      rw [hk, HWHOLE.out] at C
      have HBX := HBE
      clear CE HB HLN hk
      go_wp2_with fail
      refine C.out.mono ?_
      rintro e w2 ⟨rfl, hb⟩
      have HB3 := Lib.hid (HBX.out.trans hb)
      go_wp2_with fail
      go_ret
      exact ⟨rfl, HB3.out⟩
end Go.Proofs.YtoifibnmincodaaGreatDoor
