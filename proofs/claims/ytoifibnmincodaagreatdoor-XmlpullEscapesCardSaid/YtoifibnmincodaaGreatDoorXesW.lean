/- A byte that is written to a builder. -/
import Derived.Test.YtoifibnmincodaaGreatDoorBld
namespace Go.Proofs.YtoifibnmincodaaGreatDoor
set_option linter.unusedSimpArgs false
set_option linter.unusedVariables false
open Go.RowKit

set_option maxHeartbeats 2000000 in
set_option maxRecDepth 100000 in
theorem writeByte_any (B b : Nat) (l : List UInt8) (F : List Nat) (c : UInt8) (w : World) (h : Bld w B b l F) (hlen : l.length + 1 ≤ 1099511627776) :
    Calls Tryz.prog 19 #[.pointer (some ⟨b, 0, none⟩), .int .u8 (c.toNat : Int)] w fun e w' => e = .returned .nilIface ∧ ∃ F', Bld w' B b (l ++ [c]) F' ∧ Turned F w w' ∧ Fresh w F F' := by
  have hBb : B ≤ b := by obtain ⟨_, _, _, _, _, hB, _⟩ := h; exact hB
  have C := Lib.hid (copyCheck_any B b l F w h)
  obtain ⟨i0, hi, hz0, hz1, hz2⟩ := info_parts Tryz.Builder_Extra_169.infoByte
  have hi' : Tryz.prog.info? 5 = some i0 := hi
  clear hi h
  obtain ⟨x, hx⟩ : ∃ x : Int, x = (c.toNat : Int) := ⟨_, rfl⟩
  have HX := Lib.hid hx
  rw [← hx]
  clear hx
  go_enter Tryz.func19, Tryz.ntmps19
  go_wp2_with fail
  refine C.out.mono ?_
  rintro e w1 ⟨rfl, ht1, v, hb, hown, hF⟩
  have hne : v.ownBlock ≠ some b := own_kind hown hb (by decide)
  have c1 := hb.cell 1
  simp at c1
  have HF := Lib.hid hF
  have HT := Lib.hid ht1
  have HB := Lib.hid hb
  clear hF ht1 C
  have hlt := hb.lt
  clear hb
  have hownA := hown.alloc (.cells #[.int .u8 x] 5)
  have HO := Lib.hid hownA
  have HCN := Lib.hid (cell_one_new w1 (.int .u8 x) 5)
  have hlen' : (l.length : Int) + 1 ≤ 1099511627776 := by omega
  clear hownA
  go_wp2_with (at_builtin; refine wpList_append_own_at _ rfl (.tmp 11) (.tmp 13) 47 rfl B 5 i0 (.int .u8 0) 1 1 Tryz.underlying47 hi' hz0 hz1 hz2 rfl (by decide) v l.length (Lib.byteCells l) rfl HO.out ⟨w1.heap.size, 0, none⟩ 1 1 [.int .u8 x] rfl rfl HCN.out (by intro u hu; simp at hu; subst hu; rfl) (by unfold maxLen; omega) (by omega) (by simp; omega) ?_)
  intro v' w2 hown' hgrow hnil hown2
  have hb1 : Blk (w1.alloc (.cells #[.int .u8 x] 5)) b 49 #[.pointer (some ⟨b, 0, none⟩), v] := HB.out.alloc _
  have hb2 : Blk w2 b 49 #[.pointer (some ⟨b, 0, none⟩), v] := hb1.grown hgrow (Ne.symm hne)
  have d0 := hb2.cell 0
  have d1 := hb2.cell 1
  have f1 := hb2.free 1
  simp at d0 d1
  obtain ⟨ao, n', cap, rfl⟩ : ∃ ao n' cap, v' = .slice ao n' cap := by
    rcases hown'.2 with ⟨hv, _⟩ | ⟨g, cap, cur, hv, _⟩
    · exact ⟨_, _, _, hv⟩
    · exact ⟨_, _, _, hv⟩
  have HP : Hid (∃ F', Bld (w2.setCell ⟨b, 1, none⟩ (.slice ao n' cap)) B b (l ++ [c]) F' ∧ Turned F w (w2.setCell ⟨b, 1, none⟩ (.slice ao n' cap)) ∧ Fresh w F F') := by
    have hn2 : (Value.slice ao n' cap).ownBlock ≠ some b := own_kind hown' hb2 (by decide)
    have ho2 : w2.ownsRow B 5 1 (.slice ao n' cap) (l ++ [c]).length (Lib.byteCells (l ++ [c])) := by
      rw [byteCells_append, List.length_append, show Lib.byteCells [c] = [.int .u8 (c.toNat : Int)] from rfl, ← HX.out]
      exact hown'
    have ht1 : Turned F w (w1.alloc (.cells #[.int .u8 x] 5)) := HT.out.alloc _
    refine ⟨b :: (Value.slice ao n' cap).ownBlock.toList, ⟨_, _, .inr rfl, hb2.set_ 1 _, own_setCell ho2 hn2 _, hBb, rfl⟩, ?_, ?_⟩
    · rw [HF.out] at ht1 ⊢
      have ht2 : Turned (b :: v.ownBlock.toList) w w2 := ht1.grown hgrow (fun k hk => .inl (by simp [hk]))
      exact ht2.setCell (.inl (by simp)) _
    · rw [HF.out]
      intro k hk
      rcases List.mem_cons.1 hk with rfl | hk
      · exact .inl (by simp)
      · have hk' : (Value.slice ao n' cap).ownBlock = some k := by simpa using hk
        rcases hown2 with h | h
        · rw [h] at hk'; exact .inl (by simp [hk'])
        · rw [h] at hk'
          injection hk' with hk'
          subst hk'
          exact .inr (by have := ht1.size; simpa using this)
  clear hown' hgrow hown2 hb2 hb1 HB HF HT hown HO
  go_wp2_with fail
  go_ret
  exact ⟨rfl, HP.out⟩
end Go.Proofs.YtoifibnmincodaaGreatDoor
