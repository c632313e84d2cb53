/- The walk of NamesPlays. -/
import Derived.Test.YtdgmpickjdbhlaaAsked
namespace Go.Proofs.Ytdgmpickjdbhlaa
open Go.RowKit

/-- A call that came in. -/
theorem op_cells {H : Type} {enc : TypeId × Value → H} {W : World} {cs : List Value} {di : DataW H} {fuel : Nat} {ps : List MemPlace} (hl : cs.length = Try.prog.cellsOf 30)
    (h : DataW.trod enc Try.prog W 0 (fun _ => true) true fuel 30 cs = some (di, ps)) :
    ∃ (kd : Int) (nm : ByteArray) (a b c : Int), cs = [.int .i64 kd, .string nm, .int .i64 a, .int .i64 b, .int .i64 c] ∧ nm.size ≤ maxLen := by
  have h5 : Try.prog.cellsOf 30 = 5 := by kernel_rfl
  have hf := fields_of Try.underlying30 (by kernel_rfl) (by rw [hl, h5]; rfl) h
  obtain ⟨u0, n0, y0, e0, t0⟩ := hf 0 _ rfl
  obtain ⟨u1, n1, y1, e1, t1⟩ := hf 1 _ rfl
  obtain ⟨u2, n2, y2, e2, t2⟩ := hf 2 _ rfl
  obtain ⟨u3, n3, y3, e3, t3⟩ := hf 3 _ rfl
  obtain ⟨u4, n4, y4, e4, t4⟩ := hf 4 _ rfl
  obtain ⟨z0, c0, _, _⟩ := DataW.trod_int Try.underlying3 t0
  obtain ⟨s, c1, _, hs⟩ := DataW.trod_string Try.underlying9 t1
  obtain ⟨z2, c2, _, _⟩ := DataW.trod_int Try.underlying3 t2
  obtain ⟨z3, c3, _, _⟩ := DataW.trod_int Try.underlying3 t3
  obtain ⟨z4, c4, _, _⟩ := DataW.trod_int Try.underlying3 t4
  simp at c0 c1 c2 c3 c4
  subst c0 c1 c2 c3 c4
  refine ⟨z0, s, z2, z3, z4, ?_, hs⟩
  rw [h5] at hl
  match cs, hl with
  | [v0, v1, v2, v3, v4], _ =>
    simp at e0 e1 e2 e3 e4
    subst e0 e1 e2 e3 e4
    rfl

set_option maxHeartbeats 4000000 in
set_option maxRecDepth 100000 in
theorem namesPlays_walk {H : Type} {enc : TypeId × Value → H} (W : World) {v0 : Value} {d0 : DataW H} (h0 : In enc Try.prog W 23 v0 d0)
    (_ : (DataW.weightsEach Try.prog [23] [d0]).all (· ≤ reachBytes) = true) :
    Calls Try.prog 4 #[v0] W (TrueBelow W) := by
  have h5 : Try.prog.cellsOf 30 = 5 := by kernel_rfl
  obtain ⟨A, n, c, rfl, hnc, hcm, _, hel⟩ := h0.slice Try.underlying23 (by rw [h5]; omega)
  have HE : Hid (∀ i, i < n → ∃ (b o : Nat) (kd : Int) (nm : ByteArray) (x y z : Int), A = some ⟨b, o, none⟩ ∧ b < W.heap.size ∧ nm.size ≤ maxLen ∧ W.cell? ⟨b, o + i * 5, none⟩ = some (.int .i64 kd) ∧ W.cell? ⟨b, o + i * 5 + 1, none⟩ = some (.string nm) ∧
      W.cell? ⟨b, o + i * 5 + 2, none⟩ = some (.int .i64 x) ∧ W.cell? ⟨b, o + i * 5 + 3, none⟩ = some (.int .i64 y) ∧ W.cell? ⟨b, o + i * 5 + 4, none⟩ = some (.int .i64 z)) := fun i hi => by
    obtain ⟨b, o, cs, di, fuel, ps, h1, h2, h3, h4, h6, _⟩ := hel i hi
    obtain ⟨kd, nm, x, y, z, rfl, hs⟩ := op_cells h3 h6
    rw [h5] at h4
    exact ⟨b, o, kd, nm, x, y, z, h1, h2, hs, h4 0 _ rfl, h4 1 _ rfl, h4 2 _ rfl, h4 3 _ rfl, h4 4 _ rfl⟩
  unfold maxLen at hcm
  clear h0 hel h5
  go_enter Try.func4, Try.ntmps4
  go_wp2_with fail
  refine (awake_any _).mono ?_
  rintro e w1 ⟨rfl, hb1⟩
  have hs1 := hb1.size
  have HB1 := Lib.hid hb1
  go_wp2_with fail
  refine (new_any _).mono ?_
  rintro e w2 ⟨bt, F, rfl, hT, hb2, hF⟩
  have hs2 := hb2.size
  have HT := Lib.hid hT
  have HB2 := Lib.hid hb2
  have HF := Lib.hid hF
  clear hT hF hb1 hb2
  go_wp2_with fail
  refine (rnew_any _).mono ?_
  rintro e w3 ⟨bm, G, rfl, hR, hb3, hG⟩
  have HK := Lib.hid (show Both w3 w1.heap.size bt bm [⟨#[]⟩] [] [⟨#[]⟩] [] F G from ⟨HT.out.turned (Turned.of_below hb3 []) (fun _ _ hk => by cases hk), hR, (Apart.new hG HT.out.lt).symm, HF.out, fun x hx => Nat.le_trans hs2 (hG x hx), Nat.le_trans hs2 hb3.size⟩)
  have HB3 := Lib.hid (HB2.out.trans (hb3.mono hs2))
  clear hR hG hb3 HT HF HB2
  go_wp2_with fail
  go_loopw [6] (fun i wr => ∃ (k : Nat) (l : List ByteArray) (r : List Cmp) (F' G' : List Nat), i = .int .i64 (k : Int) ∧ k ≤ n ∧ Hid (Both wr w1.heap.size bt bm l r l r F' G') ∧ Hid (Below w1.heap.size w1 wr)) (fun i _ => n - (intOf i).toNat)
  case atStart => exact ⟨0, _, _, _, _, rfl, by omega, HK.out, HB3.out⟩
  case round =>
    obtain ⟨k, l, r, F', G', rfl, hk, hK, hB⟩ := hrel
    by_cases hlt : k < n
    · have hlt' : (k : Int) < (n : Int) := by omega
      have hk0 : (0 : Int) ≤ (k : Int) := by omega
      obtain ⟨b, o, kd, nm, x, y, z, rfl, hb, hnm, c0, c1, c2, c3, c4⟩ := HE.out k hlt
      have hbl := HB1.out.block b hb
      have hbl2 := hB.out.block b (by omega)
      have g0 := (World.cell?_of_block hbl2).trans ((World.cell?_of_block hbl).trans c0)
      have g1 := (World.cell?_of_block hbl2).trans ((World.cell?_of_block hbl).trans c1)
      have g2 := (World.cell?_of_block hbl2).trans ((World.cell?_of_block hbl).trans c2)
      have g3 := (World.cell?_of_block hbl2).trans ((World.cell?_of_block hbl).trans c3)
      have g4 := (World.cell?_of_block hbl2).trans ((World.cell?_of_block hbl).trans c4)
      clear c0 c1 c2 c3 c4 hbl hbl2
      go_wp2_with fail
      refine (asked_any wr w1.heap.size bt bm l r F' G' kd x y z nm hnm hK.out).mono ?_
      rintro e w4 ⟨rfl, hb4, l4, r4, F4, G4, hK4⟩
      have K4 := Lib.hid hK4
      have B4 := Lib.hid (hB.out.trans hb4)
      obtain ⟨vn, vr, hR, _⟩ := id hK4.rtab
      obtain ⟨An, cn, rfl, hn1, hn2⟩ := own_form' hR.names
      obtain ⟨Ar, cr, rfl, hr1, hr2⟩ := own_form' hR.rels
      have d0 : w4.cell? ⟨bm, 0, none⟩ = some (.slice An l4.length cn) := hR.blk.cell 0
      have d1 : w4.cell? ⟨bm, 1, none⟩ = some (.slice Ar r4.length cr) := hR.blk.cell 1
      have CL := Lib.hid (fun q => len_any (w4.drewN q) F4 bt l4 r4 (hK4.tab.turned ((Turned.refl [] w4).drewN q) (fun _ _ hx => by cases hx)))
      have CR := Lib.hid (fun q => rels_any (w4.drewN q) F4 bt l4 r4 (hK4.tab.turned ((Turned.refl [] w4).drewN q) (fun _ _ hx => by cases hx)))
      clear hK4 hb4 hR hK hB g0 g1 g2 g3 g4
      go_wp2_with fail
      go_quiet ((first | (go_at_call 12; exact (CL.out _).mono fun _ _ ⟨h1, h2⟩ => ⟨h1, _, h2.symm⟩) | (go_at_call 13; exact (CR.out _).mono fun _ _ ⟨h1, h2⟩ => ⟨h1, _, h2.symm⟩)))
      go_wp2_with fail
      go_roundw
      case rel => go_light; exact ⟨k + 1, _, _, _, _, by go_num, by omega, K4.out.below (below_drewN' (Below.refl _ _) _), below_drewN' B4.out _⟩
      case measure => go_light; simp only [intOf]; omega
    · have hlt' : ¬ (k : Int) < (n : Int) := by omega
      go_wp2_with fail
      go_ret
      exact ⟨rfl, HB1.out.trans (hB.out.mono hs1)⟩
end Go.Proofs.Ytdgmpickjdbhlaa
