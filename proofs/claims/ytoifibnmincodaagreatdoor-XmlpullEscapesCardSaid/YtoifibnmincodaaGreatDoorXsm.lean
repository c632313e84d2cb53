/- Whether two lists of pieces are the same: the reference's Same. -/
import Derived.Test.YtoifibnmincodaaGreatDoorXal
import Derived.Test.YtoifibnmincodaaGreatDoorXeq
import Derived.Deep.QuietTactic
namespace Go.Proofs.YtoifibnmincodaaGreatDoor
set_option linter.unusedSimpArgs false
set_option linter.unusedVariables false
open Go.RowKit

def AlR (w : World) (A : Option Addr) (al : Al) : Prop := ∀ j a, al[j]? = some a → ∃ b o, A = some ⟨b, o, none⟩ ∧ w.cell? ⟨b, o + j * 2, none⟩ = some (.string (mkS a.1)) ∧ w.cell? ⟨b, o + j * 2 + 1, none⟩ = some (.string (mkS a.2))
def PcsR (w : World) (A : Option Addr) (ps : List Pc) : Prop := ∀ k pc, ps[k]? = some pc → ∃ b o A' c', A = some ⟨b, o, none⟩ ∧ w.cell? ⟨b, o + k * 4, none⟩ = some (.int .i64 pc.kind) ∧ w.cell? ⟨b, o + k * 4 + 1, none⟩ = some (.string (mkS pc.name)) ∧ w.cell? ⟨b, o + k * 4 + 2, none⟩ = some (.slice A' pc.attrs.length c') ∧ w.cell? ⟨b, o + k * 4 + 3, none⟩ = some (.string (mkS pc.text)) ∧ pc.attrs.length ≤ c' ∧ c' ≤ maxLen ∧ AlR w A' pc.attrs
theorem AlK.rd {w : World} {A : Option Addr} {al : Al} (h : AlK w A al) : AlR w A al := fun j a hj => by
  have hl : 0 < al.length := by have := (List.getElem?_eq_some_iff.1 hj).1; omega
  obtain ⟨b, cs, rfl, hb, hp⟩ := h hl
  exact ⟨b, 0, rfl, hp j a hj⟩
theorem cell_below {w w' : World} (hb : Below w.heap.size w w') {a : Addr} {v : Value} (h : w.cell? a = some v) : w'.cell? a = some v := (World.cell?_of_block (hb.block a.block (cell_lt h))).trans h
theorem AlR.below {w w' : World} {A : Option Addr} {al : Al} (h : AlR w A al) (hb : Below w.heap.size w w') : AlR w' A al := fun j a hj => by
  obtain ⟨b, o, e, h1, h2⟩ := h j a hj
  exact ⟨b, o, e, cell_below hb h1, cell_below hb h2⟩
theorem PcsR.below {w w' : World} {A : Option Addr} {ps : List Pc} (h : PcsR w A ps) (hb : Below w.heap.size w w') : PcsR w' A ps := fun k pc hk => by
  obtain ⟨b, o, A', c', e, h1, h2, h3, h4, h5, h6, h7⟩ := h k pc hk
  exact ⟨b, o, A', c', e, cell_below hb h1, cell_below hb h2, cell_below hb h3, cell_below hb h4, h5, h6, h7.below hb⟩
theorem pcs_eq {p q : Pc} : p = q ↔ p.kind = q.kind ∧ p.name = q.name ∧ p.text = q.text ∧ p.attrs = q.attrs := by
  obtain ⟨a, b, c, d⟩ := p
  obtain ⟨e, f, g, h⟩ := q
  simp
  intro _ _
  exact And.comm
theorem take_eq {α : Type} {l m : List α} {k : Nat} {a b : α} (h : l.take k = m.take k) (ha : l[k]? = some a) (hb : m[k]? = some b) (e : a = b) : l.take (k + 1) = m.take (k + 1) := by
  rw [List.take_add_one, List.take_add_one, h, ha, hb, e]
theorem get_ne {α : Type} {l m : List α} {k : Nat} {a b : α} (ha : l[k]? = some a) (hb : m[k]? = some b) (e : a ≠ b) : l ≠ m := fun h => by
  rw [h, hb] at ha; injection ha with ha; exact e ha.symm
set_option maxHeartbeats 16000000 in
set_option maxRecDepth 1000000 in
theorem same_pcs (w : World) (A B : Option Addr) (ps qs : List Pc) (ca cb : Nat) (hA : PcsR w A ps) (hB : PcsR w B qs) (hca : ps.length ≤ ca) (hcb : qs.length ≤ cb) (hma : ca ≤ maxLen) (hmb : cb ≤ maxLen) :
    Calls Tryz.prog 11 #[.slice A ps.length ca, .slice B qs.length cb] w fun e w' => (∃ r, e = .returned (.bool r) ∧ (r = true ↔ ps = qs)) ∧ Below w.heap.size w w' := by
  unfold maxLen at hma hmb
  by_cases hl : ps.length = qs.length
  rotate_left
  · have t1 : ((ps.length : Int) != (qs.length : Int)) = true := by simp; omega
    have HV : Hid (¬ ps = qs) := fun h => hl (by rw [h])
    clear hA hB hl
    generalize ps.length = la at *
    generalize qs.length = lb at *
    go_enter Tryz.func11, Tryz.ntmps11
    go_wp2_with fail
    go_ret
    exact ⟨⟨false, rfl, ⟨fun h => (by cases h), fun h => absurd h HV.out⟩⟩, Below.refl _ _⟩
  have t1 : ((ps.length : Int) != (qs.length : Int)) = false := by simp [hl]
  have HA := Lib.hid hA
  have HB := Lib.hid hB
  have HLQ := Lib.hid hl
  obtain ⟨n, hn⟩ : ∃ n, n = ps.length := ⟨_, rfl⟩
  have HN := Lib.hid hn
  rw [← hl, ← hn] at hcb
  rw [← hn] at hca
  rw [← hl, ← hn]
  clear hA hB hl t1 hn
  have t1 : ((n : Int) != (n : Int)) = false := by simp
  go_enter Tryz.func11, Tryz.ntmps11
  go_wp2_with fail
  go_loopg [5, 6] (n + 1) (fun gk v5 v6 wx => ∃ i : Nat, i + gk = n + 1 ∧ i ≤ n ∧ v5 = .int .i64 (i : Int) ∧ Hid (Below w.heap.size w wx) ∧ Hid (ps.take i = qs.take i))
  case atStart => exact ⟨0, by omega, by omega, rfl, Below.refl _ _, rfl⟩
  case round =>
    obtain ⟨i, hig, hin, rfl, HBX, hT⟩ := hrel
    by_cases hlt : i < n
    · obtain ⟨p, hp⟩ : ∃ p, ps[i]? = some p := ⟨_, List.getElem?_eq_getElem (by rw [← HN.out]; exact hlt)⟩
      obtain ⟨q, hq⟩ : ∃ q, qs[i]? = some q := ⟨_, List.getElem?_eq_getElem (by rw [← HLQ.out, ← HN.out]; exact hlt)⟩
      obtain ⟨ba, oa, Aa, cca, rfl, ka, na, aa, ta, hla, hma2, hra⟩ := HA.out.below HBX.out i p hp
      obtain ⟨bb, ob, Ab, ccb, rfl, kb, nb, ab, tb, hlb, hmb2, hrb⟩ := HB.out.below HBX.out i q hq
      unfold maxLen at hma2 hmb2
      have HNE := Lib.hid (fun h => get_ne hp hq h)
      have HEQ := Lib.hid (fun h => take_eq hT.out hp hq h)
      have hi0 : (0 : Int) ≤ (i : Int) := by omega
      have hi1 : (i : Int) < (n : Int) := by omega
      by_cases h1 : p.kind = q.kind
      rotate_left
      · have t2 : (p.kind != q.kind) = true := by simp [h1]
        have HV : Hid (¬ ps = qs) := HNE.out (fun h => h1 (by rw [h]))
        clear h1 HNE HEQ hp hq hT hra hrb
        generalize p.kind = pk at *
        generalize q.kind = qk at *
        go_upto_region 6 with fail
        go_quiet (fail)
        go_wp2_with fail
        go_ret
        exact ⟨⟨false, rfl, ⟨fun h => (by cases h), fun h => absurd h HV.out⟩⟩, below_drewN' HBX.out _⟩
      have t2 : (p.kind != q.kind) = false := by simp [h1]
      by_cases h2 : p.name = q.name
      rotate_left
      · have t3 : ((mkS p.name).toList == (mkS q.name).toList) = false := str_ne (fun e => h2 (mkS_inj e))
        have HV : Hid (¬ ps = qs) := HNE.out (fun h => h2 (by rw [h]))
        clear h1 h2 HNE HEQ hp hq hT hra hrb
        generalize p.kind = pk at *
        generalize q.kind = qk at *
        go_upto_region 6 with fail
        go_quiet (fail)
        go_wp2_with fail
        go_ret
        exact ⟨⟨false, rfl, ⟨fun h => (by cases h), fun h => absurd h HV.out⟩⟩, below_drewN' HBX.out _⟩
      have t3 : ((mkS p.name).toList == (mkS q.name).toList) = true := by rw [h2]; simp
      by_cases h3 : p.text = q.text
      rotate_left
      · have t4 : ((mkS p.text).toList == (mkS q.text).toList) = false := str_ne (fun e => h3 (mkS_inj e))
        have HV : Hid (¬ ps = qs) := HNE.out (fun h => h3 (by rw [h]))
        clear h1 h2 h3 HNE HEQ hp hq hT hra hrb
        generalize p.kind = pk at *
        generalize q.kind = qk at *
        go_upto_region 6 with fail
        go_quiet (fail)
        go_wp2_with fail
        go_ret
        exact ⟨⟨false, rfl, ⟨fun h => (by cases h), fun h => absurd h HV.out⟩⟩, below_drewN' HBX.out _⟩
      have t4 : ((mkS p.text).toList == (mkS q.text).toList) = true := by rw [h3]; simp
      by_cases h4 : p.attrs.length = q.attrs.length
      rotate_left
      · have t5 : ((p.attrs.length : Int) != (q.attrs.length : Int)) = true := by simp; omega
        have HV : Hid (¬ ps = qs) := HNE.out (fun h => h4 (by rw [h]))
        clear h1 h2 h3 h4 HNE HEQ hp hq hT hra hrb
        generalize p.attrs.length = la at *
        generalize q.attrs.length = lb at *
        generalize p.kind = pk at *
        generalize q.kind = qk at *
        go_upto_region 6 with fail
        go_quiet (fail)
        go_wp2_with fail
        go_ret
        exact ⟨⟨false, rfl, ⟨fun h => (by cases h), fun h => absurd h HV.out⟩⟩, below_drewN' HBX.out _⟩
      have t5 : ((p.attrs.length : Int) != (q.attrs.length : Int)) = false := by simp [h4]
      have HRA := Lib.hid hra
      have HRB := Lib.hid hrb
      have HPQ : Hid (p.attrs = q.attrs → p = q) := fun h => pcs_eq.2 ⟨h1, h2, h3, h⟩
      have HPN : Hid (p.attrs ≠ q.attrs → p ≠ q) := fun h e => h (by rw [e])
      obtain ⟨m, hm⟩ : ∃ m, m = p.attrs.length := ⟨_, rfl⟩
      have HM1 := Lib.hid hm
      have HM2 := Lib.hid (hm.trans h4)
      rw [← h4, ← hm] at t5 ab hlb
      rw [← hm] at aa hla
      clear h1 h2 h3 h4 hp hq hT hra hrb hm
      generalize p.kind = pk at *
      generalize q.kind = qk at *
      go_upto_region 6 with fail
      go_quiet (fail)
      go_wp2_with fail
      obtain ⟨G, hG⟩ : ∃ G, G = gk := ⟨_, rfl⟩
      go_loopg [6] (m + 1) (fun gj v6 wx => ∃ j : Nat, j + gj = m + 1 ∧ j ≤ m ∧ v6 = .int .i64 (j : Int) ∧ Hid (Below wr.heap.size wr wx) ∧ Hid (p.attrs.take j = q.attrs.take j))
      case atStart => exact ⟨0, by omega, by omega, rfl, below_drewN' (Below.refl _ _) _, rfl⟩
      case round =>
        obtain ⟨j, hjg, hjm, rfl, HBY, hTj⟩ := hrel
        by_cases hjl : j < m
        · obtain ⟨x, hx⟩ : ∃ x, p.attrs[j]? = some x := ⟨_, List.getElem?_eq_getElem (by rw [← HM1.out]; exact hjl)⟩
          obtain ⟨y, hy⟩ : ∃ y, q.attrs[j]? = some y := ⟨_, List.getElem?_eq_getElem (by rw [← HM2.out]; exact hjl)⟩
          obtain ⟨xb, xo, rfl, x0, x1⟩ := HRA.out.below HBY.out j x hx
          obtain ⟨yb, yo, rfl, y0, y1⟩ := HRB.out.below HBY.out j y hy
          have z2 := cell_below HBY.out aa
          have z3 := cell_below HBY.out ab
          have hj0 : (0 : Int) ≤ (j : Int) := by omega
          have hj1 : (j : Int) < (m : Int) := by omega
          have he := eqlA (mkS x.1) (mkS x.2) (mkS y.1) (mkS y.2)
          have HXE := Lib.hid (fun h => take_eq hTj.out hx hy h)
          have HXN := Lib.hid (fun h => get_ne hx hy h)
          by_cases hxy : x = y
          · have hd : (decide (mkS x.1 = mkS y.1) && decide (mkS x.2 = mkS y.2)) = true := by rw [hxy]; simp
            rw [hd] at he
            have HN2 := Lib.hid (HXE.out hxy)
            clear hxy hd HXE HXN hx hy hTj
            go_upto_region 11 with fail
            go_quiet (fail)
            go_wp2_with fail
            go_roundg (gk - 1)
            case measure => omega
            case rel => exact ⟨j + 1, by omega, by omega, by go_num, below_drewN' HBY.out _, HN2⟩
          · have hd : (decide (mkS x.1 = mkS y.1) && decide (mkS x.2 = mkS y.2)) = false := by
              cases h : (decide (mkS x.1 = mkS y.1) && decide (mkS x.2 = mkS y.2)) with
              | false => rfl
              | true =>
                simp only [Bool.and_eq_true, decide_eq_true_eq] at h
                exact absurd (Prod.ext (mkS_inj h.1) (mkS_inj h.2)) hxy
            rw [hd] at he
            have HV : Hid (¬ ps = qs) := HNE.out (HPN.out (HXN.out hxy))
            clear hxy hd HXE HXN hx hy hTj
            go_upto_region 11 with fail
            go_quiet (fail)
            go_wp2_with fail
            go_ret
            exact ⟨⟨false, rfl, ⟨fun h => (by cases h), fun h => absurd h HV.out⟩⟩, below_drewN' (HBX.out.trans (HBY.out.mono HBX.out.size)) _⟩
        · have HAE : Hid (p.attrs = q.attrs) := by
            have h := hTj.out
            have e1 : p.attrs.length = m := HM1.out.symm
            have e2 : q.attrs.length = m := HM2.out.symm
            rw [List.take_of_length_le (by omega), List.take_of_length_le (by omega)] at h
            exact h
          have HN3 := Lib.hid (HEQ.out (HPQ.out HAE.out))
          clear hTj
          have hjn : ¬ (j : Int) < (m : Int) := by omega
          have z2 := cell_below HBY.out aa
          go_wp2_with fail
          go_roundg (G - 1)
          case measure => omega
          case rel => exact ⟨i + 1, by omega, by omega, by go_num, HBX.out.trans (HBY.out.mono HBX.out.size), HN3⟩
    · have HV : Hid (ps = qs) := by
        have h := hT.out
        have e1 : ps.length = n := HN.out.symm
        have e2 : qs.length = n := by rw [← HLQ.out]; exact e1
        rw [List.take_of_length_le (by omega), List.take_of_length_le (by omega)] at h
        exact h
      clear hT
      go_wp2_with fail
      go_ret
      exact ⟨⟨true, rfl, ⟨fun _ => HV.out, fun _ => rfl⟩⟩, HBX.out⟩
end Go.Proofs.YtoifibnmincodaaGreatDoor
