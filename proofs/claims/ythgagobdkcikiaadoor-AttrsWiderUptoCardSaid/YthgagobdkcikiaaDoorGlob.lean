/- The contract of glob. -/
import Derived.Test.YthgagobdkcikiaaDoorGlobM
import Derived.Test.YthgagobdkcikiaaDoorStr
import Derived.Deep.LoopGhost
namespace Go.Proofs.YthgagobdkcikiaaDoor
set_option linter.unusedSimpArgs false
set_option linter.unusedVariables false
open Go.RowKit

theorem occ_one {s : List UInt8} {c : UInt8} {j : Nat} : Lib.occAt s [c] j = true ↔ s[j]? = some c := by
  unfold Lib.occAt
  have h : (s.drop j)[0]? = s[j]? := by simp
  rw [← h]
  cases s.drop j with
  | nil => simp
  | cons x xs =>
    simp only [List.isPrefixOf, Bool.and_true, beq_iff_eq, List.getElem?_cons_zero, Option.some.injEq]
    exact eq_comm
theorem cut_star (l : List UInt8) (c : UInt8) : (Lib.cut l [c] = (l, [], false) ∧ ∀ x, x ∈ l → x ≠ c) ∨ ∃ a b, Lib.cut l [c] = (a, b, true) ∧ l = a ++ c :: b ∧ ∀ x, x ∈ a → x ≠ c := by
  rcases Lib.index_spec l [c] with ⟨h1, h2⟩ | ⟨i, h1, h2, h3, h4⟩
  · left
    refine ⟨by unfold Lib.cut; rw [h1]; rfl, fun x hx e => ?_⟩
    subst e
    obtain ⟨j, hj⟩ := List.mem_iff_getElem?.1 hx
    have := h2 j (Nat.le_of_lt (List.getElem?_eq_some_iff.1 hj).1)
    rw [occ_one.2 hj] at this
    cases this
  · right
    have h5 := occ_one.1 h3
    have hlt := (List.getElem?_eq_some_iff.1 h5).1
    refine ⟨l.take i, l.drop (i + 1), ?_, ?_, ?_⟩
    · unfold Lib.cut
      rw [h1, if_pos (by omega)]
      simp
    · rw [List.getElem?_eq_getElem hlt] at h5
      injection h5 with h5
      rw [← h5, List.getElem_cons_drop hlt]
      exact (List.take_append_drop i l).symm
    · intro x hx e
      subst e
      obtain ⟨j, hj⟩ := List.mem_iff_getElem?.1 hx
      have hj' := (List.getElem?_eq_some_iff.1 hj).1
      rw [List.length_take] at hj'
      rw [List.getElem?_take, if_pos (by omega)] at hj
      have := h4 j (by omega)
      rw [occ_one.2 hj] at this
      cases this
theorem mkS_mk (s : ByteArray) : (⟨s.data.toList.toArray⟩ : ByteArray) = s := by
  obtain ⟨⟨l⟩⟩ := s; rfl

section
variable {A q t : List UInt8} {ans : Bool}
theorem fail1 (hno : ∀ x, x ∈ A → x ≠ 42) (h : ans = gmF true A t) (hf : ∀ j : Nat, max 0 ((t.length : Int) - A.length) ≤ j → (j : Int) ≤ min 0 ((t.length : Int) - A.length) → pm A (t.drop j) = false) : ans = false := by
  rw [h, gmF_last_first hno]
  by_cases e : t.length = A.length
  · have := hf 0 (by omega) (by omega)
    rw [List.drop_zero] at this
    rw [this]; rfl
  · rw [decide_eq_false e, Bool.and_false]
theorem hit1 (hno : ∀ x, x ∈ A → x ≠ 42) (h : ans = gmF true A t) {f : Nat} (h1 : max 0 ((t.length : Int) - A.length) ≤ f) (h2 : (f : Int) ≤ min 0 ((t.length : Int) - A.length)) (hp : pm A (t.drop f) = true) : ans = true := by
  obtain rfl : f = 0 := by omega
  rw [List.drop_zero] at hp
  rw [h, gmF_last_first hno, hp, decide_eq_true (by omega)]; rfl
theorem fail2 (hno : ∀ x, x ∈ A → x ≠ 42) (h : ans = gmF false A t) (hf : ∀ j : Nat, max 0 ((t.length : Int) - A.length) ≤ j → (j : Int) ≤ (t.length : Int) - A.length → pm A (t.drop j) = false) : ans = false := by
  rw [h, gmF_last hno]
  by_cases e : A.length ≤ t.length
  · rw [hf (t.length - A.length) (by omega) (by omega), Bool.and_false]
  · rw [decide_eq_false e, Bool.false_and]
theorem hit2 (hno : ∀ x, x ∈ A → x ≠ 42) (h : ans = gmF false A t) {f : Nat} (h1 : max 0 ((t.length : Int) - A.length) ≤ f) (h2 : (f : Int) ≤ (t.length : Int) - A.length) (hp : pm A (t.drop f) = true) : ans = true := by
  obtain rfl : f = t.length - A.length := by omega
  rw [h, gmF_last hno, hp, decide_eq_true (by omega)]; rfl
theorem fail3 (hno : ∀ x, x ∈ A → x ≠ 42) (h : ans = gmF true (A ++ 42 :: q) t) (hf : ∀ j : Nat, 0 ≤ (j : Int) → (j : Int) ≤ min 0 ((t.length : Int) - A.length) → pm A (t.drop j) = false) : ans = false := by
  rw [h, gmF_first hno]
  by_cases e : A.length ≤ t.length
  · have := hf 0 (by omega) (by omega)
    rw [List.drop_zero] at this
    rw [this]; rfl
  · have : pm A t = false := by
      rw [Bool.eq_false_iff]
      intro hp
      exact e (pm_iff.1 hp).1
    rw [this]; rfl
theorem hit3 (hno : ∀ x, x ∈ A → x ≠ 42) (h : ans = gmF true (A ++ 42 :: q) t) {f : Nat} (h2 : (f : Int) ≤ min 0 ((t.length : Int) - A.length)) (hp : pm A (t.drop f) = true) : ans = gmF false q (t.drop (f + A.length)) := by
  obtain rfl : f = 0 := by omega
  rw [List.drop_zero] at hp
  rw [h, gmF_first hno, hp, Nat.zero_add]; rfl
theorem fail4 (hno : ∀ x, x ∈ A → x ≠ 42) (h : ans = gmF false (A ++ 42 :: q) t) (hf : ∀ j : Nat, 0 ≤ (j : Int) → (j : Int) ≤ (t.length : Int) - A.length → pm A (t.drop j) = false) : ans = false := by
  rw [h]
  refine gmF_none hno fun j hj => ?_
  by_cases e : (j : Int) ≤ (t.length : Int) - A.length
  · exact hf j (by omega) e
  · rw [Bool.eq_false_iff]
    intro hp
    have := (pm_iff.1 hp).1
    rw [List.length_drop] at this
    omega
theorem hit4 (hno : ∀ x, x ∈ A → x ≠ 42) (h : ans = gmF false (A ++ 42 :: q) t) {f : Nat} (hp : pm A (t.drop f) = true) (hn : ∀ j : Nat, j < f → pm A (t.drop j) = false) : ans = gmF false q (t.drop (f + A.length)) := by
  rw [h]; exact gmF_at hno hp hn
/-- So far the piece fits at a place. -/
def Fit (A t : List UInt8) (f i : Nat) : Prop := ∀ k c, k < i → A[k]? = some c → c = 63 ∨ t[f + k]? = some c
theorem Fit.next {f i : Nat} {c : UInt8} (h : Fit A t f i) (hc : A[i]? = some c) (hx : c = 63 ∨ t[f + i]? = some c) : Fit A t f (i + 1) := fun k d hk hd => by
  by_cases e : k = i
  · subst e; rw [hc] at hd; injection hd with hd; subst hd; exact hx
  · exact h k d (by omega) hd
theorem Fit.all {f : Nat} (h : Fit A t f A.length) (hl : f + A.length ≤ t.length) : pm A (t.drop f) = true := by
  refine pm_iff.2 ⟨by rw [List.length_drop]; omega, fun i c hc => ?_⟩
  rw [List.getElem?_drop]
  exact h i c (List.getElem?_eq_some_iff.1 hc).1 hc
theorem pm_not {f i : Nat} {c : UInt8} (hc : A[i]? = some c) (h1 : c ≠ 63) (h2 : t[f + i]? ≠ some c) : pm A (t.drop f) = false := by
  rw [Bool.eq_false_iff]
  intro hp
  have := (pm_iff.1 hp).2 i c hc
  rw [List.getElem?_drop] at this
  exact this.elim h1 h2
end

def MaxAt (w : World) : Prop := ∃ m, w.cell? ⟨0, 0, none⟩ = some (.int .i64 m)
def strLen (v : Value) : Nat := match v with | .string s => s.size | _ => 0

set_option maxHeartbeats 4000000 in
set_option maxRecDepth 100000 in
theorem glob_any (p t : ByteArray) (hp : p.size ≤ 1048576) (ht : t.size ≤ 1048576) (w : World) (hm : MaxAt w) :
    Calls Tryd.prog 21 #[.string p, .string t] w fun e w' => e = .returned (.bool (gm p.data.toList t.data.toList)) ∧ ∃ n, w' = w.drewN n := by
  obtain ⟨ans, hans⟩ : ∃ ans, ans = gm p.data.toList t.data.toList := ⟨_, rfl⟩
  rw [← hans]
  have HM : Hid (MaxAt w) := hm
  have HANS := Lib.hid hans
  clear hans hm
  go_enter Tryd.func21, Tryd.ntmps21
  go_wp2_with fail
  go_step3
  go_wp2_with fail
  go_step3
  go_wp2_with fail
  go_loopg [0, 1, 5] (p.size + 1) (fun g x y z wx => ∃ (p' t' : ByteArray) (fi : Bool) (N : Nat), x = .string p' ∧ y = .string t' ∧ z = .bool fi ∧ p'.size < g ∧ p'.size ≤ 1048576 ∧ t'.size ≤ 1048576 ∧ Hid (ans = gmF fi p'.data.toList t'.data.toList) ∧ wx = w.drewN N)
  case atStart => exact ⟨p, t, true, 0, rfl, rfl, rfl, by omega, hp, ht, HANS, rfl⟩
  case round =>
    obtain ⟨p', t', fi, N, rfl, rfl, rfl, hg', hp', ht', HA, rfl⟩ := hrel
    obtain ⟨m, hm⟩ := HM.out
    have C := Lib.hid (Tryd.strings_Cut p' ⟨#[42]⟩ m (w.drewN N) (by omega) hm)
    clear hm
    rcases cut_star p'.data.toList 42 with ⟨hc, hno⟩ | ⟨a, b, hc, hab, hno⟩
    · have hc' : Lib.cut p'.data.toList (⟨#[42]⟩ : ByteArray).data.toList = (p'.data.toList, [], false) := hc
      rw [hc'] at C
      have HNO := Lib.hid hno
      clear hc hc' hno
      simp only [mkS_mk] at C
      cases fi
      case false =>
        go_wp2_with fail
        go_step3
        go_wp2_with fail
        refine C.out.mono ?_
        rintro e w1 ⟨rfl, n1, rfl⟩
        clear C
        go_wp2_with fail
        go_step3
        go_wp2_with fail
        obtain ⟨f0, hf0⟩ : ∃ f0 : Nat, max 0 ((t'.size : Int) - (p'.size : Int)) = (f0 : Int) := ⟨(max 0 ((t'.size : Int) - (p'.size : Int))).toNat, by omega⟩
        obtain ⟨T, hT⟩ : ∃ T : Int, (t'.size : Int) - (p'.size : Int) = T := ⟨_, rfl⟩
        have HFAIL : Hid ((∀ j : Nat, f0 ≤ j → (j : Int) ≤ T → pm p'.data.toList (t'.data.toList.drop j) = false) → ans = false) := fun h => fail2 HNO.out HA.out (fun j h1 h2 => h j (by simp only [size_len] at h1 h2; omega) (by simp only [size_len] at h1 h2; omega))
        have HHIT : Hid (∀ f : Nat, f0 ≤ f → (f : Int) ≤ T → pm p'.data.toList (t'.data.toList.drop f) = true → (∀ j : Nat, f0 ≤ j → j < f → pm p'.data.toList (t'.data.toList.drop j) = false) → ans = true) := fun f h1 h2 h3 h4 => hit2 HNO.out HA.out (by simp only [size_len]; omega) (by simp only [size_len]; omega) h3
        have hTn : T + (p'.size : Int) ≤ (t'.size : Int) := by omega
        rw [hf0, hT]
        have HF0 := Lib.hid hf0
        have HT := Lib.hid hT
        clear hf0 hT HA HNO
        generalize N + n1 = M
        go_loopg [0, 1, 5, 9] (T + 1 - (f0 : Int)).toNat (fun g y0 y1 y5 x wx => ∃ (f n' : Nat), y0 = .string p' ∧ y1 = .string t' ∧ y5 = .bool false ∧ x = .int .i64 (f : Int) ∧ f0 ≤ f ∧ (T + 1 - (f : Int)).toNat ≤ g ∧ Hid (∀ j : Nat, f0 ≤ j → j < f → pm p'.data.toList (t'.data.toList.drop j) = false) ∧ wx = w.drewN n')
        case atStart => exact ⟨f0, M, rfl, rfl, rfl, (by first | rfl | exact congrArg _ HF0.out), Nat.le_refl _, Nat.le_refl _, fun j h1 h2 => by omega, rfl⟩
        case round =>
          obtain ⟨f, M2, rfl, rfl, rfl, rfl, hf, hg2, hall, rfl⟩ := hrel
          by_cases hfT : (f : Int) ≤ T
          · have HFT := Lib.hid hfT
            have hfn : (f : Int) + (p'.size : Int) ≤ (t'.size : Int) := by omega
            go_wp2_with fail
            go_loopg [37] p'.size (fun g x wx => ∃ (i n' : Nat), x = .int .i64 (i : Int) ∧ i + g = p'.size ∧ Hid (Fit p'.data.toList t'.data.toList f i) ∧ wx = w.drewN n')
            case atStart => exact ⟨0, M2, rfl, by omega, fun k c hk => by omega, rfl⟩
            case round =>
              obtain ⟨i, M3, rfl, hi, hfit, rfl⟩ := hrel
              by_cases hlt : i < p'.size
              · have hii : (i : Int) < (p'.size : Int) := by omega
                obtain ⟨k, hk⟩ : ∃ k : Nat, f + i = k := ⟨_, rfl⟩
                have hki : (f : Int) + (i : Int) = (k : Int) := by omega
                have hit : k < t'.size := by omega
                have hit' : (k : Int) < (t'.size : Int) := by omega
                have HX1 := Lib.hid (byte_at hlt)
                have HX2 : Hid (t'.data.toList[f + i]? = some (t'[k]'hit)) := by rw [hk]; exact byte_at hit
                clear hk
                by_cases h63 : p'[i] = 63
                · have HN : Hid (Fit p'.data.toList t'.data.toList f (i + 1)) := hfit.out.next HX1.out (.inl h63)
                  have e63 : (((p'[i]).toNat : Int) != 63) = false := by rw [h63]; rfl
                  clear hfit h63
                  go_wp2_with fail
                  go_quiet (fail)
                  go_wp2_with fail
                  go_roundg (gk - 1)
                  case measure => omega
                  case rel => exact ⟨i + 1, _, by go_num, by omega, HN, rfl⟩
                · have e63 : (((p'[i]).toNat : Int) != 63) = true := by
                    rw [bne_iff_ne]
                    intro e
                    exact h63 (UInt8.toNat_inj.1 (by show _ = 63; omega))
                  by_cases heq : p'[i] = t'[k]
                  · have HN : Hid (Fit p'.data.toList t'.data.toList f (i + 1)) := hfit.out.next HX1.out (.inr (by rw [HX2.out, heq]))
                    have eeq : (((p'[i]).toNat : Int) != ((t'[k]).toNat : Int)) = false := by rw [heq]; simp
                    clear hfit h63 heq
                    go_wp2_with fail
                    go_quiet (fail)
                    go_wp2_with fail
                    go_roundg (gk - 1)
                    case measure => omega
                    case rel => exact ⟨i + 1, _, by go_num, by omega, HN, rfl⟩
                  · have HN : Hid (pm p'.data.toList (t'.data.toList.drop f) = false) := pm_not HX1.out h63 (by rw [HX2.out]; intro e; injection e with e; exact heq e.symm)
                    have eeq : (((p'[i]).toNat : Int) != ((t'[k]).toNat : Int)) = true := by
                      rw [bne_iff_ne]
                      intro e
                      exact heq (UInt8.toNat_inj.1 (by omega))
                    have HALL : Hid (∀ j : Nat, f0 ≤ j → j < f + 1 → pm p'.data.toList (t'.data.toList.drop j) = false) := fun j h1 h2 => by
                      rcases Nat.lt_or_ge j f with h | h
                      · exact hall.out j h1 h
                      · obtain rfl : j = f := by omega
                        exact HN.out
                    clear hfit h63 heq hall HN
                    go_wp2_with fail
                    go_quiet (fail)
                    go_wp2_with fail
                    go_roundg (T - (f : Int)).toNat
                    case measure => have := HFT.out; omega
                    case rel => exact ⟨f + 1, _, rfl, rfl, rfl, by go_num, by omega, by omega, HALL, rfl⟩
              · obtain rfl : i = p'.size := by omega
                have HR : Hid (ans = true) := HHIT.out f hf HFT.out (Fit.all (by have := hfit.out; rwa [← size_len p'] at this) (by simp only [size_len]; omega)) hall.out
                clear hfit hall HFAIL HHIT
                have hii : ¬ (p'.size : Int) < (p'.size : Int) := by omega
                go_wp2_with fail
                try rw [Exit.noGoto_ret]
                go_ret
                exact ⟨by rw [HR.out]; rfl, _, rfl⟩
          · have HX : Hid (ans = false) := HFAIL.out fun j h1 h2 => hall.out j h1 (by omega)
            clear hall HFAIL HHIT
            go_wp2_with fail
            go_ret
            exact ⟨by rw [HX.out]; rfl, _, rfl⟩
      case true =>
        go_wp2_with fail
        go_step3
        go_wp2_with fail
        refine C.out.mono ?_
        rintro e w1 ⟨rfl, n1, rfl⟩
        clear C
        go_wp2_with fail
        go_step3
        go_wp2_with fail
        obtain ⟨f0, hf0⟩ : ∃ f0 : Nat, max 0 ((t'.size : Int) - (p'.size : Int)) = (f0 : Int) := ⟨(max 0 ((t'.size : Int) - (p'.size : Int))).toNat, by omega⟩
        obtain ⟨T, hT⟩ : ∃ T : Int, min 0 ((t'.size : Int) - (p'.size : Int)) = T := ⟨_, rfl⟩
        have HFAIL : Hid ((∀ j : Nat, f0 ≤ j → (j : Int) ≤ T → pm p'.data.toList (t'.data.toList.drop j) = false) → ans = false) := fun h => fail1 HNO.out HA.out (fun j h1 h2 => h j (by simp only [size_len] at h1 h2; omega) (by simp only [size_len] at h1 h2; omega))
        have HHIT : Hid (∀ f : Nat, f0 ≤ f → (f : Int) ≤ T → pm p'.data.toList (t'.data.toList.drop f) = true → (∀ j : Nat, f0 ≤ j → j < f → pm p'.data.toList (t'.data.toList.drop j) = false) → ans = true) := fun f h1 h2 h3 h4 => hit1 HNO.out HA.out (by simp only [size_len]; omega) (by simp only [size_len]; omega) h3
        have hTn : T + (p'.size : Int) ≤ (t'.size : Int) := by omega
        rw [hf0, hT]
        have HF0 := Lib.hid hf0
        have HT := Lib.hid hT
        clear hf0 hT HA HNO
        generalize N + n1 = M
        go_loopg [0, 1, 5, 9] (T + 1 - (f0 : Int)).toNat (fun g y0 y1 y5 x wx => ∃ (f n' : Nat), y0 = .string p' ∧ y1 = .string t' ∧ y5 = .bool true ∧ x = .int .i64 (f : Int) ∧ f0 ≤ f ∧ (T + 1 - (f : Int)).toNat ≤ g ∧ Hid (∀ j : Nat, f0 ≤ j → j < f → pm p'.data.toList (t'.data.toList.drop j) = false) ∧ wx = w.drewN n')
        case atStart => exact ⟨f0, M, rfl, rfl, rfl, (by first | rfl | exact congrArg _ HF0.out), Nat.le_refl _, Nat.le_refl _, fun j h1 h2 => by omega, rfl⟩
        case round =>
          obtain ⟨f, M2, rfl, rfl, rfl, rfl, hf, hg2, hall, rfl⟩ := hrel
          by_cases hfT : (f : Int) ≤ T
          · have HFT := Lib.hid hfT
            have hfn : (f : Int) + (p'.size : Int) ≤ (t'.size : Int) := by omega
            go_wp2_with fail
            go_loopg [37] p'.size (fun g x wx => ∃ (i n' : Nat), x = .int .i64 (i : Int) ∧ i + g = p'.size ∧ Hid (Fit p'.data.toList t'.data.toList f i) ∧ wx = w.drewN n')
            case atStart => exact ⟨0, M2, rfl, by omega, fun k c hk => by omega, rfl⟩
            case round =>
              obtain ⟨i, M3, rfl, hi, hfit, rfl⟩ := hrel
              by_cases hlt : i < p'.size
              · have hii : (i : Int) < (p'.size : Int) := by omega
                obtain ⟨k, hk⟩ : ∃ k : Nat, f + i = k := ⟨_, rfl⟩
                have hki : (f : Int) + (i : Int) = (k : Int) := by omega
                have hit : k < t'.size := by omega
                have hit' : (k : Int) < (t'.size : Int) := by omega
                have HX1 := Lib.hid (byte_at hlt)
                have HX2 : Hid (t'.data.toList[f + i]? = some (t'[k]'hit)) := by rw [hk]; exact byte_at hit
                clear hk
                by_cases h63 : p'[i] = 63
                · have HN : Hid (Fit p'.data.toList t'.data.toList f (i + 1)) := hfit.out.next HX1.out (.inl h63)
                  have e63 : (((p'[i]).toNat : Int) != 63) = false := by rw [h63]; rfl
                  clear hfit h63
                  go_wp2_with fail
                  go_quiet (fail)
                  go_wp2_with fail
                  go_roundg (gk - 1)
                  case measure => omega
                  case rel => exact ⟨i + 1, _, by go_num, by omega, HN, rfl⟩
                · have e63 : (((p'[i]).toNat : Int) != 63) = true := by
                    rw [bne_iff_ne]
                    intro e
                    exact h63 (UInt8.toNat_inj.1 (by show _ = 63; omega))
                  by_cases heq : p'[i] = t'[k]
                  · have HN : Hid (Fit p'.data.toList t'.data.toList f (i + 1)) := hfit.out.next HX1.out (.inr (by rw [HX2.out, heq]))
                    have eeq : (((p'[i]).toNat : Int) != ((t'[k]).toNat : Int)) = false := by rw [heq]; simp
                    clear hfit h63 heq
                    go_wp2_with fail
                    go_quiet (fail)
                    go_wp2_with fail
                    go_roundg (gk - 1)
                    case measure => omega
                    case rel => exact ⟨i + 1, _, by go_num, by omega, HN, rfl⟩
                  · have HN : Hid (pm p'.data.toList (t'.data.toList.drop f) = false) := pm_not HX1.out h63 (by rw [HX2.out]; intro e; injection e with e; exact heq e.symm)
                    have eeq : (((p'[i]).toNat : Int) != ((t'[k]).toNat : Int)) = true := by
                      rw [bne_iff_ne]
                      intro e
                      exact heq (UInt8.toNat_inj.1 (by omega))
                    have HALL : Hid (∀ j : Nat, f0 ≤ j → j < f + 1 → pm p'.data.toList (t'.data.toList.drop j) = false) := fun j h1 h2 => by
                      rcases Nat.lt_or_ge j f with h | h
                      · exact hall.out j h1 h
                      · obtain rfl : j = f := by omega
                        exact HN.out
                    clear hfit h63 heq hall HN
                    go_wp2_with fail
                    go_quiet (fail)
                    go_wp2_with fail
                    go_roundg (T - (f : Int)).toNat
                    case measure => have := HFT.out; omega
                    case rel => exact ⟨f + 1, _, rfl, rfl, rfl, by go_num, by omega, by omega, HALL, rfl⟩
              · obtain rfl : i = p'.size := by omega
                have HR : Hid (ans = true) := HHIT.out f hf HFT.out (Fit.all (by have := hfit.out; rwa [← size_len p'] at this) (by simp only [size_len]; omega)) hall.out
                clear hfit hall HFAIL HHIT
                have hii : ¬ (p'.size : Int) < (p'.size : Int) := by omega
                go_wp2_with fail
                try rw [Exit.noGoto_ret]
                go_ret
                exact ⟨by rw [HR.out]; rfl, _, rfl⟩
          · have HX : Hid (ans = false) := HFAIL.out fun j h1 h2 => hall.out j h1 (by omega)
            clear hall HFAIL HHIT
            go_wp2_with fail
            go_ret
            exact ⟨by rw [HX.out]; rfl, _, rfl⟩
    · obtain ⟨Ap, rfl⟩ : ∃ Ap : ByteArray, a = Ap.data.toList := ⟨⟨a.toArray⟩, by simp⟩
      obtain ⟨Bp, rfl⟩ : ∃ Bp : ByteArray, b = Bp.data.toList := ⟨⟨b.toArray⟩, by simp⟩
      have hc' : Lib.cut p'.data.toList (⟨#[42]⟩ : ByteArray).data.toList = (Ap.data.toList, Bp.data.toList, true) := hc
      rw [hc'] at C
      have HNO := Lib.hid hno
      have HSZ : Hid (Ap.size + 1 + Bp.size = p'.size) := by
        have := congrArg List.length hab
        simp only [List.length_append, List.length_cons, size_len] at this
        show _ = _
        omega
      have hA1 : Ap.size ≤ 1048576 := by have := HSZ.out; omega
      rw [hab] at HA
      clear hc hc' hno hab
      simp only [mkS_mk] at C
      cases fi
      case false =>
        go_wp2_with fail
        go_step3
        go_wp2_with fail
        refine C.out.mono ?_
        rintro e w1 ⟨rfl, n1, rfl⟩
        clear C
        go_wp2_with fail
        go_step3
        go_wp2_with fail
        obtain ⟨f0, hf0⟩ : ∃ f0 : Nat, (0 : Int) = (f0 : Int) := ⟨0, rfl⟩
        obtain ⟨T, hT⟩ : ∃ T : Int, (t'.size : Int) - (Ap.size : Int) = T := ⟨_, rfl⟩
        have HFAIL : Hid ((∀ j : Nat, f0 ≤ j → (j : Int) ≤ T → pm Ap.data.toList (t'.data.toList.drop j) = false) → ans = false) := fun h => fail4 HNO.out HA.out (fun j h1 h2 => h j (by simp only [size_len] at h1 h2; omega) (by simp only [size_len] at h1 h2; omega))
        have HHIT : Hid (∀ f : Nat, f0 ≤ f → (f : Int) ≤ T → pm Ap.data.toList (t'.data.toList.drop f) = true → (∀ j : Nat, f0 ≤ j → j < f → pm Ap.data.toList (t'.data.toList.drop j) = false) → ans = gmF false Bp.data.toList (t'.data.toList.drop (f + Ap.data.toList.length))) := fun f h1 h2 h3 h4 => hit4 HNO.out HA.out h3 (fun j hj => h4 j (by omega) hj)
        have hTn : T + (Ap.size : Int) ≤ (t'.size : Int) := by omega
        rw [hT]
        have HF0 := Lib.hid hf0
        have HT := Lib.hid hT
        clear hf0 hT HA HNO
        generalize N + n1 = M
        go_loopg [0, 1, 5, 9] (T + 1 - (f0 : Int)).toNat (fun g y0 y1 y5 x wx => ∃ (f n' : Nat), y0 = .string p' ∧ y1 = .string t' ∧ y5 = .bool false ∧ x = .int .i64 (f : Int) ∧ f0 ≤ f ∧ (T + 1 - (f : Int)).toNat ≤ g ∧ Hid (∀ j : Nat, f0 ≤ j → j < f → pm Ap.data.toList (t'.data.toList.drop j) = false) ∧ wx = w.drewN n')
        case atStart => exact ⟨f0, M, rfl, rfl, rfl, (by first | rfl | exact congrArg _ HF0.out), Nat.le_refl _, Nat.le_refl _, fun j h1 h2 => by omega, rfl⟩
        case round =>
          obtain ⟨f, M2, rfl, rfl, rfl, rfl, hf, hg2, hall, rfl⟩ := hrel
          by_cases hfT : (f : Int) ≤ T
          · have HFT := Lib.hid hfT
            have hfn : (f : Int) + (Ap.size : Int) ≤ (t'.size : Int) := by omega
            go_wp2_with fail
            go_loopg [37] Ap.size (fun g x wx => ∃ (i n' : Nat), x = .int .i64 (i : Int) ∧ i + g = Ap.size ∧ Hid (Fit Ap.data.toList t'.data.toList f i) ∧ wx = w.drewN n')
            case atStart => exact ⟨0, M2, rfl, by omega, fun k c hk => by omega, rfl⟩
            case round =>
              obtain ⟨i, M3, rfl, hi, hfit, rfl⟩ := hrel
              by_cases hlt : i < Ap.size
              · have hii : (i : Int) < (Ap.size : Int) := by omega
                obtain ⟨k, hk⟩ : ∃ k : Nat, f + i = k := ⟨_, rfl⟩
                have hki : (f : Int) + (i : Int) = (k : Int) := by omega
                have hit : k < t'.size := by omega
                have hit' : (k : Int) < (t'.size : Int) := by omega
                have HX1 := Lib.hid (byte_at hlt)
                have HX2 : Hid (t'.data.toList[f + i]? = some (t'[k]'hit)) := by rw [hk]; exact byte_at hit
                clear hk
                by_cases h63 : Ap[i] = 63
                · have HN : Hid (Fit Ap.data.toList t'.data.toList f (i + 1)) := hfit.out.next HX1.out (.inl h63)
                  have e63 : (((Ap[i]).toNat : Int) != 63) = false := by rw [h63]; rfl
                  clear hfit h63
                  go_wp2_with fail
                  go_quiet (fail)
                  go_wp2_with fail
                  go_roundg (gk - 1)
                  case measure => omega
                  case rel => exact ⟨i + 1, _, by go_num, by omega, HN, rfl⟩
                · have e63 : (((Ap[i]).toNat : Int) != 63) = true := by
                    rw [bne_iff_ne]
                    intro e
                    exact h63 (UInt8.toNat_inj.1 (by show _ = 63; omega))
                  by_cases heq : Ap[i] = t'[k]
                  · have HN : Hid (Fit Ap.data.toList t'.data.toList f (i + 1)) := hfit.out.next HX1.out (.inr (by rw [HX2.out, heq]))
                    have eeq : (((Ap[i]).toNat : Int) != ((t'[k]).toNat : Int)) = false := by rw [heq]; simp
                    clear hfit h63 heq
                    go_wp2_with fail
                    go_quiet (fail)
                    go_wp2_with fail
                    go_roundg (gk - 1)
                    case measure => omega
                    case rel => exact ⟨i + 1, _, by go_num, by omega, HN, rfl⟩
                  · have HN : Hid (pm Ap.data.toList (t'.data.toList.drop f) = false) := pm_not HX1.out h63 (by rw [HX2.out]; intro e; injection e with e; exact heq e.symm)
                    have eeq : (((Ap[i]).toNat : Int) != ((t'[k]).toNat : Int)) = true := by
                      rw [bne_iff_ne]
                      intro e
                      exact heq (UInt8.toNat_inj.1 (by omega))
                    have HALL : Hid (∀ j : Nat, f0 ≤ j → j < f + 1 → pm Ap.data.toList (t'.data.toList.drop j) = false) := fun j h1 h2 => by
                      rcases Nat.lt_or_ge j f with h | h
                      · exact hall.out j h1 h
                      · obtain rfl : j = f := by omega
                        exact HN.out
                    clear hfit h63 heq hall HN
                    go_wp2_with fail
                    go_quiet (fail)
                    go_wp2_with fail
                    go_roundg (T - (f : Int)).toNat
                    case measure => have := HFT.out; omega
                    case rel => exact ⟨f + 1, _, rfl, rfl, rfl, by go_num, by omega, by omega, HALL, rfl⟩
              · obtain rfl : i = Ap.size := by omega
                have HR : Hid (ans = gmF false Bp.data.toList (t'.data.toList.drop (f + Ap.data.toList.length))) := HHIT.out f hf HFT.out (Fit.all (by have := hfit.out; rwa [← size_len Ap] at this) (by simp only [size_len]; omega)) hall.out
                clear hfit hall HFAIL HHIT
                have hii : ¬ (Ap.size : Int) < (Ap.size : Int) := by omega
                obtain ⟨k, hk⟩ : ∃ k : Nat, f + Ap.size = k := ⟨_, rfl⟩
                have hki : (f : Int) + (Ap.size : Int) = (k : Int) := by omega
                have hkt : k ≤ t'.size := by omega
                have hkt' : (k : Int) ≤ (t'.size : Int) := by omega
                have HK := Lib.hid hk
                clear hk
                go_wp2_with fail
                go_quiet (fail)
                go_wp2_with fail
                try simp (config := { zetaDelta := true }) only [Exit.noGoto, Exit.inBlock, Exit.then, reduceIte]
                go_wp2_with fail
                go_roundg (Bp.size + 1)
                case measure => have := HSZ.out; omega
                case rel => exact ⟨Bp, t'.extract k t'.size, false, M3 + nq, rfl, rfl, rfl, by omega, by have := HSZ.out; omega, by simp; omega, by
                  have h := HR.out
                  rw [size_len, HK.out, ← bl_from] at h
                  exact h, by simp [World.drewN, Nat.add_assoc]⟩
          · have HX : Hid (ans = false) := HFAIL.out fun j h1 h2 => hall.out j h1 (by omega)
            clear hall HFAIL HHIT
            go_wp2_with fail
            go_ret
            exact ⟨by rw [HX.out]; rfl, _, rfl⟩
      case true =>
        go_wp2_with fail
        go_step3
        go_wp2_with fail
        refine C.out.mono ?_
        rintro e w1 ⟨rfl, n1, rfl⟩
        clear C
        go_wp2_with fail
        go_step3
        go_wp2_with fail
        obtain ⟨f0, hf0⟩ : ∃ f0 : Nat, (0 : Int) = (f0 : Int) := ⟨0, rfl⟩
        obtain ⟨T, hT⟩ : ∃ T : Int, min 0 ((t'.size : Int) - (Ap.size : Int)) = T := ⟨_, rfl⟩
        have HFAIL : Hid ((∀ j : Nat, f0 ≤ j → (j : Int) ≤ T → pm Ap.data.toList (t'.data.toList.drop j) = false) → ans = false) := fun h => fail3 HNO.out HA.out (fun j h1 h2 => h j (by simp only [size_len] at h1 h2; omega) (by simp only [size_len] at h1 h2; omega))
        have HHIT : Hid (∀ f : Nat, f0 ≤ f → (f : Int) ≤ T → pm Ap.data.toList (t'.data.toList.drop f) = true → (∀ j : Nat, f0 ≤ j → j < f → pm Ap.data.toList (t'.data.toList.drop j) = false) → ans = gmF false Bp.data.toList (t'.data.toList.drop (f + Ap.data.toList.length))) := fun f h1 h2 h3 h4 => hit3 HNO.out HA.out (by simp only [size_len]; omega) h3
        have hTn : T + (Ap.size : Int) ≤ (t'.size : Int) := by omega
        rw [hT]
        have HF0 := Lib.hid hf0
        have HT := Lib.hid hT
        clear hf0 hT HA HNO
        generalize N + n1 = M
        go_loopg [0, 1, 5, 9] (T + 1 - (f0 : Int)).toNat (fun g y0 y1 y5 x wx => ∃ (f n' : Nat), y0 = .string p' ∧ y1 = .string t' ∧ y5 = .bool true ∧ x = .int .i64 (f : Int) ∧ f0 ≤ f ∧ (T + 1 - (f : Int)).toNat ≤ g ∧ Hid (∀ j : Nat, f0 ≤ j → j < f → pm Ap.data.toList (t'.data.toList.drop j) = false) ∧ wx = w.drewN n')
        case atStart => exact ⟨f0, M, rfl, rfl, rfl, (by first | rfl | exact congrArg _ HF0.out), Nat.le_refl _, Nat.le_refl _, fun j h1 h2 => by omega, rfl⟩
        case round =>
          obtain ⟨f, M2, rfl, rfl, rfl, rfl, hf, hg2, hall, rfl⟩ := hrel
          by_cases hfT : (f : Int) ≤ T
          · have HFT := Lib.hid hfT
            have hfn : (f : Int) + (Ap.size : Int) ≤ (t'.size : Int) := by omega
            go_wp2_with fail
            go_loopg [37] Ap.size (fun g x wx => ∃ (i n' : Nat), x = .int .i64 (i : Int) ∧ i + g = Ap.size ∧ Hid (Fit Ap.data.toList t'.data.toList f i) ∧ wx = w.drewN n')
            case atStart => exact ⟨0, M2, rfl, by omega, fun k c hk => by omega, rfl⟩
            case round =>
              obtain ⟨i, M3, rfl, hi, hfit, rfl⟩ := hrel
              by_cases hlt : i < Ap.size
              · have hii : (i : Int) < (Ap.size : Int) := by omega
                obtain ⟨k, hk⟩ : ∃ k : Nat, f + i = k := ⟨_, rfl⟩
                have hki : (f : Int) + (i : Int) = (k : Int) := by omega
                have hit : k < t'.size := by omega
                have hit' : (k : Int) < (t'.size : Int) := by omega
                have HX1 := Lib.hid (byte_at hlt)
                have HX2 : Hid (t'.data.toList[f + i]? = some (t'[k]'hit)) := by rw [hk]; exact byte_at hit
                clear hk
                by_cases h63 : Ap[i] = 63
                · have HN : Hid (Fit Ap.data.toList t'.data.toList f (i + 1)) := hfit.out.next HX1.out (.inl h63)
                  have e63 : (((Ap[i]).toNat : Int) != 63) = false := by rw [h63]; rfl
                  clear hfit h63
                  go_wp2_with fail
                  go_quiet (fail)
                  go_wp2_with fail
                  go_roundg (gk - 1)
                  case measure => omega
                  case rel => exact ⟨i + 1, _, by go_num, by omega, HN, rfl⟩
                · have e63 : (((Ap[i]).toNat : Int) != 63) = true := by
                    rw [bne_iff_ne]
                    intro e
                    exact h63 (UInt8.toNat_inj.1 (by show _ = 63; omega))
                  by_cases heq : Ap[i] = t'[k]
                  · have HN : Hid (Fit Ap.data.toList t'.data.toList f (i + 1)) := hfit.out.next HX1.out (.inr (by rw [HX2.out, heq]))
                    have eeq : (((Ap[i]).toNat : Int) != ((t'[k]).toNat : Int)) = false := by rw [heq]; simp
                    clear hfit h63 heq
                    go_wp2_with fail
                    go_quiet (fail)
                    go_wp2_with fail
                    go_roundg (gk - 1)
                    case measure => omega
                    case rel => exact ⟨i + 1, _, by go_num, by omega, HN, rfl⟩
                  · have HN : Hid (pm Ap.data.toList (t'.data.toList.drop f) = false) := pm_not HX1.out h63 (by rw [HX2.out]; intro e; injection e with e; exact heq e.symm)
                    have eeq : (((Ap[i]).toNat : Int) != ((t'[k]).toNat : Int)) = true := by
                      rw [bne_iff_ne]
                      intro e
                      exact heq (UInt8.toNat_inj.1 (by omega))
                    have HALL : Hid (∀ j : Nat, f0 ≤ j → j < f + 1 → pm Ap.data.toList (t'.data.toList.drop j) = false) := fun j h1 h2 => by
                      rcases Nat.lt_or_ge j f with h | h
                      · exact hall.out j h1 h
                      · obtain rfl : j = f := by omega
                        exact HN.out
                    clear hfit h63 heq hall HN
                    go_wp2_with fail
                    go_quiet (fail)
                    go_wp2_with fail
                    go_roundg (T - (f : Int)).toNat
                    case measure => have := HFT.out; omega
                    case rel => exact ⟨f + 1, _, rfl, rfl, rfl, by go_num, by omega, by omega, HALL, rfl⟩
              · obtain rfl : i = Ap.size := by omega
                have HR : Hid (ans = gmF false Bp.data.toList (t'.data.toList.drop (f + Ap.data.toList.length))) := HHIT.out f hf HFT.out (Fit.all (by have := hfit.out; rwa [← size_len Ap] at this) (by simp only [size_len]; omega)) hall.out
                clear hfit hall HFAIL HHIT
                have hii : ¬ (Ap.size : Int) < (Ap.size : Int) := by omega
                obtain ⟨k, hk⟩ : ∃ k : Nat, f + Ap.size = k := ⟨_, rfl⟩
                have hki : (f : Int) + (Ap.size : Int) = (k : Int) := by omega
                have hkt : k ≤ t'.size := by omega
                have hkt' : (k : Int) ≤ (t'.size : Int) := by omega
                have HK := Lib.hid hk
                clear hk
                go_wp2_with fail
                go_quiet (fail)
                go_wp2_with fail
                try simp (config := { zetaDelta := true }) only [Exit.noGoto, Exit.inBlock, Exit.then, reduceIte]
                go_wp2_with fail
                go_roundg (Bp.size + 1)
                case measure => have := HSZ.out; omega
                case rel => exact ⟨Bp, t'.extract k t'.size, false, M3 + nq, rfl, rfl, rfl, by omega, by have := HSZ.out; omega, by simp; omega, by
                  have h := HR.out
                  rw [size_len, HK.out, ← bl_from] at h
                  exact h, by simp [World.drewN, Nat.add_assoc]⟩
          · have HX : Hid (ans = false) := HFAIL.out fun j h1 h2 => hall.out j h1 (by omega)
            clear hall HFAIL HHIT
            go_wp2_with fail
            go_ret
            exact ⟨by rw [HX.out]; rfl, _, rfl⟩

/-! Fits. -/
def fitsB (how : Int) (p t : ByteArray) : Bool :=
  if how = 1 then decide (t.data.toList = p.data.toList) else if how = 2 then Lib.hasPrefix t.data.toList p.data.toList else if how = 3 then Lib.contains t.data.toList p.data.toList else if how = 4 then gm p.data.toList t.data.toList else false
set_option maxHeartbeats 1000000 in
set_option maxRecDepth 100000 in
theorem fits_any (how : Int) (p t : ByteArray) (hp : p.size ≤ 1048576) (ht : t.size ≤ 1048576) (w : World) (hm : MaxAt w) :
    Calls Tryd.prog 9 #[.int .i64 how, .string p, .string t] w fun e w' => e = .returned (.bool (fitsB how p t)) ∧ ∃ n, w' = w.drewN n := by
  obtain ⟨m, hm1⟩ := hm
  have C2 := Lib.hid (Tryd.strings_HasPrefix t p w)
  have C3 := Lib.hid (Tryd.strings_Contains t p m w (by omega) hm1)
  have C4 := Lib.hid (glob_any p t hp ht w ⟨m, hm1⟩)
  clear hm1
  obtain ⟨ans, hans⟩ : ∃ ans, ans = fitsB how p t := ⟨_, rfl⟩
  rw [← hans]
  have HV := Lib.hid hans
  clear hans
  unfold fitsB at HV
  by_cases h1 : how = 1
  · subst h1
    have HR : Hid (ans = (t.toList == p.toList)) := HV.out.trans (by rw [str_beq]; rfl)
    clear HV C2 C3 C4
    generalize hx : (t.toList == p.toList) = x at HR
    go_enter Tryd.func9, Tryd.ntmps9
    go_wp2_with fail
    go_ret
    exact ⟨by rw [HR.out, ← hx]; rfl, 0, rfl⟩
  by_cases h2 : how = 2
  · subst h2
    have HR : Hid (ans = Lib.hasPrefix t.data.toList p.data.toList) := HV.out.trans (by rfl)
    clear HV C3 C4 h1
    generalize Lib.hasPrefix t.data.toList p.data.toList = x at *
    go_enter Tryd.func9, Tryd.ntmps9
    go_wp2_with fail
    refine C2.out.mono ?_
    rintro e w1 ⟨rfl, rfl⟩
    go_wp2_with fail
    go_ret
    exact ⟨by rw [HR.out]; rfl, 0, rfl⟩
  by_cases h3 : how = 3
  · subst h3
    have HR : Hid (ans = Lib.contains t.data.toList p.data.toList) := HV.out.trans (by rfl)
    clear HV C2 C4 h1 h2
    generalize Lib.contains t.data.toList p.data.toList = x at *
    go_enter Tryd.func9, Tryd.ntmps9
    go_wp2_with fail
    refine C3.out.mono ?_
    rintro e w1 ⟨rfl, rfl⟩
    go_wp2_with fail
    go_ret
    exact ⟨by rw [HR.out]; rfl, 0, rfl⟩
  by_cases h4 : how = 4
  · subst h4
    have HR : Hid (ans = gm p.data.toList t.data.toList) := HV.out.trans (by rfl)
    clear HV C2 C3 h1 h2 h3
    generalize gm p.data.toList t.data.toList = x at *
    go_enter Tryd.func9, Tryd.ntmps9
    go_wp2_with fail
    refine C4.out.mono ?_
    rintro e w1 ⟨rfl, n, rfl⟩
    go_wp2_with fail
    go_ret
    exact ⟨by rw [HR.out]; rfl, n, rfl⟩
  have HR : Hid (ans = false) := HV.out.trans (by rw [if_neg h1, if_neg h2, if_neg h3, if_neg h4])
  have q1 : (how == 1) = false := by simpa using h1
  have q2 : (how == 2) = false := by simpa using h2
  have q3 : (how == 3) = false := by simpa using h3
  have q4 : (how == 4) = false := by simpa using h4
  clear HV C2 C3 C4
  go_enter Tryd.func9, Tryd.ntmps9
  go_wp2_with fail
  go_ret
  exact ⟨by rw [HR.out]; rfl, 0, rfl⟩
end Go.Proofs.YthgagobdkcikiaaDoor
