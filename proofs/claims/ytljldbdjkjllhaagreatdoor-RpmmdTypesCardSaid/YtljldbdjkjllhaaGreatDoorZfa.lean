/- RpmmdTypes: the documents and the law's walk. -/
import Derived.Test.YtljldbdjkjllhaaGreatDoorZea
/- RpmmdTypes: the documents and the law's walk. -/
namespace Go.Proofs.YtljldbdjkjllhaaGreatDoor
set_option linter.unusedSimpArgs false
set_option linter.unusedVariables false
open Go.RowKit

theorem esc_noarch : escX [110, 111, 97, 114, 99, 104] = [110, 111, 97, 114, 99, 104] := by kernel_rfl
def g1 (a c : Bs) : Sg := seg2 (segT nameN_ a) (seg2 (segT archN_ noarchN) (segA versN_ verN c))
def gI (d : Bs) : Sg := seg2 (segT nameN_ d) (segE versN_)
def gT (k d : Bs) : Sg := segAt packN typeN k (gI d)
def cT (a c : Bs) : Px := setV c (setA noarchN (setN a px0))
def gB (a c k d : Bs) : Sg := seg2 (gT k d) (seg2 (pkX (g1 a c)) (gT k d))
def gC (a c k d : Bs) : Sg := seg2 (pkX (g1 a c)) (gT k d)
theorem run1_ (a c : Bs) : SgRun (g1 a c) (fun p => setV c (setA noarchN (setN a p))) := run_2 (f := setN a) (g := fun p => setV c (setA noarchN p)) (run_T1 a) (run_2 (f := setA noarchN) (g := setV c) (run_T2 noarchN) (run_V c))
theorem stepK {k : Bs} (hk : ¬ k = rpmN) (got : List Px) : stepX ⟨stkM, none, got⟩ (startP packN [(typeN, k)]) = some (.go ⟨(.no, []) :: stkM, none, got⟩) := by
  show (if k = rpmN then (if got.length < 200 then some (Rx.go ⟨stkP, some px0, got⟩) else none) else some (Rx.go ⟨(.no, []) :: stkM, none, got⟩)) = _
  rw [if_neg hk]
theorem runI (d : Bs) (got : List Px) (rest : List Pc) : runX ((gI d).ps ++ rest) ⟨(.no, []) :: stkM, none, got⟩ = runX rest ⟨(.no, []) :: stkM, none, got⟩ := by
  rw [runX_app]
  cases d with
  | nil => rfl
  | cons x r => rfl
theorem runT {k : Bs} (hk : ¬ k = rpmN) (d : Bs) (got : List Px) (rest : List Pc) : runX ((gT k d).ps ++ rest) ⟨stkM, none, got⟩ = runX rest ⟨stkM, none, got⟩ := by
  have e : (gT k d).ps ++ rest = startP packN [(typeN, k)] :: ((gI d).ps ++ (endP_ packN :: rest)) := by
    show startP packN [(typeN, k)] :: ((gI d).ps ++ [endP_ packN]) ++ rest = _
    simp
  rw [e, runX_go (stepK hk got), runI]
  rfl
theorem runT_pre {k : Bs} (hk : ¬ k = rpmN) (d : Bs) (got : List Px) : ∃ s', runX (gT k d).pre ⟨stkM, none, got⟩ = some (.go s') := by
  show ∃ s', runX (if k.all xMay = true then startP packN [(typeN, k)] :: (gI d).pre else []) _ = _
  split
  · rw [runX_go (stepK hk got)]
    show ∃ s', runX (if (segT nameN_ d).good = true then (segT nameN_ d).ps ++ [] else (segT nameN_ d).pre) ⟨(.no, []) :: stkM, none, got⟩ = _
    split
    · refine ⟨⟨(.no, []) :: stkM, none, got⟩, ?_⟩
      cases d with
      | nil => rfl
      | cons x r => rfl
    · exact ⟨_, rfl⟩
  · exact ⟨_, rfl⟩
theorem run_B {a c k d : Bs} (hk : ¬ k = rpmN) : runX (startP metaN [] :: ((gB a c k d).ps ++ [endP_ metaN])) ⟨[(.top, [])], none, []⟩ = some (outX (cT a c)) := by
  have e : (gB a c k d).ps ++ [endP_ metaN] = (gT k d).ps ++ ((pkX (g1 a c)).ps ++ ((gT k d).ps ++ [endP_ metaN])) := by
    show ((gT k d).ps ++ ((pkX (g1 a c)).ps ++ (gT k d).ps)) ++ [endP_ metaN] = _
    simp
  rw [run_md, e, runT hk, run_pk (run1_ a c) rfl [] (by simp)]
  show (if chkX (cT a c) = 0 then runX ((gT k d).ps ++ [endP_ metaN]) ⟨stkM, none, [] ++ [cT a c]⟩ else some (.bad (chkX (cT a c)))) = some (outX (cT a c))
  unfold outX
  by_cases h : chkX (cT a c) = 0
  · rw [if_pos h, if_pos h, runT hk]; rfl
  · rw [if_neg h, if_neg h]
theorem run_B_pre {a c k d : Bs} (hk : ¬ k = rpmN) (hg : ((gT k d).good && (g1 a c).good) = false) : ∃ s', runX (gB a c k d).pre ⟨stkM, none, []⟩ = some (.go s') := by
  show ∃ s', runX (if (gT k d).good = true then (gT k d).ps ++ (if (pkX (g1 a c)).good = true then (pkX (g1 a c)).ps ++ (gT k d).pre else (pkX (g1 a c)).pre) else (gT k d).pre) _ = _
  by_cases h : (gT k d).good = true
  · rw [h, Bool.true_and] at hg
    have hpk : (pkX (g1 a c)).good = false := by show (rpmN.all xMay && (g1 a c).good) = false; rw [hg]; decide
    rw [if_pos h, if_neg (by rw [hpk]; simp), runT hk]
    exact run_pre_pk (run1_ a c) [] (by simp)
  · rw [if_neg h]
    exact runT_pre hk d []
section
variable {a c k d : Bs} {o : List Bs}
theorem ok1 (h1 : 0 < o.length) (h2 : o.length < 15) : SgOk o (pkX (g1 a c)) := segAt_ok (by decide) (by decide) h1 (by omega) (seg2_ok (segT_ok (by decide) (by simp) (by simp; omega)) (seg2_ok (segT_ok (by decide) (by simp) (by simp; omega)) (segA_ok (by decide) (by decide) (by simp) (by simp; omega))))
theorem okT (h1 : 0 < o.length) (h2 : o.length < 15) : SgOk o (gT k d) := segAt_ok (by decide) (by decide) h1 (by omega) (seg2_ok (segT_ok (by decide) (by simp) (by simp; omega)) (segE_ok (by decide) (by simp) (by simp; omega)))
theorem okB (h1 : 0 < o.length) (h2 : o.length < 15) : SgOk o (gB a c k d) := seg2_ok (okT h1 h2) (seg2_ok (ok1 h1 h2) (okT h1 h2))
theorem okC (h1 : 0 < o.length) (h2 : o.length < 15) : SgOk o (gC a c k d) := seg2_ok (ok1 h1 h2) (okT h1 h2)
variable (ha : a.length ≤ 100) (hc : c.length ≤ 100) (hk : k.length ≤ 100) (hd : d.length ≤ 100)
include ha hc
theorem sm1 : SmallG (pkX (g1 a c)) := smallAt _ _ _ (by simp [rpmN]) (small2 (smallT _ _ (by omega)) (small2 (smallT _ _ (by simp [noarchN])) (smallA _ _ _ (by omega))))
set_option maxRecDepth 100000 in
theorem len1 : (docN metaN (pkX (g1 a c))).length ≤ 40000 := by
  have h1 := (escX_len a).2
  have h3 := (escX_len c).2
  simp [docN, pkX, g1, segAt, seg2, segT, segA, esc_rpm, esc_noarch, metaN, packN, typeN, rpmN, nameN_, archN_, versN_, verN, noarchN]
  omega
include hk hd
omit ha hc in
theorem smT : SmallG (gT k d) := smallAt _ _ _ (by omega) (small2 (smallT _ _ (by omega)) (smallE _))
theorem smB : SmallG (gB a c k d) := small2 (smT hk hd) (small2 (sm1 ha hc) (smT hk hd))
set_option maxRecDepth 100000 in
theorem lenB : (docN metaN (gB a c k d)).length ≤ 40000 := by
  have h1 := (escX_len a).2
  have h2 := (escX_len c).2
  have h3 := (escX_len k).2
  have h4 := (escX_len d).2
  simp [docN, gB, gT, gI, segE, pkX, g1, segAt, seg2, segT, segA, esc_rpm, esc_noarch, metaN, packN, typeN, rpmN, nameN_, archN_, versN_, verN, noarchN]
  omega
set_option maxRecDepth 100000 in
theorem lenC : (docN [97] (gC a c k d)).length ≤ 40000 := by
  have h1 := (escX_len a).2
  have h2 := (escX_len c).2
  have h3 := (escX_len k).2
  have h4 := (escX_len d).2
  simp [docN, gC, gT, gI, segE, pkX, g1, segAt, seg2, segT, segA, esc_rpm, esc_noarch, metaN, packN, typeN, rpmN, nameN_, archN_, versN_, verN, noarchN]
  omega
end
theorem gb3 (x y : Bool) : (y && (x && y)) = (x && y) := by cases x <;> cases y <;> rfl
theorem gpk (a c : Bs) : (pkX (g1 a c)).good = (g1 a c).good := by show (rpmN.all xMay && (g1 a c).good) = _; rw [show rpmN.all xMay = true from by decide, Bool.true_and]
theorem gBg (a c k d : Bs) : (gB a c k d).good = ((g1 a c).good && (gT k d).good) := by
  show ((gT k d).good && ((pkX (g1 a c)).good && (gT k d).good)) = _
  rw [gpk, gb3]
theorem gCg (a c k d : Bs) : (gC a c k d).good = ((g1 a c).good && (gT k d).good) := by
  show ((pkX (g1 a c)).good && (gT k d).good) = _
  rw [gpk]
theorem both_any {a c k d : Bs} (ha : a.length ≤ 100) (hc : c.length ≤ 100) (hk : k.length ≤ 100) (hd : d.length ≤ 100) (hne : ¬ k = rpmN) {W : World} {B : Nat} (hE : MdEnv B W) :
    Calls Tryz.prog 13 #[.string (mkS (docN metaN (gB a c k d)))] W (OnePost W ((g1 a c).good && (gT k d).good) (cT a c)) := by
  have hnm : NmOk metaN = true := by decide
  have hs := smB ha hc hk hd
  have hl := lenB ha hc hk hd
  have hok : SgOk [metaN] (gB a c k d) := okB (by simp) (by simp)
  cases hgg : ((g1 a c).good && (gT k d).good) with
  | true =>
    have ha := doc_good hnm hl hok ((gBg a c k d).trans hgg)
    refine (parse_any _ _ hE.xml hE.tabs hE.flags (by rw [ha]; exact small_cons (small_0 _) (small_app hs.1 (small_cons (small_e _) small_nil))) (by rw [ha]; exact run_B hne)).mono ?_
    intro e w' h
    rw [ha] at h
    exact post_out h (fun _ => ⟨rfl, rfl⟩) (fun e => by cases e)
  | false =>
    have ha := doc_bad hnm hl hok ((gBg a c k d).trans hgg)
    obtain ⟨s', hrun⟩ := run_B_pre (a := a) (c := c) (k := k) (d := d) hne (by rw [Bool.and_comm]; exact hgg)
    refine (parse_any _ (.go s') hE.xml hE.tabs hE.flags (by rw [ha]; exact small_cons (small_0 _) hs.2) (by rw [ha]; exact hrun)).mono ?_
    intro e w' h
    rw [ha] at h
    exact post_out h (fun e => by cases e) (fun _ => ⟨rfl, s', rfl⟩)
theorem docC_all {a c k d : Bs} (ha : a.length ≤ 100) (hc : c.length ≤ 100) (hk : k.length ≤ 100) (hd : d.length ≤ 100) : (allX (docN [97] (gC a c k d))).2 = if ((g1 a c).good && (gT k d).good) = true then 0 else 103 := by
  have hnm : NmOk ([97] : Bs) = true := by decide
  have hok : SgOk [[97]] (gC a c k d) := okC (by simp) (by simp)
  by_cases hg : ((g1 a c).good && (gT k d).good) = true
  · rw [if_pos hg, doc_good hnm (lenC ha hc hk hd) hok ((gCg a c k d).trans hg)]
  · rw [if_neg hg, doc_bad hnm (lenC ha hc hk hd) hok ((gCg a c k d).trans (by simpa using hg))]
def bOne (a c : Bs) : ByteArray := ⟨#[60, 112, 97, 99, 107, 97, 103, 101, 32, 116, 121, 112, 101, 61, 34, 114, 112, 109, 34, 62, 60, 110, 97, 109, 101, 62]⟩ ++ mkS (escX a) ++ ⟨#[60, 47, 110, 97, 109, 101, 62, 60, 97, 114, 99, 104, 62, 110, 111, 97, 114, 99, 104, 60, 47, 97, 114, 99, 104, 62, 60, 118, 101, 114, 115, 105, 111, 110, 32, 118, 101, 114, 61, 34]⟩ ++ mkS (escX c) ++ ⟨#[34, 47, 62, 60, 47, 112, 97, 99, 107, 97, 103, 101, 62]⟩
def bTwo (k d : Bs) : ByteArray := ⟨#[60, 112, 97, 99, 107, 97, 103, 101, 32, 116, 121, 112, 101, 61, 34]⟩ ++ mkS (escX k) ++ ⟨#[34, 62, 60, 110, 97, 109, 101, 62]⟩ ++ mkS (escX d) ++ ⟨#[60, 47, 110, 97, 109, 101, 62, 60, 118, 101, 114, 115, 105, 111, 110, 47, 62, 60, 47, 112, 97, 99, 107, 97, 103, 101, 62]⟩
theorem cat1 (a c : Bs) : (⟨#[60, 109, 101, 116, 97, 100, 97, 116, 97, 62]⟩ ++ bOne a c ++ ⟨#[60, 47, 109, 101, 116, 97, 100, 97, 116, 97, 62]⟩ : ByteArray) = mkS (docN metaN (pkX (g1 a c))) := s_ext (by
  simp only [bOne, bl_app, mkS_list]
  simp [docN, pkX, g1, segAt, seg2, segT, segA, esc_rpm, esc_noarch, metaN, packN, typeN, rpmN, nameN_, archN_, versN_, verN, noarchN])
set_option maxRecDepth 100000 in
theorem cat2 (a c k d : Bs) : (⟨#[60, 109, 101, 116, 97, 100, 97, 116, 97, 62]⟩ ++ bTwo k d ++ bOne a c ++ bTwo k d ++ ⟨#[60, 47, 109, 101, 116, 97, 100, 97, 116, 97, 62]⟩ : ByteArray) = mkS (docN metaN (gB a c k d)) := s_ext (by
  simp only [bOne, bTwo, bl_app, mkS_list]
  simp [docN, gB, gT, gI, segE, pkX, g1, segAt, seg2, segT, segA, esc_rpm, esc_noarch, metaN, packN, typeN, rpmN, nameN_, archN_, versN_, verN, noarchN])
set_option maxRecDepth 100000 in
theorem cat3 (a c k d : Bs) : (⟨#[60, 97, 62]⟩ ++ bOne a c ++ bTwo k d ++ ⟨#[60, 47, 97, 62]⟩ : ByteArray) = mkS (docN [97] (gC a c k d)) := s_ext (by
  simp only [bOne, bTwo, bl_app, mkS_list]
  simp [docN, gC, gT, gI, segE, pkX, g1, segAt, seg2, segT, segA, esc_rpm, esc_noarch, metaN, packN, typeN, rpmN, nameN_, archN_, versN_, verN, noarchN])
set_option maxHeartbeats 16000000 in
set_option maxRecDepth 1000000 in
theorem types_longa (a c k d : Bs) (h0 : 100 < a.length) (W : World) {B : Nat} (hE : MdEnv B W) (hP : ∀ w', Below W.heap.size W w' → PowA w') :
    Calls Tryz.prog 5 #[.string (mkS a), .string (mkS c), .string (mkS k), .string (mkS d)] W fun e w' => e = .returned (.bool true) ∧ Below W.heap.size W w' := by
  have CA := Lib.hid (mdAwake_any W hE)
  have z0 : (100 : Int) < ((mkS a).size : Int) := by rw [mkS_size]; omega
  clear hE hP h0
  generalize mkS a = Sa at *
  generalize mkS c = Sc at *
  generalize mkS k = Sk at *
  generalize mkS d = Sd at *
  go_enter Tryz.func5, Tryz.ntmps5
  go_wp2_with fail
  refine CA.out.mono ?_
  rintro e w1 ⟨rfl, hb1⟩
  have HB1 := Lib.hid hb1
  clear hb1 CA
  go_wp2_with fail
  go_ret
  exact ⟨rfl, HB1.out⟩
set_option maxHeartbeats 16000000 in
set_option maxRecDepth 1000000 in
theorem types_longc (a c k d : Bs) (h0 : ¬ 100 < a.length) (h1 : 100 < c.length) (W : World) {B : Nat} (hE : MdEnv B W) (hP : ∀ w', Below W.heap.size W w' → PowA w') :
    Calls Tryz.prog 5 #[.string (mkS a), .string (mkS c), .string (mkS k), .string (mkS d)] W fun e w' => e = .returned (.bool true) ∧ Below W.heap.size W w' := by
  have CA := Lib.hid (mdAwake_any W hE)
  have z0 : ¬ (100 : Int) < ((mkS a).size : Int) := by rw [mkS_size]; omega
  have z1 : (100 : Int) < ((mkS c).size : Int) := by rw [mkS_size]; omega
  clear hE hP h0 h1
  generalize mkS a = Sa at *
  generalize mkS c = Sc at *
  generalize mkS k = Sk at *
  generalize mkS d = Sd at *
  go_enter Tryz.func5, Tryz.ntmps5
  go_wp2_with fail
  refine CA.out.mono ?_
  rintro e w1 ⟨rfl, hb1⟩
  have HB1 := Lib.hid hb1
  clear hb1 CA
  go_wp2_with fail
  go_ret
  exact ⟨rfl, HB1.out⟩
set_option maxHeartbeats 16000000 in
set_option maxRecDepth 1000000 in
theorem types_longk (a c k d : Bs) (h0 : ¬ 100 < a.length) (h1 : ¬ 100 < c.length) (h2 : 100 < k.length) (W : World) {B : Nat} (hE : MdEnv B W) (hP : ∀ w', Below W.heap.size W w' → PowA w') :
    Calls Tryz.prog 5 #[.string (mkS a), .string (mkS c), .string (mkS k), .string (mkS d)] W fun e w' => e = .returned (.bool true) ∧ Below W.heap.size W w' := by
  have CA := Lib.hid (mdAwake_any W hE)
  have z0 : ¬ (100 : Int) < ((mkS a).size : Int) := by rw [mkS_size]; omega
  have z1 : ¬ (100 : Int) < ((mkS c).size : Int) := by rw [mkS_size]; omega
  have z2 : (100 : Int) < ((mkS k).size : Int) := by rw [mkS_size]; omega
  clear hE hP h0 h1 h2
  generalize mkS a = Sa at *
  generalize mkS c = Sc at *
  generalize mkS k = Sk at *
  generalize mkS d = Sd at *
  go_enter Tryz.func5, Tryz.ntmps5
  go_wp2_with fail
  refine CA.out.mono ?_
  rintro e w1 ⟨rfl, hb1⟩
  have HB1 := Lib.hid hb1
  clear hb1 CA
  go_wp2_with fail
  go_ret
  exact ⟨rfl, HB1.out⟩
set_option maxHeartbeats 16000000 in
set_option maxRecDepth 1000000 in
theorem types_longd (a c k d : Bs) (h0 : ¬ 100 < a.length) (h1 : ¬ 100 < c.length) (h2 : ¬ 100 < k.length) (h3 : 100 < d.length) (W : World) {B : Nat} (hE : MdEnv B W) (hP : ∀ w', Below W.heap.size W w' → PowA w') :
    Calls Tryz.prog 5 #[.string (mkS a), .string (mkS c), .string (mkS k), .string (mkS d)] W fun e w' => e = .returned (.bool true) ∧ Below W.heap.size W w' := by
  have CA := Lib.hid (mdAwake_any W hE)
  have z0 : ¬ (100 : Int) < ((mkS a).size : Int) := by rw [mkS_size]; omega
  have z1 : ¬ (100 : Int) < ((mkS c).size : Int) := by rw [mkS_size]; omega
  have z2 : ¬ (100 : Int) < ((mkS k).size : Int) := by rw [mkS_size]; omega
  have z3 : (100 : Int) < ((mkS d).size : Int) := by rw [mkS_size]; omega
  clear hE hP h0 h1 h2 h3
  generalize mkS a = Sa at *
  generalize mkS c = Sc at *
  generalize mkS k = Sk at *
  generalize mkS d = Sd at *
  go_enter Tryz.func5, Tryz.ntmps5
  go_wp2_with fail
  refine CA.out.mono ?_
  rintro e w1 ⟨rfl, hb1⟩
  have HB1 := Lib.hid hb1
  clear hb1 CA
  go_wp2_with fail
  go_ret
  exact ⟨rfl, HB1.out⟩
set_option maxHeartbeats 16000000 in
set_option maxRecDepth 1000000 in
theorem types_rpm (a c k d : Bs) (ha : a.length ≤ 100) (hc : c.length ≤ 100) (hk : k.length ≤ 100) (hd : d.length ≤ 100) (hr : k = rpmN) (W : World) {B : Nat} (hE : MdEnv B W) (hP : ∀ w', Below W.heap.size W w' → PowA w') :
    Calls Tryz.prog 5 #[.string (mkS a), .string (mkS c), .string (mkS k), .string (mkS d)] W fun e w' => e = .returned (.bool true) ∧ Below W.heap.size W w' := by
  have CA := Lib.hid (mdAwake_any W hE)
  have z0 : ¬ (100 : Int) < ((mkS a).size : Int) := by rw [mkS_size]; omega
  have z1 : ¬ (100 : Int) < ((mkS c).size : Int) := by rw [mkS_size]; omega
  have z2 : ¬ (100 : Int) < ((mkS k).size : Int) := by rw [mkS_size]; omega
  have z3 : ¬ (100 : Int) < ((mkS d).size : Int) := by rw [mkS_size]; omega
  have t1 := rpm_is hr
  clear hE hP hr ha hc hk hd
  generalize mkS a = Sa at *
  generalize mkS c = Sc at *
  generalize mkS k = Sk at *
  generalize mkS d = Sd at *
  go_enter Tryz.func5, Tryz.ntmps5
  go_wp2_with fail
  refine CA.out.mono ?_
  rintro e w1 ⟨rfl, hb1⟩
  have HB1 := Lib.hid hb1
  clear hb1 CA
  go_wp2_with fail
  go_ret
  exact ⟨rfl, HB1.out⟩
set_option maxHeartbeats 16000000 in
set_option maxRecDepth 1000000 in
theorem types_main (a c k d : Bs) (ha : a.length ≤ 100) (hc : c.length ≤ 100) (hk : k.length ≤ 100) (hd : d.length ≤ 100) (hr : ¬ k = rpmN) (W : World) {B : Nat} (hE : MdEnv B W) (hP : ∀ w', Below W.heap.size W w' → PowA w') :
    Calls Tryz.prog 5 #[.string (mkS a), .string (mkS c), .string (mkS k), .string (mkS d)] W fun e w' => e = .returned (.bool true) ∧ Below W.heap.size W w' := by
  have CA := Lib.hid (mdAwake_any W hE)
  have z0 : ¬ (100 : Int) < ((mkS a).size : Int) := by rw [mkS_size]; omega
  have z1 : ¬ (100 : Int) < ((mkS c).size : Int) := by rw [mkS_size]; omega
  have z2 : ¬ (100 : Int) < ((mkS k).size : Int) := by rw [mkS_size]; omega
  have z3 : ¬ (100 : Int) < ((mkS d).size : Int) := by rw [mkS_size]; omega
  have t0 := rpm_no hr
  have CEa := Lib.hid (fun w' (hb : Below W.heap.size W w') => escape_any a (by omega) (hE.below hb).xml (fun w'' hb' => hP w'' (hb.trans (hb'.mono hb.size))))
  have hEa : (mkS (escX a)).size ≤ 600 := by rw [mkS_size]; have := (escX_len a).2; omega
  have CEc := Lib.hid (fun w' (hb : Below W.heap.size W w') => escape_any c (by omega) (hE.below hb).xml (fun w'' hb' => hP w'' (hb.trans (hb'.mono hb.size))))
  have hEc : (mkS (escX c)).size ≤ 600 := by rw [mkS_size]; have := (escX_len c).2; omega
  have CEk := Lib.hid (fun w' (hb : Below W.heap.size W w') => escape_any k (by omega) (hE.below hb).xml (fun w'' hb' => hP w'' (hb.trans (hb'.mono hb.size))))
  have hEk : (mkS (escX k)).size ≤ 600 := by rw [mkS_size]; have := (escX_len k).2; omega
  have CEd := Lib.hid (fun w' (hb : Below W.heap.size W w') => escape_any d (by omega) (hE.below hb).xml (fun w'' hb' => hP w'' (hb.trans (hb'.mono hb.size))))
  have hEd : (mkS (escX d)).size ≤ 600 := by rw [mkS_size]; have := (escX_len d).2; omega
  have CX := Lib.hid (fun (s : ByteArray) (h : s = mkS (docN metaN (pkX (g1 a c)))) w' (hbw : Below W.heap.size W w') => h.symm ▸ one_any (run1_ a c) rfl (ok1 (by simp) (by simp)) (sm1 ha hc) (len1 ha hc) (hE.below hbw).xml (hE.below hbw).tabs (hE.below hbw).flags)
  have CY := Lib.hid (fun (s : ByteArray) (h : s = mkS (docN metaN (gB a c k d))) w' (hbw : Below W.heap.size W w') => h.symm ▸ both_any ha hc hk hd hr (hE.below hbw))
  have CB := Lib.hid (fun (s : ByteArray) (h : s = mkS (docN [97] (gC a c k d))) w' (hbw : Below W.heap.size W w') => h.symm ▸ all_err _ _ (docC_all ha hc hk hd) (hE.below hbw).xml)
  have hcx : setV c (setA noarchN (setN a px0)) = cT a c := rfl
  simp only [hcx] at CX
  have HX := Lib.hid (cat1 a c)
  have HY := Lib.hid (cat2 a c k d)
  have HZ := Lib.hid (cat3 a c k d)
  clear hcx hE hP ha hc hk hd hr
  unfold bOne at HX
  unfold bOne bTwo at HY HZ
  generalize mkS (docN metaN (pkX (g1 a c))) = DX at *
  generalize mkS (docN metaN (gB a c k d)) = DY at *
  generalize mkS (docN [97] (gC a c k d)) = DZ at *
  generalize (g1 a c).good = ga at *
  generalize (gT k d).good = gb at *
  generalize cT a c = PX at *
  generalize mkS (escX a) = Ea at *
  generalize mkS (escX c) = Ec at *
  generalize mkS (escX k) = Ek at *
  generalize mkS (escX d) = Ed at *
  generalize mkS a = Sa at *
  generalize mkS c = Sc at *
  generalize mkS k = Sk at *
  generalize mkS d = Sd at *
  unfold OnePost at CX CY
  unfold ErrPost at CB
  cases hG : (ga && gb) with
  | false =>
    rw [hG] at CY CB
    rw [if_neg (by decide)] at CB
    have hN3 : outN false PX = 103 := rfl
    have hL3 : outL false PX = [] := rfl
    rw [hN3, hL3] at CY
    simp only [List.length_nil] at CY
    clear hN3 hL3 hG
    generalize outL ga PX = L1 at *
    generalize outN ga PX = N1 at *
    go_enter Tryz.func5, Tryz.ntmps5
    go_wp2_with fail
    refine CA.out.mono ?_
    rintro e w1 ⟨rfl, hb1⟩
    have HB1 := Lib.hid hb1
    clear hb1 CA
    go_wp2_with fail
    refine (CEa.out _ HB1.out).mono ?_
    rintro e w2 ⟨rfl, hb⟩
    have HB2 := Lib.hid (HB1.out.trans (hb.mono HB1.out.size))
    clear hb
    go_wp2_with fail
    refine (CEc.out _ HB2.out).mono ?_
    rintro e w3 ⟨rfl, hb⟩
    have HB3 := Lib.hid (HB2.out.trans (hb.mono HB2.out.size))
    clear hb
    go_wp2_with fail
    refine (CEk.out _ HB3.out).mono ?_
    rintro e w4 ⟨rfl, hb⟩
    have HB4 := Lib.hid (HB3.out.trans (hb.mono HB3.out.size))
    clear hb
    go_wp2_with fail
    refine (CEd.out _ HB4.out).mono ?_
    rintro e w5 ⟨rfl, hb⟩
    have HB5 := Lib.hid (HB4.out.trans (hb.mono HB4.out.size))
    clear hb
    go_wp2_with fail
    refine (CB.out _ HZ.out _ HB5.out).mono ?_
    rintro e w6 ⟨A3, m3, c3, rfl, hb⟩
    have HB6 := Lib.hid (HB5.out.trans (hb.mono HB5.out.size))
    clear hb
    go_wp2_with fail
    refine (CX.out _ HX.out _ HB6.out).mono ?_
    rintro e w7 ⟨A1, m1, rfl, hp1, hb⟩
    have HB7 := Lib.hid (HB6.out.trans (hb.mono HB6.out.size))
    have P1_7 := Lib.hid hp1
    clear hb hp1
    go_wp2_with fail
    refine (CY.out _ HY.out _ HB7.out).mono ?_
    rintro e w8 ⟨A2, m2, rfl, hp2, hb⟩
    have HB8 := Lib.hid (HB7.out.trans (hb.mono HB7.out.size))
    have P1_8 := Lib.hid (P1_7.out.below hb)
    have P2_8 := Lib.hid hp2
    clear hb P1_7 hp2
    have t1 : ((103 : Int) != 0) = true := by decide
    go_wp2_with fail
    go_ret
    exact ⟨rfl, HB8.out⟩
  | true =>
    have hga : ga = true := by cases ga <;> simp_all
    rw [hG] at CY CB
    rw [hga] at CX
    rw [if_pos rfl] at CB
    clear hG hga
    have hl := outL_le true PX
    generalize outL true PX = L1 at *
    generalize outN true PX = N1 at *
    obtain ⟨n, hn⟩ : ∃ n, n = L1.length := ⟨_, rfl⟩
    rw [← hn] at CX CY hl
    have HS := Lib.hid (fun A A' c c' w h h' => Ev.same_any L1 A A' n c c' w hn.symm h h' (by omega))
    clear hn
    go_enter Tryz.func5, Tryz.ntmps5
    go_wp2_with fail
    refine CA.out.mono ?_
    rintro e w1 ⟨rfl, hb1⟩
    have HB1 := Lib.hid hb1
    clear hb1 CA
    go_wp2_with fail
    refine (CEa.out _ HB1.out).mono ?_
    rintro e w2 ⟨rfl, hb⟩
    have HB2 := Lib.hid (HB1.out.trans (hb.mono HB1.out.size))
    clear hb
    go_wp2_with fail
    refine (CEc.out _ HB2.out).mono ?_
    rintro e w3 ⟨rfl, hb⟩
    have HB3 := Lib.hid (HB2.out.trans (hb.mono HB2.out.size))
    clear hb
    go_wp2_with fail
    refine (CEk.out _ HB3.out).mono ?_
    rintro e w4 ⟨rfl, hb⟩
    have HB4 := Lib.hid (HB3.out.trans (hb.mono HB3.out.size))
    clear hb
    go_wp2_with fail
    refine (CEd.out _ HB4.out).mono ?_
    rintro e w5 ⟨rfl, hb⟩
    have HB5 := Lib.hid (HB4.out.trans (hb.mono HB4.out.size))
    clear hb
    go_wp2_with fail
    refine (CB.out _ HZ.out _ HB5.out).mono ?_
    rintro e w6 ⟨A3, m3, c3, rfl, hb⟩
    have HB6 := Lib.hid (HB5.out.trans (hb.mono HB5.out.size))
    clear hb
    go_wp2_with fail
    refine (CX.out _ HX.out _ HB6.out).mono ?_
    rintro e w7 ⟨A1, m1, rfl, hp1, hb⟩
    have HB7 := Lib.hid (HB6.out.trans (hb.mono HB6.out.size))
    have P1_7 := Lib.hid hp1
    clear hb hp1
    go_wp2_with fail
    refine (CY.out _ HY.out _ HB7.out).mono ?_
    rintro e w8 ⟨A2, m2, rfl, hp2, hb⟩
    have HB8 := Lib.hid (HB7.out.trans (hb.mono HB7.out.size))
    have P1_8 := Lib.hid (P1_7.out.below hb)
    have P2_8 := Lib.hid hp2
    clear hb P1_7 hp2
    go_wp2_with fail
    refine (HS.out A1 A2 m1 m2 w8 P1_8.out P2_8.out).mono ?_
    rintro e w9 ⟨rfl, hb⟩
    have HB9 := Lib.hid (HB8.out.trans (hb.mono HB8.out.size))
    clear hb
    have t1 : (N1 == N1) = true := by simp
    go_wp2_with fail
    go_ret
    exact ⟨rfl, HB9.out⟩
theorem rpmmdTypes_walk {H : Type} {enc : TypeId × Value → H} (W : World) {v0 v1 v2 v3 : Value} {d0 d1 d2 d3 : DataW H} (h0 : In enc Tryz.prog W 9 v0 d0) (h1 : In enc Tryz.prog W 9 v1 d1) (h2 : In enc Tryz.prog W 9 v2 d2) (h3 : In enc Tryz.prog W 9 v3 d3)
    (hL : laidMetH Tryz.prog Rows.rpmmdTypesRow.laid W) (hsz : (DataW.weightsEach Tryz.prog [9, 9, 9, 9] [d0, d1, d2, d3]).all (· ≤ reachBytes) = true) (hSh : W.ShapedOpen Tryz.prog) :
    Calls Tryz.prog 5 #[v0, v1, v2, v3] W (TrueBelow W) := by
  obtain ⟨s0, rfl, -, -⟩ := h0.string Tryz.underlying9
  obtain ⟨s1, rfl, -, -⟩ := h1.string Tryz.underlying9
  obtain ⟨s2, rfl, -, -⟩ := h2.string Tryz.underlying9
  obtain ⟨s3, rfl, -, -⟩ := h3.string Tryz.underlying9
  rw [MakeChecks.laidMetH_plain _ _ _ (by kernel_rfl)] at hL
  have hE := mdEnv_of hL (by simp [Rows.rpmmdTypesRow]) (by simp [Rows.rpmmdTypesRow]) (by simp [Rows.rpmmdTypesRow]) (by simp [Rows.rpmmdTypesRow]) (by simp [Rows.rpmmdTypesRow]) hSh
  have hP := pow_below (pow_mem hL (by simp [Rows.rpmmdTypesRow]))
  rw [← mk_of s0, ← mk_of s1, ← mk_of s2, ← mk_of s3]
  generalize s0.data.toList = a
  generalize s1.data.toList = c
  generalize s2.data.toList = k
  generalize s3.data.toList = d
  by_cases h0 : 100 < a.length
  · exact types_longa a c k d h0 W hE hP
  by_cases h1 : 100 < c.length
  · exact types_longc a c k d h0 h1 W hE hP
  by_cases h2 : 100 < k.length
  · exact types_longk a c k d h0 h1 h2 W hE hP
  by_cases h3 : 100 < d.length
  · exact types_longd a c k d h0 h1 h2 h3 W hE hP
  by_cases h4 : k = rpmN
  · exact types_rpm a c k d (by omega) (by omega) (by omega) (by omega) h4 W hE hP
  · exact types_main a c k d (by omega) (by omega) (by omega) (by omega) h4 W hE hP
end Go.Proofs.YtljldbdjkjllhaaGreatDoor
