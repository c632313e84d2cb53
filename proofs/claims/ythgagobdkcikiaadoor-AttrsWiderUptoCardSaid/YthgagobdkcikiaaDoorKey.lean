/- The contract of addKey. -/
import Derived.Test.YthgagobdkcikiaaDoorAddDir
namespace Go.Proofs.YthgagobdkcikiaaDoor
set_option linter.unusedSimpArgs false
set_option linter.unusedVariables false
open Go.RowKit

/-- A store with one more key. -/
def withKey (S : VSt) (key : ByteArray) (k : Int) (nb : Nat) : VSt :=
  ⟨S.keys ++ [key], fun b => if b = key then some k else S.kind b, fun b => if b = key then some nb else S.inner b, S.raw⟩
theorem withKey_ok {S : VSt} {key : ByteArray} {k : Int} {nb : Nat} (h : VOk S) (hk : S.kind key = none) (hs : key.size ≤ 60) (hf : S.keys.length < 64) (hnb : ∀ k b, S.inner k = some b → b < nb) : VOk (withKey S key k nb) where
  few := by simp [withKey]; omega
  once := by
    have hn : key ∉ S.keys := fun hm => by have := (h.kinds key).2 hm; rw [hk] at this; cases this
    show (S.keys ++ [key]).Nodup
    rw [List.nodup_append]
    refine ⟨h.once, by simp, ?_⟩
    intro a ha b hb
    simp at hb
    subst hb
    rintro rfl
    exact hn ha
  short := by
    intro b hb
    rcases List.mem_append.1 hb with hb | hb
    · exact h.short b hb
    · simp at hb; subst hb; exact hs
  kinds := fun b => by
    show (if b = key then some k else S.kind b).isSome = true ↔ b ∈ S.keys ++ [key]
    by_cases hb : b = key
    · simp [hb]
    · simp only [if_neg hb, List.mem_append, List.mem_singleton, hb, or_false]; exact h.kinds b
  inners := fun b => by
    show (if b = key then some nb else S.inner b).isSome = true ↔ b ∈ S.keys ++ [key]
    by_cases hb : b = key
    · simp [hb]
    · simp only [if_neg hb, List.mem_append, List.mem_singleton, hb, or_false]; exact h.inners b
  apart := fun a b g ha hb => by
    change (if a = key then some nb else S.inner a) = some g at ha
    change (if b = key then some nb else S.inner b) = some g at hb
    by_cases h1 : a = key
    · by_cases h2 : b = key
      · rw [h1, h2]
      · rw [if_pos h1] at ha; rw [if_neg h2] at hb
        injection ha with ha; have := hnb b g hb; omega
    · by_cases h2 : b = key
      · rw [if_neg h1] at ha; rw [if_pos h2] at hb
        injection hb with hb; have := hnb a g ha; omega
      · rw [if_neg h1] at ha; rw [if_neg h2] at hb
        exact h.apart a b g ha hb
  none_ := fun b id hb => by
    change (if b = key then some nb else S.inner b) = none at hb
    by_cases h1 : b = key
    · rw [if_pos h1] at hb; cases hb
    · rw [if_neg h1] at hb; exact h.none_ b id hb
def KeyPost (w : World) (bs : Nat) (vk : Value) (mk mv : Nat) (vd vp : Value) (S : VSt) (N : Nat) (key : ByteArray) (k : Int) (e : Ending) (w' : World) : Prop :=
  e = .returned (.tuple #[]) ∧ ∃ vk' nb, Blk w' bs 56 #[vk', .map (some mk), .map (some mv), vd, vp] ∧ ValP w' vk' mk mv (withKey S key k nb) N ∧
    Turned (bs :: mk :: mv :: vk.ownBlock.toList) w w' ∧ w.heap.size ≤ nb ∧ (vk'.ownBlock = vk.ownBlock ∨ ∃ g, w.heap.size ≤ g ∧ vk'.ownBlock = some g)
theorem kf_put {f : ByteArray → Option Int} {D : DataW Unit} (h : Agrees kdS (fun _ => True) D f) (key : ByteArray) (k : Int) : Agrees kdS (fun _ => True) (D.put (kdS key) (.lit (.int .i64 k))) (fun b => if b = key then some k else f b) :=
  h.put (fun a b _ _ => kdS_inj a b) key trivial (kdS_key _) k
set_option maxHeartbeats 2000000 in
set_option maxRecDepth 100000 in
theorem key_fin {w w1 w2 w3 w4 : World} {bs mk mv ck c2 N : Nat} {Ak A2 : Option Addr} {vd vp : Value} {S : VSt} {key : ByteArray} {k : Int} {D E : DataW Unit} {t : TypeId} {cs : Array Value}
    (hV : ValP w (.slice Ak S.keys.length ck) mk mv S N) (hB : Blk w bs 56 #[.slice Ak S.keys.length ck, .map (some mk), .map (some mv), vd, vp]) (hAD : Agrees kdS (fun _ => True) D S.kind) (hAE : Agr kdS (fun _ => True) enM E (fun k => (S.inner k).map some))
    (hk : S.kind key = none) (hs : key.size ≤ 60) (hf : S.keys.length < 64) (hb1 : Below w.heap.size w w1)
    (hg2 : (w1.alloc (.cells cs t)).grownBy w2 (Value.slice Ak S.keys.length ck).ownBlock) (hat2 : (Value.slice A2 (S.keys.length + 1) c2).ownBlock = (Value.slice Ak S.keys.length ck).ownBlock ∨ (Value.slice A2 (S.keys.length + 1) c2).ownBlock = some (w1.alloc (.cells cs t)).heap.size)
    (hO2 : w2.ownsRow 0 9 1 (.slice A2 (S.keys.length + 1) c2) (S.keys.length + 1) (S.keys.map .string ++ [.string key]))
    (hB2 : Blk w2 bs 56 #[.slice Ak S.keys.length ck, .map (some mk), .map (some mv), vd, vp])
    (hM3 : w3.ownsMap Tryd.prog 9 (plainElem Tryd.prog 3) mk (S.keys.length + 1) (D.put (kdS key) (.lit (.int .i64 k))))
    (hg3 : (w2.setCell ⟨bs, 0, none⟩ (.slice A2 (S.keys.length + 1) c2)).grownBy w3 (some mk))
    (hM4 : w4.ownsMap Tryd.prog 9 rdM mv (S.keys.length + 1) (E.put (kdS key) (enM (some w3.heap.size))))
    (hg4 : (w3.alloc (.map #[] 0)).grownBy w4 (some mv)) :
    KeyPost w bs (.slice Ak S.keys.length ck) mk mv vd vp S N key k (.returned (.tuple #[])) w4 := by
  obtain ⟨D0, hMk, _⟩ := hV.kinds
  obtain ⟨E0, hMv, _⟩ := hV.vals
  have hkb : mk ≠ bs := map_kind hMk hB
  have hvb : mv ≠ bs := map_kind hMv hB
  have hrb : (Value.slice Ak S.keys.length ck).ownBlock ≠ some bs := own_kind hV.row hB (by decide)
  have hrk : (Value.slice Ak S.keys.length ck).ownBlock ≠ some mk := map_own hMk hV.row
  have hrv : (Value.slice Ak S.keys.length ck).ownBlock ≠ some mv := map_own hMv hV.row
  have hz1 := hb1.size
  have hz2 := hg2.size
  have hz3 := hg3.size
  have hz4 := hg4.size
  simp [World.setCell] at hz2 hz3 hz4
  have hbl := hB.lt
  have hml := hMk.lt
  have hvl := hMv.lt
  have T2 : Turned ((Value.slice Ak S.keys.length ck).ownBlock.toList) w w2 := (((Turned.of_below hb1 _).alloc _).grown hg2 (fun j hj => .inl (by simp [hj])))
  have T3 : Turned (bs :: mk :: (Value.slice Ak S.keys.length ck).ownBlock.toList) w w3 := (((T2.more (fun j hj => by simp at hj ⊢; exact .inr (.inr hj))).setCell (.inl (by simp)) _).grown hg3 (fun j hj => .inl (by cases hj; simp)))
  have T4 : Turned (bs :: mk :: mv :: (Value.slice Ak S.keys.length ck).ownBlock.toList) w w4 := ((T3.more (fun j hj => by simp at hj ⊢; rcases hj with h | h | h <;> simp [h])).alloc _).grown hg4 (fun j hj => .inl (by cases hj; simp))
  have hinl : ∀ a b, S.inner a = some b → b < w.heap.size := fun a b hb => by
    obtain ⟨_, hm, _⟩ := hV.inn a b hb
    exact hm.lt
  have hown : ∀ g, (Value.slice A2 (S.keys.length + 1) c2).ownBlock = some g → (Value.slice Ak S.keys.length ck).ownBlock = some g ∨ w.heap.size ≤ g := fun g hg => by
    rcases hat2 with e | e
    · left; rw [← e]; exact hg
    · right; rw [e] at hg; injection hg with hg; simp at hg; omega
  have hA2b : (Value.slice A2 (S.keys.length + 1) c2).ownBlock ≠ some bs := fun e => by
    rcases hown _ e with h | h
    · exact hrb h
    · omega
  have hA2k : (Value.slice A2 (S.keys.length + 1) c2).ownBlock ≠ some mk := fun e => by
    rcases hown _ e with h | h
    · exact hrk h
    · omega
  have hA2v : (Value.slice A2 (S.keys.length + 1) c2).ownBlock ≠ some mv := fun e => by
    rcases hown _ e with h | h
    · exact hrv h
    · omega
  have hB3 : Blk w3 bs 56 #[.slice A2 (S.keys.length + 1) c2, .map (some mk), .map (some mv), vd, vp] := by
    have := (hB2.set_ 0 (.slice A2 (S.keys.length + 1) c2)).grown hg3 (fun e => hkb (by injection e with e; exact e.symm))
    simpa using this
  have hB4 := (hB3.alloc (.map #[] 0)).grown hg4 (fun e => hvb (by injection e with e; exact e.symm))
  have hO3 := (own_setCell (p := ⟨bs, 0, none⟩) hO2 hA2b (.slice A2 (S.keys.length + 1) c2)).kept hg3 (.inr hA2k)
  have hO4 := (hO3.alloc (.map #[] 0)).kept hg4 (.inr hA2v)
  have hM34 := (hM3.alloc (.map #[] 0)).kept hg4 (fun e => hV.two (by injection e with e))
  have hin4 : ∀ a b, S.inner a = some b → b ∉ bs :: mk :: mv :: (Value.slice Ak S.keys.length ck).ownBlock.toList := fun a b hb hm => by
    obtain ⟨_, hmi, _⟩ := hV.inn a b hb
    simp only [List.mem_cons, Option.mem_toList] at hm
    rcases hm with e | e | e | e
    · exact map_kind hmi hB e
    · exact (hV.far a b hb).1 e
    · exact (hV.far a b hb).2 e
    · exact map_own hmi hV.row e
  have hik : S.inner key = none := by
    cases hi : S.inner key with
    | none => rfl
    | some b =>
      have h1 := (hV.ok.inners key).1 (by rw [hi]; rfl)
      have h2 := (hV.ok.kinds key).2 h1
      rw [hk] at h2; cases h2
  refine ⟨rfl, .slice A2 (S.keys.length + 1) c2, w3.heap.size, hB4, ⟨withKey_ok hV.ok hk hs hf (fun a b hb => by have := hinl a b hb; omega), ?_, ⟨_, ?_, kf_put hAD key k⟩, ⟨E.put (kdS key) (enM (some w3.heap.size)), ?_, ?_⟩, ?_, hV.two, ?_, ?_, ?_⟩, T4, by omega, ?_⟩
  · show w4.ownsRow 0 9 1 _ (S.keys ++ [key]).length ((S.keys ++ [key]).map .string)
    rw [List.length_append, List.map_append]; exact hO4
  · show w4.ownsMap _ _ _ mk (S.keys ++ [key]).length _
    rw [List.length_append]; exact hM34
  · show w4.ownsMap _ _ _ mv (S.keys ++ [key]).length _
    rw [List.length_append]; exact hM4
  · refine (hAE.put (fun a b _ _ => kdS_inj a b) key trivial (kdS_key _) (some w3.heap.size)).congr fun b => ?_
    show _ = Option.map some (if b = key then some w3.heap.size else S.inner b)
    by_cases hb : b = key
    · simp [hb]
    · simp [hb]
  · intro a b hb
    change (if a = key then some w3.heap.size else S.inner a) = some b at hb
    by_cases ha : a = key
    · rw [if_pos ha] at hb
      injection hb with hb
      subst hb; subst ha
      have hm : w4.ownsMap Tryd.prog 3 rdR w3.heap.size 0 (.map []) := (World.ownsMap_made (H := Unit) w3 Tryd.prog 3 rdR).kept hg4 (fun e => by injection e with e; omega)
      exact ⟨_, hm.mono (Nat.zero_le _), (Agr.none_ kdI okI enRN).congr fun id => (hV.ok.none_ a id hik).symm⟩
    · rw [if_neg ha] at hb
      obtain ⟨Di, hmi, hAi⟩ := hV.inn a b hb
      exact ⟨Di, map_turned hmi T4 (hin4 a b hb), hAi⟩
  · intro a b hb
    change (if a = key then some w3.heap.size else S.inner a) = some b at hb
    by_cases ha : a = key
    · rw [if_pos ha] at hb; injection hb with hb; constructor <;> omega
    · rw [if_neg ha] at hb; exact hV.far a b hb
  · intro a id r hr
    obtain ⟨l, hl, ho⟩ := hV.lists a id r hr
    refine ⟨l, ?_, ho⟩
    unfold RowAt at hl ⊢
    cases hra : r.1.a with
    | none => rw [hra] at hl; exact hl
    | some b =>
      rw [hra] at hl
      obtain ⟨h1, h2⟩ := hl
      refine ⟨h1, h2.turned T4 fun hm => ?_⟩
      simp only [List.mem_cons, Option.mem_toList] at hm
      rcases hm with e | e | e | e
      · exact Blk.kind h2 hB (by decide) e
      · exact map_kind hMk h2 e.symm
      · exact map_kind hMv h2 e.symm
      · exact (hV.listsFar a id r b hr hra).2 e
  · intro a id r b hr hra
    obtain ⟨h1, h2⟩ := hV.listsFar a id r b hr hra
    refine ⟨by omega, fun e => ?_⟩
    rcases hown b e with h | h
    · exact h2 h
    · omega
  · rcases hat2 with e | e
    · exact .inl e
    · exact .inr ⟨_, by simp; omega, e⟩

set_option maxHeartbeats 4000000 in
set_option maxRecDepth 100000 in
theorem addKey_any (w : World) (bs : Nat) (vk : Value) (mk mv : Nat) (vd vp : Value) (S : VSt) (N : Nat) (hB : Blk w bs 56 #[vk, .map (some mk), .map (some mv), vd, vp]) (hV : ValP w vk mk mv S N) (key : ByteArray) (k : Int) (hwk : (Lit.int .i64 k).wf = true)
    (hs : key.size ≤ 60) (hk : S.kind key = none) (hf : S.keys.length < 64) :
    Calls Tryd.prog 26 #[.pointer (some ⟨bs, 0, none⟩), .string key, .int .i64 k] w (KeyPost w bs vk mk mv vd vp S N key k) := by
  obtain ⟨Ak, ck, rfl, hk1, hk2⟩ := own_form' hV.row
  obtain ⟨D, hM, hAD⟩ := hV.kinds
  obtain ⟨E, hM2, hAE⟩ := hV.vals
  have hkb : mk ≠ bs := map_kind hM hB
  have hvb : mv ≠ bs := map_kind hM2 hB
  have hrk : (Value.slice Ak S.keys.length ck).ownBlock ≠ some mk := map_own hM hV.row
  have hrv : (Value.slice Ak S.keys.length ck).ownBlock ≠ some mv := map_own hM2 hV.row
  have h2 := hV.two
  have hrow := hV.row
  have HB := Lib.hid hB
  have HV := Lib.hid hV
  have HM := Lib.hid hM
  have HM2 := Lib.hid hM2
  have HAD := Lib.hid hAD
  have HAE := Lib.hid hAE
  have HK := Lib.hid hk
  have HR := Lib.hid hrow
  have HRK := Lib.hid hrk
  have HRV := Lib.hid hrv
  have H2 := Lib.hid h2
  have HKB := Lib.hid hkb
  have HVB := Lib.hid hvb
  have hbl := hB.lt
  have c0 : w.cell? ⟨bs, 0, none⟩ = some (.slice Ak S.keys.length ck) := hB.cell 0
  have HKY := Lib.hid (Go.WideMaps.keyOf_string_mk (P := Tryd.prog) Tryd.underlying9 (s := key) (by unfold maxLen; omega))
  obtain ⟨i0, hi, hz0, hz1, hz2⟩ := info_parts infoS
  have hmm := @run_makeMap Tryd.prog
  unfold maxLen at hk2
  clear hM hM2 hAD hAE hk hB hV hrow hrk hrv h2 hkb hvb
  go_enter Tryd.func26, Tryd.ntmps26
  go_wp2_with fail
  refine (clone_any key w (by omega)).mono ?_
  rintro e w1 ⟨rfl, hb1⟩
  have hs1 := hb1.size
  have B1 := Lib.hid (HB.out.below hb1 hbl)
  have c01 : w1.cell? ⟨bs, 0, none⟩ = some (.slice Ak S.keys.length ck) := B1.out.cell 0
  have HN1 := Lib.hid (own_turned HR.out (Turned.of_below hb1 []) (fun k _ => by simp))
  have f01 := B1.out.free 0
  have M1 := Lib.hid (map_turned HM.out (Turned.of_below hb1 []) (fun hk => by cases hk))
  have V1 := Lib.hid (map_turned HM2.out (Turned.of_below hb1 []) (fun hk => by cases hk))
  have HB1 := Lib.hid hb1
  have hbl1 : bs < w1.heap.size := by omega
  clear hb1
  go_wp2_with (first
    | (at_builtin; refine wpList_append_own_at _ rfl (.tmp 12) (.tmp 14) 25 rfl 0 9 i0 (.string ByteArray.empty) 1 16 Tryd.underlying25 hi hz0 hz1 hz2 rfl (by decide) (.slice Ak S.keys.length ck) S.keys.length (S.keys.map .string) rfl (HN1.out.alloc _) ⟨w1.heap.size, 0, none⟩ 1 1 [.string key] rfl rfl (cell_one_new _ _ _) (fun u hu => by simp at hu; subst hu; rfl) (by unfold maxLen; omega) (by omega) (Nat.zero_le _) ?_; intro v2 w2 hown2 hg2 hnil2 hat2; obtain ⟨A2, c2, rfl, hc2, hm2⟩ := own_form' hown2; have B2 := Lib.hid ((B1.out.alloc _).grown hg2 (fun e => own_kind HN1.out B1.out (by decide) e.symm)); have c02 : w2.cell? ⟨bs, 0, none⟩ = some (.slice Ak S.keys.length ck) := B2.out.cell 0; have c12 : w2.cell? ⟨bs, 1, none⟩ = some (.map (some mk)) := B2.out.cell 1; have f02 := B2.out.free 0; have O2 := Lib.hid hown2; have G2 := Lib.hid hg2; have AT2 := Lib.hid hat2; have M2 := Lib.hid (((M1.out.alloc _).kept hg2 (fun e => HRK.out e.symm)).setCell (a := ⟨bs, 0, none⟩) HKB.out (.slice A2 (S.keys.length + 1) c2)); have V2 := Lib.hid (((V1.out.alloc _).kept hg2 (fun e => HRV.out e.symm)).setCell (a := ⟨bs, 0, none⟩) HVB.out (.slice A2 (S.keys.length + 1) c2)); clear hown2 hg2 hnil2 hat2)
    | (at_mapUpdate; refine wpList_mapUpdate_own _ rfl _ _ _ 51 rfl 9 3 lawS Tryd.underlying51 _ mk S.keys.length D rfl M2.out (by unfold maxLen; omega) _ _ _ rfl rfl HKY.out _ [] (plainElem_int Tryd.underlying3 hwk) ?_; intro w3 hown3 hg3; have O3 := Lib.hid hown3; have G3 := Lib.hid hg3; have V3 := Lib.hid ((V2.out.kept hg3 (fun e => H2.out (by injection e with e; exact e.symm))).alloc (.map #[] 0)); have c23 : w3.cell? ⟨bs, 2, none⟩ = some (.map (some mv)) := ((B2.out.set_ 0 (.slice A2 (S.keys.length + 1) c2)).grown hg3 (fun e => HKB.out (by injection e with e; exact e.symm))).cell 2; clear hown3 hg3)
    | (at_mapUpdate; refine wpList_mapUpdate_own _ rfl _ _ _ 52 rfl 9 63 lawS Tryd.underlying52 rdM mv S.keys.length E rfl V3.out (by unfold maxLen; omega) _ _ _ rfl rfl HKY.out (enM (some w3.heap.size)) [] (rdBy_val valM_inj (some w3.heap.size)) ?_; intro w4 hown4 hg4; have O4 := Lib.hid hown4; have G4 := Lib.hid hg4; clear hown4 hg4))
  go_end0
  exact key_fin HV.out HB.out HAD.out HAE.out HK.out hs hf HB1.out G2.out AT2.out O2.out B2.out O3.out G3.out O4.out G4.out
end Go.Proofs.YthgagobdkcikiaaDoor
