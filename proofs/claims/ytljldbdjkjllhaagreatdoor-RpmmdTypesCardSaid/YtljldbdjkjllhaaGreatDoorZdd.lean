/- An element begins: what the reader does, in memory. A text, and the end of an element: what the reader does, in memory. -/
import Derived.Test.YtljldbdjkjllhaaGreatDoorZdc
/- An element begins: what the reader does, in memory. -/
namespace Go.Proofs.YtljldbdjkjllhaaGreatDoor
set_option linter.unusedSimpArgs false
set_option linter.unusedVariables false
open Go.RowKit

def Res (w : World) (B r : Nat) (x : Rx) (n : Int) (w' : World) : Prop := Below B w w' ∧ match x with
  | .go s' => n = 0 ∧ RS w' B r s'
  | .bad m => n = m ∧ m ≠ 0
section
variable {w : World} {B r pk g c : Nat} {k : Kd × Bs} {kd0 : Kd} {rest : List (Kd × Bs)} {cur : Option Px} {got : List Px} {gs : List Nat} {tv vp rv : Value} {ov : List Value} {pc : Pc} {A : Option Addr}
theorem RM.far_row (h : RM w B r pk k rest cur got g gs tv vp rv ov) : ∀ x, vp.ownBlock = some x → x ∉ [r] := fun x hx hm => by
  simp at hm
  exact own_kind h.row h.rd (by decide) (by rw [hx, hm])
theorem RM.up_ne (h : RM w B r pk k rest cur got g gs tv vp rv ov) (hne : rest ≠ []) : ∃ a, upOf gs = some a := by
  have ht := h.tail
  cases rest with
  | nil => exact absurd rfl hne
  | cons a s =>
    cases gs with
    | nil => exact ht.elim
    | cons b t => exact ⟨_, rfl⟩
theorem out_step (h : RM w B r pk (kd0, []) rest cur got g gs tv vp rv ov) (hne : rest ≠ []) (hnf : ∀ mo en, KdAt w r pk kd0 mo en → WithinAt w pc.name (.map mo) .nilFunc) :
    Calls Tryz.prog 44 #[.pointer (some ⟨r, 0, none⟩), .agg #[.int .i64 pc.kind, .string (mkS pc.name), .slice A pc.attrs.length c, .string (mkS pc.text)]] w fun e w' => ∃ n, e = .returned (.int .i64 n) ∧ Res w B r (.go ⟨(.no, []) :: (kd0, []) :: rest, cur, got⟩) n w' := by
  obtain ⟨a0, ha0⟩ := h.up_ne hne
  obtain ⟨hB0, mo, en, hb, hk⟩ := h.top
  rw [ha0] at hb
  refine (start_out r g vp en mo a0 tv pc A c w h.rd hb (hnf mo en hk)).mono ?_
  rintro e w' ⟨rfl, ht, g', hr, hn, hg⟩
  have hF : Lo w [r] := Lo.one h.rd (.inl rfl)
  have hFB : ∀ x ∈ [r], B ≤ x := fun x hx => by simp at hx; rw [hx]; exact h.rB
  refine ⟨0, rfl, ht.below hFB h.size, rfl, _, _, rfl, pk, g', g :: gs, _, vp, rv, ov, h.push rfl ht hF hFB h.far_row hr hn hg (⟨rfl, rfl⟩ : KdAt w' r pk .no none .nilFunc) (h.all rfl ht hF (h.far h.rd (by decide))) ?_⟩
  intro c hc
  obtain ⟨a, b, d, e⟩ := h.cur c hc
  exact ⟨a, b.turned ht (fun hm => by simp at hm; exact Blk.kind b h.rd (by decide) hm), d.stay ht hF, e⟩
/-- What a known begin leaves. -/
def InQ (B r pk : Nat) (k : Kd × Bs) (rest : List (Kd × Bs)) (g : Nat) (gs : List Nat) (vp : Value) (kd : Kd) (cur' : Option Px) (mo : Option Nat) (en : Value) (w2 : World) : Prop :=
  ∃ pk' rv', KdAt w2 r pk' kd mo en ∧ (∀ c, cur' = some c → B ≤ pk' ∧ Blk w2 pk' 42 (rowX c rv') ∧ RqAt w2 c.rq rv' ∧ vp.ownBlock ≠ some pk') ∧ ∀ W, TailAt W B r pk (k :: rest) (g :: gs) → TailAt W B r pk' (k :: rest) (g :: gs)
theorem in_step (h : RM w B r pk k rest cur got g gs tv vp rv ov) (hk0 : k.2 = []) {mo : Option Nat} {en : Value} (hb : Blk w g 65 #[.map mo, en, .pointer (upOf gs), tv]) {fc : Nat} {Bf K : Array Value} (hw : WithinAt w pc.name (.map mo) (.func (.func fc) Bf K)) (ef : Enters Tryz.prog fc)
    {F : List Nat} (hF : Lo w F) (hFB : ∀ x ∈ F, B ≤ x) (hFv : ∀ x, vp.ownBlock = some x → x ∉ F) (hFg : ∀ x ∈ g :: gs, x ∉ F) (hrF : r ∉ F) (kd : Kd) (cur' : Option Px)
    (hC : ∀ w1, Below w.heap.size w w1 → Calls Tryz.prog fc (Bf.push (.agg #[.int .i64 pc.kind, .string (mkS pc.name), .slice A pc.attrs.length c, .string (mkS pc.text)]) ++ K) w1 fun e w2 => ∃ mo' en', e = .returned (.tuple #[.agg #[.map mo', en'], .int .i64 0]) ∧ en'.oneCell' = true ∧ Turned F w1 w2 ∧ InQ B r pk k rest g gs vp kd cur' mo' en' w2) :
    Calls Tryz.prog 44 #[.pointer (some ⟨r, 0, none⟩), .agg #[.int .i64 pc.kind, .string (mkS pc.name), .slice A pc.attrs.length c, .string (mkS pc.text)]] w fun e w' => ∃ n, e = .returned (.int .i64 n) ∧ Res w B r (.go ⟨(kd, []) :: k :: rest, cur', got⟩) n w' := by
  refine (start_in fc Bf K F (InQ B r pk k rest g gs vp kd cur') r g vp en (.pointer (upOf gs)) mo tv pc A c w h.rd hb hw ef (fun x hx => by obtain ⟨t, cs, hx, _⟩ := hF x hx; exact hx.lt) hrF hC).mono ?_
  rintro e w' ⟨rfl, mo', en', wq, g', ⟨pk', rv', hk, hcu, htl⟩, hrq, hgq, htq, ht, hg', hr', hn'⟩
  have hLq : Lo wq [r, g'] := Lo.cons hrq (.inl rfl) (Lo.one hgq (.inr (.inl rfl)))
  have hL : Lo w (r :: F) := Lo.cons h.rd (.inl rfl) hF
  have hLB : ∀ x ∈ r :: F, B ≤ x := fun x hx => by
    rcases List.mem_cons.1 hx with rfl | hx
    · exact h.rB
    · exact hFB x hx
  have hall := h.all hk0 ht hL (fun x hx hm => by
    rcases List.mem_cons.1 hm with e | hm
    · exact h.far h.rd (by decide) x hx (by simp [e])
    · exact hFg x hx hm)
  refine ⟨0, rfl, ht.below hLB h.size, rfl, _, _, rfl, pk', g', g :: gs, _, vp, rv', ov, h.push hk0 ht hL hLB ?_ hr' hn' hg' (hk.stay htq hLq.loose) (htl _ hall) ?_⟩
  · intro x hx hm
    rcases List.mem_cons.1 hm with e | hm
    · exact h.far_row x hx (by simp [e])
    · exact hFv x hx hm
  · intro c hc
    obtain ⟨a, b, d, e⟩ := hcu c hc
    refine ⟨a, b.turned htq (fun hm => ?_), d.stay htq hLq, e⟩
    simp at hm
    rcases hm with e | e
    · exact Blk.kind b hrq (by decide) e
    · exact Blk.kind b hgq (by decide) e
theorem args1 (a b : Value) : (#[a].push b ++ #[] : Array Value) = #[a, b] := by simp
theorem args2 (a b : Value) : ((#[] : Array Value).push b ++ #[a] : Array Value) = #[b, a] := by simp
theorem look_hit {w : World} {m : Nat} {nm : Bs} {v : Value} {l : List (ByteArray × Value)} (hm : w.heap[m]? = some (mapO l)) (hl : lookO (mkS nm) l = some v) : WithinAt w nm (.map (some m)) v := .inr ⟨m, l, rfl, hm, by rw [hl]; rfl⟩
theorem look_no {w : World} {m : Nat} {nm : Bs} {l : List (ByteArray × Value)} (hm : w.heap[m]? = some (mapO l)) (hl : lookO (mkS nm) l = none) : WithinAt w nm (.map (some m)) .nilFunc := .inr ⟨m, l, rfl, hm, by rw [hl]; rfl⟩
theorem RM.keep (h : RM w B r pk k rest cur got g gs tv vp rv ov) {w2 : World} (hb : Below w.heap.size w w2) : ∀ c, cur = some c → B ≤ pk ∧ Blk w2 pk 42 (rowX c rv) ∧ RqAt w2 c.rq rv ∧ vp.ownBlock ≠ some pk := (h.below hb).cur
/-- A begin that changes nothing that is there. -/
theorem in_step0 (h : RM w B r pk k rest cur got g gs tv vp rv ov) (hk0 : k.2 = []) {mo : Option Nat} {en : Value} (hb : Blk w g 65 #[.map mo, en, .pointer (upOf gs), tv]) {fc : Nat} {Bf K : Array Value} (hw : WithinAt w pc.name (.map mo) (.func (.func fc) Bf K)) (ef : Enters Tryz.prog fc) (kd : Kd)
    (hC : ∀ w1, Below w.heap.size w w1 → Calls Tryz.prog fc (Bf.push (.agg #[.int .i64 pc.kind, .string (mkS pc.name), .slice A pc.attrs.length c, .string (mkS pc.text)]) ++ K) w1 fun e w2 => ∃ mo' en', e = .returned (.tuple #[.agg #[.map mo', en'], .int .i64 0]) ∧ en'.oneCell' = true ∧ Below w1.heap.size w1 w2 ∧ KdAt w2 r pk kd mo' en') :
    Calls Tryz.prog 44 #[.pointer (some ⟨r, 0, none⟩), .agg #[.int .i64 pc.kind, .string (mkS pc.name), .slice A pc.attrs.length c, .string (mkS pc.text)]] w fun e w' => ∃ n, e = .returned (.int .i64 n) ∧ Res w B r (.go ⟨(kd, []) :: k :: rest, cur, got⟩) n w' := by
  refine in_step h hk0 hb hw ef (F := []) (Lo.nil _) (fun x hx => by cases hx) (fun _ _ hx => by cases hx) (fun _ _ hx => by cases hx) (fun hx => by cases hx) kd cur (fun w1 hb1 => (hC w1 hb1).mono ?_)
  rintro e w2 ⟨mo', en', rfl, ho, hb2, hk⟩
  exact ⟨mo', en', rfl, ho, Turned.of_below hb2 [], pk, rv, hk, h.keep (hb1.trans (hb2.mono hb1.size)), fun _ h => h⟩
theorem st_top (h : RM w B r pk (.top, []) rest cur got g gs tv vp rv ov) (hn : pc.name = metaN) :
    Calls Tryz.prog 44 #[.pointer (some ⟨r, 0, none⟩), .agg #[.int .i64 pc.kind, .string (mkS pc.name), .slice A pc.attrs.length c, .string (mkS pc.text)]] w fun e w' => ∃ n, e = .returned (.int .i64 n) ∧ Res w B r (.go ⟨(.md, []) :: (.top, []) :: rest, cur, got⟩) n w' := by
  obtain ⟨hB0, mo, en, hb, rfl, m, rfl, hm⟩ := h.top
  refine in_step0 h rfl hb (fc := 25) (Bf := #[.pointer (some ⟨r, 0, none⟩)]) (K := #[]) (look_hit hm (by rw [hn]; exact k_hit _ _ _)) (enters_of Tryz.func25 (by kernel_rfl) rfl) .md (fun w1 hb1 => ?_)
  rw [args1]
  refine (metadata_any r pc A c w1).mono ?_
  rintro e w2 ⟨m', rfl, hm', hb2⟩
  exact ⟨some m', .nilFunc, rfl, rfl, hb2, rfl, m', rfl, hm'⟩
theorem st_root (h : RM w B r pk (.top, []) [] cur got g gs tv vp rv ov) (hn : ¬ pc.name = metaN) :
    Calls Tryz.prog 44 #[.pointer (some ⟨r, 0, none⟩), .agg #[.int .i64 pc.kind, .string (mkS pc.name), .slice A pc.attrs.length c, .string (mkS pc.text)]] w fun e w' => ∃ n, e = .returned (.int .i64 n) ∧ Res w B r (.bad 110) n w' := by
  obtain ⟨hB0, mo, en, hb, rfl, m, rfl, hm⟩ := h.top
  have hgs : gs = [] := by
    have := h.tail
    cases gs with
    | nil => rfl
    | cons _ _ => exact this.elim
  subst hgs
  refine (start_bad r g vp .nilFunc (some m) tv pc A c w h.rd hb (look_no hm (by rw [k_is _ _ _ _ hn]; rfl))).mono ?_
  rintro e w' ⟨rfl, hb'⟩
  exact ⟨110, rfl, hb'.mono h.size, rfl, by decide⟩
theorem st_pack (h : RM w B r pk (.md, []) [(.top, [])] none got g gs tv vp rv ov) (hA : AlR w A pc.attrs) (hl : pc.attrs.length ≤ c) (hc : c ≤ maxLen) (hn : pc.name = packN) (ht : attrX typeN pc.attrs [] = rpmN) (h2 : got.length < 200) :
    Calls Tryz.prog 44 #[.pointer (some ⟨r, 0, none⟩), .agg #[.int .i64 pc.kind, .string (mkS pc.name), .slice A pc.attrs.length c, .string (mkS pc.text)]] w fun e w' => ∃ n, e = .returned (.int .i64 n) ∧ Res w B r (.go ⟨[(.pa, []), (.md, []), (.top, [])], some px0, got⟩) n w' := by
  obtain ⟨hB0, mo, en, hb, rfl, m, rfl, hm⟩ := h.top
  obtain ⟨Av, cv, hvp, _, _⟩ := own_form' h.row
  refine in_step h rfl hb (fc := 43) (Bf := #[.pointer (some ⟨r, 0, none⟩)]) (K := #[]) (look_hit hm (by rw [hn]; exact k_hit _ _ _)) (enters_of Tryz.func43 (by kernel_rfl) rfl) (F := []) (Lo.nil _) (fun x hx => by cases hx) (fun _ _ hx => by cases hx) (fun _ _ hx => by cases hx) (fun hx => by cases hx) .pa (some px0) (fun w1 hb1 => ?_)
  rw [args1]
  have hr1 := (Blk.mono h.rd hb1).cell 1
  simp at hr1
  rw [hvp] at hr1
  refine (pack_rpm r pc A c w1 (hA.below hb1) hl hc ht hr1 h2).mono ?_
  rintro e w2 ⟨m', pk', rb, rfl, hpm, hrb, hpk, hge, hb2⟩
  refine ⟨some m', packEnd pk' rb, rfl, rfl, Turned.of_below hb2 [], pk', .slice none 0 0, ⟨m', rb, rfl, rfl, hpm, hrb⟩, ?_, ?_⟩
  · intro c' hc'
    injection hc' with hc'
    subst hc'
    have h1 := h.size
    have h3 := hb1.size
    refine ⟨by omega, hpk, rfl, fun e => ?_⟩
    have := own_lt h.row e
    omega
  · rintro W ⟨a0, ⟨a1, mo1, en1, a2, a3⟩, a4, a5⟩
    refine ⟨a0, ⟨a1, mo1, en1, a2, a3⟩, a4, ?_⟩
    cases gs with
    | nil => exact a5
    | cons x t =>
      obtain ⟨b0, ⟨b1, mo2, en2, b2, b3⟩, b4, b5⟩ := a5
      refine ⟨b0, ⟨b1, mo2, en2, b2, b3⟩, b4, ?_⟩
      cases t with
      | nil => exact b5
      | cons _ _ => exact b5
theorem st_other (h : RM w B r pk (.md, []) rest cur got g gs tv vp rv ov) (hA : AlR w A pc.attrs) (hl : pc.attrs.length ≤ c) (hc : c ≤ maxLen) (hn : pc.name = packN) (ht : ¬ attrX typeN pc.attrs [] = rpmN) :
    Calls Tryz.prog 44 #[.pointer (some ⟨r, 0, none⟩), .agg #[.int .i64 pc.kind, .string (mkS pc.name), .slice A pc.attrs.length c, .string (mkS pc.text)]] w fun e w' => ∃ n, e = .returned (.int .i64 n) ∧ Res w B r (.go ⟨(.no, []) :: (.md, []) :: rest, cur, got⟩) n w' := by
  obtain ⟨hB0, mo, en, hb, rfl, m, rfl, hm⟩ := h.top
  refine in_step0 h rfl hb (fc := 43) (Bf := #[.pointer (some ⟨r, 0, none⟩)]) (K := #[]) (look_hit hm (by rw [hn]; exact k_hit _ _ _)) (enters_of Tryz.func43 (by kernel_rfl) rfl) .no (fun w1 hb1 => ?_)
  rw [args1]
  refine (pack_other r pc A c w1 (hA.below hb1) hl hc ht).mono ?_
  rintro e w2 ⟨rfl, hb2⟩
  exact ⟨none, .nilFunc, rfl, rfl, hb2, rfl, rfl⟩
theorem st_md (h : RM w B r pk (.md, []) rest cur got g gs tv vp rv ov) (hne : rest ≠ []) (hn : ¬ pc.name = packN) :
    Calls Tryz.prog 44 #[.pointer (some ⟨r, 0, none⟩), .agg #[.int .i64 pc.kind, .string (mkS pc.name), .slice A pc.attrs.length c, .string (mkS pc.text)]] w fun e w' => ∃ n, e = .returned (.int .i64 n) ∧ Res w B r (.go ⟨(.no, []) :: (.md, []) :: rest, cur, got⟩) n w' := by
  refine out_step h hne ?_
  rintro mo en ⟨rfl, m, rfl, hm⟩
  exact look_no hm (by rw [k_is _ _ _ _ hn]; rfl)
theorem st_none (h : RM w B r pk (kd0, []) rest cur got g gs tv vp rv ov) (hne : rest ≠ []) (hk : ∀ mo en, KdAt w r pk kd0 mo en → mo = none) :
    Calls Tryz.prog 44 #[.pointer (some ⟨r, 0, none⟩), .agg #[.int .i64 pc.kind, .string (mkS pc.name), .slice A pc.attrs.length c, .string (mkS pc.text)]] w fun e w' => ∃ n, e = .returned (.int .i64 n) ∧ Res w B r (.go ⟨(.no, []) :: (kd0, []) :: rest, cur, got⟩) n w' := by
  refine out_step h hne (fun mo en hm => ?_)
  rw [hk mo en hm]
  exact .inl ⟨rfl, rfl⟩
theorem st_name (h : RM w B r pk (.pa, []) rest cur got g gs tv vp rv ov) (hn : pc.name = nameN_) :
    Calls Tryz.prog 44 #[.pointer (some ⟨r, 0, none⟩), .agg #[.int .i64 pc.kind, .string (mkS pc.name), .slice A pc.attrs.length c, .string (mkS pc.text)]] w fun e w' => ∃ n, e = .returned (.int .i64 n) ∧ Res w B r (.go ⟨(.t1, []) :: (.pa, []) :: rest, cur, got⟩) n w' := by
  obtain ⟨hB0, mo, en, hb, m, rb, rfl, rfl, ⟨pb, v1, v2, hm, ⟨eb, ub, rfl, he, hu⟩, hv2, hpb⟩, hrb⟩ := h.top
  refine in_step0 h rfl hb (fc := 194) (Bf := #[]) (K := #[.pointer (some ⟨eb, 0, none⟩)]) (look_hit hm (by rw [hn]; exact k_hit _ _ _)) (enters_of Tryz.func194 (by kernel_rfl) rfl) .t1 (fun w1 hb1 => ?_)
  rw [args2]
  refine (textAt_any eb ub pc A c w1 (Blk.mono he hb1)).mono ?_
  rintro e w2 ⟨rfl, hb2⟩
  exact ⟨none, endV ub, rfl, rfl, hb2, rfl, ub, pb, rfl, Blk.mono (Blk.mono hu hb1) hb2, Blk.mono (Blk.mono hpb hb1) hb2⟩
theorem st_arch (h : RM w B r pk (.pa, []) rest cur got g gs tv vp rv ov) (hn : pc.name = archN_) :
    Calls Tryz.prog 44 #[.pointer (some ⟨r, 0, none⟩), .agg #[.int .i64 pc.kind, .string (mkS pc.name), .slice A pc.attrs.length c, .string (mkS pc.text)]] w fun e w' => ∃ n, e = .returned (.int .i64 n) ∧ Res w B r (.go ⟨(.t2, []) :: (.pa, []) :: rest, cur, got⟩) n w' := by
  obtain ⟨hB0, mo, en, hb, m, rb, rfl, rfl, ⟨pb, v1, v2, hm, hv1, ⟨eb, ub, rfl, he, hu⟩, hpb⟩, hrb⟩ := h.top
  refine in_step0 h rfl hb (fc := 194) (Bf := #[]) (K := #[.pointer (some ⟨eb, 0, none⟩)]) (look_hit hm (by rw [hn]; unfold packEs; rw [k_is _ _ _ _ (by decide)]; exact k_hit _ _ _)) (enters_of Tryz.func194 (by kernel_rfl) rfl) .t2 (fun w1 hb1 => ?_)
  rw [args2]
  refine (textAt_any eb ub pc A c w1 (Blk.mono he hb1)).mono ?_
  rintro e w2 ⟨rfl, hb2⟩
  exact ⟨none, endV ub, rfl, rfl, hb2, rfl, ub, pb, rfl, Blk.mono (Blk.mono hu hb1) hb2, Blk.mono (Blk.mono hpb hb1) hb2⟩
theorem st_form (h : RM w B r pk (.pa, []) rest cur got g gs tv vp rv ov) (hn : pc.name = formN_) :
    Calls Tryz.prog 44 #[.pointer (some ⟨r, 0, none⟩), .agg #[.int .i64 pc.kind, .string (mkS pc.name), .slice A pc.attrs.length c, .string (mkS pc.text)]] w fun e w' => ∃ n, e = .returned (.int .i64 n) ∧ Res w B r (.go ⟨(.fm, []) :: (.pa, []) :: rest, cur, got⟩) n w' := by
  obtain ⟨hB0, mo, en, hb, m, rb, rfl, rfl, ⟨pb, v1, v2, hm, hv1, hv2, hpb⟩, hrb⟩ := h.top
  refine in_step0 h rfl hb (fc := 145) (Bf := #[]) (K := #[.pointer (some ⟨pb, 0, none⟩)]) (look_hit hm (by rw [hn]; unfold packEs; rw [k_is _ _ _ _ (by decide), k_is _ _ _ _ (by decide), k_is _ _ _ _ (by decide)]; exact k_hit _ _ _)) (enters_of Tryz.func145 (by kernel_rfl) rfl) .fm (fun w1 hb1 => ?_)
  rw [args2]
  refine (formAt_any pb pk pc A c w1 (Blk.mono hpb hb1)).mono ?_
  rintro e w2 ⟨m', rfl, hf, hb2⟩
  exact ⟨some m', .nilFunc, rfl, rfl, hb2, rfl, m', rfl, hf⟩
theorem st_vers {c0 : Px} (h : RM w B r pk (.pa, []) rest (some c0) got g gs tv vp rv ov) (hz : SmallP pc) (hA : AlR w A pc.attrs) (hl : pc.attrs.length ≤ c) (hc : c ≤ maxLen) (hn : pc.name = versN_) :
    Calls Tryz.prog 44 #[.pointer (some ⟨r, 0, none⟩), .agg #[.int .i64 pc.kind, .string (mkS pc.name), .slice A pc.attrs.length c, .string (mkS pc.text)]] w fun e w' => ∃ n, e = .returned (.int .i64 n) ∧ Res w B r (.go ⟨(.no, []) :: (.pa, []) :: rest, some ⟨c0.nm, verX pc.attrs, c0.ar, c0.rq⟩, got⟩) n w' := by
  obtain ⟨hB0, mo, en, hb, m, rb, rfl, rfl, ⟨pb, v1, v2, hm, hv1, hv2, hpb⟩, hrb⟩ := h.top
  obtain ⟨p0, p1, p2, p3⟩ := h.cur c0 rfl
  have hF : Lo w [pk] := Lo.one p1 (.inr (.inr (.inl rfl)))
  refine in_step h rfl hb (fc := 143) (Bf := #[]) (K := #[.pointer (some ⟨pb, 0, none⟩)]) (look_hit hm (by rw [hn]; unfold packEs; rw [k_is _ _ _ _ (by decide), k_is _ _ _ _ (by decide)]; exact k_hit _ _ _)) (enters_of Tryz.func143 (by kernel_rfl) rfl) (F := [pk]) hF (fun x hx => by simp at hx; rw [hx]; exact p0) (fun x hx hm => by simp at hm; exact p3 (by rw [hx, hm])) (h.far p1 (by decide)) (fun hx => by simp at hx; exact Blk.kind h.rd p1 (by decide) hx) .no _ (fun w1 hb1 => ?_)
  rw [args2]
  refine (verAt_any pb pk (rowX c0 rv) pc A c w1 (hA.below hb1) hl hc (fun nm => attrX_small nm _ _ hz.1 (by simp)) (Blk.mono hpb hb1) (Blk.mono p1 hb1) (.string (mkS c0.ev)) rfl).mono ?_
  rintro e w2 ⟨rfl, ht2, hpk2⟩
  refine ⟨none, .nilFunc, rfl, rfl, ht2, pk, rv, ⟨rfl, rfl⟩, ?_, fun _ h => h⟩
  intro c' hc'
  injection hc' with hc'
  subst hc'
  exact ⟨p0, hpk2, (p2.stay (Turned.of_below hb1 []) (Lo.nil _)).stay ht2 (Lo.one (Blk.mono p1 hb1) (.inr (.inr (.inl rfl)))), p3⟩
theorem st_pa (h : RM w B r pk (.pa, []) rest cur got g gs tv vp rv ov) (hne : rest ≠ []) (h1 : ¬ pc.name = nameN_) (h2 : ¬ pc.name = archN_) (h3 : ¬ pc.name = versN_) (h4 : ¬ pc.name = formN_) :
    Calls Tryz.prog 44 #[.pointer (some ⟨r, 0, none⟩), .agg #[.int .i64 pc.kind, .string (mkS pc.name), .slice A pc.attrs.length c, .string (mkS pc.text)]] w fun e w' => ∃ n, e = .returned (.int .i64 n) ∧ Res w B r (.go ⟨(.no, []) :: (.pa, []) :: rest, cur, got⟩) n w' := by
  refine out_step h hne ?_
  rintro mo en ⟨m, rb, rfl, rfl, ⟨pb, v1, v2, hm, hv1, hv2, hpb⟩, hrb⟩
  exact look_no hm (by unfold packEs; rw [k_is _ _ _ _ h1, k_is _ _ _ _ h2, k_is _ _ _ _ h3, k_is _ _ _ _ h4]; rfl)
theorem form_look {w : World} {m pb : Nat} {v1 v2 : Value} {l : List Nat} (h : FormX w pk m pb v1 v2 l) (h6 : l.length = 6) : ∃ b, lookO (mkS (kName 1)) (formEs v1 v2 l) = some (putV 198 b) ∧ Blk w b 211 #[.string (mkS (kName 1)), .pointer (some ⟨pk, 5, none⟩), .pointer (some ⟨pk, 6, none⟩)] := by
  match l, h6 with
  | [b0, b1, b2, b3, b4, b5], _ =>
    refine ⟨b1, ?_, h.ks 1 b1 rfl⟩
    unfold formEs kEs kEs
    rw [k_is _ _ _ _ (by decide), k_is _ _ _ _ (by decide), k_is _ _ _ _ (by decide)]
    exact k_hit _ _ _
theorem st_list (h : RM w B r pk (.fm, []) rest cur got g gs tv vp rv ov) (hn : pc.name = kName 1) :
    Calls Tryz.prog 44 #[.pointer (some ⟨r, 0, none⟩), .agg #[.int .i64 pc.kind, .string (mkS pc.name), .slice A pc.attrs.length c, .string (mkS pc.text)]] w fun e w' => ∃ n, e = .returned (.int .i64 n) ∧ Res w B r (.go ⟨(.rq, []) :: (.fm, []) :: rest, cur, got⟩) n w' := by
  obtain ⟨hB0, mo, en, hb, rfl, m, rfl, l, pb, v1, v2, h6, hf⟩ := h.top
  obtain ⟨b, hl, hbk⟩ := form_look hf h6
  refine in_step0 h rfl hb (fc := 198) (Bf := #[]) (K := #[.pointer (some ⟨b, 0, none⟩)]) (look_hit hf.map (by rw [hn]; exact hl)) (enters_of Tryz.func198 (by kernel_rfl) rfl) .rq (fun w1 hb1 => ?_)
  rw [args2]
  refine (listAt_any b (kName 1) ⟨pk, 5, none⟩ (some ⟨pk, 6, none⟩) pc A c w1 (Blk.mono hbk hb1)).mono ?_
  rintro e w2 ⟨m', rfl, hm', hb2⟩
  exact ⟨some m', .nilFunc, rfl, rfl, hb2, rfl, m', kName 1, rfl, hm'⟩
theorem st_entry {c0 : Px} (h : RM w B r pk (.rq, []) rest (some c0) got g gs tv vp rv ov) (hz : SmallP pc) (hA : AlR w A pc.attrs) (hl : pc.attrs.length ≤ c) (hc : c ≤ maxLen) (hn : pc.name = entrN)
    (hnp : Lib.hasPrefix (attrX nameN_ pc.attrs []) [40] = false) (hge : attrX flagN pc.attrs [] = geN) (hpre : ¬ attrX preN pc.attrs [] = [49]) (h0 : c0.rq = none) :
    Calls Tryz.prog 44 #[.pointer (some ⟨r, 0, none⟩), .agg #[.int .i64 pc.kind, .string (mkS pc.name), .slice A pc.attrs.length c, .string (mkS pc.text)]] w fun e w' => ∃ n, e = .returned (.int .i64 n) ∧ Res w B r (.go ⟨(.no, []) :: (.rq, []) :: rest, some ⟨c0.nm, c0.ev, c0.ar, some (attrX nameN_ pc.attrs [], verX pc.attrs)⟩, got⟩) n w' := by
  obtain ⟨hB0, mo, en, hb, rfl, m, nk, rfl, hm⟩ := h.top
  obtain ⟨p0, p1, p2, p3⟩ := h.cur c0 rfl
  have hrv : rv = .slice none 0 0 := by rw [h0] at p2; exact p2
  have hF : Lo w [pk] := Lo.one p1 (.inr (.inr (.inl rfl)))
  refine in_step h rfl hb (fc := 199) (Bf := #[.agg #[.string (mkS nk), .pointer (some ⟨pk, 5, none⟩), .pointer (some ⟨pk, 6, none⟩)]]) (K := #[]) (look_hit hm (by rw [hn]; exact k_hit _ _ _)) (enters_of Tryz.func199 (by kernel_rfl) rfl) (F := [pk]) hF (fun x hx => by simp at hx; rw [hx]; exact p0) (fun x hx hm => by simp at hm; exact p3 (by rw [hx, hm])) (h.far p1 (by decide)) (fun hx => by simp at hx; exact Blk.kind h.rd p1 (by decide) hx) .no _ (fun w1 hb1 => ?_)
  rw [args1]
  refine (entry_any nk pk (rowX c0 rv) pc A c w1 (h.below hb1).flags (hA.below hb1) hl hc (fun nm => attrX_small nm _ _ hz.1 (by simp)) hnp hge hpre (Blk.mono p1 hb1) (by rw [hrv]; rfl)).mono ?_
  rintro e w2 ⟨rfl, ht2, g2, cc, k1, k2, hpk2, hg2, cur2, hd2, hc2⟩
  refine ⟨none, .nilFunc, rfl, rfl, ht2, pk, .slice (some ⟨g2, 0, none⟩) 1 cc, ⟨rfl, rfl⟩, ?_, fun _ h => h⟩
  intro c' hc'
  injection hc' with hc'
  subst hc'
  exact ⟨p0, hpk2, ⟨g2, cc, cur2, rfl, k1, k2, hd2, hc2⟩, p3⟩
set_option maxHeartbeats 2000000 in
theorem start_step {s : Sx} {x : Rx} (hs : s.stk = k :: rest) (h : RM w B r pk k rest s.cur s.got g gs tv vp rv ov) (hz : SmallP pc) (hA : AlR w A pc.attrs) (hl : pc.attrs.length ≤ c) (hc : c ≤ maxLen) (hx : startX s pc = some x) :
    Calls Tryz.prog 44 #[.pointer (some ⟨r, 0, none⟩), .agg #[.int .i64 pc.kind, .string (mkS pc.name), .slice A pc.attrs.length c, .string (mkS pc.text)]] w fun e w' => ∃ n, e = .returned (.int .i64 n) ∧ Res w B r x n w' := by
  obtain ⟨stk, cur, got⟩ := s
  have hs : stk = k :: rest := hs
  subst hs
  have h : RM w B r pk k rest cur got g gs tv vp rv ov := h
  unfold startX goX at hx
  split at hx
  · rename_i x0 e1
    have e1 : k :: rest = [(Kd.top, [])] := e1
    injection e1 with e1 e3
    subst e1 e3
    split at hx
    · rename_i hn
      injection hx with hx
      subst hx
      exact st_top h hn
    · rename_i hn
      injection hx with hx
      subst hx
      exact st_root h hn
  · rename_i e1 e2
    have e1 : k :: rest = [(Kd.md, []), (Kd.top, [])] := e1
    have e2 : cur = none := e2
    injection e1 with e1 e3
    subst e1 e3 e2
    split at hx
    · rename_i hn
      split at hx
      · rename_i ht
        split at hx
        · rename_i h2
          injection hx with hx
          subst hx
          exact st_pack h hA hl hc hn ht h2
        · cases hx
      · rename_i ht
        injection hx with hx
        subst hx
        exact st_other h hA hl hc hn ht
    · rename_i hn
      injection hx with hx
      subst hx
      exact st_md h (by simp) hn
  · rename_i q r' c0 e1 e2
    have e1 : k :: rest = (Kd.pa, []) :: q :: r' := e1
    have e2 : cur = some c0 := e2
    injection e1 with e1 e3
    subst e1 e3 e2
    split at hx
    · rename_i hn
      injection hx with hx
      subst hx
      exact st_name h hn
    split at hx
    · rename_i hn
      injection hx with hx
      subst hx
      exact st_arch h hn
    split at hx
    · rename_i hn
      injection hx with hx
      subst hx
      exact st_vers h hz hA hl hc hn
    split at hx
    · rename_i hn
      injection hx with hx
      subst hx
      exact st_form h hn
    · rename_i h1 h2 h3 h4
      injection hx with hx
      subst hx
      exact st_pa h (by simp) h1 h2 h3 h4
  · rename_i q r' c0 e1 e2
    have e1 : k :: rest = (Kd.fm, []) :: q :: r' := e1
    injection e1 with e1 e3
    subst e1 e3
    split at hx
    · rename_i hn
      injection hx with hx
      subst hx
      exact st_list h hn
    · cases hx
  · rename_i q r' c0 e1 e2
    have e1 : k :: rest = (Kd.rq, []) :: q :: r' := e1
    have e2 : cur = some c0 := e2
    injection e1 with e1 e3
    subst e1 e3 e2
    split at hx
    · rename_i hn
      injection hx with hx
      subst hx
      exact st_entry h hz hA hl hc hn.1 hn.2.1 hn.2.2.1 hn.2.2.2.1 hn.2.2.2.2
    · cases hx
  · rename_i x0 q r' e1
    have e1 : k :: rest = (Kd.t1, []) :: q :: r' := e1
    injection e1 with e1 e3
    subst e1 e3
    injection hx with hx
    subst hx
    exact st_none h (by simp) (fun mo en hk => hk.1)
  · rename_i x0 q r' e1
    have e1 : k :: rest = (Kd.t2, []) :: q :: r' := e1
    injection e1 with e1 e3
    subst e1 e3
    injection hx with hx
    subst hx
    exact st_none h (by simp) (fun mo en hk => hk.1)
  · rename_i x0 q r' e1
    have e1 : k :: rest = (Kd.no, []) :: q :: r' := e1
    injection e1 with e1 e3
    subst e1 e3
    injection hx with hx
    subst hx
    exact st_none h (by simp) (fun mo en hk => hk.1)
  · cases hx
end
end Go.Proofs.YtljldbdjkjllhaaGreatDoor

/- A text, and the end of an element: what the reader does, in memory. -/
namespace Go.Proofs.YtljldbdjkjllhaaGreatDoor
set_option linter.unusedSimpArgs false
set_option linter.unusedVariables false
open Go.RowKit

set_option maxHeartbeats 4000000 in
set_option maxRecDepth 100000 in
theorem packEnd_bad (r pk rb : Nat) (N : Int) (s : ByteArray) (a0 a1 a2 a3 a4 a5 a6 a7 a8 a9 a10 a11 : Value) (w : World) (hN : N ≠ 0) (hb : Blk w rb 95 #[.pointer (some ⟨r, 0, none⟩)]) (hp : Blk w pk 42 #[a0, a1, a2, a3, a4, a5, a6, a7, a8, a9, a10, a11])
    (hC : ∀ w', Below w.heap.size w w' → Calls Tryz.prog 37 #[.agg #[a0, a1, a2, a3, a4, a5, a6, a7, a8, a9, a10, a11]] w' fun e w'' => e = .returned (.int .i64 N) ∧ Below w'.heap.size w' w'') :
    Calls Tryz.prog 80 #[.string s, .pointer (some ⟨pk, 0, none⟩), .pointer (some ⟨rb, 0, none⟩)] w fun e w' => e = .returned (.int .i64 N) ∧ Below w.heap.size w w' := by
  have HP := Lib.hid hp
  have HC := Lib.hid hC
  have t1 : (N != 0) = true := by simp [hN]
  have t2 : (N == 0) = false := by simp [hN]
  clear hb hC hN
  have b0 := HP.out.cell 0
  have b1 := HP.out.cell 1
  have b2 := HP.out.cell 2
  have b3 := HP.out.cell 3
  have b4 := HP.out.cell 4
  have b5 := HP.out.cell 5
  have b6 := HP.out.cell 6
  have b7 := HP.out.cell 7
  have b8 := HP.out.cell 8
  have b9 := HP.out.cell 9
  have b10 := HP.out.cell 10
  have b11 := HP.out.cell 11
  simp at b0 b1 b2 b3 b4 b5 b6 b7 b8 b9 b10 b11
  go_enter Tryz.func80, Tryz.ntmps80
  go_wp2_with fail
  refine (HC.out w (Below.refl _ _)).mono ?_
  rintro e w2 ⟨rfl, hb2⟩
  have HB2 := Lib.hid hb2
  clear hb2 b0 b1 b2 b3 b4 b5 b6 b7 b8 b9 b10 b11
  go_wp2_with fail
  go_ret
  exact ⟨rfl, HB2.out⟩
theorem no_pkg (p : Ev.Pkg) (h : Ev.headN p ≠ 0) (b : Bool) : Ev.chkN p b = Ev.headN p := by unfold Ev.chkN; rw [if_pos h]
def QC (d : Ev.Dep) (n : Int) : Prop := n = Ev.checkN d
theorem pkg_ls (p : Px) (i : Nat) (d : Ev.Dep) (h : d ∈ (pkgOf p).ls i) : i = 1 ∧ d ∈ depsOf p.rq := by
  have h : d ∈ (if i = 1 then depsOf p.rq else []) := h
  by_cases hi : i = 1
  · rw [if_pos hi] at h; exact ⟨hi, h⟩
  · rw [if_neg hi] at h; cases h
theorem chk_det {p : Px} {n : Int} (hd : ∀ d ∈ depsOf p.rq, Ev.checkN d = 0) (h : Ev.ChkR QC (pkgOf p) n) : n = chkX p := by
  obtain ⟨b, hb, rfl⟩ := h
  unfold chkX
  by_cases hh : Ev.headN (pkgOf p) = 0
  · rcases hb hh with ⟨rfl, i, hi, hbad⟩ | ⟨_, rfl⟩
    · exfalso
      rcases hbad with hbad | ⟨d, hdm, n, hn, hb⟩
      · have h16 : ((pkgOf p).ls i).length ≤ 1 := by
          show (if i = 1 then depsOf p.rq else []).length ≤ 1
          split
          · cases p.rq <;> simp [depsOf]
          · simp
        omega
      · have := hd d (pkg_ls p i d hdm).2
        rw [show n = 0 from hn.trans this] at hb
        simp at hb
    · congr 1
  · rw [no_pkg _ hh, no_pkg _ hh]
def DepB (w : World) (b : Nat) : Prop := ∃ cs, Blk w b 44 cs
def ssX (rv : Value) (i : Nat) : Value := if i = 1 then rv else .slice none 0 0
theorem list_of {w : World} {q : Option (Bs × Bs)} {rv : Value} (h : RqAt w q rv) : Ev.ListAt w (DepB w) (depsOf q) rv := by
  cases q with
  | none =>
    have h : rv = .slice none 0 0 := h
    exact ⟨none, 0, h, Nat.le_refl _, by unfold maxLen; omega, fun _ => rfl, fun j a ha => by simp [depsOf] at ha⟩
  | some q =>
    obtain ⟨g, cc, cur, rfl, h1, h2, h3, h4⟩ := h
    refine ⟨some ⟨g, 0, none⟩, cc, rfl, h1, h2, fun e => (by cases e), fun j a ha => ?_⟩
    match j, ha with
    | 0, ha =>
      injection ha with ha
      subst ha
      have hcl : ∀ j, j < 5 → w.cell? ⟨g, j, none⟩ = (#[.int .i64 1, .string (mkS q.1), .int .i64 6, .string (mkS q.2), .slice none 0 0] : Array Value)[j]? := fun j hj => (h3.cell j).trans (h4 j hj)
      exact ⟨g, 0, .slice none 0 0, rfl, ⟨cur, h3⟩, ⟨hcl 0 (by omega), hcl 1 (by omega), hcl 2 (by omega), hcl 3 (by omega), hcl 4 (by omega)⟩, Ev.Lay.none_ _ _ _ _ _ _⟩
    | j + 1, ha => simp [depsOf] at ha
theorem pool_check {w : World} {p : Px} {rv : Value} (hr : RqAt w p.rq rv) (hT : Ev.Tabs w) (hd : ∀ d ∈ depsOf p.rq, Ev.checkN d = 0) (w' : World) (hb : Below w.heap.size w w') :
    Calls Tryz.prog 37 #[.agg (rowX p rv)] w' fun e w'' => e = .returned (.int .i64 (chkX p)) ∧ Below w'.heap.size w' w'' := by
  have hr' : RqAt w' p.rq rv := hr.stay (Turned.of_below hb []) (Lo.nil _)
  have hT' : Ev.Tabs w' := hT.turned (Turned.of_below hb []) (fun x hx => by cases hx)
  have hP : Ev.PkgAt w' (DepB w') (fun _ => False) (pkgOf p) (ssX rv) (.slice none 0 0) := by
    refine ⟨fun i hi => ?_, ⟨none, 0, rfl, Nat.le_refl _, by unfold maxLen; omega, fun _ => rfl, fun k s hk => by simp [pkgOf] at hk⟩⟩
    by_cases h1 : i = 1
    · subst h1
      exact list_of hr'
    · have e1 : (pkgOf p).ls i = [] := if_neg h1
      have e2 : ssX rv i = .slice none 0 0 := if_neg h1
      rw [e1, e2]
      exact ⟨none, 0, rfl, Nat.le_refl _, by unfold maxLen; omega, fun _ => rfl, fun j a ha => by cases ha⟩
  have hC : Ev.ChecksAt QC (DepB w') (pkgOf p) w' := by
    intro i hi d hdm t w2 hb2 hL
    have hq := (pkg_ls p i d hdm).2
    refine (Ev.depCheck_any d t (DepB w') w2 hL (fun b hb => ?_) (hT'.turned (Turned.of_below hb2 []) (fun x hx => by cases hx)) ?_).mono ?_
    · obtain ⟨cs, h⟩ := hb
      exact ⟨cs, Blk.mono h hb2⟩
    · cases hrq : p.rq with
      | none => rw [hrq] at hq; cases hq
      | some q =>
        rw [hrq] at hq
        have : d = depOf q := by simpa [depsOf] using hq
        subst this
        show Ev.nodes (.mk 1 (mkS q.1) 6 (mkS q.2) []) ≤ _
        unfold Ev.nodes
        unfold Ev.nodesA
        omega
    · rintro e w3 ⟨rfl, hb3⟩
      exact ⟨⟨_, rfl, rfl⟩, hb3⟩
  refine (Ev.poolCheck_any QC (pkgOf p) (ssX rv) (.slice none 0 0) (DepB w') (fun _ => False) w' hP hC hT').mono ?_
  rintro e w2 ⟨⟨n, hn, rfl⟩, hb2⟩
  exact ⟨by rw [chk_det hd hn], hb2⟩
section
variable {w : World} {B r pk g c : Nat} {k q : Kd × Bs} {kd0 : Kd} {t : Bs} {rest : List (Kd × Bs)} {cur : Option Px} {got : List Px} {gs : List Nat} {tv vp rv : Value} {ov : List Value} {pc : Pc} {A : Option Addr}
theorem str_bytes (l : Bs) : Lib.strCells (mkS l) = Lib.byteCells l := rfl
/-- A text. -/
theorem text_step {s : Sx} {x : Rx} (hs : s.stk = k :: rest) (h : RM w B r pk k rest s.cur s.got g gs tv vp rv ov) (hz : SmallP pc) (hk : pc.kind = 3) (hx : textX s pc = some x) :
    Calls Tryz.prog 26 #[.pointer (some ⟨r, 0, none⟩), .agg #[.int .i64 pc.kind, .string (mkS pc.name), .slice A pc.attrs.length c, .string (mkS pc.text)]] w fun e w' => ∃ n, e = .returned (.int .i64 n) ∧ Res w B r x n w' := by
  obtain ⟨stk, cur, got⟩ := s
  have hs : stk = k :: rest := hs
  subst hs
  have h : RM w B r pk k rest cur got g gs tv vp rv ov := h
  unfold textX at hx
  split at hx
  · rename_i kd r' e1
    have e1 : k :: rest = (kd, []) :: r' := e1
    injection e1 with e1 e3
    subst e1 e3
    split at hx
    · cases hx
    · rename_i hne
      injection hx with hx
      subst hx
      obtain ⟨hB0, mo, en, hb, hkd⟩ := h.top
      refine (read_text r g B vp (.map mo) en (.pointer (upOf gs)) tv [] pc A c w hk (by simp; have := hz.2; omega) h.rd hb h.tvr h.size).mono ?_
      rintro e w' ⟨rfl, ht, tv', hb', hrow, hnew⟩
      have ht0 : tv = .slice none 0 0 := h.tv0 rfl
      have hF0 : (g :: tv.ownBlock.toList) = [g] := by rw [ht0]; rfl
      rw [hF0] at ht
      have hF : Lo w [g] := Lo.one hb (.inr (.inl rfl))
      have hFB : ∀ x ∈ [g], B ≤ x := fun x hx => by simp at hx; rw [hx]; exact hB0
      obtain ⟨h1, h2, h3⟩ := h.tabs' ht hFB
      refine ⟨0, rfl, ht.below hFB h.size, rfl, _, _, rfl, pk, g, gs, tv', vp, rv, ov, ?_⟩
      refine ⟨h.rd.turned ht (fun hm => by simp at hm; exact Blk.kind h.rd hb (by decide) hm), h.rB, ⟨hB0, mo, en, hb', hkd.stay ht hF.loose⟩, ?_, fun e => absurd e hne, h.lt, h.tail.stay ht hF (fun x hx hm => ?_), ?_, own_turned h.row ht (fun x hx hm => ?_), h.got.stay ht hF, h1, h2, h.base, h3⟩
      · have e1 : (([] : Bs).length + (mkS pc.text).size) = pc.text.length := by rw [mkS_size]; simp
        have e2 : Lib.byteCells [] ++ Lib.strCells (mkS pc.text) = Lib.byteCells pc.text := by rw [str_bytes]; rfl
        rw [e1, e2] at hrow
        exact hrow
      · simp at hm
        have := h.lt x hx
        omega
      · intro c0 hc0
        obtain ⟨a, b, d, e⟩ := h.cur c0 hc0
        exact ⟨a, b.turned ht (fun hm => by simp at hm; exact Blk.kind b hb (by decide) hm), d.stay ht hF, e⟩
      · simp at hm
        exact own_kind h.row hb (by decide) (by rw [hx, hm])
  · cases hx
/-- An element ends: the one around it goes on. -/
theorem RM.pop (h : RM w B r pk k (q :: rest) cur got g gs tv vp rv ov) : ∃ g1 gs1, gs = g1 :: gs1 ∧ ∀ (w' : World) (F : List Nat) (cur' : Option Px) (got' : List Px) (vp' rv' : Value) (ov' : List Value), Turned F w w' → Lo w F → (∀ x ∈ F, B ≤ x) → (∀ x ∈ gs, x ∉ F) → Blk w' r 58 #[.pointer (some ⟨g1, 0, none⟩), vp'] →
    (∀ c, cur' = some c → B ≤ pk ∧ Blk w' pk 42 (rowX c rv') ∧ RqAt w' c.rq rv' ∧ vp'.ownBlock ≠ some pk) → w'.ownsRow B 42 12 vp' got'.length (gotC got' ov') → GotAt w' got' ov' → RM w' B r pk q rest cur' got' g1 gs1 (.slice none 0 0) vp' rv' ov' := by
  have htl := h.tail
  cases gs with
  | nil => exact htl.elim
  | cons g1 gs1 =>
    refine ⟨g1, gs1, rfl, fun w' F cur' got' vp' rv' ov' ht hF hFB hn hr hc hrow hgot => ?_⟩
    obtain ⟨h1, h2, h3⟩ := h.tabs' ht hFB
    obtain ⟨t0, t1, t2, t3⟩ := htl
    refine ⟨hr, h.rB, t1.stay ht hF (hn g1 (by simp)), ?_, fun _ => rfl, t2, t3.stay ht hF (fun x hx => hn x (by simp [hx])), hc, hrow, hgot, h1, h2, h.base, h3⟩
    rw [t0]
    exact World.ownsRow_nil _ _ _ _
theorem end_none (h : RM w B r pk k (q :: rest) cur got g gs tv vp rv ov) (hk : ∀ mo en, KdAt w r pk k.1 mo en → en = .nilFunc) :
    Calls Tryz.prog 45 #[.pointer (some ⟨r, 0, none⟩)] w fun e w' => ∃ n, e = .returned (.int .i64 n) ∧ Res w B r (.go ⟨q :: rest, cur, got⟩) n w' := by
  obtain ⟨g1, gs1, rfl, hpop⟩ := h.pop
  obtain ⟨hB0, mo, en, hb, hkd⟩ := h.top
  rw [hk mo en hkd] at hb
  refine (end_nil r g vp (.map mo) ⟨g1, 0, none⟩ tv w h.rd hb).mono ?_
  rintro e w' ⟨rfl, ht, hr⟩
  have hF : Lo w [r] := Lo.one h.rd (.inl rfl)
  have hFB : ∀ x ∈ [r], B ≤ x := fun x hx => by simp at hx; rw [hx]; exact h.rB
  refine ⟨0, rfl, ht.below hFB h.size, rfl, _, _, rfl, pk, g1, gs1, _, vp, rv, ov, hpop w' [r] cur got vp rv ov ht hF hFB (fun x hx => h.far h.rd (by decide) x (by simp only [List.mem_cons] at hx ⊢; exact .inr hx)) hr ?_ (own_turned h.row ht h.far_row) (h.got.stay ht hF)⟩
  intro c hc
  obtain ⟨a, b, d, e⟩ := h.cur c hc
  exact ⟨a, b.turned ht (fun hm => by simp at hm; exact Blk.kind b h.rd (by decide) hm), d.stay ht hF, e⟩
theorem bytes_own {B n c : Nat} {A : Option Addr} {bs : Bs} (h : w.ownsRow B 5 1 (.slice A n c) n (Lib.byteCells bs)) (hn : bs.length = n) : Lib.BytesAt w A n bs := fun h0 => by
  have hat : ∀ i, i < n → ∃ b, A = some ⟨b, 0, none⟩ ∧ w.cell? ⟨b, i, none⟩ = some (.int .u8 (bs.getD i 0).toNat) := fun i hi => by
    refine own_at_ h (k := i) ?_
    show (bs.map fun b => Value.int .u8 b.toNat)[i]? = _
    rw [List.getElem?_map, List.getElem?_eq_getElem (by omega), List.getD_eq_getElem?_getD, List.getElem?_eq_getElem (by omega)]
    rfl
  obtain ⟨b, rfl, _⟩ := hat 0 h0
  refine ⟨b, 0, rfl, fun i hi => ?_⟩
  obtain ⟨b', e, hc⟩ := hat i hi
  injection e with e
  injection e with e
  subst e
  rw [Nat.zero_add]
  exact hc
theorem row_far {A : Option Addr} {n c : Nat} {xs : List Value} (h : w.ownsRow B 5 1 (.slice A n c) n xs) {cs : Array Value} (hr : Blk w r 58 cs) : ∀ b o, A = some ⟨b, o, none⟩ → b ≠ r := fun b o e => by
  subst e
  exact fun e2 => own_kind h hr (by decide) (by rw [← e2]; rfl)
theorem set_pk {w1 : World} {pk j : Nat} {v : Value} : Turned [pk] w1 (w1.setCell ⟨pk, j, none⟩ v) := (Turned.refl _ _).setCell (.inl (by simp)) _
theorem end_t1 {c0 : Px} (h : RM w B r pk (.t1, t) (q :: rest) (some c0) got g gs tv vp rv ov) :
    Calls Tryz.prog 45 #[.pointer (some ⟨r, 0, none⟩)] w fun e w' => ∃ n, e = .returned (.int .i64 n) ∧ Res w B r (.go ⟨q :: rest, some ⟨trimX t, c0.ev, c0.ar, c0.rq⟩, got⟩) n w' := by
  obtain ⟨g1, gs1, rfl, hpop⟩ := h.pop
  obtain ⟨hB0, mo, en, hb, rfl, ub, pb, rfl, hub, hpb⟩ := h.top
  obtain ⟨Av, cv, rfl, hn1, hn2⟩ := own_form' h.tvr
  obtain ⟨p0, p1, p2, p3⟩ := h.cur c0 rfl
  have hF : Lo w [r] := Lo.one h.rd (.inl rfl)
  have hFB : ∀ x ∈ [r], B ≤ x := fun x hx => by simp at hx; rw [hx]; exact h.rB
  refine end_in 193 #[] #[.pointer (some ⟨ub, 0, none⟩)] _ r g vp (.map none) ⟨g1, 0, none⟩ Av t.length cv t w h.rd hb rfl hn1 hn2 (bytes_own h.tvr rfl) (row_far h.tvr h.rd) (enters_of Tryz.func193 (by kernel_rfl) rfl) (fun w1 ht1 hr1 => ?_)
  rw [args2]
  have P1 : Blk w1 pk 42 (rowX c0 rv) := p1.turned ht1 (fun hm => by simp at hm; exact Blk.kind p1 h.rd (by decide) hm)
  refine (textEnd1_any ub pb pk (rowX c0 rv) (mkS (trimX t)) w1 (hub.stay ht1 hF.loose (by decide)) (hpb.stay ht1 hF.loose (by decide)) P1 _ rfl).mono ?_
  rintro e w' ⟨rfl, rfl⟩
  have ht : Turned [r, pk] w (w1.setCell ⟨pk, 0, none⟩ (.string (mkS (trimX t)))) := (ht1.more (fun x hx => by simp at hx; simp [hx])).trans (set_pk.more (fun x hx => by simp at hx; simp [hx])) (Fresh.refl _ _)
  have hL : Lo w [r, pk] := Lo.cons h.rd (.inl rfl) (Lo.one p1 (.inr (.inr (.inl rfl))))
  have hLB : ∀ x ∈ [r, pk], B ≤ x := fun x hx => by
    simp at hx
    rcases hx with rfl | rfl
    · exact h.rB
    · exact p0
  refine ⟨0, rfl, ht.below hLB h.size, rfl, _, _, rfl, pk, g1, gs1, _, vp, rv, ov, hpop _ [r, pk] _ got vp rv ov ht hL hLB (fun x hx hm => ?_) (hr1.far (Blk.kind hr1 P1 (by decide)) _) ?_ (own_turned h.row ht ?_) (h.got.stay ht hL)⟩
  · obtain ⟨cs, ho⟩ := h.frame_open x (by simp only [List.mem_cons] at hx ⊢; exact .inr hx)
    simp at hm
    rcases hm with e | e
    · exact Blk.kind ho h.rd (by decide) e
    · exact Blk.kind ho p1 (by decide) e
  · intro c hc
    injection hc with hc
    subst hc
    exact ⟨p0, P1.set_ 0 _, p2.stay ht hL, p3⟩
  · intro x hx hm
    simp at hm
    rcases hm with e | e
    · exact own_kind h.row h.rd (by decide) (by rw [hx, e])
    · exact p3 (by rw [hx, e])
theorem end_t2 {c0 : Px} (h : RM w B r pk (.t2, t) (q :: rest) (some c0) got g gs tv vp rv ov) :
    Calls Tryz.prog 45 #[.pointer (some ⟨r, 0, none⟩)] w fun e w' => ∃ n, e = .returned (.int .i64 n) ∧ Res w B r (.go ⟨q :: rest, some ⟨c0.nm, c0.ev, trimX t, c0.rq⟩, got⟩) n w' := by
  obtain ⟨g1, gs1, rfl, hpop⟩ := h.pop
  obtain ⟨hB0, mo, en, hb, rfl, ub, pb, rfl, hub, hpb⟩ := h.top
  obtain ⟨Av, cv, rfl, hn1, hn2⟩ := own_form' h.tvr
  obtain ⟨p0, p1, p2, p3⟩ := h.cur c0 rfl
  have hF : Lo w [r] := Lo.one h.rd (.inl rfl)
  have hFB : ∀ x ∈ [r], B ≤ x := fun x hx => by simp at hx; rw [hx]; exact h.rB
  refine end_in 193 #[] #[.pointer (some ⟨ub, 0, none⟩)] _ r g vp (.map none) ⟨g1, 0, none⟩ Av t.length cv t w h.rd hb rfl hn1 hn2 (bytes_own h.tvr rfl) (row_far h.tvr h.rd) (enters_of Tryz.func193 (by kernel_rfl) rfl) (fun w1 ht1 hr1 => ?_)
  rw [args2]
  have P1 : Blk w1 pk 42 (rowX c0 rv) := p1.turned ht1 (fun hm => by simp at hm; exact Blk.kind p1 h.rd (by decide) hm)
  refine (textEnd2_any ub pb pk (rowX c0 rv) (mkS (trimX t)) w1 (hub.stay ht1 hF.loose (by decide)) (hpb.stay ht1 hF.loose (by decide)) P1 _ rfl).mono ?_
  rintro e w' ⟨rfl, rfl⟩
  have ht : Turned [r, pk] w (w1.setCell ⟨pk, 2, none⟩ (.string (mkS (trimX t)))) := (ht1.more (fun x hx => by simp at hx; simp [hx])).trans (set_pk.more (fun x hx => by simp at hx; simp [hx])) (Fresh.refl _ _)
  have hL : Lo w [r, pk] := Lo.cons h.rd (.inl rfl) (Lo.one p1 (.inr (.inr (.inl rfl))))
  have hLB : ∀ x ∈ [r, pk], B ≤ x := fun x hx => by
    simp at hx
    rcases hx with rfl | rfl
    · exact h.rB
    · exact p0
  refine ⟨0, rfl, ht.below hLB h.size, rfl, _, _, rfl, pk, g1, gs1, _, vp, rv, ov, hpop _ [r, pk] _ got vp rv ov ht hL hLB (fun x hx hm => ?_) (hr1.far (Blk.kind hr1 P1 (by decide)) _) ?_ (own_turned h.row ht ?_) (h.got.stay ht hL)⟩
  · obtain ⟨cs, ho⟩ := h.frame_open x (by simp only [List.mem_cons] at hx ⊢; exact .inr hx)
    simp at hm
    rcases hm with e | e
    · exact Blk.kind ho h.rd (by decide) e
    · exact Blk.kind ho p1 (by decide) e
  · intro c hc
    injection hc with hc
    subst hc
    exact ⟨p0, P1.set_ 2 _, p2.stay ht hL, p3⟩
  · intro x hx hm
    simp at hm
    rcases hm with e | e
    · exact own_kind h.row h.rd (by decide) (by rw [hx, e])
    · exact p3 (by rw [hx, e])
theorem args3 (s a b : Value) : ((#[] : Array Value).push s ++ #[a, b] : Array Value) = #[s, a, b] := by simp
theorem rowX_one {p : Px} (h : ∃ A n c, rv = .slice A n c) : ∀ u ∈ (rowX p rv).toList, u.oneCell' = true := by
  obtain ⟨A, n, c, rfl⟩ := h
  intro u hu
  simp [rowX] at hu
  rcases hu with h | h | h | h | h
  all_goals (try (subst h; rfl))
  all_goals (rcases h with h | h <;> (try (subst h; rfl)))
  all_goals (rcases h with h | h <;> (subst h; rfl))
theorem end_pack {c0 : Px} (h : RM w B r pk (.pa, t) (q :: rest) (some c0) got g gs tv vp rv ov) (hd : ∀ d ∈ depsOf c0.rq, Ev.checkN d = 0) (h2 : chkX c0 = 0 → got.length < 200) :
    Calls Tryz.prog 45 #[.pointer (some ⟨r, 0, none⟩)] w fun e w' => ∃ n, e = .returned (.int .i64 n) ∧ Res w B r (if chkX c0 = 0 then .go ⟨q :: rest, none, got ++ [c0]⟩ else .bad (chkX c0)) n w' := by
  obtain ⟨g1, gs1, rfl, hpop⟩ := h.pop
  obtain ⟨hB0, mo, en, hb, m, rb, rfl, rfl, hpm, hrb⟩ := h.top
  obtain ⟨Av, cv, rfl, hn1, hn2⟩ := own_form' h.tvr
  obtain ⟨p0, p1, p2, p3⟩ := h.cur c0 rfl
  have hF : Lo w [r] := Lo.one h.rd (.inl rfl)
  have hFB : ∀ x ∈ [r], B ≤ x := fun x hx => by simp at hx; rw [hx]; exact h.rB
  refine end_in 80 #[] #[.pointer (some ⟨pk, 0, none⟩), .pointer (some ⟨rb, 0, none⟩)] _ r g vp (.map (some m)) ⟨g1, 0, none⟩ Av t.length cv t w h.rd hb rfl hn1 hn2 (bytes_own h.tvr rfl) (row_far h.tvr h.rd) (enters_of Tryz.func80 (by kernel_rfl) rfl) (fun w1 ht1 hr1 => ?_)
  rw [args3]
  have P1 : Blk w1 pk 42 (rowX c0 rv) := p1.turned ht1 (fun hm => by simp at hm; exact Blk.kind p1 h.rd (by decide) hm)
  have B1 : Blk w1 rb 95 #[.pointer (some ⟨r, 0, none⟩)] := hrb.turned ht1 (fun hm => by simp at hm; exact Blk.kind hrb h.rd (by decide) hm)
  have Q1 : RqAt w1 c0.rq rv := p2.stay ht1 hF
  have T1 : Ev.Tabs w1 := (h.tabs' ht1 hFB).1
  have hB1 : B ≤ w1.heap.size := Nat.le_trans h.size ht1.size
  by_cases hz : chkX c0 = 0
  · rw [if_pos hz]
    have hC := fun w' hb' => pool_check Q1 T1 hd w' hb'
    rw [hz] at hC
    refine (packEnd_any r pk rb B got.length (mkS (trimX t)) (.pointer (some ⟨g1, 0, none⟩)) vp _ _ _ _ _ _ _ _ _ _ _ _ (gotC got ov) w1 B1 P1 (rowX_one p2.one) hr1 (own_turned h.row ht1 h.far_row) hB1 (by have := h2 hz; omega) hC).mono ?_
    rintro e w' ⟨rfl, ht2, pv', hr2, hrow2, hnew⟩
    have hV1 : w1.ownsRow B 42 12 vp got.length (gotC got ov) := own_turned h.row ht1 h.far_row
    have ht : Turned (r :: vp.ownBlock.toList) w w' := (ht1.more (fun x hx => by simp at hx; simp [hx])).trans ht2 (Fresh.refl _ _)
    have hL : Lo w (r :: vp.ownBlock.toList) := Lo.cons h.rd (.inl rfl) (Lo.row h.row (.inr (.inr (.inl rfl))))
    have hLB : ∀ x ∈ r :: vp.ownBlock.toList, B ≤ x := fun x hx => by
      rcases List.mem_cons.1 hx with rfl | hx
      · exact h.rB
      · exact (h.row.lt x (by simpa using hx)).1
    refine ⟨0, rfl, ht.below hLB h.size, rfl, _, _, rfl, pk, g1, gs1, .slice none 0 0, pv', rv, ov ++ [rv], ?_⟩
    have Q2 : RqAt w' c0.rq rv := p2.stay ht hL
    obtain ⟨G1, G2⟩ := GotAt.snoc Q2 (h.got.stay ht hL)
    refine hpop w' _ none (got ++ [c0]) pv' rv (ov ++ [rv]) ht hL hLB (fun x hx hm => ?_) hr2 (fun c hc => by cases hc) ?_ G1
    · obtain ⟨cs, ho⟩ := h.frame_open x (by simp only [List.mem_cons] at hx ⊢; exact .inr hx)
      rcases List.mem_cons.1 hm with e | hm
      · exact Blk.kind ho h.rd (by decide) e
      · exact own_kind h.row ho (by decide) (by simpa using hm)
    · rw [G2]
      have : (got ++ [c0]).length = got.length + 1 := by simp
      rw [this]
      exact hrow2
  · rw [if_neg hz]
    have hC := fun w' hb' => pool_check Q1 T1 hd w' hb'
    refine (packEnd_bad r pk rb (chkX c0) (mkS (trimX t)) _ _ _ _ _ _ _ _ _ _ _ _ w1 hz B1 P1 hC).mono ?_
    rintro e w' ⟨rfl, hb2⟩
    exact ⟨chkX c0, rfl, (ht1.below hFB h.size).trans (hb2.mono hB1), rfl, hz⟩
set_option maxHeartbeats 2000000 in
theorem end_step {s : Sx} {x : Rx} (hs : s.stk = k :: rest) (h : RM w B r pk k rest s.cur s.got g gs tv vp rv ov) (hx : endX s = some x) :
    Calls Tryz.prog 45 #[.pointer (some ⟨r, 0, none⟩)] w fun e w' => ∃ n, e = .returned (.int .i64 n) ∧ Res w B r x n w' := by
  obtain ⟨stk, cur, got⟩ := s
  have hs : stk = k :: rest := hs
  subst hs
  have h : RM w B r pk k rest cur got g gs tv vp rv ov := h
  unfold endX at hx
  split at hx
  · rename_i t q r' c0 e1 e2
    have e1 : k :: rest = (Kd.t1, t) :: q :: r' := e1
    have e2 : cur = some c0 := e2
    injection e1 with e1 e3
    subst e1 e3 e2
    injection hx with hx
    subst hx
    exact end_t1 h
  · rename_i t q r' c0 e1 e2
    have e1 : k :: rest = (Kd.t2, t) :: q :: r' := e1
    have e2 : cur = some c0 := e2
    injection e1 with e1 e3
    subst e1 e3 e2
    injection hx with hx
    subst hx
    exact end_t2 h
  · rename_i t q r' c0 e1 e2
    have e1 : k :: rest = (Kd.pa, t) :: q :: r' := e1
    have e2 : cur = some c0 := e2
    injection e1 with e1 e3
    subst e1 e3 e2
    by_cases hd : ∀ d ∈ depsOf c0.rq, Ev.checkN d = 0
    · rw [if_pos hd] at hx
      by_cases hz : chkX c0 = 0
      · rw [if_pos hz] at hx
        by_cases h2 : got.length < 200
        · have hx : some (Rx.go ⟨q :: r', none, got ++ [c0]⟩) = some x := by rw [← hx]; exact (if_pos h2).symm
          injection hx with hx
          subst hx
          have := end_pack h hd (fun _ => h2)
          rw [if_pos hz] at this
          exact this
        · have hx : none = some x := by rw [← hx]; exact (if_neg h2).symm
          cases hx
      · rw [if_neg hz] at hx
        injection hx with hx
        subst hx
        have := end_pack h hd (fun e => absurd e hz)
        rw [if_neg hz] at this
        exact this
    · rw [if_neg hd] at hx
      cases hx
  · rename_i x0 t q r' e1
    have e1 : k :: rest = (Kd.md, t) :: q :: r' := e1
    injection e1 with e1 e3
    subst e1 e3
    injection hx with hx
    subst hx
    exact end_none h (fun mo en hk => hk.1)
  · rename_i x0 t q r' e1
    have e1 : k :: rest = (Kd.fm, t) :: q :: r' := e1
    injection e1 with e1 e3
    subst e1 e3
    injection hx with hx
    subst hx
    exact end_none h (fun mo en hk => hk.1)
  · rename_i x0 t q r' e1
    have e1 : k :: rest = (Kd.rq, t) :: q :: r' := e1
    injection e1 with e1 e3
    subst e1 e3
    injection hx with hx
    subst hx
    exact end_none h (fun mo en hk => hk.1)
  · rename_i x0 t q r' e1
    have e1 : k :: rest = (Kd.no, t) :: q :: r' := e1
    injection e1 with e1 e3
    subst e1 e3
    injection hx with hx
    subst hx
    exact end_none h (fun mo en hk => hk.2)
  · cases hx
end
end Go.Proofs.YtljldbdjkjllhaaGreatDoor
