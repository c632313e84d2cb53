/- A reader's list of dependencies. A reader's dependency. A reader's dependency, with room for its parts; a list of texts. -/
import Derived.Test.YtpmfmkpfjomgnaaGreatDoorZcb
import Derived.Test.YtpmfmkpfjomgnaaGreatDoorZai
import Derived.Test.YtpmfmkpfjomgnaaGreatDoorZal
/- A reader's list of dependencies. -/
namespace Go.Proofs.YtpmfmkpfjomgnaaGreatDoor
set_option linter.unusedSimpArgs false
set_option linter.unusedVariables false
open Go.RowKit

/-- A call of a reader has taken what r tells, in memory of its own; or it gave up. -/
def TookM {α : Type} (w : World) (base g : Nat) (O : Nat → Prop) (bs : ByteArray) (b0 o0 : Nat) (r : Option (α × RS)) (val : α → Value → World → (Nat → Prop) → Prop) (e : Ending) (w' : World) : Prop :=
  TurnedP O w w' ∧ match r with
    | some x => ∃ v O', e = .returned v ∧ RdAt w' base g O' bs b0 o0 x.2 ∧ (∀ k, O' k → O k ∨ w.heap.size ≤ k) ∧ val x.1 v w' O'
    | none => e = gaveUp 90
/-- What a reader has taken since w. -/
structure Racc (w wx : World) (base g : Nat) (O O' : Nat → Prop) (bs : ByteArray) (b0 o0 : Nat) (s' : RS) : Prop where
  at_ : RdAt wx base g O' bs b0 o0 s'
  turned : TurnedP O w wx
  own : ∀ j, O' j → O j ∨ w.heap.size ≤ j
section
variable {w w0 wx w2 : World} {base g b0 o0 : Nat} {O O' O2 S : Nat → Prop} {bs : ByteArray} {s s' s2 : RS}
theorem Racc.start (h : RdAt w base g O bs b0 o0 s) : Racc w w base g O O bs b0 o0 s := ⟨h, TurnedP.refl _ _, fun _ h => .inl h⟩
theorem Racc.later (h : Racc w wx base g O O' bs b0 o0 s') (hb : Below wx.heap.size wx w2) : Racc w w2 base g O O' bs b0 o0 s' := ⟨h.at_.below hb, h.turned.below_ hb, h.own⟩
theorem Racc.next (h : Racc w wx base g O O' bs b0 o0 s') (ht : TurnedP O' wx w2) (hA : RdAt w2 base g O2 bs b0 o0 s2) (ho : ∀ k, O2 k → O' k ∨ wx.heap.size ≤ k) : Racc w w2 base g O O2 bs b0 o0 s2 :=
  ⟨hA, h.turned.trans ht fun j hj hj2 => (h.own j hj2).elim id fun h1 => by omega, fun j hj => (ho j hj).elim (h.own j) fun h1 => .inr (by have := h.turned.size; omega)⟩
theorem Racc.gone (h : Racc w wx base g O O' bs b0 o0 s') (ht : TurnedP O' wx w2) : TurnedP O w w2 := h.turned.trans ht fun j hj hj2 => (h.own j hj2).elim id fun h1 => by omega
/-- What stands outside stays, whatever a reader takes. -/
theorem out_stay (hS : OutS wx O' S) (ht : TurnedP O' wx w2) : StayS S wx w2 := fun b hb hl => ht.block b hl (hS b hb).1
theorem out_next (hS : OutS wx O' S) (ht : TurnedP O' wx w2) (ho : ∀ k, O2 k → O' k ∨ wx.heap.size ≤ k) : OutS w2 O2 S := fun b hb => ⟨fun h => by
  rcases ho b h with h1 | h1
  · exact (hS b hb).1 h1
  · have := (hS b hb).2; omega, by have := (hS b hb).2; have := ht.size; omega⟩
theorem out_or {S T : Nat → Prop} (h : OutS w O S) (k : OutS w O T) : OutS w O (fun b => S b ∨ T b) := fun b hb => hb.elim (h b) (k b)
end
/-- A dependency that was read, in memory of its own. -/
def DepV (n0 : Nat) (d : Dep) (v : Value) (w : World) (O : Nat → Prop) : Prop := ∃ A c S, v = .agg (rowD d (.slice A d.args.length c)) ∧ Lay w S d (.slice A d.args.length c) ∧ CleanS w S ∧ OutS w O S ∧ ∀ b, S b → n0 ≤ b
def DListV (n0 : Nat) (ds : List Dep) (v : Value) (w : World) (O : Nat → Prop) : Prop := ∃ A c S, v = .slice A ds.length c ∧ ListAt w S ds v ∧ CleanS w S ∧ OutS w O S ∧ ∀ b, S b → n0 ≤ b
/-- While a list is read: what is there. -/
structure RLd (w wx : World) (base g : Nat) (O O' : Nat → Prop) (bs : ByteArray) (b0 o0 : Nat) (s' : RS) (r : Rows5) (vo : Value) (S : Nat → Prop) : Prop where
  acc : Racc w wx base g O O' bs b0 o0 s'
  row : wx.ownsRow w.heap.size 50 5 vo r.length (cells5 r)
  lays : ∀ x ∈ r, Lay wx S x.1 x.2
  clean : CleanS wx S
  out : OutS wx O' S
  far : ∀ b, S b → w.heap.size ≤ b
  bw : base ≤ w.heap.size
  apart : ∀ b, S b → vo.ownBlock ≠ some b
theorem RdAt.not_own {w : World} {base base2 g b0 o0 : Nat} {O : Nat → Prop} {bs : ByteArray} {s : RS} (h : RdAt w base g O bs b0 o0 s) {t : TypeId} {z n : Nat} {v : Value} {xs : List Value} (ho : w.ownsRow base2 t z v n xs) (h1 : t ≠ 125) (h2 : t ≠ 9) : ∀ k, v.ownBlock = some k → ¬ O k := fun k hk => by
  rcases ho.2 with ⟨rfl, _⟩ | ⟨g', cap, cur, rfl, _, hh, _⟩
  · simp [Value.ownBlock] at hk
  · have : g' = k := by simpa [Value.ownBlock] using hk
    subst this
    exact h.not_O (show Blk w g' t cur from hh) h1 h2
theorem RLd.later {w wx w2 : World} {base g b0 o0 : Nat} {O O' : Nat → Prop} {bs : ByteArray} {s' : RS} {r : Rows5} {vo : Value} {S : Nat → Prop} (h : RLd w wx base g O O' bs b0 o0 s' r vo S) (hb : Below wx.heap.size wx w2) : RLd w w2 base g O O' bs b0 o0 s' r vo S :=
  ⟨h.acc.later hb, own_turnedP h.row (TurnedP.of_below hb fun _ => False) fun _ _ h => h, fun x hx => (h.lays x hx).stay (fun _ h => h) (StayS.below' hb), h.clean.stay (StayS.below' hb), OutS.below h.out hb.size, h.far, h.bw, h.apart⟩
theorem RLd.took {w wx w2 : World} {base g b0 o0 : Nat} {O O' O2 : Nat → Prop} {bs : ByteArray} {s' s2 : RS} {r : Rows5} {vo : Value} {S S2 : Nat → Prop} {d : Dep} {A : Option Addr} {c : Nat} (h : RLd w wx base g O O' bs b0 o0 s' r vo S)
    (ht : TurnedP O' wx w2) (hA : RdAt w2 base g O2 bs b0 o0 s2) (ho : ∀ k, O2 k → O' k ∨ wx.heap.size ≤ k) : RLd w w2 base g O O2 bs b0 o0 s2 r vo S :=
  ⟨h.acc.next ht hA ho, own_turnedP h.row ht (h.acc.at_.not_own h.row (by decide) (by decide)), fun x hx => (h.lays x hx).stay (fun _ h => h) (out_stay h.out ht), h.clean.stay (out_stay h.out ht), out_next h.out ht ho, h.far, h.bw, h.apart⟩
/-- One thing more is behind the others. -/
theorem RLd.put {w wx w4 : World} {base g b0 o0 : Nat} {O O' : Nat → Prop} {bs : ByteArray} {s' : RS} {r : Rows5} {vo v4 : Value} {S S2 : Nat → Prop} {x : Dep × Value} (h : RLd w wx base g O O' bs b0 o0 s' r vo S) (hw : w.heap.size ≤ wx.heap.size)
    (hL : Lay wx S2 x.1 x.2) (hC : CleanS wx S2) (hO : OutS wx O' S2) (hF : ∀ b, S2 b → w.heap.size ≤ b)
    (hg : wx.grownBy w4 vo.ownBlock) (hown : w4.ownsRow w.heap.size 50 5 v4 (r.length + 1) (cells5 r ++ cells5 [x])) (hat : v4.ownBlock = vo.ownBlock ∨ v4.ownBlock = some wx.heap.size) (hne2 : ∀ k, S2 k → vo.ownBlock ≠ some k) : RLd w w4 base g O O' bs b0 o0 s' (r ++ [x]) v4 (fun b => S b ∨ S2 b) := by
  have ht1 : TurnedP (fun k => vo.ownBlock = some k) wx w4 := (TurnedP.refl _ _).grown hg fun k _ hk => hk
  have hne : ∀ k, S k ∨ S2 k → vo.ownBlock ≠ some k := fun k hk => hk.elim (h.apart k) (hne2 k)
  have hno := h.acc.at_.not_own h.row (by decide) (by decide)
  have hfar : ∀ k, vo.ownBlock = some k → w.heap.size ≤ k := fun k hk => (h.row.lt k hk).1
  have hst : ∀ U : Nat → Prop, (∀ k, U k → vo.ownBlock ≠ some k) → StayS U wx w4 := fun U hU b hb hl => ht1.block b hl (hU b hb)
  have hS1 := hst S fun k hk => hne k (.inl hk)
  have hS2 := hst S2 fun k hk => hne k (.inr hk)
  have hb4 : ∀ k, O' k → w4.heap[k]? = wx.heap[k]? := fun k hk => ht1.block k (h.acc.at_.O_lt hk).2 (fun hv => hno k hv hk)
  have hrd : RdAt w4 base g O' bs b0 o0 s' := by
    obtain ⟨A, c, vt, hS⟩ := h.acc.at_
    have hgl := hS.O_lt ((hS.mine g).2 (.inl rfl))
    have hgb := h.bw
    have htz := h.acc.turned.size
    refine ⟨A, c, vt, ⟨(hb4 g ((hS.mine g).2 (.inl rfl))).trans hS.blk, hS.rest.stay fun hp => ?_, own_turnedP hS.texts ht1 fun k hk hv => hno k hv ((hS.mine k).2 (.inr hk)), hS.gfar, hS.ok, hS.mine⟩⟩
    refine ht1.block b0 (by have := hS.rest.far hp; omega) fun hv => ?_
    have h1 := hS.rest.far hp
    have h2 := hfar b0 hv
    have h3 := h.bw
    omega
  refine ⟨⟨hrd, h.acc.turned.grown hg fun k hk hv => by have := hfar k hv; omega, h.acc.own⟩, ?_, fun y hy => ?_, fun b hb => ?_, fun b hb => ?_, fun b hb => ?_, h.bw, fun b hb hv => ?_⟩
  · rw [List.length_append, cells5_append]
    exact hown
  · rcases List.mem_append.1 hy with hy | hy
    · exact (h.lays y hy).stay (fun _ h => .inl h) hS1
    · simp at hy; subst hy
      exact hL.stay (fun _ h => .inr h) hS2
  · rcases hb with hb | hb
    · exact h.clean.stay hS1 b hb
    · exact hC.stay hS2 b hb
  · have hz := hg.size
    rcases hb with hb | hb
    · have := h.out b hb; exact ⟨this.1, by omega⟩
    · have := hO b hb; exact ⟨this.1, by omega⟩
  · exact hb.elim (h.far b) (hF b)
  · rcases hat with e | e
    · rw [hv] at e; exact hne b hb e.symm
    · rw [hv] at e
      injection e with e
      have h1 : b < wx.heap.size := hb.elim (fun h1 => (h.out b h1).2) (fun h1 => (hO b h1).2)
      omega
/-- A slice whose rows are read. -/
theorem RLd.done {w wx : World} {base g b0 o0 : Nat} {O O' : Nat → Prop} {bs : ByteArray} {s' : RS} {r : Rows5} {vo : Value} {S : Nat → Prop} (h : RLd w wx base g O O' bs b0 o0 s' r vo S) : DListV w.heap.size (r.map Prod.fst) vo wx O' := by
  have hno := h.acc.at_.not_own h.row (by decide) (by decide)
  have hall : ∀ b, vo.ownBlock = some b → ∃ cs, Blk wx b 50 cs := fun b hb => by
    rcases h.row.2 with ⟨rfl, _⟩ | ⟨g', cap, cur, rfl, _, hh, _⟩
    · simp [Value.ownBlock] at hb
    · have : g' = b := by simpa [Value.ownBlock] using hb
      subst this
      exact ⟨cur, hh⟩
  obtain ⟨A, c, hv, h1, h2⟩ := own_form' h.row
  have hnil : A = none → c = 0 := fun hA => by
    rcases h.row.2 with ⟨hv2, _⟩ | ⟨g', cap, cur, hv2, _⟩
    · rw [hv] at hv2; injection hv2
    · rw [hv] at hv2; injection hv2 with e1; rw [hA] at e1; cases e1
  refine ⟨A, c, fun b => S b ∨ vo.ownBlock = some b, by rw [List.length_map]; exact hv, ⟨A, c, by rw [List.length_map]; exact hv, by rw [List.length_map]; exact h1, h2, hnil, fun j a hj => ?_⟩, fun b hb => ?_, fun b hb => ?_, fun b hb => ?_⟩
  · rw [List.getElem?_map, Option.map_eq_some_iff] at hj
    obtain ⟨x, hx, rfl⟩ := hj
    obtain ⟨a0, a1, a2, a3, a4⟩ := cells5_at hx
    have hr := h.row
    rw [hv] at hr
    obtain ⟨b, rfl, q0⟩ := own_ats hr a0
    have hq : ∀ (i : Nat) (u : Value), (cells5 r)[i]? = some u → wx.cell? ⟨b, i, none⟩ = some u := fun i u hu => by
      obtain ⟨b', e, hc⟩ := own_ats hr hu
      injection e with e
      injection e with e
      subst e
      exact hc
    refine ⟨b, 0, x.2, rfl, .inr (by rw [hv]; rfl), ⟨by rw [Nat.zero_add]; exact q0, by rw [Nat.zero_add]; exact hq _ _ a1, by rw [Nat.zero_add]; exact hq _ _ a2, by rw [Nat.zero_add]; exact hq _ _ a3, by rw [Nat.zero_add]; exact hq _ _ a4⟩, (h.lays x (List.mem_of_getElem? hx)).stay (fun _ h => .inl h) (StayS.refl _ _)⟩
  · rcases hb with hb | hb
    · exact h.clean b hb
    · exact hall b hb
  · rcases hb with hb | hb
    · exact h.out b hb
    · exact ⟨hno b hb, (h.row.lt b hb).2⟩
  · exact hb.elim (h.far b) fun hb => (h.row.lt b hb).1
/-- Reading so many: what is there, and what is to come. -/
def Rest {α : Type} (f : RS → Option (α × RS)) (n : Nat) (s1 : RS) (l : List α) (s' : RS) : Prop := l.length ≤ n ∧ decN f n s1 = (decN f (n - l.length) s').bind fun y => some (l ++ y.1, y.2)
theorem Rest.start {α : Type} (f : RS → Option (α × RS)) (n : Nat) (s1 : RS) : Rest f n s1 [] s1 := ⟨Nat.zero_le _, by
  show decN f n s1 = (decN f n s1).bind _
  cases decN f n s1 <;> rfl⟩
theorem decN_succ {α : Type} (f : RS → Option (α × RS)) (n : Nat) (s : RS) : decN f (n + 1) s = (f s).bind fun x => (decN f n x.2).bind fun y => some (x.1 :: y.1, y.2) := rfl
theorem Rest.next {α : Type} {f : RS → Option (α × RS)} {n : Nat} {s1 s' s2 : RS} {l : List α} {a : α} (h : Rest f n s1 l s') (hlt : l.length < n) (hf : f s' = some (a, s2)) : Rest f n s1 (l ++ [a]) s2 := by
  refine ⟨by rw [List.length_append]; simp; omega, ?_⟩
  rw [h.2]
  obtain ⟨m, hm⟩ : ∃ m, n - l.length = m + 1 := ⟨n - l.length - 1, by omega⟩
  have hm2 : n - (l ++ [a]).length = m := by rw [List.length_append]; simp; omega
  rw [hm, hm2, decN_succ, hf]
  simp only [Option.bind_some]
  cases decN f m s2 with
  | none => rfl
  | some y => simp
theorem Rest.fails {α : Type} {f : RS → Option (α × RS)} {n : Nat} {s1 s' : RS} {l : List α} (h : Rest f n s1 l s') (hlt : l.length < n) (hf : f s' = none) : decN f n s1 = none := by
  rw [h.2]
  obtain ⟨m, hm⟩ : ∃ m, n - l.length = m + 1 := ⟨n - l.length - 1, by omega⟩
  rw [hm, decN_succ, hf]
  rfl
theorem Rest.done {α : Type} {f : RS → Option (α × RS)} {n : Nat} {s1 s' : RS} {l : List α} (h : Rest f n s1 l s') (he : l.length = n) : decN f n s1 = some (l, s') := by
  rw [h.2, he, Nat.sub_self]
  simp [decN]
theorem info_depz : ∃ i z, Tryz.prog.info? 50 = some i ∧ i.zero = some z ∧ z.cells.size = 5 ∧ i.size = 5 ∧ i.bytes = 72 := by
  have h : (Tryz.prog.info? 50).map (fun i => (i.zero.map fun z => z.cells.size, i.size, i.bytes)) = some (some 5, 5, 72) := by kernel_rfl
  obtain ⟨i, hi, h2⟩ := Option.map_eq_some_iff.1 h
  simp only [Prod.mk.injEq] at h2
  obtain ⟨z, hz, hz1⟩ := Option.map_eq_some_iff.1 h2.1
  exact ⟨i, z, hi, hz, hz1, h2.2.1, h2.2.2⟩
/-- What a reader's call, which takes a dependency, answers. -/
def AskRd (base g : Nat) (bs : ByteArray) (b0 o0 : Nat) (F : FuncId) (f : RS → Option (Dep × RS)) (Inv : RS → Prop) : Prop :=
  ∀ (w' : World) (O' : Nat → Prop) (s' : RS), RdAt w' base g O' bs b0 o0 s' → Inv s' → Calls Tryz.prog F #[.pointer (some ⟨g, 0, none⟩)] w' (TookM w' base g O' bs b0 o0 (f s') (DepV w'.heap.size))
set_option maxHeartbeats 8000000 in
set_option maxRecDepth 100000 in
theorem readDeps_any {w : World} {base g b0 o0 : Nat} {O : Nat → Prop} {bs : ByteArray} {s : RS} (h : RdAt w base g O bs b0 o0 s) (hz : bs.size ≤ 1048576) (F : FuncId) (ef : ∀ args w, (callFunc F args).run Tryz.prog w = .ok (.enter F args) w) (f : RS → Option (Dep × RS)) (Inv : RS → Prop)
    (hask : AskRd base g bs b0 o0 F f Inv) (hInv : ∀ s d s', f s = some (d, s') → s.Ok bs → Inv s → Inv s') (hI0 : ∀ n s', decCount bs 16 s = some (n, s') → Inv s') :
    Calls Tryz.prog 198 #[.pointer (some ⟨g, 0, none⟩), .int .i64 16, .func (.func F) #[.pointer (some ⟨g, 0, none⟩)] #[]] w (TookM w base g O bs b0 o0 (decList bs f 16 s) (DListV w.heap.size)) := by
  have C := Lib.hid (rcount_any h hz 16)
  have HA := Lib.hid hask
  have HI := Lib.hid (And.intro hInv hI0)
  have HID := Lib.hid info_depz
  have HBw : Hid (base ≤ w.heap.size) := by obtain ⟨A, c, vt, hS⟩ := h; have h1 := hS.gfar; have h2 := hS.blk.lt; show base ≤ _; omega
  clear h hask hInv hI0
  cases hd : decCount bs 16 s with
  | none =>
    rw [hd] at C
    have HE : Hid (decList bs f 16 s = none) := by show decList bs f 16 s = none; unfold decList; rw [hd]; rfl
    clear hd
    go_enter Tryz.func198, Tryz.ntmps198
    go_wp2_with fail
    refine C.out.mono ?_
    rintro e w1 ⟨ht, he⟩
    have HV : Hid (TookM w base g O bs b0 o0 (decList bs f 16 s) (DListV w.heap.size) (gaveUp 90) w1) := by rw [HE.out]; exact ⟨ht, rfl⟩
    obtain rfl := he
    clear ht C
    unfold gaveUp
    go_wp2_with fail
    exact ⟨rfl, HV.out⟩
  | some x =>
    obtain ⟨n, s1⟩ := x
    rw [hd] at C
    have HE : Hid (decList bs f 16 s = decN f n s1) := by show decList bs f 16 s = _; unfold decList; rw [hd]; rfl
    have HI0 : Hid (Inv s1) := HI.out.2 n s1 hd
    have hn16 : n ≤ 16 := by
      unfold decCount at hd
      cases hq : decNum bs s with
      | none => rw [hq] at hd; cases hd
      | some y =>
        rw [hq] at hd
        simp only [Option.bind_some] at hd
        split at hd
        · injection hd with hd; injection hd with hd; omega
        · cases hd
    clear hd
    go_enter Tryz.func198, Tryz.ntmps198
    go_wp2_with fail
    refine C.out.mono ?_
    rintro e w1 ⟨ht, v, rfl, hv, O1, hA1, hO1⟩
    obtain rfl := hv
    replace hA1 : RdAt w1 base g O1 bs b0 o0 s1 := hA1
    have H0 : Hid (∃ O' s' r S, RLd w w1 base g O O' bs b0 o0 s' r (.slice none 0 0) S ∧ r.length = 0 ∧ Rest f n s1 (r.map Prod.fst) s' ∧ Inv s') :=
      ⟨O1, s1, [], fun _ => False, ⟨⟨hA1, ht, hO1⟩, World.ownsRow_nil _ _ _ _, (fun x hx => by cases hx), (fun b hb => hb.elim), (fun b hb => hb.elim), (fun b hb => hb.elim), HBw.out, (fun b hb => hb.elim)⟩, rfl, Rest.start f n s1, HI0.out⟩
    clear ht hA1 hO1 C
    go_wp2_with fail
    go_loopw [7, 11] (fun v7 v wx => ∃ k : Nat, k ≤ n ∧ v = .int .i64 (k : Int) ∧ Hid (∃ O' s' r S, RLd w wx base g O O' bs b0 o0 s' r v7 S ∧ r.length = k ∧ Rest f n s1 (r.map Prod.fst) s' ∧ Inv s')) (fun _ v _ => n - (intOf v).toNat)
    case atStart => exact ⟨0, Nat.zero_le _, rfl, H0⟩
    case round =>
      clear H0
      obtain ⟨k, hk, rfl, HB⟩ := hrel
      obtain ⟨O', s', r, S, hR, hrk, hRest, hInv⟩ := HB.out
      obtain ⟨Av, cv, rfl, hv1, hv2⟩ := own_form' hR.row
      by_cases hlt : k < n
      · have CF := Lib.hid (HA.out wr O' s' hR.acc.at_ hInv)
        have hml : (r.map Prod.fst).length = k := by rw [List.length_map]; exact hrk
        have HR := Lib.hid hR
        have HRest := Lib.hid hRest
        have HInv := Lib.hid hInv
        have HRk := Lib.hid hrk
        have HMl := Lib.hid hml
        clear HB hR hRest hInv hml hrk
        cases hf : f s' with
        | none =>
          rw [hf] at CF
          have HX : Hid (decList bs f 16 s = none) := by show decList bs f 16 s = none; rw [HE.out]; exact HRest.out.fails (by rw [HMl.out]; exact hlt) hf
          clear hf
          go_wp2_with fail
          refine CF.out.mono ?_
          rintro e w2 ⟨ht, he⟩
          have HV : Hid (TookM w base g O bs b0 o0 (decList bs f 16 s) (DListV w.heap.size) (gaveUp 90) w2) := by rw [HX.out]; exact ⟨HR.out.acc.gone ht, rfl⟩
          obtain rfl := he
          clear ht CF
          unfold gaveUp
          go_wp2_with fail
          exact ⟨rfl, HV.out⟩
        | some y =>
          obtain ⟨d, s2⟩ := y
          rw [hf] at CF
          have HN : Hid (Rest f n s1 ((r.map Prod.fst) ++ [d]) s2) := HRest.out.next (by rw [HMl.out]; exact hlt) hf
          have HInv2 : Hid (Inv s2) := HI.out.1 s' d s2 hf HR.out.acc.at_.ok HInv.out
          clear hf
          go_wp2_with fail
          refine CF.out.mono ?_
          rintro e w2 ⟨ht, v, O2, rfl, hA2, hO2, A2, c2, S2, rfl, hL2, hC2, hOS2, hF2⟩
          replace hA2 : RdAt w2 base g O2 bs b0 o0 s2 := hA2
          have hba : Below w2.heap.size w2 (w2.alloc (.cells (rowD d (.slice A2 d.args.length c2)) 50)) := (Below.refl _ _).alloc (Nat.le_refl _) _
          have hR2 := (HR.out.took (d := d) (A := A2) (c := c2) (S2 := S2) ht hA2 hO2)
          have hR3 := hR2.later hba
          have HR3 := Lib.hid hR3
          have HO3 : Hid ((w2.alloc (.cells (rowD d (.slice A2 d.args.length c2)) 50)).ownsRow w.heap.size 50 5 (.slice Av r.length cv) r.length (cells5 r)) := hR3.row
          have HP : Hid (∀ v4 w4, (w2.alloc (.cells (rowD d (.slice A2 d.args.length c2)) 50)).grownBy w4 (Value.slice Av r.length cv).ownBlock → w4.ownsRow w.heap.size 50 5 v4 (r.length + 1) (cells5 r ++ cells5 [(d, .slice A2 d.args.length c2)]) → (v4.ownBlock = (Value.slice Av r.length cv).ownBlock ∨ v4.ownBlock = some (w2.alloc (.cells (rowD d (.slice A2 d.args.length c2)) 50)).heap.size) →
              ∃ O' s' r' S', RLd w w4 base g O O' bs b0 o0 s' r' v4 S' ∧ r'.length = k + 1 ∧ Rest f n s1 (r'.map Prod.fst) s' ∧ Inv s') := fun v4 w4 hg hown hat => by
            have hz1 := HR.out.acc.turned.size
            have hne : ∀ j, S2 j → (Value.slice Av r.length cv).ownBlock ≠ some j := fun j hj hv => by
              have h1 := (HR.out.row.lt j hv).2
              have h2 := hF2 j hj
              omega
            exact ⟨O2, s2, r ++ [(d, .slice A2 d.args.length c2)], _, RLd.put (x := (d, .slice A2 d.args.length c2)) hR3 hR3.acc.turned.size (hL2.stay (fun _ h => h) (StayS.below' hba)) (hC2.stay (StayS.below' hba)) (OutS.below hOS2 hba.size) (fun b hb => by have := hF2 b hb; omega) hg hown hat hne, by rw [List.length_append, HRk.out]; rfl, by rw [List.map_append]; exact HN.out, HInv2.out⟩
          have HBz : Hid (w.heap.size ≤ w2.heap.size) := hR2.acc.turned.size
          have hr16 : r.length ≤ 16 := by have := HRk.out; omega
          have HR16 := Lib.hid hr16
          clear ht hA2 hO2 hL2 hC2 hOS2 hF2 hba hR2 hR3 CF hr16
          unfold rowD at HO3 HP
          rw [show cells5 [(d, Value.slice A2 d.args.length c2)] = [.int .i64 d.kind, .string d.name, .int .i64 d.op, .string d.evr, .slice A2 d.args.length c2] from rfl] at HP
          unfold rowD
          obtain ⟨i0, z0, hi0, hz0, hz1, hz2, hz3⟩ := HID.out
          go_wp2_with (at_builtin; refine wpList_append_own_at _ rfl (.tmp 13) (.tmp 16) 41 rfl w.heap.size 50 i0 z0 5 72 Tryz.underlying41 hi0 hz0 hz2 hz3 hz1 (by decide) (.slice Av r.length cv) r.length (cells5 r) rfl HO3.out ⟨w2.heap.size, 0, none⟩ 1 1 [.int .i64 d.kind, .string d.name, .int .i64 d.op, .string d.evr, .slice A2 d.args.length c2] rfl rfl (cells_new w2 #[.int .i64 d.kind, .string d.name, .int .i64 d.op, .string d.evr, .slice A2 d.args.length c2] _) (by intro u hu; simp at hu; rcases hu with rfl | rfl | rfl | rfl | rfl <;> rfl) (by have := HR16.out; unfold maxLen; omega) (by have := HR16.out; omega) (by have := HBz.out; simp; omega) ?_; intro v4 w4 hown4 hg4 hnil4 hat4; have HX := Lib.hid (HP.out v4 w4 hg4 hown4 hat4); clear hown4 hg4 hnil4 hat4)
          go_roundw
          case rel => exact ⟨k + 1, by omega, by go_num, HX⟩
          case measure => simp [intOf]; omega
      · obtain rfl : k = n := by omega
        have HV : Hid (TookM w base g O bs b0 o0 (decList bs f 16 s) (DListV w.heap.size) (.returned (.slice Av r.length cv)) wr) := by
          rw [HE.out, hRest.done (by rw [List.length_map]; exact hrk)]
          exact ⟨hR.acc.turned, _, O', rfl, hR.acc.at_, hR.acc.own, hR.done⟩
        rw [hrk] at HV ⊢
        clear hlt HB hR hRest hInv
        go_wp2_with fail
        go_ret
        exact HV.out
end Go.Proofs.YtpmfmkpfjomgnaaGreatDoor

/- A reader's dependency. -/
namespace Go.Proofs.YtpmfmkpfjomgnaaGreatDoor
set_option linter.unusedSimpArgs false
set_option linter.unusedVariables false
open Go.RowKit

def zd5 : Array Value := #[.int .i64 0, .string ⟨#[]⟩, .int .i64 0, .string ⟨#[]⟩, .slice none 0 0]
/-- The boxes of a call. -/
def Dx (n : Nat) (b : Nat) : Prop := b = n ∨ b = n + 1
/-- While a dependency is read: its box, the room of the answer. -/
structure PrS (w wx : World) (base g : Nat) (O O' : Nat → Prop) (bs : ByteArray) (b0 o0 : Nat) (s' : RS) (cs : Array Value) : Prop where
  acc : Racc w wx base g O O' bs b0 o0 s'
  out : OutS wx O' (Dx w.heap.size)
  kd : Blk wx (w.heap.size + 1) 50 cs
  kr : Blk wx w.heap.size 50 zd5
  bw : base ≤ w.heap.size
section
variable {w wx w2 : World} {base g b0 o0 : Nat} {O O' O2 : Nat → Prop} {bs : ByteArray} {s' s2 : RS} {cs : Array Value}
theorem PrS.next (h : PrS w wx base g O O' bs b0 o0 s' cs) (ht : TurnedP O' wx w2) (hA : RdAt w2 base g O2 bs b0 o0 s2) (ho : ∀ k, O2 k → O' k ∨ wx.heap.size ≤ k) : PrS w w2 base g O O2 bs b0 o0 s2 cs :=
  ⟨h.acc.next ht hA ho, out_next h.out ht ho, h.kd.turnedP ht (h.out _ (.inr rfl)).1, h.kr.turnedP ht (h.out _ (.inl rfl)).1, h.bw⟩
theorem PrS.set_ (h : PrS w wx base g O O' bs b0 o0 s' cs) (i : Nat) (u : Value) : PrS w (wx.setCell ⟨w.heap.size + 1, i, none⟩ u) base g O O' bs b0 o0 s' (cs.setIfInBounds i u) := by
  have htQ : TurnedP (fun k => k = w.heap.size + 1) wx (wx.setCell ⟨w.heap.size + 1, i, none⟩ u) := TurnedP.setCell (p := ⟨w.heap.size + 1, i, none⟩) (TurnedP.refl (fun k => k = w.heap.size + 1) wx) (fun _ => rfl) u
  have hz : (wx.setCell ⟨w.heap.size + 1, i, none⟩ u).heap.size = wx.heap.size := by simp [World.setCell]
  refine ⟨⟨h.acc.at_.turned htQ fun k hk => ⟨fun ho => ?_, by have := h.bw; omega⟩, h.acc.turned.setCell (fun hl => by simp at hl; omega) _, h.acc.own⟩, fun b hb => ⟨(h.out b hb).1, by rw [hz]; exact (h.out b hb).2⟩, h.kd.set_ i u, h.kr.far (by simp) _, h.bw⟩
  subst hk
  exact (h.out _ (.inr rfl)).1 ho
end
set_option maxRecDepth 100000 in
theorem rload5 {w : World} {g : Nat} {x0 x1 x2 x3 x4 : Value} (h : Blk w g 50 #[x0, x1, x2, x3, x4]) : (loadVar 50 ⟨g, 0, none⟩).run Tryz.prog w = .ok (.agg #[x0, x1, x2, x3, x4]) w := by
  have b0 := h.cell 0
  have b1 := h.cell 1
  have b2 := h.cell 2
  have b3 := h.cell 3
  have b4 := h.cell 4
  simp at b0 b1 b2 b3 b4
  clear h
  go_simp
def put5r (w : World) (g : Nat) (x0 x1 x2 x3 x4 : Value) : World := ((((w.setCell ⟨g, 0, none⟩ x0).setCell ⟨g, 1, none⟩ x1).setCell ⟨g, 2, none⟩ x2).setCell ⟨g, 3, none⟩ x3).setCell ⟨g, 4, none⟩ x4
theorem put5r_blk {w : World} {g : Nat} {t : TypeId} {y0 y1 y2 y3 y4 : Value} (h : Blk w g t #[y0, y1, y2, y3, y4]) (x0 x1 x2 x3 x4 : Value) : Blk (put5r w g x0 x1 x2 x3 x4) g t #[x0, x1, x2, x3, x4] := ((((h.set_ 0 x0).set_ 1 x1).set_ 2 x2).set_ 3 x3).set_ 4 x4
theorem set_eq (w0 w : World) (q i : Nat) (u : Value) (h : TurnedP (fun k => k = q) w0 w) : TurnedP (fun k => k = q) w0 (w.setCell ⟨q, i, none⟩ u) := TurnedP.setCell (p := ⟨q, i, none⟩) h (fun _ => rfl) u
theorem put5r_turned (w : World) (q : Nat) (x0 x1 x2 x3 x4 : Value) : TurnedP (fun k => k = q) w (put5r w q x0 x1 x2 x3 x4) := set_eq _ _ _ _ _ (set_eq _ _ _ _ _ (set_eq _ _ _ _ _ (set_eq _ _ _ _ _ (set_eq _ _ _ _ _ (TurnedP.refl _ _)))))
theorem DListV.stay {n0 q : Nat} {ds : List Dep} {v : Value} {w w' : World} {O : Nat → Prop} (h : DListV n0 ds v w O) (ht : TurnedP (fun k => k = q) w w') (hq : q < n0) : DListV n0 ds v w' O := by
  obtain ⟨A, c, S, h1, hL, hC, hO, hF⟩ := h
  have hst : StayS S w w' := fun b hb hl => ht.block b hl (fun e => by have := hF b hb; omega)
  exact ⟨A, c, S, h1, hL.stay (fun _ h => h) hst, hC.stay hst, fun b hb => ⟨(hO b hb).1, by have := (hO b hb).2; have := ht.size; omega⟩, hF⟩
/-- What is answered. -/
theorem depV_of {w wx w2 : World} {base g b0 o0 n0 : Nat} {O O' : Nat → Prop} {bs : ByteArray} {s' : RS} {q : Nat} {k o : Int} {n e : ByteArray} {ds : List Dep} {v : Value} {r : Option (Dep × RS)} (hacc : Racc w wx base g O O' bs b0 o0 s') (hv : DListV n0 ds v wx O') (ht : TurnedP (fun j => j = q) wx w2)
    (hq : w.heap.size ≤ q) (hqn : q < n0) (hno : ¬ O' q) (hbw : base ≤ w.heap.size) (hr : r = some (.mk k n o e ds, s')) :
    TookM w base g O bs b0 o0 r (DepV w.heap.size) (.returned (.agg #[.int .i64 k, .string n, .int .i64 o, .string e, v])) w2 := by
  obtain ⟨A, c, S, rfl, hL, hC, hO, hF⟩ := hv.stay ht hqn
  subst hr
  refine ⟨hacc.turned.trans ht fun j hj hjq => by omega, _, O', rfl, hacc.at_.turned ht (fun j hj => by subst hj; exact ⟨hno, by omega⟩), hacc.own, A, c, S, rfl, ?_, hC, hO, fun b hb => by have := hF b hb; omega⟩
  obtain ⟨A', c', e1, h1, h2, h3, h4⟩ := hL
  rw [lay_iff]
  exact ⟨A', c', e1, h1, ⟨h2, h3⟩, h4⟩
/-- Which parts are read. -/
theorem decPart_parts (bs : ByteArray) : ∀ (f : Nat) (s : RS) (d : Dep) (s' : RS), decPart bs f s = some (d, s') → s.Ok bs → s'.parts ≤ s.parts ∧ s'.Ok bs
  | 0, s, d, s', h, ho => by simp [decPart] at h
  | f + 1, s, d, s', h, ho => by
    have ih := decPart_parts bs f
    have hN : ∀ (n : Nat) (s : RS) (l : List Dep) (s' : RS), decN (decPart bs f) n s = some (l, s') → s.Ok bs → s'.parts ≤ s.parts ∧ s'.Ok bs := by
      intro n
      induction n with
      | zero =>
        intro s l s' h ho
        simp only [decN] at h
        injection h with h
        injection h with h1 h2
        subst h2
        exact ⟨Int.le_refl _, ho⟩
      | succ n ihn =>
        intro s l s' h ho
        rw [decN_succ] at h
        cases hd : decPart bs f s with
        | none => rw [hd] at h; cases h
        | some x =>
          rw [hd] at h
          simp only [Option.bind_some] at h
          cases hn : decN (decPart bs f) n x.2 with
          | none => rw [hn] at h; cases h
          | some y =>
            rw [hn] at h
            simp only [Option.bind_some] at h
            injection h with h
            injection h with h1 h2
            subst h2
            have a1 := ih s x.1 x.2 hd ho
            have a2 := ihn x.2 y.1 y.2 hn a1.2
            exact ⟨Int.le_trans a2.1 a1.1, a2.2⟩
    unfold decPart at h
    split at h
    · rename_i hp
      have ho0 : RS.Ok bs { s with parts := s.parts - 1 } := ⟨ho.pos, ho.sizes, ho.many, by have := ho.parts; show s.parts - 1 ≤ 31; omega⟩
      cases h1 : decNum bs { s with parts := s.parts - 1 } with
      | none => rw [h1] at h; cases h
      | some x1 =>
        rw [h1] at h; simp only [Option.bind_some] at h
        have a1 := decNum_ok (n := x1.1) (s' := x1.2) h1 ho0
        cases h2 : decText bs x1.2 with
        | none => rw [h2] at h; cases h
        | some x2 =>
          rw [h2] at h; simp only [Option.bind_some] at h
          have a2 := decText_ok (t := x2.1) (s' := x2.2) h2 a1.1
          cases h3 : decNum bs x2.2 with
          | none => rw [h3] at h; cases h
          | some x3 =>
            rw [h3] at h; simp only [Option.bind_some] at h
            have a3 := decNum_ok (n := x3.1) (s' := x3.2) h3 a2.1
            cases h4 : decText bs x3.2 with
            | none => rw [h4] at h; cases h
            | some x4 =>
              rw [h4] at h; simp only [Option.bind_some] at h
              have a4 := decText_ok (t := x4.1) (s' := x4.2) h4 a3.1
              unfold decList at h
              cases h5 : decCount bs 16 x4.2 with
              | none => rw [h5] at h; cases h
              | some x5 =>
                rw [h5] at h; simp only [Option.bind_some] at h
                have a5 := decCount_ok (n := x5.1) (s' := x5.2) h5 a4.1
                cases h6 : decN (decPart bs f) x5.1 x5.2 with
                | none => rw [h6] at h; cases h
                | some x6 =>
                  rw [h6] at h; simp only [Option.bind_some] at h
                  injection h with h
                  injection h with _ h
                  subst h
                  have a6 := hN x5.1 x5.2 x6.1 x6.2 h6 a5.1
                  refine ⟨?_, a6.2⟩
                  have e1 : x1.2.parts = s.parts - 1 := a1.2.2.2
                  have e2 := a2.2.1
                  have e3 := a3.2.2.2
                  have e4 := a4.2.1
                  have e5 := a5.2.2.2.1
                  have e6 := a6.1
                  omega
    · cases h
theorem rpart_step (bs : ByteArray) (fu : Nat) (s : RS) (hp : 0 < s.parts) : decPart bs (fu + 1) s = (decNum bs { s with parts := s.parts - 1 }).bind fun k => (decText bs k.2).bind fun n => (decNum bs n.2).bind fun o => (decText bs o.2).bind fun e =>
        (decList bs (decPart bs fu) 16 e.2).bind fun a => some (.mk k.1 n.1 o.1 e.1 a.1, a.2) := by
  show (if 0 < s.parts then _ else none) = _
  rw [if_pos hp]
set_option maxHeartbeats 8000000 in
set_option maxRecDepth 100000 in
theorem rpart_no {base g b0 o0 : Nat} {bs : ByteArray} (w : World) (O : Nat → Prop) (s : RS) (fu : Nat) (hA : RdAt w base g O bs b0 o0 s) (hp : ¬ 0 < s.parts) (hd : decPart bs fu s = none) : Calls Tryz.prog 218 #[.pointer (some ⟨g, 0, none⟩)] w (TookM w base g O bs b0 o0 (decPart bs fu s) (DepV w.heap.size)) := by
  have CX := Lib.hid cmust_no
  obtain ⟨A, c, vt, hS⟩ := hA
  have c2 := (hS.blk.alloc (.cells zd5 50)).cell 2
  simp at c2
  have hb : Below w.heap.size w (w.alloc (.cells zd5 50)) := (Below.refl _ _).alloc (Nat.le_refl _) _
  have HV : Hid (TookM w base g O bs b0 o0 (decPart bs fu s) (DepV w.heap.size) (gaveUp 90) (w.alloc (.cells zd5 50))) := by rw [hd]; exact ⟨TurnedP.of_below hb O, rfl⟩
  have t1 : decide (0 < s.parts) = false := decide_eq_false hp
  unfold zd5 at c2 HV
  clear hS hb hp hd
  go_enter Tryz.func218, Tryz.ntmps218
  go_wp2_with fail
  refine (CX.out _).mono ?_
  rintro e w3 ⟨rfl, rfl⟩
  unfold gaveUp
  go_wp2_with fail
  exact ⟨rfl, HV.out⟩
set_option maxHeartbeats 16000000 in
set_option maxRecDepth 100000 in
theorem rpart_yes {base g b0 o0 : Nat} {bs : ByteArray} (hz : bs.size ≤ 1048576) (w : World) (O : Nat → Prop) (s : RS) (fu : Nat) (ih : AskRd base g bs b0 o0 218 (decPart bs fu) (fun s => s.parts ≤ fu)) (hA : RdAt w base g O bs b0 o0 s) (hp : 0 < s.parts) (hf : s.parts ≤ (fu : Int) + 1) :
    Calls Tryz.prog 218 #[.pointer (some ⟨g, 0, none⟩)] w (TookM w base g O bs b0 o0 (decPart bs (fu + 1) s) (DepV w.heap.size)) := by
  have CY := Lib.hid cmust_yes
  have hmf : ∀ (fn : Fn) (first cap : Array Value) (w : World), (Instr.makeFunc fn first cap).run Tryz.prog w = .ok (.func fn first cap) w := fun _ _ _ _ => rfl
  have HStep := Lib.hid (rpart_step bs fu s hp)
  have HIH := Lib.hid ih
  have HFu := Lib.hid hf
  obtain ⟨A, c, vt, hS⟩ := hA
  obtain ⟨m, hm⟩ : ∃ m, m = s.texts.length := ⟨_, rfl⟩
  obtain ⟨At, ct, rfl, -, -⟩ := own_form' hS.texts
  have hbw : base ≤ w.heap.size := by have h1 := hS.gfar; have h2 := hS.blk.lt; omega
  have hgw : g < w.heap.size := hS.blk.lt
  obtain ⟨w1, hw1⟩ : ∃ w1, w1 = w.alloc (.cells zd5 50) := ⟨_, rfl⟩
  have hb1 : Below w.heap.size w w1 := by rw [hw1]; exact (Below.refl _ _).alloc (Nat.le_refl _) _
  have hS1 := hS.below hb1
  have c2 := hS1.blk.cell 2
  have f2 := hS1.blk.free 2
  simp at c2
  obtain ⟨w2, hw2⟩ : ∃ w2, w2 = (w1.setCell ⟨g, 2, none⟩ (.int .i64 (s.parts - 1))).alloc (.cells zd5 50) := ⟨_, rfl⟩
  have HS0 : Hid (PrS w w2 base g O O bs b0 o0 { s with parts := s.parts - 1 } zd5) := by
    have hgO : O g := (hS.mine g).2 (.inl rfl)
    have hz1 : w1.heap.size = w.heap.size + 1 := by rw [hw1]; simp
    have hz2 : (w1.setCell ⟨g, 2, none⟩ (.int .i64 (s.parts - 1))).heap.size = w.heap.size + 1 := by rw [size_set]; exact hz1
    have ht2 : TurnedP O w w2 := by rw [hw2]; exact ((TurnedP.of_below hb1 O).setCell (fun _ => hgO) _).alloc _
    have hrd : RdAt w2 base g O bs b0 o0 { s with parts := s.parts - 1 } := by
      refine ⟨A, c, _, ⟨?_, ?_, ?_, hS.gfar, ⟨hS.ok.pos, hS.ok.sizes, hS.ok.many, by have := hS.ok.parts; show s.parts - 1 ≤ 31; omega⟩, hS.mine⟩⟩
      · rw [hw2]
        exact (hS1.blk.set_ 2 (.int .i64 (s.parts - 1))).alloc _
      · exact hS.rest.stay fun hp => ht2.block b0 (by have := hS.rest.far hp; omega) (fun ho => by have := (hS.O_lt ho).1; have := hS.rest.far hp; omega)
      · rw [hw2]
        exact (own_setCell (p := ⟨g, 2, none⟩) hS1.texts (own_kind hS1.texts hS1.blk (by decide)) _).alloc _
    refine ⟨⟨hrd, ht2, fun _ h => .inl h⟩, fun b hb => ⟨fun ho => ?_, ?_⟩, ?_, ?_, hbw⟩
    · have := (hS.O_lt ho).2
      rcases hb with rfl | rfl <;> omega
    · rw [hw2, World.size_alloc, hz2]
      rcases hb with rfl | rfl <;> omega
    · rw [hw2]; exact Blk.new' hz2
    · rw [hw2]
      have h1 : Blk w1 w.heap.size 50 zd5 := by rw [hw1]; exact Blk.new _ _ _
      exact (h1.far (by simp; omega) _).alloc _
  have t1 : decide (0 < s.parts) = true := decide_eq_true hp
  unfold zd5 at hw1 hw2 HS0
  have hrange : -9223372036854775808 ≤ s.parts - 1 ∧ s.parts - 1 ≤ 9223372036854775807 := by have := hS.ok.parts; omega
  have hw64 : wrap64 (s.parts - 1) = s.parts - 1 := by unfold wrap64; omega
  have HGZ : Hid (w1.heap.size = w.heap.size + 1) := by show _ = _; rw [hw1]; simp
  have HW1 := Lib.hid hw1
  have HW2 := Lib.hid hw2
  clear hS hS1 hb1 hbw hgw hf ih hw2
  go_enter Tryz.func218, Tryz.ntmps218
  go_upto_region 1 with fail
  rw [← hw1]
  clear hw1
  go_wp2_with fail
  refine (CY.out _).mono ?_
  rintro e w3 ⟨rfl, rfl⟩
  have C0 := Lib.hid (rnum_any HS0.out.acc.at_ hz)
  have SIZE0 := HS0
  go_wp2_with fail
  rw [HGZ.out, ← HW2.out]
  clear c2 f2 t1
  cases hd1 : decNum bs { s with parts := s.parts - 1 } with
  | none =>
    rw [hd1] at C0
    have HE : Hid (decPart bs (fu + 1) s = none) := by
      show decPart bs (fu + 1) s = none
      rw [HStep.out, hd1]; rfl
    clear hd1
    refine C0.out.mono ?_
    rintro e wq ⟨ht, he⟩
    have HV : Hid (TookM w base g O bs b0 o0 (decPart bs (fu + 1) s) (DepV w.heap.size) (gaveUp 90) wq) := by rw [HE.out]; exact ⟨HS0.out.acc.gone ht, rfl⟩
    obtain rfl := he
    clear ht C0 HE
    unfold gaveUp
    go_wp2_with fail
    exact ⟨rfl, HV.out⟩
  | some y1 =>
    obtain ⟨x1, s1⟩ := y1
    rw [hd1] at C0
    refine C0.out.mono ?_
    rintro e v1 ⟨ht, vv, rfl, hv, O1, hA, hO⟩
    obtain rfl := hv
    have hN := HS0.out.next ht hA hO
    have d0 := hN.kd.cell 0
    have e0 := hN.kd.free 0
    have HS1 := Lib.hid (hN.set_ 0 (.int .i64 x1))
    simp only [List.setIfInBounds_toArray, List.set_cons_zero, List.set_cons_succ] at HS1
    simp at d0
    clear hN ht hA hO C0
    have C1 := Lib.hid (rtext_any HS1.out.acc.at_ hz)
    go_wp2_with fail
    clear d0 e0
    cases hd2 : decText bs s1 with
    | none =>
      rw [hd2] at C1
      have HE : Hid (decPart bs (fu + 1) s = none) := by
        show decPart bs (fu + 1) s = none
        rw [HStep.out, hd1, Option.bind_some, hd2]; rfl
      clear hd2
      refine C1.out.mono ?_
      rintro e wq ⟨ht, he⟩
      have HV : Hid (TookM w base g O bs b0 o0 (decPart bs (fu + 1) s) (DepV w.heap.size) (gaveUp 90) wq) := by rw [HE.out]; exact ⟨HS1.out.acc.gone ht, rfl⟩
      obtain rfl := he
      clear ht C1 HE
      unfold gaveUp
      go_wp2_with fail
      exact ⟨rfl, HV.out⟩
    | some y2 =>
      obtain ⟨x2, s2⟩ := y2
      rw [hd2] at C1
      refine C1.out.mono ?_
      rintro e v2 ⟨ht, vv, rfl, hv, O2, hA, hO⟩
      obtain rfl := hv
      have hN := HS1.out.next ht hA hO
      have d0 := hN.kd.cell 1
      have e0 := hN.kd.free 1
      have HS2 := Lib.hid (hN.set_ 1 (.string x2))
      simp only [List.setIfInBounds_toArray, List.set_cons_zero, List.set_cons_succ] at HS2
      simp at d0
      clear hN ht hA hO C1
      have C2 := Lib.hid (rnum_any HS2.out.acc.at_ hz)
      go_wp2_with fail
      clear d0 e0
      cases hd3 : decNum bs s2 with
      | none =>
        rw [hd3] at C2
        have HE : Hid (decPart bs (fu + 1) s = none) := by
          show decPart bs (fu + 1) s = none
          rw [HStep.out, hd1, Option.bind_some, hd2, Option.bind_some, hd3]; rfl
        clear hd3
        refine C2.out.mono ?_
        rintro e wq ⟨ht, he⟩
        have HV : Hid (TookM w base g O bs b0 o0 (decPart bs (fu + 1) s) (DepV w.heap.size) (gaveUp 90) wq) := by rw [HE.out]; exact ⟨HS2.out.acc.gone ht, rfl⟩
        obtain rfl := he
        clear ht C2 HE
        unfold gaveUp
        go_wp2_with fail
        exact ⟨rfl, HV.out⟩
      | some y3 =>
        obtain ⟨x3, s3⟩ := y3
        rw [hd3] at C2
        refine C2.out.mono ?_
        rintro e v3 ⟨ht, vv, rfl, hv, O3, hA, hO⟩
        obtain rfl := hv
        have hN := HS2.out.next ht hA hO
        have d0 := hN.kd.cell 2
        have e0 := hN.kd.free 2
        have HS3 := Lib.hid (hN.set_ 2 (.int .i64 x3))
        simp only [List.setIfInBounds_toArray, List.set_cons_zero, List.set_cons_succ] at HS3
        simp at d0
        clear hN ht hA hO C2
        have C3 := Lib.hid (rtext_any HS3.out.acc.at_ hz)
        go_wp2_with fail
        clear d0 e0
        cases hd4 : decText bs s3 with
        | none =>
          rw [hd4] at C3
          have HE : Hid (decPart bs (fu + 1) s = none) := by
            show decPart bs (fu + 1) s = none
            rw [HStep.out, hd1, Option.bind_some, hd2, Option.bind_some, hd3, Option.bind_some, hd4]; rfl
          clear hd4
          refine C3.out.mono ?_
          rintro e wq ⟨ht, he⟩
          have HV : Hid (TookM w base g O bs b0 o0 (decPart bs (fu + 1) s) (DepV w.heap.size) (gaveUp 90) wq) := by rw [HE.out]; exact ⟨HS3.out.acc.gone ht, rfl⟩
          obtain rfl := he
          clear ht C3 HE
          unfold gaveUp
          go_wp2_with fail
          exact ⟨rfl, HV.out⟩
        | some y4 =>
          obtain ⟨x4, s4⟩ := y4
          rw [hd4] at C3
          refine C3.out.mono ?_
          rintro e v4 ⟨ht, vv, rfl, hv, O4, hA, hO⟩
          obtain rfl := hv
          have hN := HS3.out.next ht hA hO
          have d0 := hN.kd.cell 3
          have e0 := hN.kd.free 3
          have HS4 := Lib.hid (hN.set_ 3 (.string x4))
          simp only [List.setIfInBounds_toArray, List.set_cons_zero, List.set_cons_succ] at HS4
          simp at d0
          clear hN ht hA hO C3
          have hok0 := HS0.out.acc.at_.ok
          have a1 := decNum_ok hd1 hok0
          have a2 := decText_ok hd2 a1.1
          have a3 := decNum_ok hd3 a2.1
          have a4 := decText_ok hd4 a3.1
          have hp4 : s4.parts ≤ (fu : Int) := by
            have e1 : s1.parts = s.parts - 1 := a1.2.2.2
            have e2 := a2.2.1
            have e3 := a3.2.2.2
            have e4 := a4.2.1
            have e5 := HFu.out
            omega
          have C5 := Lib.hid (readDeps_any HS4.out.acc.at_ hz 218 (enters_of Tryz.func218 (by kernel_rfl) rfl) (decPart bs fu) (fun s => s.parts ≤ fu) HIH.out (fun sa d sb h1 h2 h3 => Int.le_trans (decPart_parts bs fu sa d sb h1 h2).1 h3) (fun n sb h1 => by rw [(decCount_ok h1 a4.1).2.2.2.1]; exact hp4))
          have HSt := Lib.hid (show decPart bs (fu + 1) s = (decList bs (decPart bs fu) 16 s4).bind fun a => some (.mk x1 x2 x3 x4 a.1, a.2) by rw [HStep.out, hd1, Option.bind_some, hd2, Option.bind_some, hd3, Option.bind_some, hd4, Option.bind_some])
          clear a1 a2 a3 a4 hok0 hp4
          go_wp2_with fail
          clear d0 e0
          cases hd5 : decList bs (decPart bs fu) 16 s4 with
          | none =>
            rw [hd5] at C5
            have HE : Hid (decPart bs (fu + 1) s = none) := by show decPart bs (fu + 1) s = none; rw [HSt.out, hd5]; rfl
            clear hd5
            refine C5.out.mono ?_
            rintro e wq ⟨ht, he⟩
            have HV : Hid (TookM w base g O bs b0 o0 (decPart bs (fu + 1) s) (DepV w.heap.size) (gaveUp 90) wq) := by rw [HE.out]; exact ⟨HS4.out.acc.gone ht, rfl⟩
            obtain rfl := he
            clear ht C5 HE
            unfold gaveUp
            go_wp2_with fail
            exact ⟨rfl, HV.out⟩
          | some y5 =>
            obtain ⟨ds, s5⟩ := y5
            rw [hd5] at C5
            refine C5.out.mono ?_
            rintro e v5 ⟨ht, vv, O5, rfl, hA, hO, hV⟩
            have hN := HS4.out.next ht hA hO
            have hn0 : w.heap.size + 1 < (v4.setCell ⟨w.heap.size + 1, 3, none⟩ (.string x4)).heap.size := HS4.out.kd.lt
            obtain ⟨Ad, cd, hvv⟩ : ∃ Ad cd, vv = .slice Ad ds.length cd := by obtain ⟨Ad, cd, _, h, _⟩ := hV; exact ⟨Ad, cd, h⟩
            subst hvv
            have d0 := hN.kd.cell 4
            have e0 := hN.kd.free 4
            simp at d0
            have hN6 := hN.set_ 4 (.slice Ad ds.length cd)
            simp only [List.setIfInBounds_toArray, List.set_cons_zero, List.set_cons_succ] at hN6
            have hV6 := hV.stay (set_eq _ _ (w.heap.size + 1) 4 (.slice Ad ds.length cd) (TurnedP.refl _ _)) hn0
            obtain ⟨w6, hw6⟩ : ∃ w6, w6 = v5.setCell ⟨w.heap.size + 1, 4, none⟩ (.slice Ad ds.length cd) := ⟨_, rfl⟩
            rw [← hw6] at hN6 hV6
            have HV : Hid (TookM w base g O bs b0 o0 (decPart bs (fu + 1) s) (DepV w.heap.size) (.returned (.agg #[.int .i64 x1, .string x2, .int .i64 x3, .string x4, .slice Ad ds.length cd])) (put5r w6 w.heap.size (.int .i64 x1) (.string x2) (.int .i64 x3) (.string x4) (.slice Ad ds.length cd))) :=
              depV_of hN6.acc hV6 (put5r_turned _ _ _ _ _ _ _) (Nat.le_refl _) (by omega) (hN6.out _ (.inl rfl)).1 hN6.bw (by rw [HSt.out, hd5]; rfl)
            have hkr := hN6.kr
            unfold zd5 at hkr
            have HL : Hid _ := rload5 (put5r_blk hkr (.int .i64 x1) (.string x2) (.int .i64 x3) (.string x4) (.slice Ad ds.length cd))
            have k0 := hN6.kd.cell 0
            have r0 := hkr.cell 0
            have q0 := hkr.free 0
            have k1 := hN6.kd.cell 1
            have r1 := hkr.cell 1
            have q1 := hkr.free 1
            have k2 := hN6.kd.cell 2
            have r2 := hkr.cell 2
            have q2 := hkr.free 2
            have k3 := hN6.kd.cell 3
            have r3 := hkr.cell 3
            have q3 := hkr.free 3
            have k4 := hN6.kd.cell 4
            have r4 := hkr.cell 4
            have q4 := hkr.free 4
            simp at k0 k1 k2 k3 k4 r0 r1 r2 r3 r4
            have HW6 := Lib.hid hw6
            unfold put5r at HV HL
            clear hN hN6 hV hV6 ht hA hO hkr C5 hn0 hw6
            go_upto_region 9 with fail
            rw [← HW6.out]
            clear d0 e0
            go_wp2_with fail
            refine bodyPost_ret (v := .agg #[.int .i64 x1, .string x2, .int .i64 x3, .string x4, .slice Ad ds.length cd]) ?_ rfl HV.out
            refine (results_cell rfl _ (ad := ⟨w.heap.size, 0, none⟩) rfl).trans ?_
            exact HL.out
theorem rpart_any {base g b0 o0 : Nat} {bs : ByteArray} (hz : bs.size ≤ 1048576) : ∀ fu : Nat, AskRd base g bs b0 o0 218 (decPart bs fu) (fun s => s.parts ≤ fu)
  | 0 => fun w O s hA hs => rpart_no w O s 0 hA (by omega) rfl
  | fu + 1 => fun w O s hA hs => by
    by_cases hp : 0 < s.parts
    · exact rpart_yes hz w O s fu (rpart_any hz fu) hA hp (by omega)
    · exact rpart_no w O s (fu + 1) hA hp (by unfold decPart; rw [if_neg hp])
end Go.Proofs.YtpmfmkpfjomgnaaGreatDoor

/- A reader's dependency, with room for its parts; a list of texts. -/
namespace Go.Proofs.YtpmfmkpfjomgnaaGreatDoor
set_option linter.unusedSimpArgs false
set_option linter.unusedVariables false
open Go.RowKit

set_option maxHeartbeats 8000000 in
set_option maxRecDepth 100000 in
theorem rdep_any {base g b0 o0 : Nat} {bs : ByteArray} (hz : bs.size ≤ 1048576) : AskRd base g bs b0 o0 199 (decDep bs) (fun _ => True) := by
  intro w O s hA _
  obtain ⟨A, c, vt, hS⟩ := hA
  have hbw : base ≤ w.heap.size := by have h1 := hS.gfar; have h2 := hS.blk.lt; omega
  have hgw : g < w.heap.size := hS.blk.lt
  have hgO : O g := (hS.mine g).2 (.inl rfl)
  obtain ⟨w1, hw1⟩ : ∃ w1, w1 = w.alloc (.cells zd5 50) := ⟨_, rfl⟩
  have hb1 : Below w.heap.size w w1 := by rw [hw1]; exact (Below.refl _ _).alloc (Nat.le_refl _) _
  have hS1 := hS.below hb1
  have c2 := hS1.blk.cell 2
  have f2 := hS1.blk.free 2
  simp at c2
  obtain ⟨w2, hw2⟩ : ∃ w2, w2 = w1.setCell ⟨g, 2, none⟩ (.int .i64 31) := ⟨_, rfl⟩
  have hz1 : w1.heap.size = w.heap.size + 1 := by rw [hw1]; simp
  have hz2 : w2.heap.size = w.heap.size + 1 := by rw [hw2, size_set]; exact hz1
  have ht2 : TurnedP O w w2 := by rw [hw2]; exact (TurnedP.of_below hb1 O).setCell (fun _ => hgO) _
  have hrd : RdAt w2 base g O bs b0 o0 { s with parts := 31 } := by
    refine ⟨A, c, vt, ⟨?_, ?_, ?_, hS.gfar, ⟨hS.ok.pos, hS.ok.sizes, hS.ok.many, Int.le_refl _⟩, hS.mine⟩⟩
    · rw [hw2]; exact hS1.blk.set_ 2 (.int .i64 31)
    · exact hS.rest.stay fun hp => ht2.block b0 (by have := hS.rest.far hp; omega) (fun ho => by have := (hS.O_lt ho).1; have := hS.rest.far hp; omega)
    · rw [hw2]; exact own_setCell (p := ⟨g, 2, none⟩) hS1.texts (own_kind hS1.texts hS1.blk (by decide)) _
  have hkr : Blk w2 w.heap.size 50 zd5 := by
    rw [hw2]
    have h1 : Blk w1 w.heap.size 50 zd5 := by rw [hw1]; exact Blk.new _ _ _
    exact h1.far (by simp; omega) _
  have hno : ¬ O w.heap.size := fun ho => by have := (hS.O_lt ho).2; omega
  have C := Lib.hid (rpart_any hz 31 w2 O _ hrd (Int.le_refl _))
  have HT := Lib.hid ht2
  have HK := Lib.hid hkr
  have HN := Lib.hid (And.intro hno (And.intro hbw hz2))
  have HW1 := Lib.hid hw1
  have HW2 := Lib.hid hw2
  have hlt : ∀ j, O j → j < w.heap.size := fun j hj => (hS.O_lt hj).2
  have HLt := Lib.hid hlt
  unfold zd5 at hw1
  clear hS hS1 hb1 hbw hgw hgO hz1 hz2 ht2 hrd hkr hno hw2 hlt
  cases hd : decPart bs 31 { s with parts := 31 } with
  | none =>
    rw [hd] at C
    have HE : Hid (decDep bs s = none) := hd
    clear hd
    go_enter Tryz.func199, Tryz.ntmps199
    go_upto_region 1 with fail
    rw [← hw1]
    clear hw1
    go_wp2_with fail
    rw [← HW2.out]
    refine C.out.mono ?_
    rintro e wq ⟨ht, he⟩
    have HV : Hid (TookM w base g O bs b0 o0 (decDep bs s) (DepV w.heap.size) (gaveUp 90) wq) := by
      rw [HE.out]
      exact ⟨HT.out.trans ht fun j _ h => h, rfl⟩
    obtain rfl := he
    clear ht C
    unfold gaveUp
    go_wp2_with fail
    exact ⟨rfl, HV.out⟩
  | some y =>
    obtain ⟨d, s1⟩ := y
    rw [hd] at C
    have HE : Hid (decDep bs s = some (d, s1)) := hd
    clear hd
    go_enter Tryz.func199, Tryz.ntmps199
    go_upto_region 1 with fail
    rw [← hw1]
    clear hw1
    go_wp2_with fail
    rw [← HW2.out]
    refine C.out.mono ?_
    rintro e w3 ⟨ht, v, O1, rfl, hA, hO, A1, c1, S, rfl, hL, hC, hOS, hF⟩
    have hk3 := HK.out.turnedP ht HN.out.1
    unfold zd5 at hk3
    have hno1 : ¬ O1 w.heap.size := fun h => by
      rcases hO _ h with h | h
      · exact HN.out.1 h
      · have := HN.out.2.2; omega
    have HL : Hid _ := rload5 (put5r_blk hk3 (.int .i64 d.kind) (.string d.name) (.int .i64 d.op) (.string d.evr) (.slice A1 d.args.length c1))
    have HV : Hid (TookM w base g O bs b0 o0 (decDep bs s) (DepV w.heap.size) (.returned (.agg #[.int .i64 d.kind, .string d.name, .int .i64 d.op, .string d.evr, .slice A1 d.args.length c1])) (put5r w3 w.heap.size (.int .i64 d.kind) (.string d.name) (.int .i64 d.op) (.string d.evr) (.slice A1 d.args.length c1))) := by
      have htp := put5r_turned w3 w.heap.size (.int .i64 d.kind) (.string d.name) (.int .i64 d.op) (.string d.evr) (.slice A1 d.args.length c1)
      have hst : StayS S w3 (put5r w3 w.heap.size (.int .i64 d.kind) (.string d.name) (.int .i64 d.op) (.string d.evr) (.slice A1 d.args.length c1)) := fun b hb hl => htp.block b hl (fun e => by have := hF b hb; have := HN.out.2.2; omega)
      have hz3 := htp.size
      rw [HE.out]
      refine ⟨(HT.out.trans ht fun j _ h => h).trans htp fun j hj hjq => by omega, _, O1, rfl, hA.turned htp (fun j hj => by subst hj; exact ⟨hno1, HN.out.2.1⟩), fun j hj => (hO j hj).imp id fun h => by have := HN.out.2.2; omega, A1, c1, S, rfl, hL.stay (fun _ h => h) hst, hC.stay hst, fun b hb => ⟨(hOS b hb).1, by have := (hOS b hb).2; omega⟩, fun b hb => by have := hF b hb; have := HN.out.2.2; omega⟩
    have r0 := hk3.cell 0
    have r1 := hk3.cell 1
    have r2 := hk3.cell 2
    have r3 := hk3.cell 3
    have r4 := hk3.cell 4
    have q0 := hk3.free 0
    have q1 := hk3.free 1
    have q2 := hk3.free 2
    have q3 := hk3.free 3
    have q4 := hk3.free 4
    simp at r0 r1 r2 r3 r4
    unfold put5r at HV HL
    unfold rowD
    clear ht hA hO hL hC hOS hF hk3 hno1 C c2 f2 HT HK
    go_wp2_with fail
    refine bodyPost_ret (v := .agg #[.int .i64 d.kind, .string d.name, .int .i64 d.op, .string d.evr, .slice A1 d.args.length c1]) ?_ rfl HV.out
    refine (results_cell rfl _ (ad := ⟨w.heap.size, 0, none⟩) rfl).trans ?_
    exact HL.out
/-- Texts that were read, in memory of their own. -/
def TListV (n0 : Nat) (ds : List ByteArray) (v : Value) (w : World) (O : Nat → Prop) : Prop := ∃ A c T, v = .slice A ds.length c ∧ FilesAt w T ds v ∧ CleanT w T ∧ OutS w O T ∧ ∀ b, T b → n0 ≤ b
structure RLt (w wx : World) (base g : Nat) (O O' : Nat → Prop) (bs : ByteArray) (b0 o0 : Nat) (s' : RS) (r : List ByteArray) (vo : Value) : Prop where
  acc : Racc w wx base g O O' bs b0 o0 s'
  row : wx.ownsRow w.heap.size 9 1 vo r.length (r.map .string)
  rowO : ∀ k, vo.ownBlock = some k → ¬ O' k
  bw : base ≤ w.heap.size
theorem RLt.later {w wx w2 : World} {base g b0 o0 : Nat} {O O' : Nat → Prop} {bs : ByteArray} {s' : RS} {r : List ByteArray} {vo : Value} (h : RLt w wx base g O O' bs b0 o0 s' r vo) (hb : Below wx.heap.size wx w2) : RLt w w2 base g O O' bs b0 o0 s' r vo :=
  ⟨h.acc.later hb, own_turnedP h.row (TurnedP.of_below hb fun _ => False) fun _ _ h => h, h.rowO, h.bw⟩
theorem RLt.took {w wx w2 : World} {base g b0 o0 : Nat} {O O' O2 : Nat → Prop} {bs : ByteArray} {s' s2 : RS} {r : List ByteArray} {vo : Value} (h : RLt w wx base g O O' bs b0 o0 s' r vo)
    (ht : TurnedP O' wx w2) (hA : RdAt w2 base g O2 bs b0 o0 s2) (ho : ∀ k, O2 k → O' k ∨ wx.heap.size ≤ k) : RLt w w2 base g O O2 bs b0 o0 s2 r vo :=
  ⟨h.acc.next ht hA ho, own_turnedP h.row ht h.rowO, fun k hk h2 => by
    rcases ho k h2 with h3 | h3
    · exact h.rowO k hk h3
    · have := (h.row.lt k hk).2; omega, h.bw⟩
theorem Racc.grown {w wx w4 : World} {base g b0 o0 : Nat} {O O' : Nat → Prop} {bs : ByteArray} {s' : RS} {row : Option Nat} (h : Racc w wx base g O O' bs b0 o0 s') (hg : wx.grownBy w4 row) (hno : ∀ k, row = some k → ¬ O' k ∧ w.heap.size ≤ k) (hbw : base ≤ w.heap.size) : Racc w w4 base g O O' bs b0 o0 s' := by
  have ht1 : TurnedP (fun k => row = some k) wx w4 := (TurnedP.refl _ _).grown hg fun k _ hk => hk
  exact ⟨h.at_.turned ht1 fun k hk => ⟨(hno k hk).1, by have := (hno k hk).2; omega⟩, h.turned.grown hg fun k hk hv => by have := (hno k hv).2; omega, h.own⟩
theorem RLt.put {w wx w4 : World} {base g b0 o0 : Nat} {O O' : Nat → Prop} {bs : ByteArray} {s' : RS} {r : List ByteArray} {vo v4 : Value} {t : ByteArray} (h : RLt w wx base g O O' bs b0 o0 s' r vo)
    (hg : wx.grownBy w4 vo.ownBlock) (hown : w4.ownsRow w.heap.size 9 1 v4 (r.length + 1) (r.map .string ++ [.string t])) (hat : v4.ownBlock = vo.ownBlock ∨ v4.ownBlock = some wx.heap.size) : RLt w w4 base g O O' bs b0 o0 s' (r ++ [t]) v4 := by
  refine ⟨h.acc.grown hg (fun k hk => ⟨h.rowO k hk, (h.row.lt k hk).1⟩) h.bw, ?_, fun k hk ho => ?_, h.bw⟩
  · rw [List.length_append, List.map_append]
    exact hown
  · rcases hat with e | e
    · rw [hk] at e; exact h.rowO k e.symm ho
    · rw [hk] at e; injection e with e; have := (h.acc.at_.O_lt ho).2; omega
theorem RLt.done {w wx : World} {base g b0 o0 : Nat} {O O' : Nat → Prop} {bs : ByteArray} {s' : RS} {r : List ByteArray} {vo : Value} (h : RLt w wx base g O O' bs b0 o0 s' r vo) : TListV w.heap.size r vo wx O' := by
  obtain ⟨A, c, hv, h1, h2⟩ := own_form' h.row
  have hnil : A = none → c = 0 := fun hA => by
    rcases h.row.2 with ⟨hv2, _⟩ | ⟨g', cap, cur, hv2, _⟩
    · rw [hv] at hv2; injection hv2
    · rw [hv] at hv2; injection hv2 with e1; rw [hA] at e1; cases e1
  refine ⟨A, c, fun b => vo.ownBlock = some b, hv, ⟨A, c, hv, h1, h2, hnil, fun k s hk => ?_⟩, fun b hb => ?_, fun b hb => ⟨h.rowO b hb, (h.row.lt b hb).2⟩, fun b hb => (h.row.lt b hb).1⟩
  · have hr := h.row
    rw [hv] at hr
    obtain ⟨b, rfl, q0⟩ := own_ats hr (show (r.map Value.string)[k]? = some (.string s) by rw [List.getElem?_map, hk]; rfl)
    exact ⟨b, 0, rfl, by rw [hv]; rfl, by rw [Nat.zero_add]; exact q0⟩
  · rcases h.row.2 with ⟨rfl, _⟩ | ⟨g', cap, cur, rfl, _, hh, _⟩
    · simp [Value.ownBlock] at hb
    · have : g' = b := by simpa [Value.ownBlock] using hb
      subst this
      exact ⟨cur, hh⟩
set_option maxHeartbeats 8000000 in
set_option maxRecDepth 100000 in
theorem readTexts_any {w : World} {base g b0 o0 : Nat} {O : Nat → Prop} {bs : ByteArray} {s : RS} (h : RdAt w base g O bs b0 o0 s) (hz : bs.size ≤ 1048576) :
    Calls Tryz.prog 200 #[.pointer (some ⟨g, 0, none⟩), .int .i64 16, .func (.func 170) #[.pointer (some ⟨g, 0, none⟩)] #[]] w (TookM w base g O bs b0 o0 (decList bs (decText bs) 16 s) (TListV w.heap.size)) := by
  have C := Lib.hid (rcount_any h hz 16)
  have ef := enters_of Tryz.func170 (by kernel_rfl) rfl
  have HID := Lib.hid info_strz
  have HBw : Hid (base ≤ w.heap.size) := by obtain ⟨A, c, vt, hS⟩ := h; have h1 := hS.gfar; have h2 := hS.blk.lt; show base ≤ _; omega
  clear h
  cases hd : decCount bs 16 s with
  | none =>
    rw [hd] at C
    have HE : Hid (decList bs (decText bs) 16 s = none) := by show decList bs (decText bs) 16 s = none; unfold decList; rw [hd]; rfl
    clear hd
    go_enter Tryz.func200, Tryz.ntmps200
    go_wp2_with fail
    refine C.out.mono ?_
    rintro e w1 ⟨ht, he⟩
    have HV : Hid (TookM w base g O bs b0 o0 (decList bs (decText bs) 16 s) (TListV w.heap.size) (gaveUp 90) w1) := by rw [HE.out]; exact ⟨ht, rfl⟩
    obtain rfl := he
    clear ht C
    unfold gaveUp
    go_wp2_with fail
    exact ⟨rfl, HV.out⟩
  | some x =>
    obtain ⟨n, s1⟩ := x
    rw [hd] at C
    have HE : Hid (decList bs (decText bs) 16 s = decN (decText bs) n s1) := by show decList bs (decText bs) 16 s = _; unfold decList; rw [hd]; rfl
    have hn16 : n ≤ 16 := by
      unfold decCount at hd
      cases hq : decNum bs s with
      | none => rw [hq] at hd; cases hd
      | some y =>
        rw [hq] at hd
        simp only [Option.bind_some] at hd
        split at hd
        · injection hd with hd; injection hd with hd; omega
        · cases hd
    clear hd
    go_enter Tryz.func200, Tryz.ntmps200
    go_wp2_with fail
    refine C.out.mono ?_
    rintro e w1 ⟨ht, v, rfl, hv, O1, hA1, hO1⟩
    obtain rfl := hv
    replace hA1 : RdAt w1 base g O1 bs b0 o0 s1 := hA1
    have H0 : Hid (∃ O' s' r, RLt w w1 base g O O' bs b0 o0 s' r (.slice none 0 0) ∧ r.length = 0 ∧ Rest (decText bs) n s1 r s') :=
      ⟨O1, s1, [], ⟨⟨hA1, ht, hO1⟩, World.ownsRow_nil _ _ _ _, (fun k hk => by simp [Value.ownBlock] at hk), HBw.out⟩, rfl, Rest.start _ n s1⟩
    clear ht hA1 hO1 C
    go_wp2_with fail
    go_loopw [7, 11] (fun v7 v wx => ∃ k : Nat, k ≤ n ∧ v = .int .i64 (k : Int) ∧ Hid (∃ O' s' r, RLt w wx base g O O' bs b0 o0 s' r v7 ∧ r.length = k ∧ Rest (decText bs) n s1 r s')) (fun _ v _ => n - (intOf v).toNat)
    case atStart => exact ⟨0, Nat.zero_le _, rfl, H0⟩
    case round =>
      clear H0
      obtain ⟨k, hk, rfl, HB⟩ := hrel
      obtain ⟨O', s', r, hR, hrk, hRest⟩ := HB.out
      obtain ⟨Av, cv, rfl, hv1, hv2⟩ := own_form' hR.row
      by_cases hlt : k < n
      · have CF := Lib.hid (rtext_any hR.acc.at_ hz)
        have HR := Lib.hid hR
        have HRest := Lib.hid hRest
        have HRk := Lib.hid hrk
        clear HB hR hRest hrk
        cases hf : decText bs s' with
        | none =>
          rw [hf] at CF
          have HX : Hid (decList bs (decText bs) 16 s = none) := by show decList bs (decText bs) 16 s = none; rw [HE.out]; exact HRest.out.fails (by rw [HRk.out]; exact hlt) hf
          clear hf
          go_wp2_with fail
          refine CF.out.mono ?_
          rintro e w2 ⟨ht, he⟩
          have HV : Hid (TookM w base g O bs b0 o0 (decList bs (decText bs) 16 s) (TListV w.heap.size) (gaveUp 90) w2) := by rw [HX.out]; exact ⟨HR.out.acc.gone ht, rfl⟩
          obtain rfl := he
          clear ht CF
          unfold gaveUp
          go_wp2_with fail
          exact ⟨rfl, HV.out⟩
        | some y =>
          obtain ⟨t, s2⟩ := y
          rw [hf] at CF
          have HN : Hid (Rest (decText bs) n s1 (r ++ [t]) s2) := HRest.out.next (by rw [HRk.out]; exact hlt) hf
          clear hf
          go_wp2_with fail
          refine CF.out.mono ?_
          rintro e w2 ⟨ht, v, rfl, hv, O2, hA2, hO2⟩
          obtain rfl := hv
          replace hA2 : RdAt w2 base g O2 bs b0 o0 s2 := hA2
          have hba : Below w2.heap.size w2 (w2.alloc (.cells #[.string t] 9)) := (Below.refl _ _).alloc (Nat.le_refl _) _
          have hR2 := HR.out.took ht hA2 hO2
          have hR3 := hR2.later hba
          have HR3 := Lib.hid hR3
          have HO3 : Hid ((w2.alloc (.cells #[.string t] 9)).ownsRow w.heap.size 9 1 (.slice Av r.length cv) r.length (r.map .string)) := hR3.row
          have HP : Hid (∀ v4 w4, (w2.alloc (.cells #[.string t] 9)).grownBy w4 (Value.slice Av r.length cv).ownBlock → w4.ownsRow w.heap.size 9 1 v4 (r.length + 1) (r.map .string ++ [.string t]) → (v4.ownBlock = (Value.slice Av r.length cv).ownBlock ∨ v4.ownBlock = some (w2.alloc (.cells #[.string t] 9)).heap.size) →
              ∃ O' s' r', RLt w w4 base g O O' bs b0 o0 s' r' v4 ∧ r'.length = k + 1 ∧ Rest (decText bs) n s1 r' s') := fun v4 w4 hg hown hat =>
            ⟨O2, s2, r ++ [t], HR3.out.put hg hown hat, by rw [List.length_append, HRk.out]; rfl, HN.out⟩
          have HBz : Hid (w.heap.size ≤ w2.heap.size) := hR2.acc.turned.size
          have hr16 : r.length ≤ 16 := by have := HRk.out; omega
          have HR16 := Lib.hid hr16
          clear ht hA2 hO2 hba hR2 hR3 CF hr16
          obtain ⟨i0, z0, hi0, hz0, hz1, hz2, hz3⟩ := HID.out
          go_wp2_with (at_builtin; refine wpList_append_own_at _ rfl (.tmp 13) (.tmp 16) 42 rfl w.heap.size 9 i0 z0 1 16 Tryz.underlying42 hi0 hz0 hz2 hz3 hz1 (by decide) (.slice Av r.length cv) r.length (r.map .string) rfl HO3.out ⟨w2.heap.size, 0, none⟩ 1 1 [.string t] rfl rfl (cell_one_new w2 _ _) (by intro u hu; simp at hu; subst hu; rfl) (by have := HR16.out; unfold maxLen; omega) (by have := HR16.out; omega) (by have := HBz.out; simp; omega) ?_; intro v4 w4 hown4 hg4 hnil4 hat4; have HX := Lib.hid (HP.out v4 w4 hg4 hown4 hat4); clear hown4 hg4 hnil4 hat4)
          go_roundw
          case rel => exact ⟨k + 1, by omega, by go_num, HX⟩
          case measure => simp [intOf]; omega
      · obtain rfl : k = n := by omega
        have HV : Hid (TookM w base g O bs b0 o0 (decList bs (decText bs) 16 s) (TListV w.heap.size) (.returned (.slice Av r.length cv)) wr) := by
          rw [HE.out, hRest.done hrk]
          exact ⟨hR.acc.turned, _, O', rfl, hR.acc.at_, hR.acc.own, hR.done⟩
        rw [hrk] at HV ⊢
        clear hlt HB hR hRest
        go_wp2_with fail
        go_ret
        exact HV.out
end Go.Proofs.YtpmfmkpfjomgnaaGreatDoor
