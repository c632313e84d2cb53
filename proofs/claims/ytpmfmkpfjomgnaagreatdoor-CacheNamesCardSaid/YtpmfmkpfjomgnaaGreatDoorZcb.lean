/- What is read of bytes, as data; a reader in memory. A reader's count and text. A writer's list of dependencies. A writer's dependency. -/
import Derived.Test.YtpmfmkpfjomgnaaGreatDoorZca
import Derived.Test.YtpmfmkpfjomgnaaGreatDoorZao
import Derived.Lib.SlBytesRow
import Derived.Laws.BytesString
import Derived.Test.YtpmfmkpfjomgnaaGreatDoorZag
/- What is read of bytes, as data; a reader in memory. -/
namespace Go.Proofs.YtpmfmkpfjomgnaaGreatDoor
set_option linter.unusedSimpArgs false
set_option linter.unusedVariables false
open Go.RowKit

/-- A reader: where it is, the texts so far, how many parts there may be. -/
structure RS where
  pos : Nat
  texts : List ByteArray
  parts : Int
def remB (bs : ByteArray) (s : RS) : List Nat := (bytesN bs).drop s.pos
def decNum (bs : ByteArray) (s : RS) : Option (Int × RS) :=
  if (Ids.takeF 0 0 (remB bs s)).2.2 = 0 then some (wrap64 ((Ids.takeF 0 0 (remB bs s)).1 : Int), { s with pos := s.pos + (Ids.takeF 0 0 (remB bs s)).2.1 }) else none
def decCount (bs : ByteArray) (most : Nat) (s : RS) : Option (Nat × RS) :=
  (decNum bs s).bind fun x => if 0 ≤ x.1 ∧ x.1 ≤ (most : Int) then some (x.1.toNat, x.2) else none
def decText (bs : ByteArray) (s : RS) : Option (ByteArray × RS) :=
  (decCount bs s.texts.length s).bind fun x => match x.2.texts[x.1]? with
    | some t => some (t, x.2)
    | none => (decNum bs x.2).bind fun y => if 0 ≤ y.1 ∧ y.1 ≤ ((bs.size - y.2.pos : Nat) : Int) then
        some (bs.extract y.2.pos (y.2.pos + y.1.toNat), { y.2 with pos := y.2.pos + y.1.toNat, texts := y.2.texts ++ [bs.extract y.2.pos (y.2.pos + y.1.toNat)] }) else none
def decN {α : Type} (f : RS → Option (α × RS)) : Nat → RS → Option (List α × RS)
  | 0, s => some ([], s)
  | n + 1, s => (f s).bind fun x => (decN f n x.2).bind fun y => some (x.1 :: y.1, y.2)
def decList {α : Type} (bs : ByteArray) (f : RS → Option (α × RS)) (most : Nat) (s : RS) : Option (List α × RS) :=
  (decCount bs most s).bind fun x => decN f x.1 x.2
def decPart (bs : ByteArray) : Nat → RS → Option (Dep × RS)
  | 0, _ => none
  | f + 1, s => if 0 < s.parts then
      (decNum bs { s with parts := s.parts - 1 }).bind fun k => (decText bs k.2).bind fun n => (decNum bs n.2).bind fun o => (decText bs o.2).bind fun e =>
        (decList bs (decPart bs f) 16 e.2).bind fun a => some (.mk k.1 n.1 o.1 e.1 a.1, a.2)
    else none
def decDep (bs : ByteArray) (s : RS) : Option (Dep × RS) := decPart bs 31 { s with parts := 31 }
def pkgOf (t : List ByteArray) (d : List (List Dep)) (f : List ByteArray) : Pkg := ⟨t.getD 0 ⟨#[]⟩, t.getD 1 ⟨#[]⟩, t.getD 2 ⟨#[]⟩, t.getD 3 ⟨#[]⟩, fun i => d.getD i [], f⟩
def decPkg (bs : ByteArray) (s : RS) : Option (Pkg × RS) :=
  (decN (decText bs) 4 s).bind fun t => (decN (decList bs (decDep bs) 16) 7 t.2).bind fun d => (decList bs (decText bs) 16 d.2).bind fun f => some (pkgOf t.1 d.1 f.1, f.2)
def decRepo (bs : ByteArray) (s : RS) : Option ((Rep × List Pkg) × RS) :=
  (decText bs s).bind fun n => (decNum bs n.2).bind fun p => (decCount bs 1 p.2).bind fun i => (decList bs (decPkg bs) 200 i.2).bind fun l => some ((⟨n.1, p.1, decide (i.1 = 1)⟩, l.1), l.2)

theorem take_len : ∀ (l : List Nat) (i a : Nat), (Ids.takeF i a l).2.2 = 0 → i < (Ids.takeF i a l).2.1 ∧ (Ids.takeF i a l).2.1 ≤ i + l.length
  | [], i, a, h => by simp [Ids.takeF] at h
  | c :: r, i, a, h => by
    unfold Ids.takeF at h ⊢
    by_cases h1 : i = 9 ∧ 1 < c
    · rw [if_pos h1] at h; cases h
    · rw [if_neg h1] at h ⊢
      by_cases h2 : 128 ≤ c
      · rw [if_pos h2] at h ⊢
        have := take_len r (i + 1) _ h
        simp only [List.length_cons]
        omega
      · rw [if_neg h2] at h ⊢
        by_cases h3 : c = 0 ∧ 0 < i
        · rw [if_pos h3] at h; cases h
        · rw [if_neg h3]
          simp only [List.length_cons]
          omega
/-- What holds of a reader of bs. -/
structure RS.Ok (bs : ByteArray) (s : RS) : Prop where
  pos : s.pos ≤ bs.size
  sizes : ∀ t ∈ s.texts, t.size ≤ bs.size
  many : s.texts.length ≤ s.pos + 1
  parts : s.parts ≤ 31
theorem remB_len (bs : ByteArray) (s : RS) : (remB bs s).length = bs.size - s.pos := by unfold remB; rw [List.length_drop, bytesN_len]
theorem decNum_ok {bs : ByteArray} {s s' : RS} {n : Int} (h : decNum bs s = some (n, s')) (ho : s.Ok bs) : s'.Ok bs ∧ s.pos < s'.pos ∧ s'.texts = s.texts ∧ s'.parts = s.parts := by
  unfold decNum at h
  split at h
  · rename_i h0
    injection h with h
    injection h with h1 h2
    subst h2
    have := take_len _ 0 0 h0
    rw [remB_len] at this
    have hp := ho.pos
    have hm := ho.many
    exact ⟨⟨by show s.pos + _ ≤ _; omega, ho.sizes, by show s.texts.length ≤ s.pos + _ + 1; omega, ho.parts⟩, by show s.pos < s.pos + _; omega, rfl, rfl⟩
  · cases h
theorem decCount_ok {bs : ByteArray} {s s' : RS} {m n : Nat} (h : decCount bs m s = some (n, s')) (ho : s.Ok bs) : s'.Ok bs ∧ s.pos < s'.pos ∧ s'.texts = s.texts ∧ s'.parts = s.parts ∧ n ≤ m := by
  unfold decCount at h
  cases hd : decNum bs s with
  | none => rw [hd] at h; cases h
  | some x =>
    rw [hd] at h
    simp only [Option.bind_some] at h
    split at h
    · rename_i hr
      injection h with h
      injection h with h1 h2
      subst h2
      have := decNum_ok (n := x.1) (s' := x.2) hd ho
      exact ⟨this.1, this.2.1, this.2.2.1, this.2.2.2, by omega⟩
    · cases h
/-- The bytes that are left, as they lie. -/
structure RestAt (w : World) (base : Nat) (bs : ByteArray) (b0 o0 pos : Nat) (A : Option Addr) (c : Nat) : Prop where
  at_ : pos < bs.size → A = some ⟨b0, o0 + pos, none⟩
  cap : bs.size - pos ≤ c
  most : c ≤ maxLen
  bytes : Lib.Bytes w b0 o0 bs
  far : 0 < bs.size → b0 < base
theorem RestAt.rd {w : World} {base b0 o0 c : Nat} {bs : ByteArray} {A : Option Addr} {s : RS} (h : RestAt w base bs b0 o0 s.pos A c) : Ids.Rd w base A (Ids.u8s (remB bs s)) := fun k v hk => by
  unfold Ids.u8s remB at hk
  rw [List.getElem?_map, List.getElem?_drop, Option.map_eq_some_iff] at hk
  obtain ⟨x, hx, rfl⟩ := hk
  unfold bytesN at hx
  rw [List.getElem?_map, Option.map_eq_some_iff] at hx
  obtain ⟨y, hy, rfl⟩ := hx
  obtain ⟨hlt, hy2⟩ := List.getElem?_eq_some_iff.1 hy
  have hl : s.pos + k < bs.size := by simpa using hlt
  refine ⟨b0, o0 + s.pos, h.at_ (by omega), h.far (by omega), ?_⟩
  have := h.bytes (s.pos + k) hl
  rw [show o0 + s.pos + k = o0 + (s.pos + k) by omega, this]
  subst hy2
  rfl
theorem RestAt.cut {w : World} {base b0 o0 c pos k : Nat} {bs : ByteArray} {A : Option Addr} (h : RestAt w base bs b0 o0 pos A c) (hk : pos + k ≤ bs.size) : RestAt w base bs b0 o0 (pos + k) (if c = k then A else A.map (·.add (k * 1))) (c - k) := by
  refine ⟨fun hlt => ?_, by have := h.cap; omega, by have := h.most; omega, h.bytes, h.far⟩
  have hc := h.cap
  rw [if_neg (by omega), h.at_ (by omega)]
  simp only [Option.map_some, Nat.mul_one, Option.some.injEq]
  unfold Addr.add
  split
  · rename_i h0; subst h0; rfl
  · simp; omega
theorem RestAt.stay {w w' : World} {base b0 o0 c pos : Nat} {bs : ByteArray} {A : Option Addr} (h : RestAt w base bs b0 o0 pos A c) (hb : 0 < bs.size → w'.heap[b0]? = w.heap[b0]?) : RestAt w' base bs b0 o0 pos A c :=
  ⟨h.at_, h.cap, h.most, fun i hi => (World.cell?_of_block (hb (by omega))).trans (h.bytes i hi), h.far⟩
structure RdSt (w : World) (base g : Nat) (O : Nat → Prop) (bs : ByteArray) (b0 o0 : Nat) (s : RS) (A : Option Addr) (c : Nat) (vt : Value) : Prop where
  blk : Blk w g 125 #[.slice A (bs.size - s.pos) c, vt, .int .i64 s.parts]
  rest : RestAt w base bs b0 o0 s.pos A c
  texts : w.ownsRow base 9 1 vt s.texts.length (s.texts.map .string)
  gfar : base ≤ g
  ok : s.Ok bs
  mine : ∀ k, O k ↔ k = g ∨ vt.ownBlock = some k
def RdO (g : Nat) (vt : Value) (k : Nat) : Prop := k = g ∨ vt.ownBlock = some k
def RdAt (w : World) (base g : Nat) (O : Nat → Prop) (bs : ByteArray) (b0 o0 : Nat) (s : RS) : Prop := ∃ A c vt, RdSt w base g O bs b0 o0 s A c vt
section
variable {w w' : World} {base g b0 o0 c : Nat} {O : Nat → Prop} {bs : ByteArray} {s : RS} {A : Option Addr} {vt : Value}
theorem RdSt.O_lt (h : RdSt w base g O bs b0 o0 s A c vt) {k : Nat} (hk : O k) : base ≤ k ∧ k < w.heap.size := by
  rcases (h.mine k).1 hk with rfl | hk
  · exact ⟨h.gfar, h.blk.lt⟩
  · exact h.texts.lt k hk
theorem RdAt.O_lt (h : RdAt w base g O bs b0 o0 s) {k : Nat} (hk : O k) : base ≤ k ∧ k < w.heap.size := by obtain ⟨A, c, vt, h⟩ := h; exact h.O_lt hk
theorem RdAt.ok (h : RdAt w base g O bs b0 o0 s) : s.Ok bs := by obtain ⟨A, c, vt, h⟩ := h; exact h.ok
theorem RdSt.turned {Q : Nat → Prop} (h : RdSt w base g O bs b0 o0 s A c vt) (ht : TurnedP Q w w') (hQ : ∀ k, Q k → ¬ O k ∧ base ≤ k) : RdSt w' base g O bs b0 o0 s A c vt := by
  have hn : ∀ k, O k → ¬ Q k := fun k hk hq => (hQ k hq).1 hk
  have hge := h.O_lt ((h.mine g).2 (.inl rfl))
  exact ⟨h.blk.turnedP ht (hn g ((h.mine g).2 (.inl rfl))), h.rest.stay fun hp => ht.block b0 (by have := h.rest.far hp; omega) (fun hq => by have := (hQ b0 hq).2; have := h.rest.far hp; omega), own_turnedP h.texts ht fun k hk => hn k ((h.mine k).2 (.inr hk)), h.gfar, h.ok, h.mine⟩
theorem RdSt.below (h : RdSt w base g O bs b0 o0 s A c vt) (hb : Below w.heap.size w w') : RdSt w' base g O bs b0 o0 s A c vt := h.turned (TurnedP.of_below hb fun _ => False) fun k hk => hk.elim
theorem RdAt.below (h : RdAt w base g O bs b0 o0 s) (hb : Below w.heap.size w w') : RdAt w' base g O bs b0 o0 s := by obtain ⟨A, c, vt, h⟩ := h; exact ⟨A, c, vt, h.below hb⟩
theorem RdAt.turned {Q : Nat → Prop} (h : RdAt w base g O bs b0 o0 s) (ht : TurnedP Q w w') (hQ : ∀ k, Q k → ¬ O k ∧ base ≤ k) : RdAt w' base g O bs b0 o0 s := by obtain ⟨A, c, vt, h⟩ := h; exact ⟨A, c, vt, h.turned ht hQ⟩
/-- No block of a reader is one of dependencies, or of packages. -/
theorem RdAt.not_O (h : RdAt w base g O bs b0 o0 s) {b : Nat} {t : TypeId} {cs : Array Value} (hb : Blk w b t cs) (h1 : t ≠ 125) (h2 : t ≠ 9) : ¬ O b := fun hk => by
  obtain ⟨A, c, vt, h⟩ := h
  rcases (h.mine b).1 hk with rfl | hk
  · exact Blk.kind hb h.blk h1 rfl
  · exact own_kind h.texts hb (Ne.symm h2) hk
end
/-- A call of a reader has taken what r tells, which is told as val says; or it gave up. -/
def Took {α : Type} (w : World) (base g : Nat) (O : Nat → Prop) (bs : ByteArray) (b0 o0 : Nat) (r : Option (α × RS)) (val : α → Value → World → Prop) (e : Ending) (w' : World) : Prop :=
  TurnedP O w w' ∧ match r with
    | some x => ∃ v, e = .returned v ∧ val x.1 v w' ∧ ∃ O', RdAt w' base g O' bs b0 o0 x.2 ∧ ∀ k, O' k → O k ∨ w.heap.size ≤ k
    | none => e = gaveUp 90
set_option maxRecDepth 100000 in
theorem cmust_yes (w : World) : Calls Tryz.prog 75 #[.bool true] w fun e w' => e = .returned (.tuple #[]) ∧ w = w' := by
  go_enter Tryz.func75, Tryz.ntmps75
  go_wp2_with fail
  go_end0
  exact ⟨rfl, rfl⟩
set_option maxRecDepth 100000 in
theorem cmust_no (w : World) : Calls Tryz.prog 75 #[.bool false] w fun e w' => e = gaveUp 90 ∧ w = w' := by
  go_enter Tryz.func75, Tryz.ntmps75
  go_wp2_with fail
  exact ⟨rfl, ⟨rfl, rfl⟩⟩
def IntV (n : Int) (v : Value) (_ : World) : Prop := v = .int .i64 n
def StrV (t : ByteArray) (v : Value) (_ : World) : Prop := v = .string t
theorem size_u8 (w : World) : (Go.sizeOf 5).run Tryz.prog w = .ok 1 w := by kernel_rfl
set_option maxHeartbeats 4000000 in
set_option maxRecDepth 100000 in
theorem rnum_any {w : World} {base g b0 o0 : Nat} {O : Nat → Prop} {bs : ByteArray} {s : RS} (h : RdAt w base g O bs b0 o0 s) (hz : bs.size ≤ 1048576) :
    Calls Tryz.prog 123 #[.pointer (some ⟨g, 0, none⟩)] w (Took w base g O bs b0 o0 (decNum bs s) IntV) := by
  obtain ⟨A, c, vt, hS⟩ := h
  have hlen : (remB bs s).length = bs.size - s.pos := remB_len bs s
  have hb256 : ∀ x ∈ remB bs s, x < 256 := fun x hx => by
    have := List.mem_of_mem_drop hx
    unfold bytesN at this
    obtain ⟨y, _, rfl⟩ := List.mem_map.1 this
    exact y.toNat_lt
  have CT := Lib.hid (Ids.take_any A (bs.size - s.pos) c base (remB bs s) w hb256 hlen (by omega) hS.rest.rd)
  obtain ⟨K, hK⟩ : ∃ K, K = (Ids.takeF 0 0 (remB bs s)).2.1 := ⟨_, rfl⟩
  obtain ⟨X, hX⟩ : ∃ X, X = (Ids.takeF 0 0 (remB bs s)).1 := ⟨_, rfl⟩
  obtain ⟨E, hE⟩ : ∃ E, E = (Ids.takeF 0 0 (remB bs s)).2.2 := ⟨_, rfl⟩
  obtain ⟨An, cn, rfl, -, -⟩ := own_form' hS.texts
  have c0 := hS.blk.cell 0
  have c1 := hS.blk.cell 1
  have c2 := hS.blk.cell 2
  have f0 := hS.blk.free 0
  simp at c0 c1 c2
  have HS := Lib.hid hS
  have HD : Hid (decNum bs s = if E = 0 then some (wrap64 (X : Int), { s with pos := s.pos + K }) else none) := by show decNum bs s = _; unfold decNum; rw [← hK, ← hX, ← hE]
  rw [← hK, ← hX, ← hE] at CT
  by_cases hE0 : E = 0
  · have hl := take_len (remB bs s) 0 0 (by rw [← hE]; exact hE0)
    rw [← hK, hlen] at hl
    have hsz := size_u8
    have hKn : K ≤ bs.size - s.pos := by omega
    have hcap := hS.rest.cap
    have hps := hS.ok.pos
    have hcut := hS.rest.cut (k := K) (by omega)
    obtain ⟨A2, hA2⟩ : ∃ A2, A2 = (if c = K then A else A.map (·.add (K * 1))) := ⟨_, rfl⟩
    rw [← hA2] at hcut
    have hsl : ∀ w : World, (Instr.slice 60 (.slice A (bs.size - s.pos) c) (some (.int .i64 (K : Int))) none none).run Tryz.prog w = .ok (.slice A2 (bs.size - (s.pos + K)) (c - K)) w := fun w => by
      rw [run_slice_l (P := Tryz.prog) w 60 A (bs.size - s.pos) c (by kernel_rfl) .i64 (K : Int) (by omega) (by omega)]
      rw [show Tryz.prog.elem 60 = 5 by kernel_rfl, hsz, ← Nat.sub_sub, hA2]
      rfl
    have HV : Hid (Took w base g O bs b0 o0 (decNum bs s) IntV (.returned (.int .i64 (wrap64 (X : Int)))) (w.setCell ⟨g, 0, none⟩ (.slice A2 (bs.size - (s.pos + K)) (c - K)))) := by
      have hd := HD.out
      rw [if_pos hE0] at hd
      refine ⟨(TurnedP.refl _ _).setCell (fun _ => (hS.mine g).2 (.inl rfl)) _, ?_⟩
      have hok := (decNum_ok hd hS.ok).1
      rw [hd]
      refine ⟨_, rfl, rfl, O, ⟨A2, c - K, .slice An s.texts.length cn, ⟨hS.blk.set_ 0 (.slice A2 (bs.size - (s.pos + K)) (c - K)), ?_, own_setCell (p := ⟨g, 0, none⟩) hS.texts (own_kind hS.texts hS.blk (by decide)) _, hS.gfar, hok, hS.mine⟩⟩, fun k hk => .inl hk⟩
      exact hcut.stay fun hp => Below.heap_setCell w ⟨g, 0, none⟩ _ b0 (fun e => by have h1 := hS.rest.far hp; have h2 := hS.gfar; rw [e] at h1; simp at h1; omega)
    subst hE0
    have CM := Lib.hid cmust_yes
    clear hS hE hl hKn hcap HD hb256 hlen hK hX hcut hA2 hps
    go_enter Tryz.func123, Tryz.ntmps123
    go_wp2_with fail
    refine CT.out.mono ?_
    rintro e w1 ⟨rfl, rfl⟩
    clear CT
    go_wp2_with fail
    refine (CM.out _).mono ?_
    rintro e w2 ⟨rfl, rfl⟩
    clear CM
    generalize bs.size - s.pos = N0 at *
    generalize bs.size - (s.pos + K) = N1 at *
    go_wp2_with fail
    go_ret
    exact HV.out
  · have hE1 : (((E : Nat) : Int) == 0) = false := by simp; exact hE0
    have HV : Hid (Took w base g O bs b0 o0 (decNum bs s) IntV (gaveUp 90) w) := by
      have hd := HD.out
      rw [if_neg hE0] at hd
      refine ⟨TurnedP.refl _ _, ?_⟩
      rw [hd]
    have CM := Lib.hid cmust_no
    clear hS hE HD hb256 hlen hK hX hE0
    go_enter Tryz.func123, Tryz.ntmps123
    go_wp2_with fail
    refine CT.out.mono ?_
    rintro e w1 ⟨rfl, rfl⟩
    clear CT
    go_wp2_with fail
    refine (CM.out _).mono ?_
    rintro e w2 ⟨rfl, rfl⟩
    clear CM
    unfold gaveUp
    go_wp2_with fail
    exact ⟨rfl, HV.out⟩
end Go.Proofs.YtpmfmkpfjomgnaaGreatDoor

/- A reader's count and text. -/
namespace Go.Proofs.YtpmfmkpfjomgnaaGreatDoor
set_option linter.unusedSimpArgs false
set_option linter.unusedVariables false
open Go.RowKit

def NatV (n : Nat) (v : Value) (_ : World) : Prop := v = .int .i64 (n : Int)
set_option maxHeartbeats 4000000 in
set_option maxRecDepth 100000 in
theorem rcount_any {w : World} {base g b0 o0 : Nat} {O : Nat → Prop} {bs : ByteArray} {s : RS} (h : RdAt w base g O bs b0 o0 s) (hz : bs.size ≤ 1048576) (most : Nat) :
    Calls Tryz.prog 124 #[.pointer (some ⟨g, 0, none⟩), .int .i64 (most : Int)] w (Took w base g O bs b0 o0 (decCount bs most s) NatV) := by
  have C := Lib.hid (rnum_any h hz)
  have CY := Lib.hid cmust_yes
  have CX := Lib.hid cmust_no
  clear h
  cases hd : decNum bs s with
  | none =>
    rw [hd] at C
    have HE : Hid (decCount bs most s = none) := by show decCount bs most s = none; unfold decCount; rw [hd]; rfl
    clear hd
    go_enter Tryz.func124, Tryz.ntmps124
    go_wp2_with fail
    refine C.out.mono ?_
    rintro e w1 ⟨ht, he⟩
    have HV : Hid (Took w base g O bs b0 o0 (decCount bs most s) NatV (gaveUp 90) w1) := by rw [HE.out]; exact ⟨ht, rfl⟩
    obtain rfl := he
    clear ht C
    unfold gaveUp
    go_wp2_with fail
    exact ⟨rfl, HV.out⟩
  | some x =>
    obtain ⟨n, s1⟩ := x
    rw [hd] at C
    have HE : Hid (decCount bs most s = if 0 ≤ n ∧ n ≤ (most : Int) then some (n.toNat, s1) else none) := by show decCount bs most s = _; unfold decCount; rw [hd]; rfl
    clear hd
    by_cases hr : 0 ≤ n ∧ n ≤ (most : Int)
    · obtain ⟨k, rfl⟩ : ∃ k : Nat, n = (k : Int) := ⟨n.toNat, by omega⟩
      rw [if_pos hr, Int.toNat_natCast] at HE
      obtain ⟨h0, h1⟩ := hr
      go_enter Tryz.func124, Tryz.ntmps124
      go_wp2_with fail
      refine C.out.mono ?_
      rintro e w1 ⟨ht, v, rfl, hv, hA⟩
      obtain rfl := hv
      have HV : Hid (Took w base g O bs b0 o0 (decCount bs most s) NatV (.returned (.int .i64 (k : Int))) w1) := by rw [HE.out]; exact ⟨ht, _, rfl, rfl, hA⟩
      clear ht hA C
      go_wp2_with fail
      refine (CY.out _).mono ?_
      rintro e w2 ⟨rfl, rfl⟩
      go_wp2_with fail
      go_ret
      exact HV.out
    · rw [if_neg hr] at HE
      have hr2 : ¬ 0 ≤ n ∨ (0 ≤ n ∧ ¬ n ≤ (most : Int)) := by omega
      clear hr
      rcases hr2 with h0 | ⟨h0, h1⟩
      rotate_left
      · have t1 : decide (n ≤ (most : Int)) = false := decide_eq_false h1
        clear h1
        go_enter Tryz.func124, Tryz.ntmps124
        go_wp2_with fail
        refine C.out.mono ?_
        rintro e w1 ⟨ht, v, rfl, hv, hA⟩
        obtain rfl := hv
        have HV : Hid (Took w base g O bs b0 o0 (decCount bs most s) NatV (gaveUp 90) w1) := by rw [HE.out]; exact ⟨ht, rfl⟩
        clear ht hA C
        go_wp2_with fail
        refine (CX.out _).mono ?_
        rintro e w2 ⟨rfl, rfl⟩
        unfold gaveUp
        go_wp2_with fail
        exact ⟨rfl, HV.out⟩
      · go_enter Tryz.func124, Tryz.ntmps124
        go_wp2_with fail
        refine C.out.mono ?_
        rintro e w1 ⟨ht, v, rfl, hv, hA⟩
        obtain rfl := hv
        have HV : Hid (Took w base g O bs b0 o0 (decCount bs most s) NatV (gaveUp 90) w1) := by rw [HE.out]; exact ⟨ht, rfl⟩
        clear ht hA C
        go_wp2_with fail
        refine (CX.out _).mono ?_
        rintro e w2 ⟨rfl, rfl⟩
        unfold gaveUp
        go_wp2_with fail
        exact ⟨rfl, HV.out⟩
theorem conv_of {w : World} {bs : ByteArray} {b0 o0 pos k c : Nat} {A : Option Addr} (hk : pos + k ≤ bs.size) (hA : 0 < k → A = some ⟨b0, o0 + pos, none⟩) (hB : Lib.Bytes w b0 o0 bs) :
    (convert 60 9 (.slice A k c)).run Tryz.prog w = .ok (.string (bs.extract pos (pos + k))) w := by
  by_cases h0 : k = 0
  · subst h0
    have he : bs.extract pos (pos + 0) = ByteArray.empty := by
      apply ByteArray.ext
      simp
    rw [he]
    rw [run_convert_bytes_string w 60 9 5 A 0 c Tryz.underlying60 Tryz.underlying5 Tryz.underlying9]
    cases A with
    | none => simp [Conv.bytesToString]
    | some a =>
      have := run_bytesToString (P := Tryz.prog) w a 0 c [] (by simp [loadCells, loadCellsFrom])
      simpa using this
  · rw [hA (by omega)]
    exact Lib.run_convert_window (P := Tryz.prog) w 60 5 9 Tryz.underlying60 Tryz.underlying5 Tryz.underlying9 b0 o0 bs hB pos k c hk
theorem size_set (w : World) (p : Addr) (u : Value) : (w.setCell p u).heap.size = w.heap.size := by simp [World.setCell]
theorem one_set (w : World) (p : Addr) (u v : Value) (t : TypeId) : ∀ j x, [v][j]? = some x → ((w.setCell p u).alloc (.cells #[v] t)).cell? ((⟨w.heap.size, 0, none⟩ : Addr).add j) = some x := fun j x hx => by
  have h := cell_one_new (w.setCell p u) v t j x hx
  rwa [size_set] at h
theorem info_strz : ∃ i z, Tryz.prog.info? 9 = some i ∧ i.zero = some z ∧ z.cells.size = 1 ∧ i.size = 1 ∧ i.bytes = 16 := by
  have h : (Tryz.prog.info? 9).map (fun i => (i.zero.map fun z => z.cells.size, i.size, i.bytes)) = some (some 1, 1, 16) := by kernel_rfl
  obtain ⟨i, hi, h2⟩ := Option.map_eq_some_iff.1 h
  simp only [Prod.mk.injEq] at h2
  obtain ⟨z, hz, hz1⟩ := Option.map_eq_some_iff.1 h2.1
  exact ⟨i, z, hi, hz, hz1, h2.2.1, h2.2.2⟩
/-- What is read of a text, part by part. -/
theorem decText_none {bs : ByteArray} {s : RS} (h : decCount bs s.texts.length s = none) : decText bs s = none := by unfold decText; rw [h]; rfl
theorem decText_old {bs : ByteArray} {s s1 : RS} {k : Nat} {t : ByteArray} (h : decCount bs s.texts.length s = some (k, s1)) (ht : s1.texts[k]? = some t) : decText bs s = some (t, s1) := by unfold decText; rw [h]; simp only [Option.bind_some, ht]
theorem decText_none2 {bs : ByteArray} {s s1 : RS} {k : Nat} (h : decCount bs s.texts.length s = some (k, s1)) (ht : s1.texts[k]? = none) (h2 : decNum bs s1 = none) : decText bs s = none := by unfold decText; rw [h]; simp only [Option.bind_some, ht, h2]; rfl
theorem decText_new {bs : ByteArray} {s s1 s2 : RS} {k : Nat} {n : Int} (h : decCount bs s.texts.length s = some (k, s1)) (ht : s1.texts[k]? = none) (h2 : decNum bs s1 = some (n, s2)) :
    decText bs s = if 0 ≤ n ∧ n ≤ ((bs.size - s2.pos : Nat) : Int) then some (bs.extract s2.pos (s2.pos + n.toNat), { s2 with pos := s2.pos + n.toNat, texts := s2.texts ++ [bs.extract s2.pos (s2.pos + n.toNat)] }) else none := by unfold decText; rw [h]; simp only [Option.bind_some, ht, h2]
theorem extract_len (bs : ByteArray) (p k : Nat) (h : p + k ≤ bs.size) : (bs.extract p (p + k)).size = k := by rw [ByteArray.size_extract]; omega
theorem new_ok {bs : ByteArray} {s2 : RS} (ho : s2.Ok bs) (hp : s2.texts.length ≤ s2.pos) {k : Nat} (hk : s2.pos + k ≤ bs.size) : RS.Ok bs { s2 with pos := s2.pos + k, texts := s2.texts ++ [bs.extract s2.pos (s2.pos + k)] } := by
  refine ⟨hk, fun t ht => ?_, ?_, ho.parts⟩
  · rcases List.mem_append.1 ht with ht | ht
    · exact ho.sizes t ht
    · simp at ht; subst ht
      rw [extract_len bs s2.pos k hk]; omega
  · show (s2.texts ++ [_]).length ≤ s2.pos + k + 1
    rw [List.length_append]; simp; omega
theorem decText_ok {bs : ByteArray} {s s' : RS} {t : ByteArray} (h : decText bs s = some (t, s')) (ho : s.Ok bs) : s'.Ok bs ∧ s'.parts = s.parts ∧ t.size ≤ bs.size ∧ s.pos < s'.pos := by
  cases hc : decCount bs s.texts.length s with
  | none => rw [decText_none hc] at h; cases h
  | some x =>
    obtain ⟨k, s1⟩ := x
    obtain ⟨ho1, hp1, ht1, hq1, hk1⟩ := decCount_ok hc ho
    cases ht : s1.texts[k]? with
    | some t0 =>
      rw [decText_old hc ht] at h
      injection h with h
      injection h with h1 h2
      subst h1 h2
      exact ⟨ho1, hq1, ho1.sizes _ (List.mem_of_getElem? ht), hp1⟩
    | none =>
      cases hn : decNum bs s1 with
      | none => rw [decText_none2 hc ht hn] at h; cases h
      | some y =>
        obtain ⟨n, s2⟩ := y
        obtain ⟨ho2, hp2, ht2, hq2⟩ := decNum_ok hn ho1
        rw [decText_new hc ht hn] at h
        split at h
        · rename_i hr
          injection h with h
          injection h with h1 h2
          subst h1 h2
          have hpos := ho2.pos
          have hm := ho1.many
          refine ⟨new_ok ho2 (by rw [ht2]; omega) (by omega), by show s2.parts = s.parts; rw [hq2, hq1], ?_, by show s.pos < s2.pos + _; omega⟩
          rw [extract_len bs s2.pos n.toNat (by omega)]; omega
        · cases h
set_option maxHeartbeats 8000000 in
set_option maxRecDepth 100000 in
theorem rtext_any {w : World} {base g b0 o0 : Nat} {O : Nat → Prop} {bs : ByteArray} {s : RS} (h : RdAt w base g O bs b0 o0 s) (hz : bs.size ≤ 1048576) :
    Calls Tryz.prog 170 #[.pointer (some ⟨g, 0, none⟩)] w (Took w base g O bs b0 o0 (decText bs s) StrV) := by
  have C := Lib.hid (rcount_any h hz s.texts.length)
  have CY := Lib.hid cmust_yes
  have CX := Lib.hid cmust_no
  obtain ⟨A0, c0, vt0, hS0⟩ := h
  obtain ⟨An0, cn0, rfl, -, -⟩ := own_form' hS0.texts
  have k1 := hS0.blk.cell 1
  simp at k1
  clear hS0
  cases hd : decCount bs s.texts.length s with
  | none =>
    rw [hd] at C
    have HE := Lib.hid (decText_none hd)
    clear hd
    go_enter Tryz.func170, Tryz.ntmps170
    go_wp2_with fail
    refine C.out.mono ?_
    rintro e w1 ⟨ht, he⟩
    have HV : Hid (Took w base g O bs b0 o0 (decText bs s) StrV (gaveUp 90) w1) := by rw [HE.out]; exact ⟨ht, rfl⟩
    obtain rfl := he
    clear ht C k1
    unfold gaveUp
    go_wp2_with fail
    exact ⟨rfl, HV.out⟩
  | some x =>
    obtain ⟨k, s1⟩ := x
    rw [hd] at C
    have HD := Lib.hid hd
    clear hd
    go_enter Tryz.func170, Tryz.ntmps170
    go_wp2_with fail
    refine C.out.mono ?_
    rintro e w1 ⟨ht, v, rfl, hv, O1, hA1, hO1⟩
    obtain rfl := hv
    replace hA1 : RdAt w1 base g O1 bs b0 o0 s1 := hA1
    have HT1 := Lib.hid (And.intro ht (And.intro hA1 hO1))
    obtain ⟨A1, c1, vt1, hS1⟩ := hA1
    obtain ⟨An1, cn1, rfl, -, -⟩ := own_form' hS1.texts
    clear k1 C ht hO1
    have k0 := hS1.blk.cell 0
    have k1 := hS1.blk.cell 1
    simp at k0 k1
    by_cases hlt : k < s1.texts.length
    · obtain ⟨t, htx⟩ : ∃ t, s1.texts[k]? = some t := ⟨_, List.getElem?_eq_getElem hlt⟩
      have HE := Lib.hid (decText_old HD.out htx)
      obtain ⟨bt, rfl, hcell⟩ := own_at_ (k := k) (u := .string t) hS1.texts (by rw [List.getElem?_map, htx]; rfl)
      have HV : Hid (Took w base g O bs b0 o0 (decText bs s) StrV (.returned (.string t)) w1) := by rw [HE.out]; exact ⟨HT1.out.1, _, rfl, rfl, _, HT1.out.2.1, HT1.out.2.2⟩
      clear hS1 htx HD HE HT1
      go_wp2_with fail
      go_ret
      exact HV.out
    · have htx : s1.texts[k]? = none := List.getElem?_eq_none (by omega)
      have C2 := Lib.hid (rnum_any HT1.out.2.1 hz)
      have HX := Lib.hid htx
      clear htx
      cases hd2 : decNum bs s1 with
      | none =>
        rw [hd2] at C2
        have HE := Lib.hid (decText_none2 HD.out HX.out hd2)
        clear hd2 hS1
        go_wp2_with fail
        refine C2.out.mono ?_
        rintro e w2 ⟨ht2, he⟩
        have HV : Hid (Took w base g O bs b0 o0 (decText bs s) StrV (gaveUp 90) w2) := by
          rw [HE.out]
          exact ⟨HT1.out.1.trans ht2 fun j hj hj2 => (HT1.out.2.2 j hj2).elim id fun h => by omega, rfl⟩
        obtain rfl := he
        clear ht2 C2 k0 k1
        unfold gaveUp
        go_wp2_with fail
        exact ⟨rfl, HV.out⟩
      | some y =>
        obtain ⟨n, s2⟩ := y
        rw [hd2] at C2
        have HE := Lib.hid (decText_new HD.out HX.out hd2)
        have hok1 := decNum_ok hd2 hS1.ok
        have HOK := Lib.hid hok1
        have HM1 := Lib.hid hS1.ok.many
        clear hd2 hS1 hok1
        go_wp2_with fail
        refine C2.out.mono ?_
        rintro e w2 ⟨ht2, v, rfl, hv, O2, hA2, hO2⟩
        obtain rfl := hv
        replace hA2 : RdAt w2 base g O2 bs b0 o0 s2 := hA2
        have hT02 : TurnedP O w w2 := HT1.out.1.trans ht2 fun j hj hj2 => (HT1.out.2.2 j hj2).elim id fun h => by omega
        have hO02 : ∀ j, O2 j → O j ∨ w.heap.size ≤ j := fun j hj => by
          rcases hO2 j hj with h | h
          · exact HT1.out.2.2 j h
          · exact .inr (by have := HT1.out.1.size; omega)
        have HT2 := Lib.hid (And.intro hT02 hO02)
        obtain ⟨A2, c2, vt2, hS2⟩ := hA2
        obtain ⟨m2, hm2⟩ : ∃ m2, m2 = s2.texts.length := ⟨_, rfl⟩
        have hown2 := hS2.texts
        rw [← hm2] at hown2
        obtain ⟨An2, cn2, rfl, -, -⟩ := own_form' hown2
        clear k0 k1 C2 ht2 hO2 hT02 hO02 HT1
        have k0 := hS2.blk.cell 0
        have k1 := hS2.blk.cell 1
        have f0 := hS2.blk.free 0
        have f1 := hS2.blk.free 1
        simp at k0 k1
        by_cases hr : 0 ≤ n ∧ n ≤ ((bs.size - s2.pos : Nat) : Int)
        · obtain ⟨K, rfl⟩ : ∃ K : Nat, n = (K : Int) := ⟨n.toNat, by omega⟩
          rw [if_pos hr, Int.toNat_natCast] at HE
          obtain ⟨h0, h1⟩ := hr
          have hps := hS2.ok.pos
          have hcap := hS2.rest.cap
          have h1' : K ≤ bs.size - s2.pos := Int.ofNat_le.1 h1
          clear h1
          have hKb : s2.pos + K ≤ bs.size := by omega
          have hKc : K ≤ c2 := by omega
          have h1 : (K : Int) ≤ ((bs.size - s2.pos : Nat) : Int) := by omega
          have hsz := size_u8
          obtain ⟨A3, hA3⟩ : ∃ A3, A3 = (if c2 = K then A2 else A2.map (·.add (K * 1))) := ⟨_, rfl⟩
          have hcut := hS2.rest.cut (k := K) hKb
          rw [← hA3] at hcut
          obtain ⟨A4, hA4⟩ : ∃ A4, A4 = (if c2 = 0 then A2 else A2.map (·.add (0 * 1))) := ⟨_, rfl⟩
          have hA4p : 0 < K → A4 = some ⟨b0, o0 + s2.pos, none⟩ := fun hp => by
            rw [hA4, if_neg (by omega), hS2.rest.at_ (by omega)]
            simp [Addr.add]
          have hsl : ∀ w : World, (Instr.slice 60 (.slice A2 (bs.size - s2.pos) c2) (some (.int .i64 (K : Int))) none none).run Tryz.prog w = .ok (.slice A3 (bs.size - (s2.pos + K)) (c2 - K)) w := fun w => by
            rw [run_slice_l (P := Tryz.prog) w 60 A2 (bs.size - s2.pos) c2 (by kernel_rfl) .i64 (K : Int) (by omega) (by omega)]
            rw [show Tryz.prog.elem 60 = 5 by kernel_rfl, hsz, ← Nat.sub_sub, hA3]
            rfl
          have hsh : ∀ w : World, (Instr.slice 60 (.slice A2 (bs.size - s2.pos) c2) none (some (.int .i64 (K : Int))) none).run Tryz.prog w = .ok (.slice A4 K c2) w := fun w => by
            rw [run_slice_h (P := Tryz.prog) w 60 A2 (bs.size - s2.pos) c2 (by kernel_rfl) .i64 (K : Int) (by omega) (by omega)]
            rw [show Tryz.prog.elem 60 = 5 by kernel_rfl, hsz, hA4]
            rfl
          have hcv := conv_of (w := w2) (c := c2) hKb hA4p hS2.rest.bytes
          obtain ⟨t, htd⟩ : ∃ t, t = bs.extract s2.pos (s2.pos + K) := ⟨_, rfl⟩
          rw [← htd] at hcv HE
          have hmo : s2.texts.length ≤ s2.pos := by have h1 := HM1.out; have h2 := HOK.out; rw [h2.2.2.1]; have h3 := h2.2.1; omega
          have HOk : Hid (RS.Ok bs { s2 with pos := s2.pos + K, texts := s2.texts ++ [t] }) := by rw [htd]; exact new_ok hS2.ok hmo hKb
          have HS2 := Lib.hid hS2
          have HCut := Lib.hid hcut
          have HI := Lib.hid info_strz
          have hown3 : ((w2.setCell ⟨g, 0, none⟩ (.slice A3 (bs.size - (s2.pos + K)) (c2 - K))).alloc (.cells #[.string t] 9)).ownsRow base 9 1 (.slice An2 m2 cn2) m2 (s2.texts.map .string) :=
            (own_setCell (p := ⟨g, 0, none⟩) hown2 (own_kind hown2 hS2.blk (by decide)) _).alloc _
          have HO3 := Lib.hid hown3
          have HB3 : Hid (Blk ((w2.setCell ⟨g, 0, none⟩ (.slice A3 (bs.size - (s2.pos + K)) (c2 - K))).alloc (.cells #[.string t] 9)) g 125 #[.slice A3 (bs.size - (s2.pos + K)) (c2 - K), .slice An2 m2 cn2, .int .i64 s2.parts]) := (hS2.blk.set_ 0 _).alloc _
          have HMx : Hid (m2 ≤ 1048577) := by show m2 ≤ _; rw [hm2]; omega
          have HM2 := Lib.hid hm2
          have HBase : Hid (base ≤ w2.heap.size) := by have h1 := hS2.gfar; have h2 := hS2.blk.lt; show base ≤ _; omega
          obtain ⟨N2, hN2⟩ : ∃ N2, N2 = bs.size - s2.pos := ⟨_, rfl⟩
          obtain ⟨N3, hN3⟩ : ∃ N3, N3 = bs.size - (s2.pos + K) := ⟨_, rfl⟩
          have HN3 := Lib.hid hN3
          rw [← hN2] at hsl hsh h1 k0
          rw [← hN3] at hsl HO3 HB3
          have HHn : Hid (∀ v8 w8, ((w2.setCell ⟨g, 0, none⟩ (.slice A3 N3 (c2 - K))).alloc (.cells #[.string t] 9)).grownBy w8 (Value.slice An2 m2 cn2).ownBlock → w8.ownsRow base 9 1 v8 (m2 + 1) (s2.texts.map .string ++ [.string t]) → (v8.ownBlock = (Value.slice An2 m2 cn2).ownBlock ∨ v8.ownBlock = some ((w2.setCell ⟨g, 0, none⟩ (.slice A3 N3 (c2 - K))).alloc (.cells #[.string t] 9)).heap.size) →
              (w8.cell? ⟨g, 1, none⟩ = some (.slice An2 m2 cn2) ∧ w8.frozen? ⟨g, 1, none⟩ = false) ∧ Took w base g O bs b0 o0 (decText bs s) StrV (.returned (.string t)) (w8.setCell ⟨g, 1, none⟩ v8)) := fun v8 w8 hg hown hat => by
            have hB3 := HB3.out
            have htM : TurnedP (fun j => (Value.slice An2 m2 cn2).ownBlock = some j) ((w2.setCell ⟨g, 0, none⟩ (.slice A3 N3 (c2 - K))).alloc (.cells #[.string t] 9)) w8 := (TurnedP.refl _ _).grown hg fun j _ hj => hj
            have hB8 := hB3.turnedP htM (own_kind HO3.out hB3 (by decide))
            have hmine := HS2.out.mine
            have ht28 : TurnedP O2 w2 (w8.setCell ⟨g, 1, none⟩ v8) := ((((TurnedP.refl _ _).setCell (fun _ => (hmine g).2 (.inl rfl)) _).alloc _).grown hg fun j _ hj => (hmine j).2 (.inr hj)).setCell (fun _ => (hmine g).2 (.inl rfl)) _
            refine ⟨⟨hB8.cell 1, hB8.free 1⟩, ?_⟩
            rw [HE.out]
            refine ⟨HT2.out.1.trans ht28 fun j hj hj2 => (HT2.out.2 j hj2).elim id fun h => by omega, _, rfl, rfl, RdO g v8, ⟨A3, c2 - K, v8, ⟨?_, ?_, ?_, HS2.out.gfar, HOk.out, fun j => Iff.rfl⟩⟩, fun j hj => ?_⟩
            · have := hB8.set_ 1 v8
              rw [HN3.out] at this
              exact this
            · refine HCut.out.stay fun hp => ht28.block b0 (by have := HCut.out.far hp; have := HBase.out; omega) fun ho => ?_
              have h1 := HS2.out.O_lt ho
              have h2 := HCut.out.far hp
              omega
            · have hl : (s2.texts ++ [t]).length = m2 + 1 := by rw [List.length_append, HM2.out]; rfl
              show (w8.setCell ⟨g, 1, none⟩ v8).ownsRow base _ 1 v8 (s2.texts ++ [t]).length ((s2.texts ++ [t]).map Value.string)
              rw [hl, List.map_append]
              exact own_setCell (p := ⟨g, 1, none⟩) hown (own_kind hown hB8 (by decide)) _
            · rcases hj with rfl | hj
              · exact HT2.out.2 _ ((hmine j).2 (.inl rfl))
              · rcases hat with e | e
                · rw [hj] at e; exact HT2.out.2 _ ((hmine j).2 (.inr e.symm))
                · rw [hj] at e; injection e with e; rw [World.size_alloc, size_set] at e; exact .inr (by have := HT2.out.1.size; omega)
          clear hps hcap hKb hKc h1' hsz hA3 hcut hA4 hA4p htd hmo hS2 hown2 hown3 HCut HS2 HOk HE hm2 HM2 HN3 hN2 hN3 HB3
          obtain ⟨i0, z0, hi0, hz0, hz1, hz2, hz3⟩ := HI.out
          go_wp2_with fail
          refine (CY.out _).mono ?_
          rintro e w3 ⟨rfl, rfl⟩
          go_wp2_with (at_builtin; refine wpList_append_own_at _ rfl (.tmp 61) (.tmp 63) 42 rfl base 9 i0 z0 1 16 Tryz.underlying42 hi0 hz0 hz2 hz3 hz1 (by decide) (.slice An2 m2 cn2) m2 (s2.texts.map .string) rfl HO3.out ⟨w2.heap.size, 0, none⟩ 1 1 [.string t] rfl rfl (one_set _ _ _ _ _) (by intro u hu; simp at hu; subst hu; rfl) (by have := HMx.out; unfold maxLen; omega) (by have := HMx.out; omega) (by have := HBase.out; simp [World.setCell]; omega) ?_; intro v8 w8 hown8 hg8 hnil8 hat8; obtain ⟨⟨q1, r1⟩, hV⟩ := HHn.out v8 w8 hg8 hown8 hat8; have HV := Lib.hid hV; obtain ⟨A8, c8, rfl, -, -⟩ := own_form' hown8; clear hown8 hg8 hnil8 hat8 hV)
          go_ret
          exact HV.out
        · rw [if_neg hr] at HE
          have hr2 : ¬ 0 ≤ n ∨ (0 ≤ n ∧ ¬ n ≤ ((bs.size - s2.pos : Nat) : Int)) := by omega
          have HV : Hid (Took w base g O bs b0 o0 (decText bs s) StrV (gaveUp 90) w2) := by rw [HE.out]; exact ⟨HT2.out.1, rfl⟩
          clear hr hS2 hown2 HE hm2
          obtain ⟨N2, hN2⟩ : ∃ N2, N2 = bs.size - s2.pos := ⟨_, rfl⟩
          rw [← hN2] at hr2 k0
          clear hN2
          rcases hr2 with h0 | ⟨h0, h1⟩
          rotate_left
          · have t1 : decide (n ≤ (N2 : Int)) = false := decide_eq_false h1
            clear h1
            go_wp2_with fail
            refine (CX.out _).mono ?_
            rintro e w3 ⟨rfl, rfl⟩
            unfold gaveUp
            go_wp2_with fail
            exact ⟨rfl, HV.out⟩
          · go_wp2_with fail
            refine (CX.out _).mono ?_
            rintro e w3 ⟨rfl, rfl⟩
            unfold gaveUp
            go_wp2_with fail
            exact ⟨rfl, HV.out⟩
end Go.Proofs.YtpmfmkpfjomgnaaGreatDoor

/- A writer's list of dependencies. -/
namespace Go.Proofs.YtpmfmkpfjomgnaaGreatDoor
set_option linter.unusedSimpArgs false
set_option linter.unusedVariables false
open Go.RowKit

/-- What is read stands in blocks that are none of the writer's. -/
def OutS (w : World) (O S : Nat → Prop) : Prop := ∀ b, S b → ¬ O b ∧ b < w.heap.size
/-- A step that a writer may take: nothing that was laid goes. -/
structure StepW {α : Type} (st : WS → α → WS) : Prop where
  more : ∀ s x, s.out.length ≤ (st s x).out.length
  few : ∀ s x, s.Few → (st s x).Few
theorem StepW.text : StepW WS.text := ⟨WS.text_out, fun s x h => h.text x⟩
theorem StepW.fold {α : Type} {st : WS → α → WS} (h : StepW st) : ∀ (l : List α) (s : WS), s.out.length ≤ (l.foldl st s).out.length ∧ (s.Few → (l.foldl st s).Few)
  | [], s => ⟨Nat.le_refl _, fun h => h⟩
  | x :: l, s => ⟨Nat.le_trans (h.more s x) (h.fold l (st s x)).1, fun hf => (h.fold l (st s x)).2 (h.few s x hf)⟩
/-- A list: how many it has, and each of them. -/
def WS.list {α : Type} (st : WS → α → WS) (s : WS) (l : List α) : WS := l.foldl st (s.num (l.length : Int))
theorem StepW.list {α : Type} {st : WS → α → WS} (h : StepW st) : StepW (WS.list st) :=
  ⟨fun s l => Nat.le_trans (by rw [WS.num_out]; omega) (h.fold l (s.num _)).1, fun s l hf => (h.fold l _).2 (hf.num _)⟩
theorem StepW.comp {α β : Type} {st : WS → α → WS} (h : StepW st) (f : β → α) : StepW (fun s x => st s (f x)) := ⟨fun s x => h.more s (f x), fun s x => h.few s (f x)⟩
/-- While a list is laid: its first k. -/
structure LSt {α : Type} (st : WS → α → WS) (w wx : World) (base g : Nat) (O : Nat → Prop) (s : WS) (l : List α) (k : Nat) (O' : Nat → Prop) (s' : WS) : Prop where
  at_ : WrAt wx base g O' s'
  is : s' = (l.take k).foldl st (s.num (l.length : Int))
  few : s'.Few
  turned : TurnedP O w wx
  own : ∀ j, O' j → O j ∨ w.heap.size ≤ j
section
variable {α : Type} {st : WS → α → WS} {w wx w2 : World} {base g k : Nat} {O O' : Nat → Prop} {s s' : WS} {l : List α} {x : α}
theorem LSt.stay (h : LSt st w wx base g O s l k O' s') {S : Nat → Prop} (hS : OutS w O S) : StayS S w wx := fun b hb hl => h.turned.block b hl (hS b hb).1
theorem LSt.out (h : LSt st w wx base g O s l k O' s') {S : Nat → Prop} (hS : OutS w O S) : OutS wx O' S := fun b hb => ⟨fun ho => by
  rcases h.own b ho with h1 | h1
  · exact (hS b hb).1 h1
  · have := (hS b hb).2; omega, by have := (hS b hb).2; have := h.turned.size; omega⟩
theorem LSt.later (h : LSt st w wx base g O s l k O' s') (hb : Below wx.heap.size wx w2) : LSt st w w2 base g O s l k O' s' := ⟨h.at_.below hb, h.is, h.few, h.turned.below_ hb, h.own⟩
theorem LSt.next (h : LSt st w wx base g O s l k O' s') (hst : StepW st) (hx : l[k]? = some x) {e : Ending} (hw : Wrote wx base g O' (st s' x) e w2) : ∃ O2, LSt st w w2 base g O s l (k + 1) O2 (st s' x) := by
  obtain ⟨rfl, O2, hA, ht, ho⟩ := hw
  refine ⟨O2, hA, ?_, hst.few _ _ h.few, h.turned.trans ht fun j hj hj2 => ?_, fun j hj => ?_⟩
  · rw [List.take_add_one, hx, List.foldl_append, ← h.is]; rfl
  · rcases h.own j hj2 with h1 | h1
    · exact h1
    · omega
  · rcases ho j hj with h1 | h1
    · exact h.own j h1
    · exact .inr (by have := h.turned.size; omega)
theorem LSt.most (h : LSt st w wx base g O s l k O' s') (hst : StepW st) (hx : l[k]? = some x) (hm : (WS.list st s l).out.length ≤ mostB) : (st s' x).out.length ≤ mostB := by
  have e : l = l.take k ++ x :: l.drop (k + 1) := by
    have hk : k < l.length := (List.getElem?_eq_some_iff.1 hx).1
    have hx' : l[k] = x := by rw [List.getElem?_eq_getElem hk] at hx; injection hx
    rw [← hx', ← List.drop_eq_getElem_cons hk, List.take_append_drop]
  have h1 : WS.list st s l = (l.drop (k + 1)).foldl st (st s' x) := by
    unfold WS.list
    conv => lhs; rw [e]
    rw [List.foldl_append, ← e, ← h.is]
    rfl
  rw [h1] at hm
  exact Nat.le_trans (hst.fold _ _).1 hm
theorem LSt.done (h : LSt st w wx base g O s l k O' s') (hk : k = l.length) : Wrote w base g O (WS.list st s l) (.returned (.tuple #[])) wx := by
  subst hk
  have := h.is
  rw [List.take_length] at this
  exact ⟨rfl, O', by rw [show WS.list st s l = s' from this.symm]; exact h.at_, h.turned, h.own⟩
end
/-- What is written of a dependency in memory. -/
def AskD (st : WS → Dep → WS) (w : World) (base g : Nat) (S : Nat → Prop) (f : FuncId) (d : Dep) : Prop :=
  ∀ (w' : World) (O' : Nat → Prop) (s' : WS) (t : Value), w.heap.size ≤ w'.heap.size → WrAt w' base g O' s' → s'.Few → OutS w' O' S → Lay w' S d t → (st s' d).out.length ≤ mostB → Calls Tryz.prog f #[.pointer (some ⟨g, 0, none⟩), .agg (rowD d t)] w' (Wrote w' base g O' (st s' d))
set_option maxHeartbeats 4000000 in
set_option maxRecDepth 100000 in
theorem writeDeps_any (f : FuncId) (ef : ∀ args w, (callFunc f args).run Tryz.prog w = .ok (.enter f args) w) {st : WS → Dep → WS} (hst : StepW st) {w : World} {base g : Nat} {O : Nat → Prop} {s : WS} (h : WrAt w base g O s) (hf : s.Few) (ds : List Dep) (A : Option Addr) (c : Nat) (S : Nat → Prop)
    (hA : ArgsAt w S ds A) (hl : ds.length ≤ c) (hc : c ≤ maxLen) (hS : OutS w O S) (hask : ∀ d ∈ ds, AskD st w base g S f d) (hm : (WS.list st s ds).out.length ≤ mostB) :
    Calls Tryz.prog 166 #[.pointer (some ⟨g, 0, none⟩), .slice A ds.length c, .func (.func f) #[.pointer (some ⟨g, 0, none⟩)] #[]] w (Wrote w base g O (WS.list st s ds)) := by
  unfold maxLen at hc
  have CN := Lib.hid (wnum_any h (ds.length : Int) (Nat.le_trans (hst.fold ds _).1 hm))
  have HA := Lib.hid (And.intro hA (And.intro hS (And.intro hask hm)))
  have HST := Lib.hid hst
  have HF := Lib.hid hf
  clear h hA hS hask hm hst hf
  go_enter Tryz.func166, Tryz.ntmps166
  go_wp2_with fail
  refine CN.out.mono ?_
  rintro e w1 ⟨rfl, O1, hA1, hT1, hO1⟩
  have H0 : Hid (∃ O' s', LSt st w w1 base g O s ds 0 O' s') := ⟨O1, _, hA1, rfl, HF.out.num _, hT1, hO1⟩
  clear hA1 hT1 hO1 CN
  go_wp2_with fail
  go_loopw [14] (fun v wx => ∃ k : Nat, k ≤ ds.length ∧ v = .int .i64 (k : Int) ∧ Hid (∃ O' s', LSt st w wx base g O s ds k O' s')) (fun v _ => ds.length - (intOf v).toNat)
  case atStart => exact ⟨0, Nat.zero_le _, rfl, H0⟩
  case round =>
    clear H0
    obtain ⟨k, hk, rfl, HB⟩ := hrel
    by_cases hlt : k < ds.length
    · obtain ⟨d, hd⟩ : ∃ d, ds[k]? = some d := ⟨_, List.getElem?_eq_getElem hlt⟩
      obtain ⟨O', s', hL⟩ := HB.out
      have hAr := HA.out.1.stay (fun _ h => h) (hL.stay HA.out.2.1)
      obtain ⟨b, o, t, rfl, hSb, ⟨q0, q1, q2, q3, q4⟩, hLay⟩ := hAr k d hd
      obtain ⟨At, ct, rfl, _, _⟩ := hLay.form_
      have hba : Below wr.heap.size wr (wr.alloc (.cells (rowD d (.slice At d.args.length ct)) 50)) := (Below.refl _ _).alloc (Nat.le_refl _) _
      have hL2 := hL.later hba
      have CF := Lib.hid (HA.out.2.2.1 d (List.mem_of_getElem? hd) (wr.alloc (.cells (rowD d (.slice At d.args.length ct)) 50)) O' s' (.slice At d.args.length ct) (by have := hL2.turned.size; exact this) hL2.at_ hL2.few (hL2.out HA.out.2.1) (hLay.stay (fun _ h => h) (StayS.below' hba)) (hL2.most HST.out hd HA.out.2.2.2))
      have HL2 := Lib.hid hL2
      have HD := Lib.hid hd
      unfold rowD at CF HL2
      clear hAr hLay hba hL hL2 hd HB hSb
      go_wp2_with fail
      refine CF.out.mono ?_
      intro e w2 hw
      obtain ⟨O2, hN⟩ := HL2.out.next HST.out HD.out hw
      have HN : Hid (∃ O' s', LSt st w w2 base g O s ds (k + 1) O' s') := ⟨_, _, hN⟩
      obtain ⟨rfl, -⟩ := hw
      clear hN CF HL2 HD q0 q1 q2 q3 q4
      go_wp2_with fail
      go_roundw
      case rel => exact ⟨k + 1, by omega, by go_num, HN⟩
      case measure => simp [intOf]; omega
    · obtain rfl : k = ds.length := by omega
      have HV : Hid (Wrote w base g O (WS.list st s ds) (.returned (.tuple #[])) wr) := by
        obtain ⟨O', s', hL⟩ := HB.out
        exact hL.done rfl
      clear hlt HB
      go_wp2_with fail
      go_end0
      exact HV.out
end Go.Proofs.YtpmfmkpfjomgnaaGreatDoor

/- A writer's dependency. -/
namespace Go.Proofs.YtpmfmkpfjomgnaaGreatDoor
set_option linter.unusedSimpArgs false
set_option linter.unusedVariables false
open Go.RowKit

/-- What a writer has laid since w. -/
structure Wacc (w wx : World) (base g : Nat) (O O' : Nat → Prop) (s' : WS) : Prop where
  at_ : WrAt wx base g O' s'
  few : s'.Few
  turned : TurnedP O w wx
  own : ∀ j, O' j → O j ∨ w.heap.size ≤ j
section
variable {w w0 wx w2 : World} {base g : Nat} {O O' S : Nat → Prop} {s s' s2 : WS}
theorem Wacc.start (h : WrAt w base g O s) (hf : s.Few) : Wacc w w base g O O s := ⟨h, hf, TurnedP.refl _ _, fun _ h => .inl h⟩
theorem Wacc.stay (h : Wacc w wx base g O O' s') (hS : OutS w O S) : StayS S w wx := fun b hb hl => h.turned.block b hl (hS b hb).1
theorem Wacc.out (h : Wacc w wx base g O O' s') (hS : OutS w O S) : OutS wx O' S := fun b hb => ⟨fun ho => by
  rcases h.own b ho with h1 | h1
  · exact (hS b hb).1 h1
  · have := (hS b hb).2; omega, by have := (hS b hb).2; have := h.turned.size; omega⟩
theorem Wacc.later (h : Wacc w wx base g O O' s') (hb : Below wx.heap.size wx w2) : Wacc w w2 base g O O' s' := ⟨h.at_.below hb, h.few, h.turned.below_ hb, h.own⟩
theorem Wacc.next (h : Wacc w wx base g O O' s') (hf : s2.Few) {e : Ending} (hw : Wrote wx base g O' s2 e w2) : ∃ O2, Wacc w w2 base g O O2 s2 := by
  obtain ⟨rfl, O2, hA, ht, ho⟩ := hw
  refine ⟨O2, hA, hf, h.turned.trans ht fun j hj hj2 => ?_, fun j hj => ?_⟩
  · rcases h.own j hj2 with h1 | h1
    · exact h1
    · omega
  · rcases ho j hj with h1 | h1
    · exact h.own j h1
    · exact .inr (by have := h.turned.size; omega)
theorem Wacc.done (h : Wacc w wx base g O O' s') (hb : Below w0.heap.size w0 w) : Wrote w0 base g O s' (.returned (.tuple #[])) wx :=
  ⟨rfl, O', h.at_, (TurnedP.of_below hb O).trans h.turned (fun _ _ h => h), fun j hj => (h.own j hj).imp id fun h1 => by have := hb.size; omega⟩
theorem OutS.and (h : OutS w O S) {b : Nat} (hb : ¬ O b ∧ b < w.heap.size) : OutS w O (fun j => S j ∨ j = b) := fun j hj => by
  rcases hj with hj | rfl
  · exact h j hj
  · exact hb
theorem OutS.below (h : OutS w O S) (hz : w.heap.size ≤ w2.heap.size) : OutS w2 O S := fun j hj => ⟨(h j hj).1, by have := (h j hj).2; omega⟩
end
mutual
def depW : Dep → WS → WS
  | .mk k n o e ds, s => depsW ds (((((s.num k).text n).num o).text e).num (ds.length : Int))
def depsW : List Dep → WS → WS
  | [], s => s
  | a :: r, s => depsW r (depW a s)
end
def WS.dep (s : WS) (d : Dep) : WS := depW d s
theorem depsW_is : ∀ (l : List Dep) (s : WS), depsW l s = l.foldl WS.dep s
  | [], s => rfl
  | a :: r, s => by simp only [depsW, List.foldl_cons]; exact depsW_is r _
theorem WS.dep_is (s : WS) (d : Dep) : s.dep d = WS.list WS.dep ((((s.num d.kind).text d.name).num d.op).text d.evr) d.args := by
  obtain ⟨k, n, o, e, ds⟩ := d
  show depW _ _ = _
  simp only [depW, depsW_is]
  rfl
theorem num_more (s : WS) (n : Int) : s.out.length ≤ (s.num n).out.length := by rw [WS.num_out]; omega
theorem foldl_more {st : WS → Dep → WS} : ∀ (l : List Dep) (s : WS), (∀ a ∈ l, ∀ s, s.out.length ≤ (st s a).out.length ∧ (s.Few → (st s a).Few)) → s.out.length ≤ (l.foldl st s).out.length ∧ (s.Few → (l.foldl st s).Few)
  | [], s, _ => ⟨Nat.le_refl _, fun h => h⟩
  | x :: l, s, h => by
    have h1 := h x (by simp) s
    have h2 := foldl_more l (st s x) (fun a ha => h a (by simp [ha]))
    exact ⟨Nat.le_trans h1.1 h2.1, fun hf => h2.2 (h1.2 hf)⟩
theorem dep_more (d : Dep) : ∀ s : WS, s.out.length ≤ (s.dep d).out.length ∧ (s.Few → (s.dep d).Few) := by
  induction d using Dep.ind with
  | h k n o e ds ih =>
    intro s
    rw [WS.dep_is]
    have h := foldl_more ds (((((s.num k).text n).num o).text e).num (ds.length : Int)) ih
    have h0 := num_more s k
    have h1 := WS.text_out (s.num k) n
    have h2 := num_more ((s.num k).text n) o
    have h3 := WS.text_out (((s.num k).text n).num o) e
    have h4 := num_more ((((s.num k).text n).num o).text e) (ds.length : Int)
    refine ⟨Nat.le_trans (Nat.le_trans (Nat.le_trans (Nat.le_trans (Nat.le_trans h0 h1) h2) h3) h4) h.1, fun hf => h.2 ((((((hf.num _).text _).num _).text _).num _))⟩
theorem StepW.dep : StepW WS.dep := ⟨fun s d => (dep_more d s).1, fun s d => (dep_more d s).2⟩
set_option maxHeartbeats 4000000 in
set_option maxRecDepth 100000 in
theorem wdep_node (w : World) (base g : Nat) (S : Nat → Prop) (d : Dep) (hsm : small d) (ih : ∀ a ∈ d.args, AskD WS.dep w base g S 167 a) : AskD WS.dep w base g S 167 d := by
  intro w' O' s' t hz hAt hFew hOut hLay hm
  obtain ⟨A, c, rfl, hl, hc, hArgs⟩ := hLay.args_
  obtain ⟨hn1, hn2, -⟩ := small_parts hsm
  obtain ⟨w1, hw1⟩ : ∃ w1, w1 = w'.alloc (.cells (rowD d (.slice A d.args.length c)) 50) := ⟨_, rfl⟩
  have hb1 : Below w'.heap.size w' w1 := by rw [hw1]; exact (Below.refl _ _).alloc (Nat.le_refl _) _
  have K1 : Blk w1 w'.heap.size 50 (rowD d (.slice A d.args.length c)) := by rw [hw1]; exact Blk.new _ _ _
  have hO1 : OutS w1 O' (fun j => S j ∨ j = w'.heap.size) := (hOut.below hb1.size).and ⟨fun ho => by have := (hAt.O_lt ho).2; omega, K1.lt⟩
  have hW1 : Wacc w1 w1 base g O' O' s' := Wacc.start (hAt.below hb1) hFew
  rw [WS.dep_is] at hm ⊢
  obtain ⟨s1, hs1⟩ : ∃ s1, s1 = s'.num d.kind := ⟨_, rfl⟩
  obtain ⟨s2, hs2⟩ : ∃ s2, s2 = s1.text d.name := ⟨_, rfl⟩
  obtain ⟨s3, hs3⟩ : ∃ s3, s3 = s2.num d.op := ⟨_, rfl⟩
  obtain ⟨s4, hs4⟩ : ∃ s4, s4 = s3.text d.evr := ⟨_, rfl⟩
  rw [← hs1, ← hs2, ← hs3, ← hs4] at hm ⊢
  have f1 : s1.Few := by rw [hs1]; exact hFew.num _
  have f2 : s2.Few := by rw [hs2]; exact f1.text _
  have f3 : s3.Few := by rw [hs3]; exact f2.num _
  have f4 : s4.Few := by rw [hs4]; exact f3.text _
  have m4 : s4.out.length ≤ mostB := Nat.le_trans (StepW.dep.list.more s4 d.args) hm
  have m3 : s3.out.length ≤ mostB := Nat.le_trans (by rw [hs4]; exact WS.text_out _ _) m4
  have m2 : s2.out.length ≤ mostB := Nat.le_trans (by rw [hs3]; exact num_more _ _) m3
  have m1 : s1.out.length ≤ mostB := Nat.le_trans (by rw [hs2]; exact WS.text_out _ _) m2
  have HB1 := Lib.hid hb1
  have HR : Hid (∀ (wx : World) (O2 : Nat → Prop) (sx : WS), Wacc w1 wx base g O' O2 sx → Blk wx w'.heap.size 50 (rowD d (.slice A d.args.length c)) ∧ ArgsAt wx S d.args A ∧ OutS wx O2 S) := fun wx O2 sx ha => by
    have hst := ha.stay hO1
    exact ⟨(hst _ (.inr rfl) K1.lt).trans K1, (hArgs.stay (fun _ h => h) (StayS.below' hb1)).stay (fun _ h => h) (fun b hb hl => hst b (.inl hb) hl), fun b hb => ha.out hO1 b (.inl hb)⟩
  have C1 := Lib.hid (wnum_any hW1.at_ d.kind (by rw [← hs1]; exact m1))
  rw [← hs1] at C1
  have HW1 := Lib.hid hW1
  have HZ : Hid (w.heap.size ≤ w1.heap.size) := Nat.le_trans hz hb1.size
  have HX := Lib.hid (And.intro f1 (And.intro f2 (And.intro f3 (And.intro f4 (And.intro m2 (And.intro m3 (And.intro m4 hm)))))))
  have HS := Lib.hid (And.intro hs2 (And.intro hs3 hs4))
  have HI := Lib.hid ih
  have HN := Lib.hid (And.intro hn1 hn2)
  have HC := Lib.hid (And.intro hl hc)
  have k0 := K1.cell 0
  have k1 := K1.cell 1
  have k2 := K1.cell 2
  have k3 := K1.cell 3
  have k4 := K1.cell 4
  unfold rowD at k0 k1 k2 k3 k4 hw1
  simp at k0 k1 k2 k3 k4
  clear hb1 K1 hO1 hW1 hm f1 f2 f3 f4 m1 m2 m3 m4 hz ih hn1 hn2 hl hc hLay hArgs hOut hAt hFew hs1 hs2 hs3 hs4 hsm
  unfold rowD
  go_enter Tryz.func167, Tryz.ntmps167
  go_upto_region 1 with fail
  rw [← hw1]
  clear hw1
  go_wp2_with fail
  refine C1.out.mono ?_
  intro e w2 hw
  obtain ⟨O2, hW2⟩ := HW1.out.next HX.out.1 hw
  obtain ⟨rfl, -⟩ := hw
  obtain ⟨K2, -, -⟩ := HR.out _ _ _ hW2
  have C2 := Lib.hid (wtext_any hW2.at_ d.name (by have := HN.out.1; unfold maxLen; omega) hW2.few (by rw [← HS.out.1]; exact HX.out.2.2.2.2.1))
  rw [← HS.out.1] at C2
  have HW2 := Lib.hid hW2
  clear C1 hW2 k0 k1 k2 k3 k4 HW1
  have k0 := K2.cell 0
  have k1 := K2.cell 1
  have k2 := K2.cell 2
  have k3 := K2.cell 3
  have k4 := K2.cell 4
  unfold rowD at k0 k1 k2 k3 k4
  simp at k0 k1 k2 k3 k4
  clear K2
  go_wp2_with fail
  refine C2.out.mono ?_
  intro e w3 hw
  obtain ⟨O3, hW3⟩ := HW2.out.next HX.out.2.1 hw
  obtain ⟨rfl, -⟩ := hw
  obtain ⟨K3, -, -⟩ := HR.out _ _ _ hW3
  have C3 := Lib.hid (wnum_any hW3.at_ d.op (by rw [← HS.out.2.1]; exact HX.out.2.2.2.2.2.1))
  rw [← HS.out.2.1] at C3
  have HW3 := Lib.hid hW3
  clear C2 hW3 k0 k1 k2 k3 k4 HW2
  have k0 := K3.cell 0
  have k1 := K3.cell 1
  have k2 := K3.cell 2
  have k3 := K3.cell 3
  have k4 := K3.cell 4
  unfold rowD at k0 k1 k2 k3 k4
  simp at k0 k1 k2 k3 k4
  clear K3
  go_wp2_with fail
  refine C3.out.mono ?_
  intro e w4 hw
  obtain ⟨O4, hW4⟩ := HW3.out.next HX.out.2.2.1 hw
  obtain ⟨rfl, -⟩ := hw
  obtain ⟨K4, -, -⟩ := HR.out _ _ _ hW4
  have C4 := Lib.hid (wtext_any hW4.at_ d.evr (by have := HN.out.2; unfold maxLen; omega) hW4.few (by rw [← HS.out.2.2]; exact HX.out.2.2.2.2.2.2.1))
  rw [← HS.out.2.2] at C4
  have HW4 := Lib.hid hW4
  clear C3 hW4 k0 k1 k2 k3 k4 HW3
  have k0 := K4.cell 0
  have k1 := K4.cell 1
  have k2 := K4.cell 2
  have k3 := K4.cell 3
  have k4 := K4.cell 4
  unfold rowD at k0 k1 k2 k3 k4
  simp at k0 k1 k2 k3 k4
  clear K4
  go_wp2_with fail
  refine C4.out.mono ?_
  intro e w5 hw
  obtain ⟨O5, hW5⟩ := HW4.out.next HX.out.2.2.2.1 hw
  obtain ⟨rfl, -⟩ := hw
  obtain ⟨K5, hA5, hS5⟩ := HR.out _ _ _ hW5
  have C5 := Lib.hid (writeDeps_any 167 (enters_of Tryz.func167 (by kernel_rfl) rfl) StepW.dep hW5.at_ hW5.few d.args A c S hA5 HC.out.1 HC.out.2 hS5 (fun a ha w6 O6 s6 t6 hz6 => HI.out a ha w6 O6 s6 t6 (by have := HZ.out; have := hW5.turned.size; omega)) HX.out.2.2.2.2.2.2.2)
  have HW5 := Lib.hid hW5
  clear C4 hW5 k0 k1 k2 k3 k4 HW4 hA5 hS5
  have k0 := K5.cell 0
  have k1 := K5.cell 1
  have k2 := K5.cell 2
  have k3 := K5.cell 3
  have k4 := K5.cell 4
  unfold rowD at k0 k1 k2 k3 k4
  simp at k0 k1 k2 k3 k4
  clear K5
  go_wp2_with fail
  refine C5.out.mono ?_
  intro e w6 hw
  obtain ⟨O6, hW6⟩ := HW5.out.next (StepW.dep.list.few _ _ HW5.out.few) hw
  obtain ⟨rfl, -⟩ := hw
  have HV := Lib.hid (hW6.done HB1.out)
  clear C5 hW6 k0 k1 k2 k3 k4 HW5
  go_wp2_with fail
  go_end0
  exact HV.out
theorem wdep_any (w : World) (base g : Nat) (S : Nat → Prop) (d : Dep) : small d → AskD WS.dep w base g S 167 d := by
  induction d using Dep.ind with
  | h k n o e ds ih => exact fun hsm => wdep_node w base g S _ hsm fun a ha => ih a ha ((small_parts hsm).2.2 a ha)
end Go.Proofs.YtpmfmkpfjomgnaaGreatDoor
