/- Words for slices that are read, and for rows of the call's own; appending what is read. -/
import Derived.Test.YthgagobdkcikiaaDoorIPlain
import Derived.Test.YthgagobdkcikiaaDoorRows
import Derived.WalkKit
import Derived.WalkSpells
import Derived.Lib.Hide
import Derived.Lib.Bytes
import Derived.Deep.Light
import Derived.WalkLawsBesides
namespace Go.Proofs.YthgagobdkcikiaaDoor.Ids
open Go.RowKit

/-- A slice's head A leads, below block B, to cells that hold xs. -/
def Rd (w : World) (B : Nat) (A : Option Addr) (xs : List Value) : Prop :=
  ∀ k v, xs[k]? = some v → ∃ b o, A = some ⟨b, o, none⟩ ∧ b < B ∧ w.cell? ⟨b, o + k, none⟩ = some v

theorem ret3 {i j k : IntKind} {a b c a' b' c' : Int} (h1 : a = a') (h2 : b = b') (h3 : c = c') :
    Ending.returned (.tuple #[.int i a, .int j b, .int k c]) = Ending.returned (.tuple #[.int i a', .int j b', .int k c']) := by rw [h1, h2, h3]
theorem retB {a b : Bool} (h : a = b) : Ending.returned (.bool a) = .returned (.bool b) := by rw [h]

/-- A slice's length: for a loop's measure. -/
def lenOf : Value → Nat
  | .slice _ n _ => n
  | _ => 0

def u8s (bs : List Nat) : List Value := bs.map fun x => Value.int .u8 ((x : Nat) : Int)
def i64s (zs : List Int) : List Value := zs.map fun x => Value.int .i64 x
theorem u8s_append (a b : List Nat) : u8s (a ++ b) = u8s a ++ u8s b := by simp [u8s]
theorem i64s_append (a b : List Int) : i64s (a ++ b) = i64s a ++ i64s b := by simp [i64s]
theorem u8s_len (a : List Nat) : (u8s a).length = a.length := by simp [u8s]
theorem i64s_len (a : List Int) : (i64s a).length = a.length := by simp [i64s]
theorem u8s_one (a : List Nat) : ∀ u ∈ u8s a, u.oneCell' = true := by
  intro u hu; obtain ⟨x, _, rfl⟩ := List.mem_map.1 hu; rfl
theorem i64s_one (a : List Int) : ∀ u ∈ i64s a, u.oneCell' = true := by
  intro u hu; obtain ⟨x, _, rfl⟩ := List.mem_map.1 hu; rfl

theorem Rd.nil {w : World} {B : Nat} {A : Option Addr} : Rd w B A [] := fun k v h => by simp at h
theorem Rd.below {w w' : World} {B B' : Nat} {A : Option Addr} {xs : List Value} (h : Rd w B A xs) (hb : Below B' w w') (hB : B ≤ B') : Rd w' B A xs := fun k v hk => by
  obtain ⟨b, o, rfl, hlt, hc⟩ := h k v hk
  exact ⟨b, o, rfl, hlt, (World.cell?_of_block (hb.block b (Nat.lt_of_lt_of_le hlt hB))).trans hc⟩
theorem Rd.more {w : World} {B B' : Nat} {A : Option Addr} {xs : List Value} (h : Rd w B A xs) (hB : B ≤ B') : Rd w B' A xs := fun k v hk => by
  obtain ⟨b, o, e, hlt, hc⟩ := h k v hk
  exact ⟨b, o, e, Nat.lt_of_lt_of_le hlt hB, hc⟩
theorem Rd.take {w : World} {B : Nat} {A : Option Addr} {xs : List Value} (h : Rd w B A xs) (n : Nat) : Rd w B A (xs.take n) := fun k v hk => by
  rw [List.getElem?_take] at hk
  split at hk
  · exact h k v hk
  · cases hk
theorem Rd.own {w : World} {base : Nat} {e : TypeId} {A : Option Addr} {n c : Nat} {xs : List Value} (h : w.ownsRow base e 1 (.slice A n c) n xs) : Rd w w.heap.size A xs := fun k v hk => by
  rcases h.2 with ⟨hv, hn⟩ | ⟨g, cap, cur, hv, hb, hg, hle, hm, hs, ht⟩
  · have := h.1; subst hn; have : xs = [] := List.eq_nil_of_length_eq_zero (by omega); subst this; simp at hk
  · have hA : A = some ⟨g, 0, none⟩ := by injection hv
    subst hA
    have hlt := h.lt g rfl
    have := h.cells (g := g) rfl k v hk
    refine ⟨g, 0, rfl, hlt.2, ?_⟩
    have e : (⟨g, 0, none⟩ : Addr).add k = ⟨g, 0 + k, none⟩ := by unfold Addr.add; split <;> simp_all
    rw [e] at this
    exact this
theorem Rd.new1 (w : World) (u : Value) (t : TypeId) : Rd (w.alloc (.cells #[u] t)) (w.heap.size + 1) (some ⟨w.heap.size, 0, none⟩) [u] := fun k v hk => by
  cases k with
  | zero =>
    have : u = v := by simpa using hk
    subst this
    refine ⟨w.heap.size, 0, rfl, by omega, ?_⟩
    rw [World.cell?_alloc_at _ _ _ _ rfl]; rfl
  | succ k => simp at hk
theorem Rd.newN (w : World) (us : Array Value) (t : TypeId) : Rd (w.alloc (.cells us t)) (w.heap.size + 1) (some ⟨w.heap.size, 0, none⟩) us.toList := fun k v hk => by
  refine ⟨w.heap.size, 0, rfl, by omega, ?_⟩
  rw [World.cell?_alloc_at _ _ _ _ rfl, Nat.zero_add]
  rwa [Array.getElem?_toList] at hk
theorem below_drewN {B : Nat} {a w : World} (h : Below B a w) (k : Nat) : Below B a (w.drewN k) := ⟨h.os, h.tape, h.output, h.size, h.block⟩
theorem own_drewN {w : World} {base n : Nat} {e : TypeId} {v : Value} {xs : List Value} (h : w.ownsRow base e 1 v n xs) (k : Nat) : (w.drewN k).ownsRow base e 1 v n xs := h
theorem own_form {w : World} {base n : Nat} {e : TypeId} {v : Value} {xs : List Value} (h : w.ownsRow base e 1 v n xs) : xs.length = n ∧ ∃ A c, v = .slice A n c ∧ n ≤ c ∧ c ≤ maxLen := by
  refine ⟨by have := h.1; omega, ?_⟩
  rcases h.2 with ⟨rfl, rfl⟩ | ⟨g, cap, cur, rfl, _, _, h1, h2, _⟩
  · exact ⟨none, 0, rfl, Nat.le_refl _, by simp [maxLen]⟩
  · exact ⟨_, cap, rfl, h1, h2⟩
/-- A row of the call's own stays, whatever turns above it. -/
theorem own_below {w w' : World} {base n B : Nat} {e : TypeId} {v : Value} {xs : List Value} (h : w.ownsRow base e 1 v n xs) (hb : Below B w w') (hB : w.heap.size ≤ B) : w'.ownsRow base e 1 v n xs :=
  h.kept (row := none) ⟨hb.os, hb.tape, hb.output, hb.size, fun k hk _ => hb.block k (by omega)⟩ (by
    rcases h.2 with ⟨rfl, _⟩ | ⟨g, cap, cur, rfl, _⟩
    · exact .inl rfl
    · exact .inr (by simp [Value.ownBlock]))
theorem own_base {w : World} {base base' n : Nat} {e : TypeId} {v : Value} {xs : List Value} (h : w.ownsRow base e 1 v n xs) (hb : base' ≤ base) : w.ownsRow base' e 1 v n xs :=
  ⟨h.1, h.2.imp id fun ⟨g, cap, cur, h1, h2, r⟩ => ⟨g, cap, cur, h1, by omega, r⟩⟩

section
variable {P : Program} (w : World)
theorem run_app (t ty e : TypeId) (i : TypeInfo) (z : Value) (bytes : Nat) (ht : P.underlying t = some (.slice e)) (hi : P.info? e = some i) (hz : i.zero = some z) (hsize : i.size = 1) (hby : i.bytes = bytes)
    (hzs : z.cells.size = 1) (base : Nat) (v : Value) (n : Nat) (xs : List Value) (hown : w.ownsRow base e 1 v n xs) (B : Nat) (A : Option Addr) (m c : Nat) (news : List Value) (hl : news.length = m) (hr : Rd w B A news)
    (h1 : ∀ u ∈ news, u.oneCell' = true) (h63 : n + m ≤ maxLen) (hbytes : (n + m) * bytes ≤ 140737488355328) (hbase : base ≤ w.heap.size) :
    ∃ v' w', (Builtin.append_ #[t, t] ty #[v, .slice A m c]).run P w = .ok v' w' ∧ w'.ownsRow base e 1 v' (n + m) (xs ++ news) ∧ Below base w w' ∧ w.grownBy w' v.ownBlock := by
  cases A with
  | none =>
    have hn : news = [] := by
      cases news with
      | nil => rfl
      | cons u r => obtain ⟨b, o, h, _⟩ := hr 0 u rfl; cases h
    subst hn
    subst hl
    refine ⟨v, w, ?_, by simpa using hown, Below.refl _ _, World.grownBy.refl w _⟩
    rcases hown.2 with ⟨rfl, rfl⟩ | ⟨g, cap, cur, rfl, _, _, hle, _⟩
    · simp [Builtin.append_, run_underlying ht, sizeOf, typeInfo, hi, Builtin.lenOf, Builtin.firstCells]
    · simp [Builtin.append_, run_underlying ht, sizeOf, typeInfo, hi, Builtin.lenOf, Builtin.firstCells, hle, storeCells]
  | some ad =>
    have hcells : ∀ j u, news[j]? = some u → w.cell? (ad.add j) = some u := fun j u hu => by
      obtain ⟨b, o, h, _, hc⟩ := hr j u hu
      injection h with h
      subst h
      have e : (⟨b, o, none⟩ : Addr).add j = ⟨b, o + j, none⟩ := by unfold Addr.add; split <;> simp_all
      rw [e]; exact hc
    obtain ⟨v', w', hrun, h2, h3, _⟩ := run_append_own (P := P) w base t ty e i z 1 bytes ht hi hz hsize hby hzs (by decide) v n xs hown ad m c news (by omega) hcells h1 h63 hbytes hbase
    exact ⟨v', w', hrun, h2, (Below.refl base w).grown h3 hbase fun k hk => (hown.lt k hk).1, h3⟩

theorem wpList_app {ops : Array Oper} {rest : List Oper} {o : Oper} {a : Act} {Q : Exit → Act → World → Prop} (hgd : o.guard = none) (s x : Operand) (t : TypeId)
    (ho : o.op = .call { callee := .builtin .append, args := #[s, x], argTypes := #[t, t] })
    (e : TypeId) (i : TypeInfo) (z : Value) (bytes : Nat) (ht : P.underlying t = some (.slice e)) (hi : P.info? e = some i) (hz : i.zero = some z) (hsize : i.size = 1) (hby : i.bytes = bytes) (hzs : z.cells.size = 1)
    (base : Nat) (v : Value) (n : Nat) (xs : List Value) (hs : a.eval s = v) (hown : w.ownsRow base e 1 v n xs) (B : Nat) (A : Option Addr) (m c : Nat) (news : List Value) (hx : a.eval x = .slice A m c)
    (hl : news.length = m) (hr : Rd w B A news) (h1 : ∀ u ∈ news, u.oneCell' = true) (h63 : n + m ≤ maxLen) (hbytes : (n + m) * bytes ≤ 140737488355328) (hbase : base ≤ w.heap.size)
    (h : ∀ v' w', w'.ownsRow base e 1 v' (n + m) (xs ++ news) → Below base w w' → wpList P ops Q rest (a.put o.dst v') w') : wpList P ops Q (o :: rest) a w :=
  wpList_plain hgd fun K hK => by
    obtain ⟨v', w', hrun, h2, h3, _⟩ := run_app (P := P) w t o.type e i z bytes ht hi hz hsize hby hzs base v n xs hown B A m c news hl hr h1 h63 hbytes hbase
    unfold Oper.wp execOp
    simp only [ho, resolve, invoke, builtin, Sem.run_bind, Sem.run_pure, Result.andThen_ok, List.map_toArray, List.map_cons, List.map_nil, hs, hx, hrun]
    exact hK _ _ (h v' w' h2 h3)
end

/-- What is known of a slice of integers that came in. -/
def IsRow (k : IntKind) (w : World) (a : Option Addr) (len cap : Nat) (zs : List Int) : Prop :=
  (a = none ∧ len = 0 ∧ cap = 0 ∧ zs = []) ∨
  ∃ x, a = some x ∧ len ≤ cap ∧ cap ≤ maxLen ∧ zs.length = cap ∧ (∀ i, i < zs.length → w.cell? (x.add i) = some (.int k (zs.getD i 0))) ∧ ∀ n ∈ zs, (Lit.int k n).wf = true

theorem cell_lt {w : World} {a : Addr} {v : Value} (h : w.cell? a = some v) : a.block < w.heap.size := by
  rcases Nat.lt_or_ge a.block w.heap.size with hl | hl
  · exact hl
  · simp [World.cell?, Array.getElem?_eq_none hl] at h
theorem IsRow.le {k : IntKind} {w : World} {a : Option Addr} {len cap : Nat} {zs : List Int} (h : IsRow k w a len cap zs) : len ≤ cap := by
  rcases h with ⟨_, rfl, rfl, _⟩ | ⟨x, _, h, _⟩
  · exact Nat.le_refl _
  · exact h
theorem IsRow.rd {k : IntKind} {w : World} {a : Option Addr} {len cap : Nat} {zs : List Int} (h : IsRow k w a len cap zs) :
    (zs.take len).length = len ∧ (∀ n ∈ zs.take len, (Lit.int k n).wf = true) ∧ Rd w w.heap.size a ((zs.take len).map fun n => Value.int k n) := by
  rcases h with ⟨rfl, rfl, rfl, rfl⟩ | ⟨x, rfl, hl, hm, hz, hc, hw⟩
  · exact ⟨rfl, by simp, by simpa using Rd.nil⟩
  · refine ⟨by rw [List.length_take]; omega, fun n hn => hw n (List.mem_of_mem_take hn), fun i v hv => ?_⟩
    rw [List.getElem?_map, List.getElem?_take] at hv
    split at hv
    · rename_i hil
      have hi : i < zs.length := by omega
      rw [List.getElem?_eq_getElem hi] at hv
      have hci := hc i hi
      rw [List.getD_eq_getElem?_getD, List.getElem?_eq_getElem hi] at hci
      obtain rfl : Value.int k zs[i] = v := by simpa using hv
      have hs : x.spot = none := by simpa [Addr.add] using World.cell?_spot (hc 0 (by omega))
      have hb := cell_lt hci
      obtain ⟨b, o, sp⟩ := x
      simp only at hs
      subst hs
      have e : (Addr.add ⟨b, o, none⟩ i) = ⟨b, o + i, none⟩ := by
        unfold Addr.add
        split
        · rename_i h0
          subst h0
          rfl
        · rfl
      rw [e] at hci hb
      exact ⟨b, o, rfl, hb, hci⟩
    · simp at hv
theorem IsRow.bytes {w : World} {a : Option Addr} {len cap : Nat} {zs : List Int} (h : IsRow .u8 w a len cap zs) :
    ∃ bs : List Nat, bs.length = len ∧ (∀ x ∈ bs, x < 256) ∧ Rd w w.heap.size a (u8s bs) := by
  obtain ⟨hl, hw, hr⟩ := h.rd
  have hb : ∀ n ∈ zs.take len, 0 ≤ n ∧ n < 256 := fun n hn => by
    have := hw n hn
    simp [Lit.wf, IntKind.min, IntKind.max, IntKind.signed, IntKind.bits] at this
    omega
  refine ⟨(zs.take len).map Int.toNat, by simpa using hl, ?_, ?_⟩
  · intro x hx
    obtain ⟨n, hn, rfl⟩ := List.mem_map.1 hx
    have := hb n hn
    omega
  · have e : u8s ((zs.take len).map Int.toNat) = (zs.take len).map fun n => Value.int .u8 n := by
      unfold u8s
      rw [List.map_map]
      apply List.map_congr_left
      intro n hn
      have := hb n hn
      simp only [Function.comp]
      congr 1
      omega
    rw [e]; exact hr
theorem IsRow.ints {w : World} {a : Option Addr} {len cap : Nat} {zs : List Int} (h : IsRow .i64 w a len cap zs) :
    ∃ xs : List Int, xs.length = len ∧ (∀ x ∈ xs, -9223372036854775808 ≤ x ∧ x ≤ 9223372036854775807) ∧ Rd w w.heap.size a (i64s xs) := by
  obtain ⟨hl, hw, hr⟩ := h.rd
  refine ⟨zs.take len, hl, fun x hx => ?_, hr⟩
  have := hw x hx
  simp [Lit.wf, IntKind.min, IntKind.max, IntKind.signed, IntKind.bits] at this
  omega
theorem u64_nat {n : Int} (h : (Lit.int .u64 n).wf = true) : ∃ x : Nat, n = (x : Int) ∧ x < 2 ^ 64 := by
  simp [Lit.wf, IntKind.min, IntKind.max, IntKind.signed, IntKind.bits] at h
  exact ⟨n.toNat, by omega, by omega⟩

def u64s (ns : List Nat) : List Value := ns.map fun x => Value.int .u64 ((x : Nat) : Int)
theorem IsRow.nats {w : World} {a : Option Addr} {len cap : Nat} {zs : List Int} (h : IsRow .u64 w a len cap zs) :
    ∃ ns : List Nat, ns.length = len ∧ (∀ x ∈ ns, x < 2 ^ 64) ∧ Rd w w.heap.size a (u64s ns) := by
  obtain ⟨hl, hw, hr⟩ := h.rd
  have hb : ∀ n ∈ zs.take len, ∃ x : Nat, n = (x : Int) ∧ x < 2 ^ 64 := fun n hn => u64_nat (hw n hn)
  refine ⟨(zs.take len).map Int.toNat, by simpa using hl, ?_, ?_⟩
  · intro x hx
    obtain ⟨n, hn, rfl⟩ := List.mem_map.1 hx
    obtain ⟨y, rfl, hy⟩ := hb n hn
    simpa using hy
  · have e : u64s ((zs.take len).map Int.toNat) = (zs.take len).map fun n => Value.int .u64 n := by
      unfold u64s
      rw [List.map_map]
      apply List.map_congr_left
      intro n hn
      obtain ⟨y, rfl, _⟩ := hb n hn
      simp [Function.comp]
    rw [e]; exact hr
/-- A slice cut at its head. -/
theorem Rd.cut {w : World} {B c k : Nat} {A : Option Addr} {xs : List Value} (h : Rd w B A xs) (hc : xs.length ≤ c) :
    Rd w B (if c = k then A else A.map (·.add k)) (xs.drop k) := fun i v hi => by
  rw [List.getElem?_drop] at hi
  have hlt : k + i < xs.length := by
    rcases Nat.lt_or_ge (k + i) xs.length with hh | hh
    · exact hh
    · rw [List.getElem?_eq_none hh] at hi; cases hi
  obtain ⟨b, o, rfl, hb, hcell⟩ := h (k + i) v hi
  rw [if_neg (by omega)]
  refine ⟨b, o + k, ?_, hb, by rw [Nat.add_assoc]; exact hcell⟩
  show some (Addr.add ⟨b, o, none⟩ k) = _
  congr 1
  unfold Addr.add
  split
  · rename_i h0; subst h0; rfl
  · rfl

theorem rd_tail {w : World} {B b o : Nat} {x : Int} {xs : List Int} (h : Rd w B (some ⟨b, o, none⟩) (i64s (x :: xs))) : Rd w B (some ⟨b, o + 1, none⟩) (i64s xs) := fun k v hk => by
  obtain ⟨b', o', e, hb, hc⟩ := h (k + 1) v (by simpa [i64s] using hk)
  injection e with e
  injection e with e1 e2
  subst e1
  subst e2
  exact ⟨b, o + 1, rfl, hb, by rw [Nat.add_assoc, Nat.add_comm 1 k]; exact hc⟩
theorem rd_one {w : World} {B c : Nat} {xs : List Int} (h : xs.length + 1 ≤ c) (hc : c = 1) (A : Option Addr) : Rd w B A (i64s xs) := by
  have : xs = [] := List.eq_nil_of_length_eq_zero (by omega)
  subst this
  exact Rd.nil

/-! How much a reading holds. -/
theorem bulk_one {H : Type} (d : DataW H) : 1 ≤ Rows.uptoBulk d := by
  cases d with
  | lit l => cases l <;> simp [Rows.uptoBulk]
  | nil => simp [Rows.uptoBulk]
  | ptr d => simp [Rows.uptoBulk]
  | slice a b => simp [Rows.uptoBulk]
  | agg l => simp [Rows.uptoBulk]
  | iface t d => simp [Rows.uptoBulk]
  | map l => simp [Rows.uptoBulk]
  | held h => simp [Rows.uptoBulk]
theorem bulk_len {H : Type} : ∀ l : List (DataW H), l.length ≤ Rows.uptoBulkAll l
  | [] => Nat.le_refl _
  | d :: l => by have := bulk_one d; have := bulk_len l; simp only [Rows.uptoBulkAll, List.length_cons]; omega
theorem bulk_slice {H : Type} (a b : List (DataW H)) : a.length + b.length ≤ Rows.uptoBulk (.slice a b) := by
  have := bulk_len a; have := bulk_len b; simp only [Rows.uptoBulk]; omega
theorem bulk_part {H : Type} {d : DataW H} : ∀ {l : List (DataW H)}, d ∈ l → Rows.uptoBulk d ≤ Rows.uptoBulkAll l
  | x :: l, h => by
    simp only [Rows.uptoBulkAll]
    rcases List.mem_cons.1 h with rfl | h
    · omega
    · have := bulk_part h; omega

/-! Bytes as a string. -/
def strOf (bs : List Nat) : ByteArray := ⟨(bs.map fun n => UInt8.ofNat n).toArray⟩
theorem strOf_nums (bs : List Nat) : strOfNums (bs.map fun n => ((n : Nat) : Int)) = strOf bs := by
  simp [strOfNums, strOf, Function.comp_def]
theorem strOf_toList (bs : List Nat) : (strOf bs).toList = bs.map fun n => UInt8.ofNat n := by
  rw [← strOf_nums, Lib.strOfNums_toList]
  simp [Lib.bytesOf, Function.comp_def]
theorem strOf_inj {a b : List Nat} (ha : ∀ x ∈ a, x < 256) (hb : ∀ x ∈ b, x < 256) (h : (strOf a).toList = (strOf b).toList) : a = b := by
  rw [strOf_toList, strOf_toList] at h
  have back : ∀ l : List Nat, (∀ x ∈ l, x < 256) → (l.map fun n => UInt8.ofNat n).map UInt8.toNat = l := fun l hl => by
    rw [List.map_map]
    conv => rhs; rw [← List.map_id l]
    apply List.map_congr_left
    intro x hx
    have := hl x hx
    simp [Function.comp]
    omega
  rw [← back a ha, ← back b hb, h]
theorem strOf_ne {a b : List Nat} (ha : ∀ x ∈ a, x < 256) (hb : ∀ x ∈ b, x < 256) (h : a ≠ b) : ((strOf a).toList == (strOf b).toList) = false :=
  beq_eq_false_iff_ne.2 fun e => h (strOf_inj ha hb e)
theorem conv_rd {P : Program} {w : World} {B : Nat} {A : Option Addr} {bs : List Nat} (src e dst : TypeId) (hs : P.underlying src = some (.slice e)) (he : P.underlying e = some (.int .u8)) (hd : P.underlying dst = some .string)
    (n c : Nat) (hl : bs.length = n) (hr : Rd w B A (u8s bs)) : (convert src dst (.slice A n c)).run P w = .ok (.string (strOf bs)) w := by
  have hnone : ∀ A : Option Addr, bs = [] → (convert src dst (.slice A n c)).run P w = .ok (.string (strOf bs)) w := fun A hb => by
    subst hb
    subst hl
    rw [run_convert_bytes_string w src dst e _ _ c hs he hd]
    cases A <;> simp [Conv.bytesToString, loadCells]
    all_goals rfl
  cases bs with
  | nil => exact hnone A rfl
  | cons x r =>
    obtain ⟨b, o, rfl, _, _⟩ := hr 0 (.int .u8 ((x : Nat) : Int)) rfl
    rw [← strOf_nums]
    refine run_convert_bytes_arg w src e hs he b o n c _ (by simpa using hl) (fun i hi => ?_) dst hd
    have hi' : i < (x :: r).length := by omega
    obtain ⟨b', o', h, _, hc⟩ := hr i (.int .u8 (((x :: r)[i]'hi' : Nat) : Int)) (by simp only [u8s, List.getElem?_map, List.getElem?_eq_getElem hi']; rfl)
    injection h with h
    injection h with h1 h2
    subst h1
    subst h2
    rw [hc, List.getD_eq_getElem?_getD, List.getElem?_map, List.getElem?_eq_getElem hi']
    rfl
theorem own_at {w : World} {base g : Nat} {t : TypeId} (h : w.heap[g]? = some (.cells #[] t (0, 0))) (hb : base ≤ g) : w.ownsRow base t 1 (.slice (some ⟨g, 0, none⟩) 0 0) 0 [] :=
  ⟨rfl, .inr ⟨g, 0, #[], rfl, hb, h, Nat.le_refl _, by simp [maxLen], rfl, rfl⟩⟩
theorem Rd.at_ {w : World} {g : Nat} {t : TypeId} {u : Value} (h : w.heap[g]? = some (.cells #[u] t (0, 0))) : Rd w (g + 1) (some ⟨g, 0, none⟩) [u] := fun k v hk => by
  cases k with
  | zero =>
    have : u = v := by simpa using hk
    subst this
    refine ⟨g, 0, rfl, by omega, ?_⟩
    rw [cell_of_row w g _ _ t (0, 0) h]; rfl
  | succ k => simp at hk
theorem own_new0 (w : World) (t : TypeId) : (w.alloc (.cells #[] t)).ownsRow w.heap.size t 1 (.slice (some ⟨w.heap.size, 0, none⟩) 0 0) 0 [] :=
  ⟨rfl, .inr ⟨w.heap.size, 0, #[], rfl, Nat.le_refl _, heap_alloc_new w _, Nat.le_refl _, by simp [maxLen], rfl, rfl⟩⟩

/-! At this program's two kinds of lists. -/
theorem info5 : (Tryd.prog.info? 5).map (fun i => (i.zero, i.size, i.bytes)) = some (some (.int .u8 0), 1, 1) := by kernel_rfl
theorem info3 : (Tryd.prog.info? 3).map (fun i => (i.zero, i.size, i.bytes)) = some (some (.int .i64 0), 1, 8) := by kernel_rfl

theorem app8 {w : World} {ops : Array Oper} {rest : List Oper} {o : Oper} {a : Act} {Q : Exit → Act → World → Prop} (hgd : o.guard = none) (s x : Operand)
    (ho : o.op = .call { callee := .builtin .append, args := #[s, x], argTypes := #[106, 106] })
    (base : Nat) (v : Value) (n : Nat) (xs : List Nat) (hs : a.eval s = v) (hown : w.ownsRow base 5 1 v n (u8s xs)) (B : Nat) (A : Option Addr) (m c : Nat) (news : List Nat) (hx : a.eval x = .slice A m c)
    (hl : news.length = m) (hr : Rd w B A (u8s news)) (hb : n + m ≤ 140737488355328) (hbase : base ≤ w.heap.size)
    (h : ∀ v' w', w'.ownsRow base 5 1 v' (n + m) (u8s (xs ++ news)) → Below base w w' → wpList Tryd.prog ops Q rest (a.put o.dst v') w') : wpList Tryd.prog ops Q (o :: rest) a w := by
  obtain ⟨i0, hi, hz0, hz1, hz2⟩ := info_parts info5
  refine wpList_app w hgd s x 106 ho 5 i0 _ 1 Tryd.underlying106 hi hz0 hz1 hz2 rfl base v n (u8s xs) hs hown B A m c (u8s news) hx (by rw [u8s_len]; exact hl) hr (u8s_one _) (by unfold maxLen; omega) (by omega) hbase ?_
  intro v' w' h1 h2
  exact h v' w' (by rw [u8s_append]; exact h1) h2

theorem app64 {w : World} {ops : Array Oper} {rest : List Oper} {o : Oper} {a : Act} {Q : Exit → Act → World → Prop} (hgd : o.guard = none) (s x : Operand)
    (ho : o.op = .call { callee := .builtin .append, args := #[s, x], argTypes := #[28, 28] })
    (base : Nat) (v : Value) (n : Nat) (xs : List Int) (hs : a.eval s = v) (hown : w.ownsRow base 3 1 v n (i64s xs)) (B : Nat) (A : Option Addr) (m c : Nat) (news : List Int) (hx : a.eval x = .slice A m c)
    (hl : news.length = m) (hr : Rd w B A (i64s news)) (hb : (n + m) * 8 ≤ 140737488355328) (hbase : base ≤ w.heap.size)
    (h : ∀ v' w', w'.ownsRow base 3 1 v' (n + m) (i64s (xs ++ news)) → Below base w w' → wpList Tryd.prog ops Q rest (a.put o.dst v') w') : wpList Tryd.prog ops Q (o :: rest) a w := by
  obtain ⟨i0, hi, hz0, hz1, hz2⟩ := info_parts info3
  refine wpList_app w hgd s x 28 ho 3 i0 _ 8 Tryd.underlying28 hi hz0 hz1 hz2 rfl base v n (i64s xs) hs hown B A m c (i64s news) hx (by rw [i64s_len]; exact hl) hr (i64s_one _) (by unfold maxLen; omega) (by omega) hbase ?_
  intro v' w' h1 h2
  exact h v' w' (by rw [i64s_append]; exact h1) h2

end Go.Proofs.YthgagobdkcikiaaDoor.Ids
