/- Plain facts, of no program: numbers laid as bytes and read again. Words for slices that are read, and for rows of the call's own; appending what is read. The contract of ids.Take: what is read of any bytes. The contract of ids.Put: the bytes as they came, and the number's behind them, in memory of the call's own. A writer in memory: what is laid so far, and the places of the texts; a number is laid. A writer's number. A writer's text: its place; behind a new one, its bytes. A truth. -/
import Derived.Laws.BitsAllLaws
import Derived.Test.YtpmfmkpfjomgnaaGreatDoorRows
import Derived.WalkKit
import Derived.WalkSpells
import Derived.Lib.Hide
import Derived.Lib.Bytes
import Derived.Deep.Light
import Derived.WalkLawsBesides
import Derived.Test.YtpmfmkpfjomgnaaGreatDoorZal
import Derived.Test.YtpmfmkpfjomgnaaGreatDoorZam
import Derived.Lib.AppendStr
import Derived.DeepKeys4
import Derived.WideKeyArgs2
/- Plain facts, of no program: numbers laid as bytes and read again. -/
namespace Go.Proofs.YtpmfmkpfjomgnaaGreatDoor.Ids

/-- A number's bytes: seven bits a byte, the lowest first. The first argument bounds the steps. -/
def putF : Nat → Nat → List Nat
  | 0, n => [n]
  | f + 1, n => if n < 128 then [n] else (n % 128 + 128) :: putF f (n / 128)

/-- What is read from place i on, with the number so far. -/
def takeF : Nat → Nat → List Nat → Nat × Nat × Nat
  | _, _, [] => (0, 0, 10)
  | i, a, c :: r =>
    if i = 9 ∧ 1 < c then (0, 0, 11)
    else if 128 ≤ c then takeF (i + 1) (a + c % 128 * 2 ^ (7 * i)) r
    else if c = 0 ∧ 0 < i then (0, 0, 11) else (a + c % 128 * 2 ^ (7 * i), i + 1, 0)

theorem putF_lt (f n : Nat) (h : n < 128 ^ (f + 1)) : ∀ x ∈ putF f n, x < 256 := by
  induction f generalizing n with
  | zero => intro x hx; simp [putF] at hx; subst hx; simp at h; omega
  | succ f ih =>
    intro x hx
    unfold putF at hx
    by_cases h1 : n < 128
    · rw [if_pos h1] at hx; simp at hx; omega
    · rw [if_neg h1] at hx
      rcases List.mem_cons.1 hx with e | e
      · omega
      · exact ih (n / 128) (by rw [Nat.div_lt_iff_lt_mul (by decide)]; rw [Nat.pow_succ] at h; exact h) x e

theorem putF_len (f n : Nat) : 0 < (putF f n).length ∧ (putF f n).length ≤ f + 1 := by
  induction f generalizing n with
  | zero => simp [putF]
  | succ f ih =>
    unfold putF
    by_cases h1 : n < 128
    · rw [if_pos h1]; simp
    · rw [if_neg h1]; have := ih (n / 128); simp only [List.length_cons]; omega

/-- What was laid is read, whatever stands behind. -/
theorem take_put (f i a n : Nat) (tail : List Nat) (hf : i + f = 9) (hn : n * 2 ^ (7 * i) < 2 ^ 64) (h0 : 0 < i → 0 < n) :
    takeF i a (putF f n ++ tail) = (a + n * 2 ^ (7 * i), i + (putF f n).length, 0) := by
  induction f generalizing i a n with
  | zero =>
    have hi : i = 9 := by omega
    subst hi
    have : n < 2 := by omega
    have h00 := h0 (by omega)
    have : n = 1 := by omega
    subst this
    simp [putF, takeF]
  | succ f ih =>
    have hi9 : i ≠ 9 := by omega
    unfold putF
    by_cases h1 : n < 128
    · rw [if_pos h1]
      simp only [List.cons_append, List.nil_append, takeF]
      rw [if_neg (by omega), if_neg (by omega), if_neg (by rintro ⟨h, h'⟩; have := h0 h'; omega), Nat.mod_eq_of_lt h1]
      simp
    · rw [if_neg h1]
      simp only [List.cons_append, takeF]
      have e1 : (n % 128 + 128) % 128 = n % 128 := by omega
      rw [if_neg (by omega), if_pos (by omega), e1]
      have e2 : 2 ^ (7 * (i + 1)) = 128 * 2 ^ (7 * i) := by
        rw [show 7 * (i + 1) = 7 * i + 7 from by omega, Nat.pow_add]; omega
      have hd := Nat.div_add_mod n 128
      have e3 : n / 128 * 2 ^ (7 * (i + 1)) + n % 128 * 2 ^ (7 * i) = n * 2 ^ (7 * i) := by
        rw [e2, ← Nat.mul_assoc, ← Nat.add_mul]; congr 1; omega
      rw [ih (i + 1) (a + n % 128 * 2 ^ (7 * i)) (n / 128) (by omega) (by omega) (by intro _; omega)]
      simp only [List.length_cons, Prod.mk.injEq]
      exact ⟨by omega, by omega, trivial⟩

theorem take_put0 (n : Nat) (hn : n < 2 ^ 64) (tail : List Nat) : takeF 0 0 (putF 9 n ++ tail) = (n, (putF 9 n).length, 0) := by
  have := take_put 9 0 0 n tail rfl (by simpa using hn) (by omega)
  simpa using this

/-- None of two numbers' bytes begins with the other's. -/
theorem put_apart (n m : Nat) (hn : n < 2 ^ 64) (hm : m < 2 ^ 64) : (putF 9 n <+: putF 9 m) ↔ n = m := by
  constructor
  · rintro ⟨t, ht⟩
    have h1 := take_put0 n hn t
    rw [ht] at h1
    have h2 := take_put0 m hm []
    rw [List.append_nil, h1] at h2
    exact (Prod.mk.injEq .. ▸ h2).1
  · rintro rfl; exact List.prefix_refl _

/-- One step of reading: the seven bits go above those that are there. -/
theorem acc_step (k x y : Nat) (hx : x < 2 ^ (7 * k)) (hy : k ≤ 8 ∨ (k = 9 ∧ y ≤ 1)) :
    bits .or .u64 (x : Int) (IntKind.u64.wrap ((y : Int) % 128 * 2 ^ (7 * k))) = ((x + y % 128 * 2 ^ (7 * k) : Nat) : Int) ∧ x + y % 128 * 2 ^ (7 * k) < 2 ^ (7 * (k + 1)) ∧
      x + y % 128 * 2 ^ (7 * k) < 2 ^ 64 := by
  have hm : y % 128 < 128 := Nat.mod_lt _ (by decide)
  have e2 : 2 ^ (7 * (k + 1)) = 128 * 2 ^ (7 * k) := by
    rw [show 7 * (k + 1) = 7 * k + 7 from by omega, Nat.pow_add]; omega
  have hs : x + y % 128 * 2 ^ (7 * k) < 2 ^ (7 * (k + 1)) := by
    rw [e2]
    have : y % 128 * 2 ^ (7 * k) ≤ 127 * 2 ^ (7 * k) := Nat.mul_le_mul_right _ (by omega)
    omega
  have h64 : x + y % 128 * 2 ^ (7 * k) < 2 ^ 64 := by
    rcases hy with h | ⟨rfl, h⟩
    · exact Nat.lt_of_lt_of_le hs (Nat.pow_le_pow_right (by decide) (by omega))
    · have : y % 128 * 2 ^ (7 * 9) ≤ 1 * 2 ^ (7 * 9) := Nat.mul_le_mul_right _ (by omega)
      simp only [show 7 * 9 = 63 from rfl] at hx this ⊢
      omega
  refine ⟨?_, hs, h64⟩
  have hw : IntKind.u64.wrap ((y : Int) % 128 * 2 ^ (7 * k)) = ((y % 128 * 2 ^ (7 * k) : Nat) : Int) := by
    have e : ((y : Int) % 128 * 2 ^ (7 * k)) = ((y % 128 * 2 ^ (7 * k) : Nat) : Int) := by push_cast; rfl
    rw [e]
    simp only [IntKind.wrap, IntKind.bits, IntKind.signed]
    generalize y % 128 * 2 ^ (7 * k) = z at h64 ⊢
    simp
    omega
  rw [hw, u64_or_nat _ _ (by omega) (by omega)]
  congr 1
  rw [Nat.or_comm, nat_join (7 * k) _ _ (by simp) hx, Nat.add_comm]

end Go.Proofs.YtpmfmkpfjomgnaaGreatDoor.Ids

/- Words for slices that are read, and for rows of the call's own; appending what is read. -/
namespace Go.Proofs.YtpmfmkpfjomgnaaGreatDoor.Ids
open Go.RowKit

/-- A slice's head A leads, below block B, to cells that hold xs. -/
def Rd (w : World) (B : Nat) (A : Option Addr) (xs : List Value) : Prop :=
  ∀ k v, xs[k]? = some v → ∃ b o, A = some ⟨b, o, none⟩ ∧ b < B ∧ w.cell? ⟨b, o + k, none⟩ = some v

theorem ret3 {i j k : IntKind} {a b c a' b' c' : Int} (h1 : a = a') (h2 : b = b') (h3 : c = c') :
    Ending.returned (.tuple #[.int i a, .int j b, .int k c]) = Ending.returned (.tuple #[.int i a', .int j b', .int k c']) := by rw [h1, h2, h3]
theorem retB {a b : Bool} (h : a = b) : Ending.returned (.bool a) = .returned (.bool b) := by rw [h]

/-- A slice's length: for a loop's measure. -/
def lenOf : Value → Nat
  | .slice _ n _ => n
  | _ => 0

def u8s (bs : List Nat) : List Value := bs.map fun x => Value.int .u8 ((x : Nat) : Int)
def i64s (zs : List Int) : List Value := zs.map fun x => Value.int .i64 x
theorem u8s_append (a b : List Nat) : u8s (a ++ b) = u8s a ++ u8s b := by simp [u8s]
theorem i64s_append (a b : List Int) : i64s (a ++ b) = i64s a ++ i64s b := by simp [i64s]
theorem u8s_len (a : List Nat) : (u8s a).length = a.length := by simp [u8s]
theorem i64s_len (a : List Int) : (i64s a).length = a.length := by simp [i64s]
theorem u8s_one (a : List Nat) : ∀ u ∈ u8s a, u.oneCell' = true := by
  intro u hu; obtain ⟨x, _, rfl⟩ := List.mem_map.1 hu; rfl
theorem i64s_one (a : List Int) : ∀ u ∈ i64s a, u.oneCell' = true := by
  intro u hu; obtain ⟨x, _, rfl⟩ := List.mem_map.1 hu; rfl

theorem Rd.nil {w : World} {B : Nat} {A : Option Addr} : Rd w B A [] := fun k v h => by simp at h
theorem Rd.below {w w' : World} {B B' : Nat} {A : Option Addr} {xs : List Value} (h : Rd w B A xs) (hb : Below B' w w') (hB : B ≤ B') : Rd w' B A xs := fun k v hk => by
  obtain ⟨b, o, rfl, hlt, hc⟩ := h k v hk
  exact ⟨b, o, rfl, hlt, (World.cell?_of_block (hb.block b (Nat.lt_of_lt_of_le hlt hB))).trans hc⟩
theorem Rd.more {w : World} {B B' : Nat} {A : Option Addr} {xs : List Value} (h : Rd w B A xs) (hB : B ≤ B') : Rd w B' A xs := fun k v hk => by
  obtain ⟨b, o, e, hlt, hc⟩ := h k v hk
  exact ⟨b, o, e, Nat.lt_of_lt_of_le hlt hB, hc⟩
theorem Rd.take {w : World} {B : Nat} {A : Option Addr} {xs : List Value} (h : Rd w B A xs) (n : Nat) : Rd w B A (xs.take n) := fun k v hk => by
  rw [List.getElem?_take] at hk
  split at hk
  · exact h k v hk
  · cases hk
theorem Rd.own {w : World} {base : Nat} {e : TypeId} {A : Option Addr} {n c : Nat} {xs : List Value} (h : w.ownsRow base e 1 (.slice A n c) n xs) : Rd w w.heap.size A xs := fun k v hk => by
  rcases h.2 with ⟨hv, hn⟩ | ⟨g, cap, cur, hv, hb, hg, hle, hm, hs, ht⟩
  · have := h.1; subst hn; have : xs = [] := List.eq_nil_of_length_eq_zero (by omega); subst this; simp at hk
  · have hA : A = some ⟨g, 0, none⟩ := by injection hv
    subst hA
    have hlt := h.lt g rfl
    have := h.cells (g := g) rfl k v hk
    refine ⟨g, 0, rfl, hlt.2, ?_⟩
    have e : (⟨g, 0, none⟩ : Addr).add k = ⟨g, 0 + k, none⟩ := by unfold Addr.add; split <;> simp_all
    rw [e] at this
    exact this
theorem Rd.new1 (w : World) (u : Value) (t : TypeId) : Rd (w.alloc (.cells #[u] t)) (w.heap.size + 1) (some ⟨w.heap.size, 0, none⟩) [u] := fun k v hk => by
  cases k with
  | zero =>
    have : u = v := by simpa using hk
    subst this
    refine ⟨w.heap.size, 0, rfl, by omega, ?_⟩
    rw [World.cell?_alloc_at _ _ _ _ rfl]; rfl
  | succ k => simp at hk
theorem Rd.newN (w : World) (us : Array Value) (t : TypeId) : Rd (w.alloc (.cells us t)) (w.heap.size + 1) (some ⟨w.heap.size, 0, none⟩) us.toList := fun k v hk => by
  refine ⟨w.heap.size, 0, rfl, by omega, ?_⟩
  rw [World.cell?_alloc_at _ _ _ _ rfl, Nat.zero_add]
  rwa [Array.getElem?_toList] at hk
theorem below_drewN {B : Nat} {a w : World} (h : Below B a w) (k : Nat) : Below B a (w.drewN k) := ⟨h.os, h.tape, h.output, h.size, h.block⟩
theorem own_drewN {w : World} {base n : Nat} {e : TypeId} {v : Value} {xs : List Value} (h : w.ownsRow base e 1 v n xs) (k : Nat) : (w.drewN k).ownsRow base e 1 v n xs := h
theorem own_form {w : World} {base n : Nat} {e : TypeId} {v : Value} {xs : List Value} (h : w.ownsRow base e 1 v n xs) : xs.length = n ∧ ∃ A c, v = .slice A n c ∧ n ≤ c ∧ c ≤ maxLen := by
  refine ⟨by have := h.1; omega, ?_⟩
  rcases h.2 with ⟨rfl, rfl⟩ | ⟨g, cap, cur, rfl, _, _, h1, h2, _⟩
  · exact ⟨none, 0, rfl, Nat.le_refl _, by simp [maxLen]⟩
  · exact ⟨_, cap, rfl, h1, h2⟩
/-- A row of the call's own stays, whatever turns above it. -/
theorem own_below {w w' : World} {base n B : Nat} {e : TypeId} {v : Value} {xs : List Value} (h : w.ownsRow base e 1 v n xs) (hb : Below B w w') (hB : w.heap.size ≤ B) : w'.ownsRow base e 1 v n xs :=
  h.kept (row := none) ⟨hb.os, hb.tape, hb.output, hb.size, fun k hk _ => hb.block k (by omega)⟩ (by
    rcases h.2 with ⟨rfl, _⟩ | ⟨g, cap, cur, rfl, _⟩
    · exact .inl rfl
    · exact .inr (by simp [Value.ownBlock]))
theorem own_base {w : World} {base base' n : Nat} {e : TypeId} {v : Value} {xs : List Value} (h : w.ownsRow base e 1 v n xs) (hb : base' ≤ base) : w.ownsRow base' e 1 v n xs :=
  ⟨h.1, h.2.imp id fun ⟨g, cap, cur, h1, h2, r⟩ => ⟨g, cap, cur, h1, by omega, r⟩⟩

section
variable {P : Program} (w : World)
theorem run_app (t ty e : TypeId) (i : TypeInfo) (z : Value) (bytes : Nat) (ht : P.underlying t = some (.slice e)) (hi : P.info? e = some i) (hz : i.zero = some z) (hsize : i.size = 1) (hby : i.bytes = bytes)
    (hzs : z.cells.size = 1) (base : Nat) (v : Value) (n : Nat) (xs : List Value) (hown : w.ownsRow base e 1 v n xs) (B : Nat) (A : Option Addr) (m c : Nat) (news : List Value) (hl : news.length = m) (hr : Rd w B A news)
    (h1 : ∀ u ∈ news, u.oneCell' = true) (h63 : n + m ≤ maxLen) (hbytes : (n + m) * bytes ≤ 140737488355328) (hbase : base ≤ w.heap.size) :
    ∃ v' w', (Builtin.append_ #[t, t] ty #[v, .slice A m c]).run P w = .ok v' w' ∧ w'.ownsRow base e 1 v' (n + m) (xs ++ news) ∧ Below base w w' ∧ w.grownBy w' v.ownBlock := by
  cases A with
  | none =>
    have hn : news = [] := by
      cases news with
      | nil => rfl
      | cons u r => obtain ⟨b, o, h, _⟩ := hr 0 u rfl; cases h
    subst hn
    subst hl
    refine ⟨v, w, ?_, by simpa using hown, Below.refl _ _, World.grownBy.refl w _⟩
    rcases hown.2 with ⟨rfl, rfl⟩ | ⟨g, cap, cur, rfl, _, _, hle, _⟩
    · simp [Builtin.append_, run_underlying ht, sizeOf, typeInfo, hi, Builtin.lenOf, Builtin.firstCells]
    · simp [Builtin.append_, run_underlying ht, sizeOf, typeInfo, hi, Builtin.lenOf, Builtin.firstCells, hle, storeCells]
  | some ad =>
    have hcells : ∀ j u, news[j]? = some u → w.cell? (ad.add j) = some u := fun j u hu => by
      obtain ⟨b, o, h, _, hc⟩ := hr j u hu
      injection h with h
      subst h
      have e : (⟨b, o, none⟩ : Addr).add j = ⟨b, o + j, none⟩ := by unfold Addr.add; split <;> simp_all
      rw [e]; exact hc
    obtain ⟨v', w', hrun, h2, h3, _⟩ := run_append_own (P := P) w base t ty e i z 1 bytes ht hi hz hsize hby hzs (by decide) v n xs hown ad m c news (by omega) hcells h1 h63 hbytes hbase
    exact ⟨v', w', hrun, h2, (Below.refl base w).grown h3 hbase fun k hk => (hown.lt k hk).1, h3⟩

theorem wpList_app {ops : Array Oper} {rest : List Oper} {o : Oper} {a : Act} {Q : Exit → Act → World → Prop} (hgd : o.guard = none) (s x : Operand) (t : TypeId)
    (ho : o.op = .call { callee := .builtin .append, args := #[s, x], argTypes := #[t, t] })
    (e : TypeId) (i : TypeInfo) (z : Value) (bytes : Nat) (ht : P.underlying t = some (.slice e)) (hi : P.info? e = some i) (hz : i.zero = some z) (hsize : i.size = 1) (hby : i.bytes = bytes) (hzs : z.cells.size = 1)
    (base : Nat) (v : Value) (n : Nat) (xs : List Value) (hs : a.eval s = v) (hown : w.ownsRow base e 1 v n xs) (B : Nat) (A : Option Addr) (m c : Nat) (news : List Value) (hx : a.eval x = .slice A m c)
    (hl : news.length = m) (hr : Rd w B A news) (h1 : ∀ u ∈ news, u.oneCell' = true) (h63 : n + m ≤ maxLen) (hbytes : (n + m) * bytes ≤ 140737488355328) (hbase : base ≤ w.heap.size)
    (h : ∀ v' w', w'.ownsRow base e 1 v' (n + m) (xs ++ news) → Below base w w' → wpList P ops Q rest (a.put o.dst v') w') : wpList P ops Q (o :: rest) a w :=
  wpList_plain hgd fun K hK => by
    obtain ⟨v', w', hrun, h2, h3, _⟩ := run_app (P := P) w t o.type e i z bytes ht hi hz hsize hby hzs base v n xs hown B A m c news hl hr h1 h63 hbytes hbase
    unfold Oper.wp execOp
    simp only [ho, resolve, invoke, builtin, Sem.run_bind, Sem.run_pure, Result.andThen_ok, List.map_toArray, List.map_cons, List.map_nil, hs, hx, hrun]
    exact hK _ _ (h v' w' h2 h3)
end

/-- What is known of a slice of integers that came in. -/
def IsRow (k : IntKind) (w : World) (a : Option Addr) (len cap : Nat) (zs : List Int) : Prop :=
  (a = none ∧ len = 0 ∧ cap = 0 ∧ zs = []) ∨
  ∃ x, a = some x ∧ len ≤ cap ∧ cap ≤ maxLen ∧ zs.length = cap ∧ (∀ i, i < zs.length → w.cell? (x.add i) = some (.int k (zs.getD i 0))) ∧ ∀ n ∈ zs, (Lit.int k n).wf = true

theorem cell_lt {w : World} {a : Addr} {v : Value} (h : w.cell? a = some v) : a.block < w.heap.size := by
  rcases Nat.lt_or_ge a.block w.heap.size with hl | hl
  · exact hl
  · simp [World.cell?, Array.getElem?_eq_none hl] at h
theorem IsRow.le {k : IntKind} {w : World} {a : Option Addr} {len cap : Nat} {zs : List Int} (h : IsRow k w a len cap zs) : len ≤ cap := by
  rcases h with ⟨_, rfl, rfl, _⟩ | ⟨x, _, h, _⟩
  · exact Nat.le_refl _
  · exact h
theorem IsRow.rd {k : IntKind} {w : World} {a : Option Addr} {len cap : Nat} {zs : List Int} (h : IsRow k w a len cap zs) :
    (zs.take len).length = len ∧ (∀ n ∈ zs.take len, (Lit.int k n).wf = true) ∧ Rd w w.heap.size a ((zs.take len).map fun n => Value.int k n) := by
  rcases h with ⟨rfl, rfl, rfl, rfl⟩ | ⟨x, rfl, hl, hm, hz, hc, hw⟩
  · exact ⟨rfl, by simp, by simpa using Rd.nil⟩
  · refine ⟨by rw [List.length_take]; omega, fun n hn => hw n (List.mem_of_mem_take hn), fun i v hv => ?_⟩
    rw [List.getElem?_map, List.getElem?_take] at hv
    split at hv
    · rename_i hil
      have hi : i < zs.length := by omega
      rw [List.getElem?_eq_getElem hi] at hv
      have hci := hc i hi
      rw [List.getD_eq_getElem?_getD, List.getElem?_eq_getElem hi] at hci
      obtain rfl : Value.int k zs[i] = v := by simpa using hv
      have hs : x.spot = none := by simpa [Addr.add] using World.cell?_spot (hc 0 (by omega))
      have hb := cell_lt hci
      obtain ⟨b, o, sp⟩ := x
      simp only at hs
      subst hs
      have e : (Addr.add ⟨b, o, none⟩ i) = ⟨b, o + i, none⟩ := by
        unfold Addr.add
        split
        · rename_i h0
          subst h0
          rfl
        · rfl
      rw [e] at hci hb
      exact ⟨b, o, rfl, hb, hci⟩
    · simp at hv
theorem IsRow.bytes {w : World} {a : Option Addr} {len cap : Nat} {zs : List Int} (h : IsRow .u8 w a len cap zs) :
    ∃ bs : List Nat, bs.length = len ∧ (∀ x ∈ bs, x < 256) ∧ Rd w w.heap.size a (u8s bs) := by
  obtain ⟨hl, hw, hr⟩ := h.rd
  have hb : ∀ n ∈ zs.take len, 0 ≤ n ∧ n < 256 := fun n hn => by
    have := hw n hn
    simp [Lit.wf, IntKind.min, IntKind.max, IntKind.signed, IntKind.bits] at this
    omega
  refine ⟨(zs.take len).map Int.toNat, by simpa using hl, ?_, ?_⟩
  · intro x hx
    obtain ⟨n, hn, rfl⟩ := List.mem_map.1 hx
    have := hb n hn
    omega
  · have e : u8s ((zs.take len).map Int.toNat) = (zs.take len).map fun n => Value.int .u8 n := by
      unfold u8s
      rw [List.map_map]
      apply List.map_congr_left
      intro n hn
      have := hb n hn
      simp only [Function.comp]
      congr 1
      omega
    rw [e]; exact hr
theorem IsRow.ints {w : World} {a : Option Addr} {len cap : Nat} {zs : List Int} (h : IsRow .i64 w a len cap zs) :
    ∃ xs : List Int, xs.length = len ∧ (∀ x ∈ xs, -9223372036854775808 ≤ x ∧ x ≤ 9223372036854775807) ∧ Rd w w.heap.size a (i64s xs) := by
  obtain ⟨hl, hw, hr⟩ := h.rd
  refine ⟨zs.take len, hl, fun x hx => ?_, hr⟩
  have := hw x hx
  simp [Lit.wf, IntKind.min, IntKind.max, IntKind.signed, IntKind.bits] at this
  omega
theorem u64_nat {n : Int} (h : (Lit.int .u64 n).wf = true) : ∃ x : Nat, n = (x : Int) ∧ x < 2 ^ 64 := by
  simp [Lit.wf, IntKind.min, IntKind.max, IntKind.signed, IntKind.bits] at h
  exact ⟨n.toNat, by omega, by omega⟩

def u64s (ns : List Nat) : List Value := ns.map fun x => Value.int .u64 ((x : Nat) : Int)
theorem IsRow.nats {w : World} {a : Option Addr} {len cap : Nat} {zs : List Int} (h : IsRow .u64 w a len cap zs) :
    ∃ ns : List Nat, ns.length = len ∧ (∀ x ∈ ns, x < 2 ^ 64) ∧ Rd w w.heap.size a (u64s ns) := by
  obtain ⟨hl, hw, hr⟩ := h.rd
  have hb : ∀ n ∈ zs.take len, ∃ x : Nat, n = (x : Int) ∧ x < 2 ^ 64 := fun n hn => u64_nat (hw n hn)
  refine ⟨(zs.take len).map Int.toNat, by simpa using hl, ?_, ?_⟩
  · intro x hx
    obtain ⟨n, hn, rfl⟩ := List.mem_map.1 hx
    obtain ⟨y, rfl, hy⟩ := hb n hn
    simpa using hy
  · have e : u64s ((zs.take len).map Int.toNat) = (zs.take len).map fun n => Value.int .u64 n := by
      unfold u64s
      rw [List.map_map]
      apply List.map_congr_left
      intro n hn
      obtain ⟨y, rfl, _⟩ := hb n hn
      simp [Function.comp]
    rw [e]; exact hr
/-- A slice cut at its head. -/
theorem Rd.cut {w : World} {B c k : Nat} {A : Option Addr} {xs : List Value} (h : Rd w B A xs) (hc : xs.length ≤ c) :
    Rd w B (if c = k then A else A.map (·.add k)) (xs.drop k) := fun i v hi => by
  rw [List.getElem?_drop] at hi
  have hlt : k + i < xs.length := by
    rcases Nat.lt_or_ge (k + i) xs.length with hh | hh
    · exact hh
    · rw [List.getElem?_eq_none hh] at hi; cases hi
  obtain ⟨b, o, rfl, hb, hcell⟩ := h (k + i) v hi
  rw [if_neg (by omega)]
  refine ⟨b, o + k, ?_, hb, by rw [Nat.add_assoc]; exact hcell⟩
  show some (Addr.add ⟨b, o, none⟩ k) = _
  congr 1
  unfold Addr.add
  split
  · rename_i h0; subst h0; rfl
  · rfl

theorem rd_tail {w : World} {B b o : Nat} {x : Int} {xs : List Int} (h : Rd w B (some ⟨b, o, none⟩) (i64s (x :: xs))) : Rd w B (some ⟨b, o + 1, none⟩) (i64s xs) := fun k v hk => by
  obtain ⟨b', o', e, hb, hc⟩ := h (k + 1) v (by simpa [i64s] using hk)
  injection e with e
  injection e with e1 e2
  subst e1
  subst e2
  exact ⟨b, o + 1, rfl, hb, by rw [Nat.add_assoc, Nat.add_comm 1 k]; exact hc⟩
theorem rd_one {w : World} {B c : Nat} {xs : List Int} (h : xs.length + 1 ≤ c) (hc : c = 1) (A : Option Addr) : Rd w B A (i64s xs) := by
  have : xs = [] := List.eq_nil_of_length_eq_zero (by omega)
  subst this
  exact Rd.nil

/-! How much a reading holds. -/
theorem bulk_one {H : Type} (d : DataW H) : 1 ≤ Rows.uptoBulk d := by
  cases d with
  | lit l => cases l <;> simp [Rows.uptoBulk]
  | nil => simp [Rows.uptoBulk]
  | ptr d => simp [Rows.uptoBulk]
  | slice a b => simp [Rows.uptoBulk]
  | agg l => simp [Rows.uptoBulk]
  | iface t d => simp [Rows.uptoBulk]
  | map l => simp [Rows.uptoBulk]
  | held h => simp [Rows.uptoBulk]
theorem bulk_len {H : Type} : ∀ l : List (DataW H), l.length ≤ Rows.uptoBulkAll l
  | [] => Nat.le_refl _
  | d :: l => by have := bulk_one d; have := bulk_len l; simp only [Rows.uptoBulkAll, List.length_cons]; omega
theorem bulk_slice {H : Type} (a b : List (DataW H)) : a.length + b.length ≤ Rows.uptoBulk (.slice a b) := by
  have := bulk_len a; have := bulk_len b; simp only [Rows.uptoBulk]; omega
theorem bulk_part {H : Type} {d : DataW H} : ∀ {l : List (DataW H)}, d ∈ l → Rows.uptoBulk d ≤ Rows.uptoBulkAll l
  | x :: l, h => by
    simp only [Rows.uptoBulkAll]
    rcases List.mem_cons.1 h with rfl | h
    · omega
    · have := bulk_part h; omega

/-! Bytes as a string. -/
def strOf (bs : List Nat) : ByteArray := ⟨(bs.map fun n => UInt8.ofNat n).toArray⟩
theorem strOf_nums (bs : List Nat) : strOfNums (bs.map fun n => ((n : Nat) : Int)) = strOf bs := by
  simp [strOfNums, strOf, Function.comp_def]
theorem strOf_toList (bs : List Nat) : (strOf bs).toList = bs.map fun n => UInt8.ofNat n := by
  rw [← strOf_nums, Lib.strOfNums_toList]
  simp [Lib.bytesOf, Function.comp_def]
theorem strOf_inj {a b : List Nat} (ha : ∀ x ∈ a, x < 256) (hb : ∀ x ∈ b, x < 256) (h : (strOf a).toList = (strOf b).toList) : a = b := by
  rw [strOf_toList, strOf_toList] at h
  have back : ∀ l : List Nat, (∀ x ∈ l, x < 256) → (l.map fun n => UInt8.ofNat n).map UInt8.toNat = l := fun l hl => by
    rw [List.map_map]
    conv => rhs; rw [← List.map_id l]
    apply List.map_congr_left
    intro x hx
    have := hl x hx
    simp [Function.comp]
    omega
  rw [← back a ha, ← back b hb, h]
theorem strOf_ne {a b : List Nat} (ha : ∀ x ∈ a, x < 256) (hb : ∀ x ∈ b, x < 256) (h : a ≠ b) : ((strOf a).toList == (strOf b).toList) = false :=
  beq_eq_false_iff_ne.2 fun e => h (strOf_inj ha hb e)
theorem conv_rd {P : Program} {w : World} {B : Nat} {A : Option Addr} {bs : List Nat} (src e dst : TypeId) (hs : P.underlying src = some (.slice e)) (he : P.underlying e = some (.int .u8)) (hd : P.underlying dst = some .string)
    (n c : Nat) (hl : bs.length = n) (hr : Rd w B A (u8s bs)) : (convert src dst (.slice A n c)).run P w = .ok (.string (strOf bs)) w := by
  have hnone : ∀ A : Option Addr, bs = [] → (convert src dst (.slice A n c)).run P w = .ok (.string (strOf bs)) w := fun A hb => by
    subst hb
    subst hl
    rw [run_convert_bytes_string w src dst e _ _ c hs he hd]
    cases A <;> simp [Conv.bytesToString, loadCells]
    all_goals rfl
  cases bs with
  | nil => exact hnone A rfl
  | cons x r =>
    obtain ⟨b, o, rfl, _, _⟩ := hr 0 (.int .u8 ((x : Nat) : Int)) rfl
    rw [← strOf_nums]
    refine run_convert_bytes_arg w src e hs he b o n c _ (by simpa using hl) (fun i hi => ?_) dst hd
    have hi' : i < (x :: r).length := by omega
    obtain ⟨b', o', h, _, hc⟩ := hr i (.int .u8 (((x :: r)[i]'hi' : Nat) : Int)) (by simp only [u8s, List.getElem?_map, List.getElem?_eq_getElem hi']; rfl)
    injection h with h
    injection h with h1 h2
    subst h1
    subst h2
    rw [hc, List.getD_eq_getElem?_getD, List.getElem?_map, List.getElem?_eq_getElem hi']
    rfl
theorem own_at {w : World} {base g : Nat} {t : TypeId} (h : w.heap[g]? = some (.cells #[] t (0, 0))) (hb : base ≤ g) : w.ownsRow base t 1 (.slice (some ⟨g, 0, none⟩) 0 0) 0 [] :=
  ⟨rfl, .inr ⟨g, 0, #[], rfl, hb, h, Nat.le_refl _, by simp [maxLen], rfl, rfl⟩⟩
theorem Rd.at_ {w : World} {g : Nat} {t : TypeId} {u : Value} (h : w.heap[g]? = some (.cells #[u] t (0, 0))) : Rd w (g + 1) (some ⟨g, 0, none⟩) [u] := fun k v hk => by
  cases k with
  | zero =>
    have : u = v := by simpa using hk
    subst this
    refine ⟨g, 0, rfl, by omega, ?_⟩
    rw [cell_of_row w g _ _ t (0, 0) h]; rfl
  | succ k => simp at hk
theorem own_new0 (w : World) (t : TypeId) : (w.alloc (.cells #[] t)).ownsRow w.heap.size t 1 (.slice (some ⟨w.heap.size, 0, none⟩) 0 0) 0 [] :=
  ⟨rfl, .inr ⟨w.heap.size, 0, #[], rfl, Nat.le_refl _, heap_alloc_new w _, Nat.le_refl _, by simp [maxLen], rfl, rfl⟩⟩

/-! At this program's two kinds of lists. -/
theorem info5 : (Tryz.prog.info? 5).map (fun i => (i.zero, i.size, i.bytes)) = some (some (.int .u8 0), 1, 1) := by kernel_rfl
theorem info3 : (Tryz.prog.info? 3).map (fun i => (i.zero, i.size, i.bytes)) = some (some (.int .i64 0), 1, 8) := by kernel_rfl

theorem app8 {w : World} {ops : Array Oper} {rest : List Oper} {o : Oper} {a : Act} {Q : Exit → Act → World → Prop} (hgd : o.guard = none) (s x : Operand)
    (ho : o.op = .call { callee := .builtin .append, args := #[s, x], argTypes := #[60, 60] })
    (base : Nat) (v : Value) (n : Nat) (xs : List Nat) (hs : a.eval s = v) (hown : w.ownsRow base 5 1 v n (u8s xs)) (B : Nat) (A : Option Addr) (m c : Nat) (news : List Nat) (hx : a.eval x = .slice A m c)
    (hl : news.length = m) (hr : Rd w B A (u8s news)) (hb : n + m ≤ 140737488355328) (hbase : base ≤ w.heap.size)
    (h : ∀ v' w', w'.ownsRow base 5 1 v' (n + m) (u8s (xs ++ news)) → Below base w w' → wpList Tryz.prog ops Q rest (a.put o.dst v') w') : wpList Tryz.prog ops Q (o :: rest) a w := by
  obtain ⟨i0, hi, hz0, hz1, hz2⟩ := info_parts info5
  refine wpList_app w hgd s x 60 ho 5 i0 _ 1 Tryz.underlying60 hi hz0 hz1 hz2 rfl base v n (u8s xs) hs hown B A m c (u8s news) hx (by rw [u8s_len]; exact hl) hr (u8s_one _) (by unfold maxLen; omega) (by omega) hbase ?_
  intro v' w' h1 h2
  exact h v' w' (by rw [u8s_append]; exact h1) h2

theorem app64 {w : World} {ops : Array Oper} {rest : List Oper} {o : Oper} {a : Act} {Q : Exit → Act → World → Prop} (hgd : o.guard = none) (s x : Operand)
    (ho : o.op = .call { callee := .builtin .append, args := #[s, x], argTypes := #[39, 39] })
    (base : Nat) (v : Value) (n : Nat) (xs : List Int) (hs : a.eval s = v) (hown : w.ownsRow base 3 1 v n (i64s xs)) (B : Nat) (A : Option Addr) (m c : Nat) (news : List Int) (hx : a.eval x = .slice A m c)
    (hl : news.length = m) (hr : Rd w B A (i64s news)) (hb : (n + m) * 8 ≤ 140737488355328) (hbase : base ≤ w.heap.size)
    (h : ∀ v' w', w'.ownsRow base 3 1 v' (n + m) (i64s (xs ++ news)) → Below base w w' → wpList Tryz.prog ops Q rest (a.put o.dst v') w') : wpList Tryz.prog ops Q (o :: rest) a w := by
  obtain ⟨i0, hi, hz0, hz1, hz2⟩ := info_parts info3
  refine wpList_app w hgd s x 39 ho 3 i0 _ 8 Tryz.underlying39 hi hz0 hz1 hz2 rfl base v n (i64s xs) hs hown B A m c (i64s news) hx (by rw [i64s_len]; exact hl) hr (i64s_one _) (by unfold maxLen; omega) (by omega) hbase ?_
  intro v' w' h1 h2
  exact h v' w' (by rw [i64s_append]; exact h1) h2

end Go.Proofs.YtpmfmkpfjomgnaaGreatDoor.Ids

/- The contract of ids.Take: what is read of any bytes. -/
namespace Go.Proofs.YtpmfmkpfjomgnaaGreatDoor.Ids
set_option linter.unusedSimpArgs false
set_option linter.unusedVariables false
open Go.RowKit

set_option maxHeartbeats 400000 in
theorem take_any (A : Option Addr) (n c B : Nat) (bs : List Nat) (w : World) (hb : ∀ x ∈ bs, x < 256) (hl : bs.length = n) (hn : n ≤ 140737488355328) (hr : Rd w B A (u8s bs)) :
    Calls Tryz.prog 169 #[.slice A n c] w fun e w' => e = .returned (.tuple #[.int .u64 ((takeF 0 0 bs).1 : Nat), .int .i64 ((takeF 0 0 bs).2.1 : Nat), .int .i64 ((takeF 0 0 bs).2.2 : Nat)]) ∧ w' = w := by
  go_enter Tryz.func169, Tryz.ntmps169
  go_wp2
  go_loop [5, 10] (fun a i => ∃ k x : Nat, k ≤ n ∧ k ≤ 9 ∧ i = .int .i64 k ∧ a = .int .u64 x ∧ x < 2 ^ (7 * k) ∧ takeF k x (bs.drop k) = takeF 0 0 bs) (fun _ i => n - (intOf i).toNat)
  case atStart => exact ⟨0, 0, by omega, by omega, rfl, rfl, by simp, by simp⟩
  case round =>
    obtain ⟨k, x, hk, hk9, rfl, rfl, hx, ht⟩ := hrel
    by_cases hlt : k < n
    · obtain ⟨b, o, rfl, hB, hc⟩ := hr k (.int .u8 ((bs[k]'(by omega)) : Nat)) (by simp [u8s, List.getElem?_eq_getElem (show k < bs.length by omega)])
      have hc256 : (bs[k]'(by omega)) < 256 := hb _ (List.getElem_mem _)
      have hdrop : bs.drop k = bs[k]'(by omega) :: bs.drop (k + 1) := List.drop_eq_getElem_cons (by omega)
      generalize bs[k]'(by omega) = y at hc hc256 hdrop
      rw [hdrop] at ht
      have HT := Lib.hid ht
      have HX := Lib.hid hx
      have HC := Lib.hid hc256
      clear ht hx hr hb hc256 hdrop
      by_cases h1 : k = 9 ∧ 1 < y
      · obtain ⟨rfl, h1⟩ := h1
        have h1' : (1 : Int) < (y : Int) := by omega
        go_wp2
        go_ret3
        refine ⟨?_, rfl⟩
        rw [← HT.out, takeF, if_pos ⟨rfl, h1⟩]
        rfl
      · have hstep := acc_step k x y HX.out (by omega)
        have HS := Lib.hid hstep
        clear hstep
        by_cases h2 : 128 ≤ y
        · have h2' : (128 : Int) ≤ (y : Int) := by omega
          by_cases h9 : k = 9
          · exact absurd ⟨h9, by omega⟩ h1
          · have h9' : ((k : Int) == 9) = false := by simp; omega
            have HE : Hid (takeF (k + 1) (x + y % 128 * 2 ^ (7 * k)) (bs.drop (k + 1)) = takeF 0 0 bs) := by
              have := HT.out
              rw [takeF, if_neg h1, if_pos h2] at this
              exact this
            clear h1
            go_wp2
            go_round
            case rel => go_light; exact ⟨k + 1, x + y % 128 * 2 ^ (7 * k), by omega, by omega, by go_num, by rw [HS.out.1], HS.out.2.1, HE.out⟩
            case measure => first | (simp [intOf]; done) | (simp [intOf]; omega)
        · have h2' : ¬ (128 : Int) ≤ (y : Int) := by omega
          by_cases h3 : y = 0 ∧ 0 < k
          · have HE : Hid ((0, 0, 11) = takeF 0 0 bs) := by
              have := HT.out
              rw [takeF, if_neg h1, if_neg h2, if_pos h3] at this
              exact this
            obtain ⟨rfl, h3⟩ := h3
            have h3' : (0 : Int) < (k : Int) := by omega
            clear h1 h2
            go_wp2
            all_goals
              go_ret3
              refine ⟨?_, rfl⟩
              rw [← HE.out]
              rfl
          · have HE : Hid ((x + y % 128 * 2 ^ (7 * k), k + 1, 0) = takeF 0 0 bs) := by
              have := HT.out
              rw [takeF, if_neg h1, if_neg h2, if_neg h3] at this
              exact this
            by_cases h0 : y = 0
            · have h0' : ((y : Int) == 0) = true := by simp; omega
              have hk0 : ¬ ((0 : Int) < (k : Int)) := by omega
              have h9' : ((k : Int) == 9) = false := by simp; omega
              clear h0 h1 h2 h3
              go_wp2
              all_goals
                go_ret3
                refine ⟨?_, rfl⟩
                rw [← HE.out]
                exact ret3 HS.out.1 rfl rfl
            · have h0' : ((y : Int) == 0) = false := by simp; omega
              by_cases h9 : k = 9
              · have h9' : ((k : Int) == 9) = true := by simp; omega
                have hy1 : ¬ ((1 : Int) < (y : Int)) := by omega
                clear h0 h9 h1 h2 h3
                go_wp2
                all_goals
                  go_ret3
                  refine ⟨?_, rfl⟩
                  rw [← HE.out]
                  exact ret3 HS.out.1 rfl rfl
              · have h9' : ((k : Int) == 9) = false := by simp; omega
                clear h0 h9 h1 h2 h3
                go_wp2
                all_goals
                  go_ret3
                  refine ⟨?_, rfl⟩
                  rw [← HE.out]
                  exact ret3 HS.out.1 rfl rfl
    · go_wp2
      go_ret3
      refine ⟨?_, rfl⟩
      rw [← ht, List.drop_eq_nil_of_le (by omega)]
      rfl
end Go.Proofs.YtpmfmkpfjomgnaaGreatDoor.Ids

/- The contract of ids.Put: the bytes as they came, and the number's behind them, in memory of the call's own. -/
namespace Go.Proofs.YtpmfmkpfjomgnaaGreatDoor.Ids
set_option linter.unusedSimpArgs false
set_option linter.unusedVariables false
open Go.RowKit

def PutPost (w : World) (bs : List Nat) (e : Ending) (w' : World) : Prop :=
  ∃ v, e = .returned v ∧ w'.ownsRow w.heap.size 5 1 v bs.length (u8s bs) ∧ Below w.heap.size w w'

theorem or128 (x : Nat) : bits .or .u8 ((x : Int) % 256) 128 = ((x % 128 + 128 : Nat) : Int) := by
  have h : ∀ y, y < 256 → y ||| 128 = y % 128 + 128 := by decide +kernel
  rw [show ((x : Int) % 256) = ((x % 256 : Nat) : Int) from by omega, show (128 : Int) = ((128 : Nat) : Int) from rfl, u8_or_nat _ _ (by omega) (by omega), h _ (by omega)]
  omega

set_option maxHeartbeats 400000 in
theorem put_any (A : Option Addr) (n c B x0 : Nat) (bs : List Nat) (w : World) (hl : bs.length = n) (hn : n + 10 ≤ 140737488355328) (hr : Rd w B A (u8s bs)) (hB : B ≤ w.heap.size) (hx0 : x0 < 128 ^ 10) :
    Calls Tryz.prog 117 #[.slice A n c, .int .u64 (x0 : Int)] w (PutPost w (bs ++ putF 9 x0)) := by
  obtain ⟨i0, hi, hz0, hz1, hz2⟩ := info_parts info5
  go_enter Tryz.func117, Tryz.ntmps117
  go_wp2_with (first
    | (at_make; refine wpList_make_own _ rfl _ _ 60 rfl w.heap.size 5 i0 (.int .u8 0) 1 Tryz.underlying60 hi hz0 hz1 .i64 .i64 _ (n + 10) rfl rfl (by omega) (by rw [hz2]; omega) (by unfold maxLen; omega) (Nat.le_refl _) ?_; intro w0 hown0 hgrow0)
    | (at_builtin; go_must (refine app8 rfl _ _ rfl w.heap.size _ 0 [] rfl hown0 B A n c bs rfl hl (hr.below ((Below.refl w.heap.size w).grown hgrow0 (Nat.le_refl _) (fun k h => by cases h)) hB) (by omega) hgrow0.size ?_); intro v w1 hown1 hb1))
  have hb0 : Below w.heap.size w w1 := ((Below.refl w.heap.size w).grown hgrow0 (Nat.le_refl _) (fun k h => by cases h)).trans hb1
  clear hb1 hown0 hgrow0 hi hz0 hz1 hz2 hr
  simp only [Nat.zero_add, List.nil_append] at hown1
  go_loopw [1, 5] (fun x v wr => ∃ (y f : Nat) (ds : List Nat), x = .int .u64 (y : Int) ∧ y < 128 ^ (f + 1) ∧ ds.length + f = 9 ∧ ds ++ putF f y = putF 9 x0 ∧
      wr.ownsRow w.heap.size 5 1 v (n + ds.length) (u8s (bs ++ ds)) ∧ Below w.heap.size w wr) (fun x _ _ => (intOf x).toNat)
  case atStart => exact ⟨x0, 9, [], rfl, hx0, rfl, rfl, by simpa using hown1, hb0⟩
  case round =>
    obtain ⟨y, f, ds, rfl, hy, hf, hput, hown, hbel⟩ := hrel
    have HP := Lib.hid hput
    have HF := Lib.hid hf
    have HL := Lib.hid hl
    clear hput hf hl hown1 hb0 hx0
    have hdl : ds.length ≤ 9 := by have := HF.out; omega
    have hsz := hbel.size
    by_cases h1 : y < 128
    · have h1' : ¬ (128 : Int) ≤ (y : Int) := by omega
      have HE : Hid (ds ++ [y] = putF 9 x0) := by
        have e : putF f y = [y] := by cases f <;> simp [putF, h1]
        rw [← HP.out, e]; exact rfl
      have hm : (y : Int) % 256 = (y : Int) := by omega
      have HM := Lib.hid hm
      clear hm hy
      go_wp2_with (at_builtin; go_must (refine app8 rfl _ _ rfl w.heap.size _ (n + ds.length) (bs ++ ds) rfl (hown.alloc _) (wr.heap.size + 1) _ 1 1 [y] rfl rfl (by have := Rd.new1 wr (.int .u8 (y : Int)) 5; first | exact this | (rw [HM.out]; exact this)) (by omega) (by simp; omega) ?_); intro v2 w2 hown2 hbel2)
      go_ret
      refine ⟨_, rfl, ?_, (hbel.alloc hsz _).trans hbel2⟩
      rw [← HE.out, ← List.append_assoc]
      have := HL.out
      simpa [this, Nat.add_assoc] using hown2
    · have h1' : (128 : Int) ≤ (y : Int) := by omega
      have HO := Lib.hid (or128 y)
      cases f with
      | zero => simp at hy; omega
      | succ f =>
      have hy2 : y / 128 < 128 ^ (f + 1) := by rw [Nat.div_lt_iff_lt_mul (by decide)]; rw [Nat.pow_succ] at hy; exact hy
      have HY := Lib.hid hy2
      have HE : Hid ((ds ++ [y % 128 + 128]) ++ putF f (y / 128) = putF 9 x0) := by
        have := HP.out
        rw [putF, if_neg h1] at this
        rw [← this]; simp [Hid]
      clear hy hy2
      go_wp2_with (at_builtin; go_must (refine app8 rfl _ _ rfl w.heap.size _ (n + ds.length) (bs ++ ds) rfl (hown.alloc _) (wr.heap.size + 1) _ 1 1 [y % 128 + 128] rfl rfl (by rw [HO.out]; exact Rd.new1 wr (.int .u8 ((y % 128 + 128 : Nat) : Int)) 5) (by omega) (by simp; omega) ?_); intro v2 w2 hown2 hbel2)
      go_roundw
      case rel =>
        go_light
        refine ⟨y / 128, f, ds ++ [y % 128 + 128], ?_, HY.out, ?_, HE.out, ?_, (hbel.alloc hsz _).trans hbel2⟩
        · rfl
        · have := HF.out; simp; omega
        · simpa [Nat.add_assoc] using hown2
      case measure => go_light; simp only [intOf]; omega
end Go.Proofs.YtpmfmkpfjomgnaaGreatDoor.Ids

/- A writer in memory: what is laid so far, and the places of the texts; a number is laid. -/
namespace Go.Proofs.YtpmfmkpfjomgnaaGreatDoor
set_option linter.unusedSimpArgs false
set_option linter.unusedVariables false
open Go.RowKit

/-- What a writer has laid, and the texts that stand there. -/
structure WS where
  out : List Nat
  ts : List ByteArray
def u64N (n : Int) : Nat := (n % 18446744073709551616).toNat
theorem u64N_lt (n : Int) : u64N n < 2 ^ 64 := by unfold u64N; omega
theorem u64N_is (n : Int) : ((u64N n : Nat) : Int) = n % 18446744073709551616 := by unfold u64N; omega
def numB (n : Int) : List Nat := Ids.putF 9 (u64N n)
theorem numB_len (n : Int) : 0 < (numB n).length ∧ (numB n).length ≤ 10 := Ids.putF_len 9 _
def bytesN (t : ByteArray) : List Nat := t.data.toList.map UInt8.toNat
theorem bytesN_len (t : ByteArray) : (bytesN t).length = t.size := by unfold bytesN; simp
def WS.num (s : WS) (n : Int) : WS := ⟨s.out ++ numB n, s.ts⟩
def WS.text (s : WS) (t : ByteArray) : WS :=
  match ix s.ts t with
  | some k => s.num (k : Int)
  | none => ⟨((s.num (s.ts.length : Int)).num (t.size : Int)).out ++ bytesN t, s.ts ++ [t]⟩
/-- Most bytes that are laid. -/
def mostB : Nat := 17592186044416
theorem WS.num_out (s : WS) (n : Int) : (s.num n).out.length = s.out.length + (numB n).length := by simp [WS.num]
theorem WS.text_out (s : WS) (t : ByteArray) : s.out.length ≤ (s.text t).out.length := by
  unfold WS.text
  split
  · rw [WS.num_out]; exact Nat.le_add_right _ _
  · simp only [WS.num, List.length_append]; omega
/-- No more texts than bytes, nearly. -/
def WS.Few (s : WS) : Prop := s.ts.length ≤ s.out.length + 2
theorem WS.Few.num {s : WS} (h : s.Few) (n : Int) : (s.num n).Few := by
  unfold WS.Few at h ⊢
  rw [WS.num_out]
  show s.ts.length ≤ _
  omega
theorem WS.Few.text {s : WS} (h : s.Few) (t : ByteArray) : (s.text t).Few := by
  unfold WS.text
  split
  · exact h.num _
  · unfold WS.Few at h ⊢
    have := (numB_len (s.ts.length : Int)).1
    simp only [List.length_append, List.length_cons, List.length_nil, WS.num]
    omega

structure WrSt (w : World) (base g : Nat) (O : Nat → Prop) (s : WS) (vo : Value) (bm : Nat) (D : DataW Unit) : Prop where
  blk : Blk w g 118 #[vo, .map (some bm)]
  out : w.ownsRow base 5 1 vo s.out.length (Ids.u8s s.out)
  map : w.ownsMap Tryz.prog 9 (plainElem Tryz.prog 3) bm s.ts.length D
  are : Agrees kdS (fun _ => True) D (ixI s.ts)
  gfar : base ≤ g
  mfar : base ≤ bm
  size : Maps.size D = s.ts.length
  mine : ∀ k, O k ↔ k = g ∨ vo.ownBlock = some k ∨ k = bm
def WrO (g : Nat) (vo : Value) (bm : Nat) (k : Nat) : Prop := k = g ∨ vo.ownBlock = some k ∨ k = bm
def WrAt (w : World) (base g : Nat) (O : Nat → Prop) (s : WS) : Prop := ∃ vo bm D, WrSt w base g O s vo bm D
/-- A call of a writer has laid what makes s of what there was. -/
def Wrote (w : World) (base g : Nat) (O : Nat → Prop) (s : WS) (e : Ending) (w' : World) : Prop :=
  e = .returned (.tuple #[]) ∧ ∃ O', WrAt w' base g O' s ∧ TurnedP O w w' ∧ ∀ k, O' k → O k ∨ w.heap.size ≤ k
section
variable {w w' : World} {base g bm : Nat} {O : Nat → Prop} {s : WS} {vo : Value} {D : DataW Unit}
theorem WrSt.O_lt (h : WrSt w base g O s vo bm D) {k : Nat} (hk : O k) : base ≤ k ∧ k < w.heap.size := by
  rcases (h.mine k).1 hk with rfl | hk | rfl
  · exact ⟨h.gfar, h.blk.lt⟩
  · exact h.out.lt k hk
  · exact ⟨h.mfar, h.map.lt⟩
theorem WrAt.O_lt (h : WrAt w base g O s) {k : Nat} (hk : O k) : base ≤ k ∧ k < w.heap.size := by obtain ⟨vo, bm, D, h⟩ := h; exact h.O_lt hk
theorem WrSt.turned {Q : Nat → Prop} (h : WrSt w base g O s vo bm D) (ht : TurnedP Q w w') (hQ : ∀ k, Q k → ¬ O k) : WrSt w' base g O s vo bm D := by
  have hn : ∀ k, O k → ¬ Q k := fun k hk hq => hQ k hq hk
  have hlt := h.map.lt
  obtain ⟨es, clock, hh, r⟩ := h.map
  exact ⟨h.blk.turnedP ht (hn g ((h.mine g).2 (.inl rfl))), own_turnedP h.out ht fun k hk => hn k ((h.mine k).2 (.inr (.inl hk))), ⟨es, clock, (ht.block bm hlt (hn bm ((h.mine bm).2 (.inr (.inr rfl))))).trans hh, r⟩, h.are, h.gfar, h.mfar, h.size, h.mine⟩
theorem WrSt.below (h : WrSt w base g O s vo bm D) (hb : Below w.heap.size w w') : WrSt w' base g O s vo bm D := h.turned (TurnedP.of_below hb fun _ => False) fun k hk => hk.elim
theorem WrAt.turned {Q : Nat → Prop} (h : WrAt w base g O s) (ht : TurnedP Q w w') (hQ : ∀ k, Q k → ¬ O k) : WrAt w' base g O s := by obtain ⟨vo, bm, D, h⟩ := h; exact ⟨vo, bm, D, h.turned ht hQ⟩
theorem WrAt.below (h : WrAt w base g O s) (hb : Below w.heap.size w w') : WrAt w' base g O s := by obtain ⟨vo, bm, D, h⟩ := h; exact ⟨vo, bm, D, h.below hb⟩
/-- More bytes are put behind the others. -/
theorem WrSt.put (h : WrSt w base g O s vo bm D) (more : List Nat) {w1 : World} {v' : Value} (hg : w.grownBy w1 vo.ownBlock) (hown : w1.ownsRow base 5 1 v' (s.out.length + more.length) (Ids.u8s s.out ++ Ids.u8s more))
    (hat : v'.ownBlock = vo.ownBlock ∨ v'.ownBlock = some w.heap.size) :
    WrSt (w1.setCell ⟨g, 0, none⟩ v') base g (WrO g v' bm) ⟨s.out ++ more, s.ts⟩ v' bm D ∧ TurnedP O w (w1.setCell ⟨g, 0, none⟩ v') ∧ ∀ k, WrO g v' bm k → O k ∨ w.heap.size ≤ k := by
  have ht1 : TurnedP (fun k => vo.ownBlock = some k) w w1 := (TurnedP.refl _ w).grown hg fun k _ e => e
  have hb1 : Blk w1 g 118 #[vo, .map (some bm)] := h.blk.turnedP ht1 (own_kind h.out h.blk (by decide))
  have hvg : v'.ownBlock ≠ some g := fun e => by
    rcases hat with h1 | h1
    · rw [e] at h1; exact own_kind h.out h.blk (by decide) h1.symm
    · rw [e] at h1; injection h1 with h1; have := h.blk.lt; omega
  have hm1 : w1.ownsMap Tryz.prog 9 (plainElem Tryz.prog 3) bm s.ts.length D := h.map.kept hg fun e => map_own h.map h.out e.symm
  have hmg : bm ≠ g := map_kind hm1 hb1
  refine ⟨⟨hb1.set_ 0 v', ?_, hm1.setCell (a := ⟨g, 0, none⟩) hmg v', h.are, h.gfar, h.mfar, h.size, fun k => Iff.rfl⟩, (ht1.more fun k _ hk => (h.mine k).2 (.inr (.inl hk))).setCell (fun _ => (h.mine g).2 (.inl rfl)) _, fun k hk => ?_⟩
  · show (w1.setCell ⟨g, 0, none⟩ v').ownsRow base 5 1 v' (s.out ++ more).length (Ids.u8s (s.out ++ more))
    rw [List.length_append, Ids.u8s_append]
    exact own_setCell (p := ⟨g, 0, none⟩) hown hvg _
  · rcases hk with rfl | hk | rfl
    · exact .inl ((h.mine k).2 (.inl rfl))
    · rcases hat with e | e
      · rw [hk] at e; exact .inl ((h.mine k).2 (.inr (.inl e.symm)))
      · rw [hk] at e; injection e with e; exact .inr (by omega)
    · exact .inl ((h.mine k).2 (.inr (.inr rfl)))
end
theorem info_u8 : ∃ i z, Tryz.prog.info? 5 = some i ∧ i.zero = some z ∧ z.cells.size = 1 ∧ i.size = 1 ∧ i.bytes = 1 := by
  have h : (Tryz.prog.info? 5).map (fun i => (i.zero.map fun z => z.cells.size, i.size, i.bytes)) = some (some 1, 1, 1) := by kernel_rfl
  obtain ⟨i, hi, h2⟩ := Option.map_eq_some_iff.1 h
  simp only [Prod.mk.injEq] at h2
  obtain ⟨z, hz, hz1⟩ := Option.map_eq_some_iff.1 h2.1
  exact ⟨i, z, hi, hz, hz1, h2.2.1, h2.2.2⟩
/-- Till number m has come up, nothing of what was there has turned. -/
def SB (m : Nat) (w : World) (l : Array Bool) (w' : World) : Prop := l.getD m true = false → Below w.heap.size w w'
theorem SB.io {m i : Nat} {w0 : World} (h : i ≠ m) (l : Array Bool) (w : World) : SB m w0 (l.setIfInBounds i true) w ↔ SB m w0 l w := by
  unfold SB
  rw [getD_set_ne true h]

end Go.Proofs.YtpmfmkpfjomgnaaGreatDoor

/- A writer's number. -/
namespace Go.Proofs.YtpmfmkpfjomgnaaGreatDoor
set_option linter.unusedSimpArgs false
set_option linter.unusedVariables false
open Go.RowKit

theorem wrapU (z : Int) : IntKind.u64.wrap z = z % 18446744073709551616 := by simp [IntKind.wrap, IntKind.bits, IntKind.signed]
set_option maxHeartbeats 2000000 in
set_option maxRecDepth 100000 in
theorem wnum_any {w : World} {base g : Nat} {O : Nat → Prop} {s : WS} (h : WrAt w base g O s) (z : Int) (hm : (s.num z).out.length ≤ mostB) :
    Calls Tryz.prog 68 #[.pointer (some ⟨g, 0, none⟩), .int .i64 z] w (Wrote w base g O (s.num z)) := by
  obtain ⟨vo, bm, D, hS⟩ := h
  obtain ⟨Ao, co, rfl, ho1, ho2⟩ := own_form' hS.out
  rw [WS.num_out] at hm
  have HC0 : Hid (∀ w', Below w.heap.size w w' → w'.cell? ⟨g, 0, none⟩ = some (.slice Ao s.out.length co)) := fun w' hb => (hS.below hb).blk.cell 0
  have HS := Lib.hid hS
  have HO0 : Hid (∀ w', Below w.heap.size w w' → w'.ownsRow base 5 1 (.slice Ao s.out.length co) s.out.length (Ids.u8s s.out)) := fun w' hb => (hS.below hb).out
  obtain ⟨n, hn⟩ : ∃ n, n = s.out.length := ⟨_, rfl⟩
  have HN := Lib.hid hn
  have HM := Lib.hid (show n + (numB z).length ≤ mostB by rw [hn]; exact hm)
  have CP := Lib.hid (Ids.put_any none 0 0 0 (u64N z) [] w.drew rfl (by decide) Ids.Rd.nil (Nat.zero_le _) (by have := u64N_lt z; omega))
  rw [u64N_is] at CP
  have HI8 := Lib.hid info_u8
  rw [← hn] at HC0 HO0
  rw [← hn] at HS
  have HC := HC0
  have HO1 := HO0
  clear hS hm hn ho1 ho2
  go_enter Tryz.func68, Tryz.ntmps68
  go_upto_region 0 with fail
  refine wp_region_S (SB 8 w) (by kernel_rfl) (fun _ => (Below.refl _ _).drew) (fun hS => ?_)
  refine wpAnyS_take (i := 0) (fun w' => True) (v := .pointer (some ⟨g, 0, none⟩)) rfl (by kernel_rfl) (by kernel_rfl) (by kernel_rfl) (fun _ _ _ h => h) (fun _ _ _ _ => trivial) (SB.io (by decide)) (by kernel_rfl) hS (fun w' hSw => ?_) (by rfl) (fun hS => ?_)
  · go_simp
  try simp only [List.getElem_toArray, List.getElem_cons_zero, List.getElem_cons_succ, Act.put, List.setIfInBounds_toArray, List.set_cons_zero, List.set_cons_succ]
  refine wpAnyS_take (i := 1) (fun w' => True) (v := .pointer (some ⟨g, 0, none⟩)) rfl (by kernel_rfl) (by kernel_rfl) (by kernel_rfl) (fun _ _ _ h => h) (fun _ _ _ _ => trivial) (SB.io (by decide)) (by kernel_rfl) hS (fun w' hSw => ?_) (by rfl) (fun hS => ?_)
  · go_simp
  try simp only [List.getElem_toArray, List.getElem_cons_zero, List.getElem_cons_succ, Act.put, List.setIfInBounds_toArray, List.set_cons_zero, List.set_cons_succ]
  refine wpAnyS_take (i := 2) (fun w' => True) (v := .pointer (some ⟨g, 0, none⟩)) rfl (by kernel_rfl) (by kernel_rfl) (by kernel_rfl) (fun _ _ _ h => h) (fun _ _ _ _ => trivial) (SB.io (by decide)) (by kernel_rfl) hS (fun w' hSw => ?_) (by rfl) (fun hS => ?_)
  · go_simp
  try simp only [List.getElem_toArray, List.getElem_cons_zero, List.getElem_cons_succ, Act.put, List.setIfInBounds_toArray, List.set_cons_zero, List.set_cons_succ]
  refine wpAnyS_take (i := 3) (fun w' => True) (v := .pointer (some ⟨g, 0, none⟩)) rfl (by kernel_rfl) (by kernel_rfl) (by kernel_rfl) (fun _ _ _ h => h) (fun _ _ _ _ => trivial) (SB.io (by decide)) (by kernel_rfl) hS (fun w' hSw => ?_) (by rfl) (fun hS => ?_)
  · go_simp
  try simp only [List.getElem_toArray, List.getElem_cons_zero, List.getElem_cons_succ, Act.put, List.setIfInBounds_toArray, List.set_cons_zero, List.set_cons_succ]
  refine wpAnyS_take (i := 4) (fun w' => w'.cell? ⟨g, 0, none⟩ = some (.slice Ao n co)) (v := .slice Ao n co) rfl (by kernel_rfl) (by kernel_rfl) (by kernel_rfl) (fun _ _ _ h => h) (fun l w' hw hS => HC.out w' (hS (hw 8 (by kernel_rfl)))) (SB.io (by decide)) (by kernel_rfl) hS (fun w' hSw => ?_) (by rfl) (fun hS => ?_)
  · go_simp
  try simp only [List.getElem_toArray, List.getElem_cons_zero, List.getElem_cons_succ, Act.put, List.setIfInBounds_toArray, List.set_cons_zero, List.set_cons_succ]
  refine wpAnyS_take (i := 5) (fun w' => True) (v := .int .i64 z) rfl (by kernel_rfl) (by kernel_rfl) (by kernel_rfl) (fun _ _ _ h => h) (fun _ _ _ _ => trivial) (SB.io (by decide)) (by kernel_rfl) hS (fun w' hSw => ?_) (by rfl) (fun hS => ?_)
  · go_simp
  try simp only [List.getElem_toArray, List.getElem_cons_zero, List.getElem_cons_succ, Act.put, List.setIfInBounds_toArray, List.set_cons_zero, List.set_cons_succ]
  refine wpAnyS_take (i := 6) (fun w' => True) (v := .int .u64 (z % 18446744073709551616)) rfl (by kernel_rfl) (by kernel_rfl) (by kernel_rfl) (fun _ _ _ h => h) (fun _ _ _ _ => trivial) (SB.io (by decide)) (by kernel_rfl) hS (fun w' hSw => ?_) (by rfl) (fun hS => ?_)
  · go_simp
    exact wrapU z
  try simp only [List.getElem_toArray, List.getElem_cons_zero, List.getElem_cons_succ, Act.put, List.setIfInBounds_toArray, List.set_cons_zero, List.set_cons_succ]
  refine wpAnyS_one (i := 7) (by kernel_rfl) rfl (fun K7 hK7 => ?_)
  go_simp
  refine CP.out.mono ?_
  rintro e w2 ⟨v2, rfl, hown2, hb2⟩
  have hb2' : Below w.heap.size w w2 := ⟨hb2.os, hb2.tape, hb2.output, hb2.size, hb2.block⟩
  have HS2 := Lib.hid (HS.out.below hb2')
  obtain ⟨b2, c2, hown2', rfl⟩ : ∃ b2 c2, w2.ownsRow w.heap.size 5 1 (.slice (some ⟨b2, 0, none⟩) (numB z).length c2) (numB z).length (Ids.u8s (numB z)) ∧ v2 = .slice (some ⟨b2, 0, none⟩) (numB z).length c2 := by
    rcases own_handle hown2 with ⟨-, h0⟩ | ⟨b, c, e⟩
    · have := (numB_len z).1
      unfold numB at this
      simp at h0
      rw [h0] at this
      cases this
    · exact ⟨b, c, by subst e; exact hown2, e⟩
  have HO2 := Lib.hid hown2'
  have HB2 := Lib.hid hb2'
  refine hK7.out _ _ (fun _ => hb2') (fun hS => ?_)
  clear hK7 K7 hown2 hown2' hb2 hb2' CP HC
  try simp only [List.getElem_toArray, List.getElem_cons_zero, List.getElem_cons_succ, Act.put, List.setIfInBounds_toArray, List.set_cons_zero, List.set_cons_succ]
  obtain ⟨i0, z0, hi0, hz0, hz1, hz2, hz3⟩ := HI8.out
  refine wpAnyS_one (i := 8) (by kernel_rfl) rfl (fun K7 hK7 => ?_)
  refine step_append_at rfl (.tmp 8) (.tmp 11) 60 rfl base 5 i0 z0 1 1 Tryz.underlying60 hi0 hz0 hz2 hz3 hz1 (by decide) (.slice Ao n co) n (Ids.u8s s.out) rfl (HO1.out w2 HB2.out) ⟨b2, 0, none⟩ (numB z).length c2 (Ids.u8s (numB z)) rfl (by simp [Ids.u8s_len]) ?_ (Ids.u8s_one _) (by have := HM.out; unfold mostB at this; unfold maxLen; omega) (by have := HM.out; unfold mostB at this; omega) (by have h1 := HS2.out.gfar; have h2 := HS2.out.blk.lt; omega) ?_
  · intro j u hu
    obtain ⟨b', e, hc⟩ := own_ats HO2.out hu
    injection e with e
    injection e with e
    subst e
    have e2 : (⟨b2, 0, none⟩ : Addr).add j = ⟨b2, j, none⟩ := by unfold Addr.add; split <;> simp_all
    rw [e2]
    exact hc
  intro v4 w4 hown4 hg4 hat4
  obtain ⟨A4, c4, rfl, _, _⟩ := own_form' hown4
  obtain ⟨hW4, ht4, ho4⟩ := WrSt.put HS2.out (numB z) hg4 (by rw [← HN.out]; exact hown4) hat4
  have htM1 : TurnedP (fun k => (Value.slice Ao n co).ownBlock = some k) w2 w4 := (TurnedP.refl _ _).grown hg4 fun k _ hk => hk
  have hg4' := HS2.out.blk.turnedP htM1 (own_kind HS2.out.out HS2.out.blk (by decide))
  have HV : Hid (Wrote w base g O (s.num z) (.returned (.tuple #[])) (w4.setCell ⟨g, 0, none⟩ (.slice A4 (n + (numB z).length) c4))) :=
    ⟨rfl, _, ⟨_, _, _, hW4⟩, (TurnedP.of_below HB2.out O).trans ht4 (fun _ _ h => h), fun k hk => (ho4 k hk).imp id fun h => by have := HB2.out.size; omega⟩
  have q0 := hg4'.cell 0
  have q1 := hg4'.free 0
  simp at q0
  clear hW4 ht4 ho4 htM1 hg4' hown4 hg4 hat4
  refine hK7.out _ _ (fun h => by cases h) (fun hS => ?_)
  clear hK7 K7
  try simp only [List.getElem_toArray, List.getElem_cons_zero, List.getElem_cons_succ, Act.put, List.setIfInBounds_toArray, List.set_cons_zero, List.set_cons_succ]
  refine wpAnyS_one (i := 9) (by kernel_rfl) rfl (fun K7 hK7 => ?_)
  go_simp
  refine hK7.out _ _ (fun h => by cases h) (fun hS => ?_)
  clear hK7 K7
  try simp only [List.getElem_toArray, List.getElem_cons_zero, List.getElem_cons_succ, Act.put, List.setIfInBounds_toArray, List.set_cons_zero, List.set_cons_succ]
  refine wpAnyS_one (i := 10) (by kernel_rfl) rfl (fun K7 hK7 => ?_)
  go_simp
  refine hK7.out _ _ (fun h => by cases h) (fun hS => ?_)
  clear hK7 K7
  try simp only [List.getElem_toArray, List.getElem_cons_zero, List.getElem_cons_succ, Act.put, List.setIfInBounds_toArray, List.set_cons_zero, List.set_cons_succ]
  refine wpAnyS_one (i := 11) (by kernel_rfl) rfl (fun K7 hK7 => ?_)
  go_simp
  refine hK7.out _ _ (fun h => by cases h) (fun hS => ?_)
  clear hK7 K7
  try simp only [List.getElem_toArray, List.getElem_cons_zero, List.getElem_cons_succ, Act.put, List.setIfInBounds_toArray, List.set_cons_zero, List.set_cons_succ]
  refine wpAnyS_done (by kernel_rfl) ?_ _
  clear hS
  go_end0
  exact HV.out
end Go.Proofs.YtpmfmkpfjomgnaaGreatDoor

/- A writer's text: its place; behind a new one, its bytes. A truth. -/
namespace Go.Proofs.YtpmfmkpfjomgnaaGreatDoor
set_option linter.unusedSimpArgs false
set_option linter.unusedVariables false
open Go.RowKit
open Go.Maps (Keyed string_keyed)

theorem zeroI2 (w : World) : (zeroValue 3).run Tryz.prog w = .ok (.int .i64 0) w := by kernel_rfl
theorem wfN2 {n : Nat} (h : n < 2 ^ 63) : (Lit.int .i64 (n : Int)).wf = true := by
  simp [Lit.wf, IntKind.min, IntKind.max, IntKind.signed, IntKind.bits]; omega
theorem fn_snoc2 {l : List ByteArray} {s : ByteArray} (h : ix l s = none) (b : ByteArray) :
    (if b = s then some ((l.length : Nat) : Int) else ixI l b) = ixI (l ++ [s]) b := by
  unfold ixI
  rw [ix_snoc]
  by_cases hb : b = s
  · subst hb; simp [h]
  · have hb' : ¬ s = b := fun e => hb e.symm
    simp [hb, hb']
/-- A text's bytes, appended: the row stays where it was, or is new. -/
theorem run_append_text {P : Program} (w : World) (base : Nat) (t u ty e : TypeId) (i : TypeInfo) (ht : P.underlying t = some (.slice e)) (hu : P.underlying u = some .string) (hi : P.info? e = some i) (hz : i.zero = some (.int .u8 0)) (hsize : i.size = 1) (hby : i.bytes = 1)
    (v : Value) (n : Nat) (xs : List Value) (hown : w.ownsRow base e 1 v n xs) (hn : 0 < n) (s : ByteArray) (hsm : n + s.size ≤ 140737488355328) (hbase : base ≤ w.heap.size) :
    ∃ v' w', (Builtin.append_ #[t, u] ty #[v, .string s]).run P w = .ok v' w' ∧ w'.ownsRow base e 1 v' (n + s.size) (xs ++ Lib.strCells s) ∧ w.grownBy w' v.ownBlock ∧ (v'.ownBlock = v.ownBlock ∨ v'.ownBlock = some w.heap.size) := by
  obtain ⟨v', w', hr, h2, h3, -⟩ := Lib.run_append_own_string (P := P) w base t u ty e i ht hu hi hz hsize hby v n xs hown s (by unfold maxLen; omega) hsm hbase
  refine ⟨v', w', hr, h2, h3, ?_⟩
  rcases hown.2 with ⟨rfl, rfl⟩ | ⟨g, cap, cur, rfl, hbg, hg, hnc, hcm, hcs, htake⟩
  · omega
  · by_cases hroom : n + s.size ≤ cap
    · have h := Lib.run_append_room_string (P := P) w t u ty e i ht hu hi hsize g n cap cur hg s hroom (by omega)
      rw [hr] at h
      injection h with h1
      subst h1
      exact .inl rfl
    · have hl : xs.length = n * i.size := by rw [hsize]; exact hown.1
      have hold : ∀ j u, xs[j]? = some u → w.cell? ((⟨g, 0, none⟩ : Addr).add j) = some u := hown.cells (g := g) rfl
      have h := Lib.run_append_grow_string (P := P) w t u ty e i (.int .u8 0) ht hu hi hz ⟨g, 0, none⟩ n cap xs hl hold s (by omega) (by omega) (by rw [hby]; exact growslice_fits (by omega) (by omega))
      rw [hr] at h
      injection h with h1
      subst h1
      exact .inr rfl
theorem wpList_append_run {P : Program} {w w' : World} {ops : Array Oper} {rest : List Oper} {o : Oper} {a : Act} {Q : Exit → Act → World → Prop} (hgd : o.guard = none) (sl x : Operand) (t u : TypeId)
    (ho : o.op = .call { callee := .builtin .append, args := #[sl, x], argTypes := #[t, u] }) {v s v' : Value} (hs : a.eval sl = v) (hx : a.eval x = s) (hr : (Builtin.append_ #[t, u] o.type #[v, s]).run P w = .ok v' w') (h : wpList P ops Q rest (a.put o.dst v') w') : wpList P ops Q (o :: rest) a w := by
  refine wpList_plain hgd fun K hK => ?_
  unfold Oper.wp execOp
  simp only [ho, resolve, invoke, builtin, Sem.run_bind, Sem.run_pure, Result.andThen_ok, List.map_toArray, List.map_cons, List.map_nil, hs, hx, hr]
  exact hK _ _ h
theorem info_u8z : ∃ i, Tryz.prog.info? 5 = some i ∧ i.zero = some (.int .u8 0) ∧ i.size = 1 ∧ i.bytes = 1 := by
  have h : (Tryz.prog.info? 5).map (fun i => (i.zero, i.size, i.bytes)) = some (some (.int .u8 0), 1, 1) := by kernel_rfl
  obtain ⟨i, hi, h2⟩ := Option.map_eq_some_iff.1 h
  simp only [Prod.mk.injEq] at h2
  exact ⟨i, hi, h2⟩
theorem strCells_is (t : ByteArray) : Lib.strCells t = Ids.u8s (bytesN t) := by
  unfold Lib.strCells Ids.u8s bytesN
  rw [List.map_map]
  rfl
/-- The place of a new text. -/
def WS.place (s : WS) (t : ByteArray) : WS := ⟨s.out, s.ts ++ [t]⟩
theorem WrSt.place {w w1 : World} {base g bm : Nat} {O : Nat → Prop} {s : WS} {vo : Value} {D : DataW Unit} (h : WrSt w base g O s vo bm D) {t : ByteArray} (hix : ix s.ts t = none)
    (hown : w1.ownsMap Tryz.prog 9 (plainElem Tryz.prog 3) bm (s.ts.length + 1) (D.put (kdS t) (.lit (.int .i64 s.ts.length)))) (hg : w.grownBy w1 (some bm)) :
    WrSt w1 base g O (s.place t) vo bm (D.put (kdS t) (.lit (.int .i64 s.ts.length))) ∧ TurnedP O w w1 := by
  have ht : TurnedP (fun k => k = bm) w w1 := (TurnedP.refl _ _).grown hg fun k _ e => by injection e with e; exact e.symm
  have hhas : Maps.has D (kdS t) = false := by rw [h.are.has t trivial, ixI, hix]; rfl
  refine ⟨⟨h.blk.turnedP ht (fun e => map_kind h.map h.blk e.symm), own_turnedP h.out ht fun k hk e => ?_, ?_, (h.are.put (fun a b _ _ => kdS_inj a b) t trivial (kdS_key t) _).congr (fn_snoc2 hix), h.gfar, h.mfar, ?_, h.mine⟩, ht.more fun k _ hk => (h.mine k).2 (.inr (.inr hk))⟩
  · subst e
    exact map_own h.map h.out hk
  · show w1.ownsMap _ _ _ bm (s.ts ++ [t]).length _
    rw [List.length_append]
    exact hown
  · show Maps.size _ = (s.ts ++ [t]).length
    rw [Maps.size_put (h.map.tidy (string_keyed Tryz.underlying9)) _, hhas, List.length_append, h.size]
    rfl
set_option maxHeartbeats 2000000 in
set_option maxRecDepth 100000 in
theorem wtruth_any {w : World} {base g : Nat} {O : Nat → Prop} {s : WS} (h : WrAt w base g O s) (b : Bool) (hm : (s.num (if b then 1 else 0)).out.length ≤ mostB) :
    Calls Tryz.prog 119 #[.pointer (some ⟨g, 0, none⟩), .bool b] w (Wrote w base g O (s.num (if b then 1 else 0))) := by
  have CN := Lib.hid (wnum_any h _ hm)
  clear h hm
  cases b with
  | true =>
    simp only [if_pos] at CN ⊢
    go_enter Tryz.func119, Tryz.ntmps119
    go_wp2_with fail
    refine CN.out.mono ?_
    rintro e w1 hw
    have HV := Lib.hid hw
    obtain ⟨rfl, -⟩ := hw
    go_wp2_with fail
    go_end0
    exact HV.out
  | false =>
    simp only [Bool.false_eq_true, if_false] at CN ⊢
    go_enter Tryz.func119, Tryz.ntmps119
    go_wp2_with fail
    refine CN.out.mono ?_
    rintro e w1 hw
    have HV := Lib.hid hw
    obtain ⟨rfl, -⟩ := hw
    go_wp2_with fail
    go_end0
    exact HV.out
set_option maxHeartbeats 4000000 in
set_option maxRecDepth 100000 in
theorem wtext_some {w : World} {base g : Nat} {O : Nat → Prop} {s : WS} (h : WrAt w base g O s) (t : ByteArray) (ht : t.size ≤ maxLen) {k : Nat} (hk : ix s.ts t = some k) (hm : (s.num (k : Int)).out.length ≤ mostB) :
    Calls Tryz.prog 118 #[.pointer (some ⟨g, 0, none⟩), .string t] w (Wrote w base g O (s.num (k : Int))) := by
  have CN := Lib.hid (wnum_any h _ hm)
  obtain ⟨vo, bm, D, hS⟩ := h
  have HK := Lib.hid (Go.WideMaps.keyOf_string_mk (P := Tryz.prog) Tryz.underlying9 (s := t) ht)
  have c1 : w.cell? ⟨g, 0 + 1, none⟩ = some (.map (some bm)) := hS.blk.cell 1
  have hhas : Maps.has D (Lit.string t.data.toList) = true := by rw [show Lit.string t.data.toList = kdS t from rfl, hS.are.has t trivial, ixI, hk]; rfl
  have HS := Lib.hid hS
  have HIX := Lib.hid hk
  clear hS hk hm ht
  go_enter Tryz.func118, Tryz.ntmps118
  go_wp2_with (at_lookup; refine wpList_lookup_own_ok_int _ rfl _ _ 116 rfl 9 3 .i64 (string_keyed Tryz.underlying9) Tryz.underlying116 Tryz.underlying3 (zeroI2 _) bm _ D rfl HS.out.map _ _ rfl HK.out ?_; intro c hat hwc)
  obtain rfl : c = (k : Int) := by
    have := HS.out.are.at_ t trivial hat
    rw [ixI, HIX.out] at this
    exact this
  clear hat hwc c1 hhas HS HIX HK
  refine CN.out.mono ?_
  rintro e w1 hw
  have HV := Lib.hid hw
  obtain ⟨rfl, -⟩ := hw
  go_wp2_with fail
  go_end0
  exact HV.out
set_option maxHeartbeats 4000000 in
set_option maxRecDepth 100000 in
theorem wtext_none {w : World} {base g : Nat} {O : Nat → Prop} {s : WS} (h : WrAt w base g O s) (t : ByteArray) (ht : t.size ≤ maxLen) (hk : ix s.ts t = none) (hf : s.Few) (hm : (s.text t).out.length ≤ mostB) :
    Calls Tryz.prog 118 #[.pointer (some ⟨g, 0, none⟩), .string t] w (Wrote w base g O (s.text t)) := by
  have hts : s.text t = ⟨((s.num (s.ts.length : Int)).num (t.size : Int)).out ++ bytesN t, s.ts ++ [t]⟩ := by unfold WS.text; rw [hk]
  rw [hts] at hm ⊢
  simp only [List.length_append] at hm
  obtain ⟨vo, bm, D, hS⟩ := h
  have HK := Lib.hid (Go.WideMaps.keyOf_string_mk (P := Tryz.prog) Tryz.underlying9 (s := t) ht)
  have c1 : w.cell? ⟨g, 0 + 1, none⟩ = some (.map (some bm)) := hS.blk.cell 1
  have hhas : Maps.has D (Lit.string t.data.toList) = false := by rw [show Lit.string t.data.toList = kdS t from rfl, hS.are.has t trivial, ixI, hk]; rfl
  have HS := Lib.hid hS
  have HIX := Lib.hid hk
  have HM := Lib.hid hm
  have hml : ((s.num (s.ts.length : Int)).num (t.size : Int)).out.length = s.out.length + (numB (s.ts.length : Int)).length + (numB (t.size : Int)).length := by rw [WS.num_out, WS.num_out]
  have HML := Lib.hid hml
  have hmo : s.ts.length ≤ 17592186044420 := by unfold WS.Few at hf; unfold mostB at hm; omega
  have hlen : (Builtin.len_ #[116] 3 #[.map (some bm)]).run Tryz.prog w = .ok (.int .i64 (s.ts.length : Int)) w := by
    have h := hS.map.len Tryz.underlying116 3
    rwa [hS.size] at h
  have HU : Hid (t.size ≤ 17592186044416) := by
    have h1 := hm
    rw [bytesN_len] at h1
    unfold mostB at h1
    show t.size ≤ _
    omega
  clear hS hk hm hml hf
  go_enter Tryz.func118, Tryz.ntmps118
  go_wp2_with (first
    | (at_lookup; refine wpList_lookup_own_ok_int _ rfl _ _ 116 rfl 9 3 .i64 (string_keyed Tryz.underlying9) Tryz.underlying116 Tryz.underlying3 (zeroI2 _) bm _ D rfl HS.out.map _ _ rfl HK.out ?_; intro c hat hwc)
    | (at_mapUpdate; refine wpList_mapUpdate_own _ rfl _ _ _ 116 rfl 9 3 (string_keyed Tryz.underlying9) Tryz.underlying116 _ bm s.ts.length D rfl HS.out.map (by unfold maxLen; omega) _ _ _ rfl rfl HK.out _ [] (plainElem_int Tryz.underlying3 (wfN2 (by omega))) ?_; intro w1 hown1 hg1; obtain ⟨hW1, ht1⟩ := WrSt.place HS.out HIX.out hown1 hg1; have HW1 := Lib.hid hW1; have HT1 := Lib.hid ht1; clear hown1 hg1 hW1 ht1))
  clear hat hwc hhas hlen c1
  have C1 := Lib.hid (wnum_any ⟨_, _, _, HW1.out⟩ (s.ts.length : Int) (by have := HM.out; have := HML.out; rw [WS.num_out]; show s.out.length + _ ≤ _; omega))
  refine C1.out.mono ?_
  rintro e w2 ⟨rfl, O2, hA2, hT2, hO2⟩
  have C2 := Lib.hid (wnum_any hA2 (t.size : Int) (by have := HM.out; have := HML.out; rw [WS.num_out, WS.num_out]; show s.out.length + _ + _ ≤ _; omega))
  have H2 := Lib.hid (And.intro hT2 hO2)
  clear hA2 hT2 hO2 C1
  go_wp2_with fail
  refine C2.out.mono ?_
  rintro e w3 ⟨rfl, O3, hA3, hT3, hO3⟩
  obtain ⟨v3, bm3, D3, hS3⟩ := hA3
  obtain ⟨n3, hn3⟩ : ∃ n3, n3 = (((s.place t).num (s.ts.length : Int)).num (t.size : Int)).out.length := ⟨_, rfl⟩
  have hn3' : n3 = s.out.length + (numB (s.ts.length : Int)).length + (numB (t.size : Int)).length := by rw [hn3, WS.num_out, WS.num_out]; rfl
  have hpos := (numB_len (t.size : Int)).1
  have hown3 := hS3.out
  rw [← hn3] at hown3
  obtain ⟨A3, c3, rfl, h31, h32⟩ := own_form' hown3
  obtain ⟨i0, hi0, hz0, hz1, hz2⟩ := info_u8z
  have hsm : n3 + t.size ≤ mostB := by have h := HM.out; rw [bytesN_len] at h; have := HML.out; omega
  obtain ⟨v4, w4, hrun, hown4, hg4, hat4⟩ := run_append_text w3 base 60 9 60 5 i0 Tryz.underlying60 Tryz.underlying9 hi0 hz0 hz1 hz2 (.slice A3 n3 c3) n3 _ hown3 (by omega) t (by unfold mostB at hsm; omega) (by have h1 := hS3.gfar; have h2 := hS3.blk.lt; omega)
  rw [strCells_is] at hown4
  obtain ⟨hW4, ht4, ho4⟩ := WrSt.put hS3 (bytesN t) hg4 (by rw [bytesN_len, ← hn3]; exact hown4) hat4
  have htM1 : TurnedP (fun k => (Value.slice A3 n3 c3).ownBlock = some k) w3 w4 := (TurnedP.refl _ _).grown hg4 fun k _ hk => hk
  have hB3 := hS3.blk
  have hB4 := hB3.turnedP htM1 (own_kind hown3 hB3 (by decide))
  obtain ⟨A4, c4, rfl, _, _⟩ := own_form' hown4
  have HV : Hid (Wrote w base g O ⟨((s.num (s.ts.length : Int)).num (t.size : Int)).out ++ bytesN t, s.ts ++ [t]⟩ (.returned (.tuple #[])) (w4.setCell ⟨g, 0, none⟩ (.slice A4 (n3 + t.size) c4))) := by
    refine ⟨rfl, _, ⟨_, _, _, hW4⟩, ((HT1.out.trans H2.out.1 (fun _ _ h => h)).trans hT3 (fun k hk h => ?_)).trans ht4 (fun k hk h => ?_), fun k hk => ?_⟩
    · rcases H2.out.2 k h with h | h
      · exact h
      · have := HT1.out.size; omega
    · rcases hO3 k h with h | h
      · rcases H2.out.2 k h with h | h
        · exact h
        · have := HT1.out.size; omega
      · have := HT1.out.size; have := H2.out.1.size; omega
    · have z1 := HT1.out.size
      have z2 := H2.out.1.size
      have z3 := hT3.size
      rcases ho4 k hk with h | h
      · rcases hO3 k h with h | h
        · rcases H2.out.2 k h with h | h
          · exact .inl h
          · exact .inr (by omega)
        · exact .inr (by omega)
      · exact .inr (by omega)
  have c0 := hB3.cell 0
  have d0 := hB4.cell 0
  have d1 := hB4.free 0
  simp at c0 d0
  clear hW4 ht4 ho4 htM1 hB3 hB4 hown3 hown4 hg4 hat4 hS3 hT3 hO3 C2 hn3 hn3' hpos hsm H2
  have HRun := Lib.hid hrun
  clear hrun
  go_wp2_with (at_builtin; refine wpList_append_run rfl (.tmp 41) (.tmp 42) 60 9 rfl rfl rfl HRun.out ?_)
  go_end0
  exact HV.out
theorem WS.text_some {s : WS} {t : ByteArray} {k : Nat} (hk : ix s.ts t = some k) : s.text t = s.num (k : Int) := by unfold WS.text; rw [hk]
theorem wtext_any {w : World} {base g : Nat} {O : Nat → Prop} {s : WS} (h : WrAt w base g O s) (t : ByteArray) (ht : t.size ≤ maxLen) (hf : s.Few) (hm : (s.text t).out.length ≤ mostB) :
    Calls Tryz.prog 118 #[.pointer (some ⟨g, 0, none⟩), .string t] w (Wrote w base g O (s.text t)) := by
  cases hk : ix s.ts t with
  | some k =>
    rw [WS.text_some hk] at hm ⊢
    exact wtext_some h t ht hk hm
  | none => exact wtext_none h t ht hk hf hm
end Go.Proofs.YtpmfmkpfjomgnaaGreatDoor
