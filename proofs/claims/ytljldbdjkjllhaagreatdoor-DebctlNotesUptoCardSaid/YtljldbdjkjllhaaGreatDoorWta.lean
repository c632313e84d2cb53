/- A text of stanzas: pure, and the packages in memory. A text of stanzas is read: the walk. -/
import Derived.Test.YtljldbdjkjllhaaGreatDoorWqa
import Derived.Test.YtljldbdjkjllhaaGreatDoorWsa
/- A text of stanzas: pure, and the packages in memory. -/
namespace Go.Proofs.YtljldbdjkjllhaaGreatDoor
set_option linter.unusedSimpArgs false
set_option linter.unusedVariables false
open Go.RowKit Go.MapKept

def parseX : Nat → Bs → List Fs → Except Int (List Fs)
  | 0, _, acc => .ok acc
  | n + 1, t, acc => if t = [] then .ok acc else match readX (t.length + 1) t [] [] with
    | none => .error 120
    | some (s, rest) => if s = [] then parseX n rest acc else if 200 ≤ acc.length then .error 121 else match packX s with
      | .error e => .error e
      | .ok S => parseX n rest (acc ++ [S])
theorem readX_le : ∀ (n : Nat) (t : Bs) (s : Stz) (last : Bs) (s' : Stz) (rest : Bs), readX n t s last = some (s', rest) → rest.length ≤ t.length ∧ (0 < n → t ≠ [] → rest.length < t.length)
  | 0, t, s, last, s', rest, h => by
    injection h with h
    injection h with h1 h2
    subst h2
    exact ⟨Nat.zero_le _, fun h => absurd h (Nat.lt_irrefl _)⟩
  | n + 1, t, s, last, s', rest, h => by
    by_cases ht : t = []
    · subst ht
      rw [readX_nil] at h
      injection h with h
      injection h with h1 h2
      subst h2
      exact ⟨Nat.le_refl _, fun _ h => absurd rfl h⟩
    · rw [readX_cons ht] at h
      obtain ⟨_, l2, l3⟩ := cutc_len 10 t
      obtain ⟨l3, _⟩ := l3 ht
      cases hs : stepX (Lib.cut t [10]).1 s last with
      | stop =>
        rw [hs] at h
        injection h with h
        injection h with h1 h2
        subst h2
        exact ⟨l2, fun _ _ => l3⟩
      | bad => rw [hs] at h; cases h
      | go s1 l1 =>
        rw [hs] at h
        have := (readX_le n _ s1 l1 s' rest h).1
        exact ⟨by omega, fun _ _ => by omega⟩
theorem parseX_nil {n : Nat} {acc : List Fs} : parseX (n + 1) [] acc = .ok acc := if_pos rfl
theorem parseX_cons {n : Nat} {t : Bs} {acc : List Fs} (h : t ≠ []) : parseX (n + 1) t acc = match readX (t.length + 1) t [] [] with
    | none => .error 120
    | some (s, rest) => if s = [] then parseX n rest acc else if 200 ≤ acc.length then .error 121 else match packX s with
      | .error e => .error e
      | .ok S => parseX n rest (acc ++ [S]) := if_neg h
/-! The packages. -/
structure Pk5 where
  S : Fs
  ss : Nat → Value
  rs : Nat → Ev.Rows5
  F : List Nat
structure PkV (w : World) (x : Pk5) : Prop where
  own : ∀ i, i < 7 → w.ownsRow 0 44 5 (x.ss i) (x.rs i).length (Ev.cells5 (x.rs i))
  is : ∀ i, i < 7 → (x.rs i).map Prod.fst = x.S.D i
  lay : ∀ i, i < 7 → ∀ y ∈ x.rs i, Ev.Lay w (fun b => b ∈ x.F) y.1 y.2
  dep : ∀ b ∈ x.F, ∃ cs, Blk w b 44 cs
theorem own_zero {w : World} {base n sz : Nat} {e : TypeId} {v : Value} {xs : List Value} (h : w.ownsRow base e sz v n xs) : w.ownsRow 0 e sz v n xs := by
  refine ⟨h.1, ?_⟩
  rcases h.2 with h2 | ⟨g, cap, cur, h1, _, h3⟩
  · exact .inl h2
  · exact .inr ⟨g, cap, cur, h1, Nat.zero_le _, h3⟩
theorem PkM.val {w0 w : World} {pb : Nat} {T : Nat → Bs} {D : Nat → List Ev.Dep} {ss : Nat → Value} {rs : Nat → Ev.Rows5} {F : List Nat} (h : PkM w0 w pb T D ss rs F) : PkV w ⟨⟨T, D⟩, ss, rs, F⟩ :=
  ⟨fun i hi => own_zero (h.own i hi), h.is, h.lay, fun b hb => (h.dep b hb).2⟩
theorem PkV.turned {w w' : World} {x : Pk5} {R : List Nat} (h : PkV w x) (ht : Turned R w w') (hR : ∀ k ∈ R, w.heap.size ≤ k ∨ ∃ cs, Blk w k 42 cs) : PkV w' x := by
  have hn : ∀ b ∈ x.F, b ∉ R := fun b hb hm => by
    obtain ⟨cs', h2⟩ := h.dep b hb
    rcases hR b hm with h3 | ⟨cs, h3⟩
    · have := h2.lt
      omega
    · exact Blk.kind h2 h3 (by decide) rfl
  refine ⟨fun i hi => own_turned (h.own i hi) ht (fun k hk hm => ?_), h.is, fun i hi y hy => Ev.Lay.stay (fun _ h => h) (Ev.StayS.turned ht hn) y.1 y.2 (h.lay i hi y hy), fun b hb => ?_⟩
  · rcases hR k hm with h3 | ⟨cs, h3⟩
    · have := own_lt (h.own i hi) hk
      omega
    · exact own_kind (h.own i hi) h3 (by decide) hk
  · obtain ⟨cs', h2⟩ := h.dep b hb
    exact ⟨cs', h2.turned ht (hn b hb)⟩
theorem PkV.below {w w' : World} {x : Pk5} (h : PkV w x) (hb : Below w.heap.size w w') : PkV w' x := h.turned (Turned.of_below hb []) (fun k hk => by cases hk)
theorem PkV.list {w : World} {x : Pk5} (h : PkV w x) {i : Nat} (hi : i < 7) : Ev.ListAt w (DbB w) (x.S.D i) (x.ss i) := by
  have hD := h.is i hi
  have hlen : (x.S.D i).length = (x.rs i).length := by rw [← hD, List.length_map]
  rcases (h.own i hi).2 with ⟨hv, h0⟩ | ⟨g, cap, cur, hv, hb, hg, h1, h2, h3, ht⟩
  · have hr : x.rs i = [] := List.length_eq_zero_iff.1 h0
    rw [hr] at hD
    rw [← hD]
    exact ⟨none, 0, hv, Nat.le_refl _, by unfold maxLen; omega, fun _ => rfl, fun j a ha => by simp at ha⟩
  · refine ⟨some ⟨g, 0, none⟩, cap, by rw [hlen]; exact hv, by omega, h2, fun e => (by cases e), fun j a ha => ?_⟩
    rw [← hD, List.getElem?_map] at ha
    obtain ⟨y, hx, rfl⟩ := Option.map_eq_some_iff.1 ha
    obtain ⟨c0, c1, c2, c3, c4⟩ := Ev.cells5_at hx
    have hown := h.own i hi
    rw [hv] at hown
    have hat : ∀ {k : Nat} {u : Value}, (Ev.cells5 (x.rs i))[k]? = some u → w.cell? ⟨g, k, none⟩ = some u := fun {k u} hk => by
      obtain ⟨b, e, hc⟩ := own_ats hown hk
      injection e with e
      injection e with e
      subst e
      exact hc
    have hB : ∀ b, b ∈ x.F → DbB w b := fun b hb => h.dep b hb
    exact ⟨g, 0, y.2, rfl, ⟨cur, hg⟩, ⟨by rw [Nat.zero_add]; exact hat c0, by rw [Nat.zero_add]; exact hat c1, by rw [Nat.zero_add]; exact hat c2, by rw [Nat.zero_add]; exact hat c3, by rw [Nat.zero_add]; exact hat c4⟩, Ev.Lay.stay hB (Ev.StayS.refl _ _) y.1 y.2 (h.lay i hi y (List.mem_of_getElem? hx))⟩
theorem PkV.pkg {w : World} {x : Pk5} (h : PkV w x) : Ev.PkgAt w (DbB w) (fun _ => False) (pkgT x.S) x.ss (.slice none 0 0) :=
  ⟨fun i hi => by
    have e : (pkgT x.S).ls i = x.S.D i := if_pos hi
    rw [e]
    exact h.list hi, ⟨none, 0, rfl, Nat.le_refl _, by unfold maxLen; omega, fun _ => rfl, fun k s hk => by simp [pkgT] at hk⟩⟩
def rowsC : List Pk5 → List Value
  | [] => []
  | x :: r => (rowT x.S.T x.ss).toList ++ rowsC r
theorem rowsC_snoc (x : Pk5) : ∀ l : List Pk5, rowsC (l ++ [x]) = rowsC l ++ (rowT x.S.T x.ss).toList
  | [] => by show (rowT x.S.T x.ss).toList ++ [] = [] ++ _; rw [List.append_nil]; rfl
  | y :: r => by show _ ++ rowsC (r ++ [x]) = (_ ++ rowsC r) ++ _; rw [rowsC_snoc x r, List.append_assoc]
structure PsV (w0 w : World) (v : Value) (xs : List Pk5) : Prop where
  row : w.ownsRow w0.heap.size 42 12 v xs.length (rowsC xs)
  all : ∀ x ∈ xs, PkV w x
  bel : Below w0.heap.size w0 w
theorem PsV.below {w0 w w' : World} {v : Value} {xs : List Pk5} (h : PsV w0 w v xs) (hb : Below w.heap.size w w') : PsV w0 w' v xs :=
  ⟨own_turned h.row (Turned.of_below hb []) (fun k hk => by simp), fun x hx => (h.all x hx).below hb, h.bel.trans (hb.mono h.bel.size)⟩
theorem PsV.put {w0 w w2 : World} {v v' : Value} {xs : List Pk5} {x : Pk5} (h : PsV w0 w v xs) (hx : PkV w x) (hown : w2.ownsRow w0.heap.size 42 12 v' (xs.length + 1) (rowsC xs ++ (rowT x.S.T x.ss).toList)) (hg : w.grownBy w2 v.ownBlock) : PsV w0 w2 v' (xs ++ [x]) := by
  have ht : Turned v.ownBlock.toList w w2 := grown_turned hg
  have hR : ∀ k ∈ v.ownBlock.toList, w.heap.size ≤ k ∨ ∃ cs, Blk w k 42 cs := fun k hk => by
    have hk : v.ownBlock = some k := by simpa using hk
    rcases h.row.2 with ⟨rfl, _⟩ | ⟨g, cap, cur, rfl, _, hg, _⟩
    · cases hk
    · injection hk with hk
      subst hk
      exact .inr ⟨cur, hg⟩
  refine ⟨by rw [rowsC_snoc, List.length_append]; exact hown, fun y hy => ?_, h.bel.trans (ht.below (fun k hk => ?_) h.bel.size)⟩
  · rcases List.mem_append.1 hy with hy | hy
    · exact (h.all y hy).turned ht hR
    · rw [List.mem_singleton.1 hy]
      exact hx.turned ht hR
  · exact (h.row.lt k (by simpa using hk)).1
def ParsePost (w0 : World) (X : Except Int (List Fs)) (e : Ending) (w' : World) : Prop := match X with
  | .error n => e = .returned (.tuple #[.slice none 0 0, .int .i64 n]) ∧ n ≠ 0 ∧ Below w0.heap.size w0 w'
  | .ok l => ∃ v xs, e = .returned (.tuple #[v, .int .i64 0]) ∧ xs.map Pk5.S = l ∧ PsV w0 w' v xs
theorem szEs_len {w : World} {B : Nat} : ∀ {s : Stz} {vs : List Value}, RowsS w B s vs → (szEs s vs).length = s.length
  | [], [], _ => rfl
  | (a, l) :: r, v :: t, ⟨_, _, h⟩ => by show (szEs r t).length + 1 = r.length + 1; rw [szEs_len h]
theorem mapEs_len : ∀ (l : List (ByteArray × Value)) (i : Nat), (mapEs l i).length = l.length
  | [], _ => rfl
  | (a, v) :: r, i => by show (mapEs r (i + 1)).length + 1 = r.length + 1; rw [mapEs_len r]
theorem len_stz {w : World} {B sm : Nat} {s : Stz} {vs : List Value} (h : SzAt w B sm s vs) (ty : TypeId) : (Builtin.len_ #[77] ty #[.map (some sm)]).run Tryz.prog w = .ok (.int .i64 (s.length : Int)) w := by
  have hb := h.map
  unfold mapO at hb
  have hlen : (mapEs (szEs s vs) 0).toArray.size = s.length := by
    rw [List.size_toArray, mapEs_len, szEs_len h.rows]
  have := run_len_map (P := Tryz.prog) w 77 ty sm _ _ (by kernel_rfl) hb
  rw [this, hlen]
  rfl
end Go.Proofs.YtljldbdjkjllhaaGreatDoor

/- A text of stanzas is read: the walk. -/
namespace Go.Proofs.YtljldbdjkjllhaaGreatDoor
set_option linter.unusedSimpArgs false
set_option linter.unusedVariables false
open Go.RowKit Go.MapKept

theorem info_pk : ∃ i z, Tryz.prog.info? 42 = some i ∧ i.zero = some z ∧ z.cells.size = 12 ∧ i.size = 12 ∧ i.bytes = 256 := by
  have h : (Tryz.prog.info? 42).map (fun i => (i.zero.map fun z => z.cells.size, i.size, i.bytes)) = some (some 12, 12, 256) := by kernel_rfl
  obtain ⟨i, hi, h2⟩ := Option.map_eq_some_iff.1 h
  simp only [Prod.mk.injEq] at h2
  obtain ⟨z, hz, hz1⟩ := Option.map_eq_some_iff.1 h2.1
  exact ⟨i, z, hi, hz, hz1, h2.2.1, h2.2.2⟩
def parseT (l : Bs) : Except Int (List Fs) := if l.length ≤ 40000 then parseX (l.length + 1) l [] else .error 122
set_option maxHeartbeats 16000000 in
set_option maxRecDepth 1000000 in
theorem dparse_any (l : Bs) (w : World) (hW : DbW w) : Calls Tryz.prog 17 #[.string (mkS l)] w (ParsePost w (parseT l)) := by
  unfold parseT
  by_cases hl : l.length ≤ 40000
  rotate_left
  · rw [if_neg hl]
    have hgt : (40000 : Int) < ((mkS l).size : Int) := by rw [mkS_size]; omega
    clear hl hW
    generalize mkS l = L at *
    go_enter Tryz.func17, Tryz.ntmps17
    go_wp2_with fail
    go_ret2
    exact ⟨rfl, by decide, Below.refl _ _⟩
  rw [if_pos hl]
  have hgt : ¬ (40000 : Int) < ((mkS l).size : Int) := by rw [mkS_size]; omega
  obtain ⟨i, z, hi, hz0, hz1, hz2, hz3⟩ := info_pk
  have HI := Lib.hid hi
  have HW := Lib.hid hW
  have CRd := Lib.hid (fun (t : Bs) (ht : t.length ≤ 40000) wx (h : MaxAt wx) => read_any t ht wx h)
  have CPk := Lib.hid (fun (s : Stz) (sm B : Nat) (vs : List Value) (wx : World) h1 h2 h3 h4 => pack_any s sm B vs wx h1 h2 h3 h4)
  have HP0 : Hid (PsV w w (.slice none 0 0) []) := ⟨World.ownsRow_nil _ _ _ _, fun x hx => (by cases hx), Below.refl _ _⟩
  obtain ⟨X, hX⟩ : ∃ X, X = parseX (l.length + 1) l [] := ⟨_, rfl⟩
  rw [← hX]
  have HX : Hid (parseX (l.length + 1) l [] = X) := hX.symm
  clear hX hW hi
  have hN : l.length < l.length + 1 := by omega
  generalize l.length + 1 = N at *
  go_enter Tryz.func17, Tryz.ntmps17
  go_wp2_with fail
  go_loopg [0, 4] N (fun gk v0 v4 wx => ∃ (t : Bs) (xs : List Pk5), v0 = .string (mkS t) ∧ Hid (PsV w wx v4 xs) ∧ t.length < gk ∧ t.length ≤ 40000 ∧ xs.length ≤ 200 ∧ Hid (parseX gk t (xs.map Pk5.S) = X))
  case atStart => exact ⟨l, [], rfl, HP0, hN, hl, by simp, HX⟩
  case round =>
    obtain ⟨t, xs, rfl, HP, hlt, ht4, hx2, HXk⟩ := hrel
    clear HP0 HX hN hgt
    obtain ⟨g1, hg1⟩ : ∃ g1, gk = g1 + 1 := ⟨gk - 1, by omega⟩
    have hXk := HXk.out
    rw [hg1] at hXk
    clear HXk
    obtain ⟨Av, cv, rfl, hcv1, hcv2⟩ := own_form' HP.out.row
    by_cases ht0 : t = []
    · have he : (mkS t).toList.isEmpty = true := by rw [isEmpty_mkS, ht0]; rfl
      rw [ht0, parseX_nil] at hXk
      have HXe := Lib.hid hXk.symm
      clear hXk ht0
      generalize mkS t = T at *
      go_wp2_with fail
      go_ret2
      show ParsePost w X _ _
      rw [HXe.out]
      exact ⟨_, xs, rfl, rfl, HP.out⟩
    have he : (mkS t).toList.isEmpty = false := by rw [isEmpty_mkS]; simpa using ht0
    rw [parseX_cons ht0] at hXk
    have CRk := Lib.hid (CRd.out t ht4 wr (HW.out.below HP.out.bel).base.max)
    have hle := fun s' r' h => (readX_le (t.length + 1) t [] [] s' r' h).2 (by omega) ht0
    clear CRd ht0
    generalize readX (t.length + 1) t [] [] = R at *
    cases R with
    | none =>
      have HXe := Lib.hid hXk.symm
      clear hXk hle
      go_wp2_with fail
      refine CRk.out.mono ?_
      rintro e w5 ⟨rfl, hb⟩
      have HB5 := Lib.hid (HP.out.bel.trans (hb.mono HP.out.bel.size))
      clear hb CRk HP
      go_wp2_with fail
      go_ret2
      show ParsePost w X _ _
      rw [HXe.out]
      exact ⟨rfl, by decide, HB5.out⟩
    | some sr =>
      obtain ⟨s, rest⟩ := sr
      have hrl := hle s rest rfl
      clear hle
      go_wp2_with fail
      refine CRk.out.mono ?_
      rintro e w5 ⟨sm, vs, rfl, hS, hge, hwt, hb⟩
      have HP5 := Lib.hid (HP.out.below hb)
      have HS5 := Lib.hid hS
      have hln := len_stz hS
      have hXk : (if s = [] then parseX g1 rest (xs.map Pk5.S) else if 200 ≤ (xs.map Pk5.S).length then .error 121 else match packX s with
        | .error e => .error e
        | .ok S => parseX g1 rest (xs.map Pk5.S ++ [S])) = X := hXk
      clear hb hS CRk HP
      by_cases hs0 : s = []
      · have hln0 : ∀ ty, (Builtin.len_ #[77] ty #[.map (some sm)]).run Tryz.prog w5 = .ok (.int .i64 0) w5 := fun ty => by rw [hln ty, hs0]; rfl
        rw [if_pos hs0] at hXk
        have HXk := Lib.hid hXk
        clear hln hXk hs0
        go_wp2_with fail
        go_roundg g1
        case measure => omega
        case rel => exact ⟨rest, xs, rfl, HP5, by omega, by omega, hx2, HXk⟩
      rw [if_neg hs0, List.length_map] at hXk
      have hl0 : ((s.length : Int) == 0) = false := by
        have : s.length ≠ 0 := fun e => hs0 (List.length_eq_zero_iff.1 e)
        simp
        omega
      clear hs0
      by_cases h200 : 200 ≤ xs.length
      · have h2I : (200 : Int) ≤ (xs.length : Int) := by omega
        rw [if_pos h200] at hXk
        have HXe := Lib.hid hXk.symm
        clear hXk h200
        go_wp2_with fail
        go_ret2
        show ParsePost w X _ _
        rw [HXe.out]
        exact ⟨rfl, by decide, HP5.out.bel⟩
      · have h2I : ¬ (200 : Int) ≤ (xs.length : Int) := by omega
        rw [if_neg h200] at hXk
        have CPw := Lib.hid (CPk.out s sm wr.heap.size vs w5 HS5.out (fun n => Nat.le_trans (join_len _) (Nat.le_trans (wt_get n s) (by omega))) (fun n => Nat.le_trans (wt_len _) (Nat.le_trans (wt_get n s) (by omega))) (HW.out.below HP5.out.bel))
        clear CPk
        generalize packX s = PX at *
        cases PX with
        | error n =>
          have HXe := Lib.hid hXk.symm
          clear hXk
          go_wp2_with fail
          refine CPw.out.mono ?_
          rintro e w6 ⟨rfl, hn, hb⟩
          have HB6 := Lib.hid (HP5.out.bel.trans (hb.mono HP5.out.bel.size))
          have HN := Lib.hid hn
          have t1 : (n != 0) = true := by simp [hn]
          have t2 : (n == 0) = false := by simp [hn]
          clear hb CPw HP5 hn
          unfold zero12
          go_wp2_with fail
          go_ret2
          show ParsePost w X _ _
          rw [HXe.out]
          exact ⟨rfl, HN.out, by first | exact HB6.out.alloc HB6.out.size _ | exact (HB6.out.alloc HB6.out.size _)⟩
        | ok S =>
          have HXk : Hid (parseX g1 rest (xs.map Pk5.S ++ [S]) = X) := Lib.hid hXk
          clear hXk
          go_wp2_with fail
          refine CPw.out.mono ?_
          rintro e w6 ⟨ss, rs, F, pb, rfl, hM⟩
          obtain ⟨A0, c0, e0, _, _⟩ := own_form' (hM.own 0 (by omega))
          obtain ⟨A1, c1, e1, _, _⟩ := own_form' (hM.own 1 (by omega))
          obtain ⟨A2, c2, e2, _, _⟩ := own_form' (hM.own 2 (by omega))
          obtain ⟨A3, c3, e3, _, _⟩ := own_form' (hM.own 3 (by omega))
          obtain ⟨A4, c4, e4, _, _⟩ := own_form' (hM.own 4 (by omega))
          obtain ⟨A5, c5, e5, _, _⟩ := own_form' (hM.own 5 (by omega))
          obtain ⟨A6, c6, e6, _, _⟩ := own_form' (hM.own 6 (by omega))
          have hrow : rowT S.T ss = #[.string (mkS (S.T 0)), .string (mkS (S.T 1)), .string (mkS (S.T 2)), .string (mkS (S.T 3)), .slice A0 (rs 0).length c0, .slice A1 (rs 1).length c1, .slice A2 (rs 2).length c2, .slice A3 (rs 3).length c3, .slice A4 (rs 4).length c4, .slice A5 (rs 5).length c5, .slice A6 (rs 6).length c6, .slice none 0 0] := by unfold rowT; rw [e0, e1, e2, e3, e4, e5, e6]
          rw [hrow]
          have hb6 : Below w5.heap.size w5 w6 := hM.bel
          have HP6 := Lib.hid (HP5.out.below hb6)
          obtain ⟨w7, hw7⟩ : ∃ w7, w7 = (w6.alloc (.cells #[.string (mkS (S.T 0)), .string (mkS (S.T 1)), .string (mkS (S.T 2)), .string (mkS (S.T 3)), .slice A0 (rs 0).length c0, .slice A1 (rs 1).length c1, .slice A2 (rs 2).length c2, .slice A3 (rs 3).length c3, .slice A4 (rs 4).length c4, .slice A5 (rs 5).length c5, .slice A6 (rs 6).length c6, .slice none 0 0] 42)).alloc (.cells #[.string (mkS (S.T 0)), .string (mkS (S.T 1)), .string (mkS (S.T 2)), .string (mkS (S.T 3)), .slice A0 (rs 0).length c0, .slice A1 (rs 1).length c1, .slice A2 (rs 2).length c2, .slice A3 (rs 3).length c3, .slice A4 (rs 4).length c4, .slice A5 (rs 5).length c5, .slice A6 (rs 6).length c6, .slice none 0 0] 42) := ⟨_, rfl⟩
          have hb7 : Below w6.heap.size w6 w7 := by rw [hw7]; exact ((Below.refl _ _).alloc (Nat.le_refl _) _).alloc (by simp) _
          have HC7 : Hid (∀ (jj : Nat) u, [.string (mkS (S.T 0)), .string (mkS (S.T 1)), .string (mkS (S.T 2)), .string (mkS (S.T 3)), .slice A0 (rs 0).length c0, .slice A1 (rs 1).length c1, .slice A2 (rs 2).length c2, .slice A3 (rs 3).length c3, .slice A4 (rs 4).length c4, .slice A5 (rs 5).length c5, .slice A6 (rs 6).length c6, .slice none 0 0][jj]? = some u → w7.cell? ((⟨w6.heap.size + 1, 0, none⟩ : Addr).add jj) = some u) := fun jj u hj => by
            have h := cells_new (w6.alloc (.cells #[.string (mkS (S.T 0)), .string (mkS (S.T 1)), .string (mkS (S.T 2)), .string (mkS (S.T 3)), .slice A0 (rs 0).length c0, .slice A1 (rs 1).length c1, .slice A2 (rs 2).length c2, .slice A3 (rs 3).length c3, .slice A4 (rs 4).length c4, .slice A5 (rs 5).length c5, .slice A6 (rs 6).length c6, .slice none 0 0] 42)) #[.string (mkS (S.T 0)), .string (mkS (S.T 1)), .string (mkS (S.T 2)), .string (mkS (S.T 3)), .slice A0 (rs 0).length c0, .slice A1 (rs 1).length c1, .slice A2 (rs 2).length c2, .slice A3 (rs 3).length c3, .slice A4 (rs 4).length c4, .slice A5 (rs 5).length c5, .slice A6 (rs 6).length c6, .slice none 0 0] 42 jj u hj
            rw [hw7]
            simpa using h
          have HP7 := Lib.hid (HP6.out.below hb7)
          have hV : PkV w7 ⟨S, ss, rs, F⟩ := hM.val.below hb7
          have HPUT := Lib.hid (fun (v' : Value) (w' : World) ho hg => PsV.put (x := ⟨S, ss, rs, F⟩) (v' := v') (w2 := w') HP7.out hV (by show w'.ownsRow _ _ _ _ _ (rowsC xs ++ (rowT S.T ss).toList); rw [hrow]; exact ho) hg)
          have hszr : w.heap.size ≤ w6.heap.size := HP6.out.bel.size
          clear hb6 hb7 hV hM CPw HP5 HP6 HS5 hrow e0 e1 e2 e3 e4 e5 e6
          subst hw7
          go_wp2_with (at_builtin; refine wpList_append_own_at _ rfl (.tmp 38) (.tmp 40) 24 rfl w.heap.size 42 i z 12 256 Tryz.underlying24 HI.out hz0 hz2 hz3 hz1 (by decide) (.slice Av xs.length cv) xs.length (rowsC xs) rfl HP7.out.row ⟨w6.heap.size + 1, 0, none⟩ 1 1 [.string (mkS (S.T 0)), .string (mkS (S.T 1)), .string (mkS (S.T 2)), .string (mkS (S.T 3)), .slice A0 (rs 0).length c0, .slice A1 (rs 1).length c1, .slice A2 (rs 2).length c2, .slice A3 (rs 3).length c3, .slice A4 (rs 4).length c4, .slice A5 (rs 5).length c5, .slice A6 (rs 6).length c6, .slice none 0 0] rfl rfl HC7.out (by intro u hu; simp at hu; rcases hu with rfl | rfl | rfl | rfl | rfl | rfl | rfl | rfl | rfl | rfl | rfl | rfl <;> rfl) (by unfold maxLen; omega) (by omega) (by simp; omega) ?_; intro v7' w8 hown7 hg7 hnil7 hat7; have HP8 := Lib.hid (HPUT.out v7' w8 hown7 hg7); clear hown7 hg7 hnil7 hat7)
          go_roundg g1
          case measure => omega
          case rel => exact ⟨rest, xs ++ [⟨S, ss, rs, F⟩], rfl, HP8, by omega, by omega, by simp; omega, by rw [List.map_append]; exact HXk⟩
end Go.Proofs.YtljldbdjkjllhaaGreatDoor
