/-
  What memory holds: the cells from a place on hold the limbs of a number; a new row of limbs; a store into a row.
-/
import Derived.WalkKit
import Derived.Lib.Hide
import Derived.Deep.Draws
import Derived.Laws.CopyOwn
import Derived.Test.YtmfmbglacebeiaaNum
namespace PB
open Go Go.RowKit

/-- The n cells from place off of block b on hold the limbs of X. -/
def Num (w : World) (b off n X : Nat) : Prop := X < B^n ∧ ∀ i, i < n → w.cell? ⟨b, off + i, none⟩ = some (.int .u32 (dg X i))
theorem Num.lt {w : World} {b off n X : Nat} (h : Num w b off n X) : X < B^n := h.1
theorem Num.cell {w : World} {b off n X : Nat} (h : Num w b off n X) {i : Nat} (hi : i < n) : w.cell? ⟨b, off + i, none⟩ = some (.int .u32 (dg X i)) := h.2 i hi
theorem Num.cell0 {w : World} {b n X : Nat} (h : Num w b 0 n X) {i : Nat} (hi : i < n) : w.cell? ⟨b, i, none⟩ = some (.int .u32 (dg X i)) := by
  have := h.2 i hi; rwa [Nat.zero_add] at this
theorem Num.block_lt {w : World} {b off n X : Nat} (h : Num w b off n X) (hn : n ≠ 0) : b < w.heap.size := by
  have h0 := h.2 0 (by omega)
  unfold World.cell? at h0
  apply Nat.lt_of_not_le
  intro hle
  rw [Array.getElem?_eq_none (by exact hle)] at h0
  cases h0
theorem Num.drewN {w : World} {b off n X m : Nat} (h : Num w b off n X) : Num (w.drewN m) b off n X := h
theorem Num.drew {w : World} {b off n X : Nat} (h : Num w b off n X) : Num w.drew b off n X := h
theorem Num.below {w w' : World} {b off n X N : Nat} (h : Num w b off n X) (hb : Below N w w') (hlt : n ≠ 0 → b < N) : Num w' b off n X :=
  ⟨h.1, fun i hi => by rw [hb.cell (p := ⟨b, off + i, none⟩) (hlt (by omega))]; exact h.2 i hi⟩
/-- Below the first world's size everything stays. -/
theorem Num.kept {w w' : World} {b off n X : Nat} (h : Num w b off n X) (hb : Below w.heap.size w w') : Num w' b off n X := h.below hb h.block_lt
theorem Num.alloc {w : World} {b off n X : Nat} (h : Num w b off n X) (o : Obj) : Num (w.alloc o) b off n X := h.kept ((Below.refl _ _).alloc (Nat.le_refl _) _)
theorem Num.val {w : World} {b off n X Y : Nat} (h : Num w b off n X) (e : X = Y) : Num w b off n Y := e ▸ h
/-- The low k limbs, and the others. -/
theorem Num.low {w : World} {b off n X k : Nat} (h : Num w b off n X) (hk : k ≤ n) : Num w b off k (X % B^k) :=
  ⟨mod_lt_pow _ _, fun i hi => by rw [dg_mod hi]; exact h.2 i (by omega)⟩
theorem Num.high {w : World} {b off n X k : Nat} (h : Num w b off n X) (hk : k ≤ n) : Num w b (off + k) (n - k) (X / B^k) :=
  ⟨(Nat.div_lt_iff_lt_mul (Bp _)).2 (by rw [← pow_add, show n - k + k = n by omega]; exact h.1), fun i hi => by rw [dg_div, Nat.add_assoc]; exact h.2 (k + i) (by omega)⟩
theorem Num.fewer {w : World} {b off n X k : Nat} (h : Num w b off n X) (hk : k ≤ n) (hX : X < B^k) : Num w b off k X := (h.low hk).val (mod_of_lt hX)

/-- A row that may be written: none of its cells is frozen. -/
def Free (w : World) (b off n : Nat) : Prop := ∀ i, i < n → w.frozen? ⟨b, off + i, none⟩ = false
theorem Free.at {w : World} {b off n : Nat} (h : Free w b off n) {i : Nat} (hi : i < n) : w.frozen? ⟨b, off + i, none⟩ = false := h i hi
theorem Free.at0 {w : World} {b n : Nat} (h : Free w b 0 n) {i : Nat} (hi : i < n) : w.frozen? ⟨b, i, none⟩ = false := by
  have := h i hi; rwa [Nat.zero_add] at this
theorem Free.below {w w' : World} {b off n N : Nat} (h : Free w b off n) (hb : Below N w w') (hlt : n ≠ 0 → b < N) : Free w' b off n :=
  fun i hi => by rw [hb.frozen (p := ⟨b, off + i, none⟩) (hlt (by omega))]; exact h i hi
theorem Free.part {w : World} {b off n k m : Nat} (h : Free w b off n) (hk : k + m ≤ n) : Free w b (off + k) m :=
  fun i hi => by rw [Nat.add_assoc]; exact h (k + i) (by omega)

/-- The call has made a row of n limbs that hold X, at block g; nothing that was there has changed. -/
structure Fresh (w w' : World) (g n X : Nat) : Prop where
  below : Below w.heap.size w w'
  num : Num w' g 0 n X
  free : Free w' g 0 n
  ge : w.heap.size ≤ g
  lt : g < w'.heap.size

/-- A store into a row. -/
theorem Num.set {w : World} {b off n X k d : Nat} (h : Num w b off n X) (hk : k < n) (hd : d < B) : Num (w.setCell ⟨b, off + k, none⟩ (.int .u32 d)) b off n (put X k d) := by
  refine ⟨put_lt hd h.1 hk, fun i hi => ?_⟩
  by_cases e : i = k
  · subst e
    rw [dg_put_same hd]
    have h0 := h.2 i hi
    unfold World.cell? World.setCell at *
    simp only [Array.getElem?_modify, if_true]
    cases hb : w.heap[b]? with
    | none => rw [hb] at h0; cases h0
    | some o =>
      rw [hb] at h0
      cases o with
      | cells c t fr =>
        simp only [Option.isSome_none, Bool.false_eq_true, if_false, Option.map_some] at h0 ⊢
        have hlt := (Array.getElem?_eq_some_iff.1 h0).1
        rw [Array.getElem?_setIfInBounds]
        simp [hlt]
      | _ => cases h0
  · rw [dg_put_other hd e]
    have h0 := h.2 i hi
    unfold World.cell? World.setCell at *
    simp only [Array.getElem?_modify, if_true]
    cases hb : w.heap[b]? with
    | none => rw [hb] at h0; cases h0
    | some o =>
      rw [hb] at h0
      cases o with
      | cells c t fr =>
        simp only [Option.isSome_none, Bool.false_eq_true, if_false, Option.map_some] at h0 ⊢
        rw [Array.getElem?_setIfInBounds, if_neg (by omega)]
        exact h0
      | _ => cases h0
theorem Num.set0 {w : World} {b n X k d : Nat} (h : Num w b 0 n X) (hk : k < n) (hd : d < B) : Num (w.setCell ⟨b, k, none⟩ (.int .u32 d)) b 0 n (put X k d) := by
  have := h.set hk hd; rwa [Nat.zero_add] at this
theorem frozen_setCell (w : World) (a p : Addr) (v : Value) : (w.setCell a v).frozen? p = w.frozen? p := by
  unfold World.frozen? World.setCell
  simp only [Array.getElem?_modify]
  by_cases h : a.block = p.block
  · rw [if_pos h, ← h]
    cases w.heap[a.block]? with
    | none => rfl
    | some o => cases o <;> rfl
  · rw [if_neg h]
theorem Free.set {w : World} {b off n : Nat} (h : Free w b off n) (a : Addr) (v : Value) : Free (w.setCell a v) b off n :=
  fun i hi => by rw [frozen_setCell]; exact h i hi
theorem put_new {S k d : Nat} (h : S < B^k) : put S k d = S + d * B^k := by
  unfold put; rw [mod_of_lt h, Nat.div_eq_of_lt (Nat.lt_of_lt_of_le h (pow_le (by omega)))]; omega
/-- A store elsewhere. -/
theorem Num.other {w : World} {b off n X : Nat} (h : Num w b off n X) {a : Addr} (v : Value) (hne : n ≠ 0 → b ≠ a.block) : Num (w.setCell a v) b off n X :=
  ⟨h.1, fun i hi => by
    rw [World.cell?_of_block (w := w) (w' := w.setCell a v) (a := ⟨b, off + i, none⟩) (Below.heap_setCell w a v b (hne (by omega)))]
    exact h.2 i hi⟩

theorem cell_other {w : World} {a p : Addr} {u v : Value} (h : w.cell? p = some v) (hne : p.block ≠ a.block) : (w.setCell a u).cell? p = some v := by
  rw [World.cell?_of_block (w := w) (w' := w.setCell a u) (a := p) (Below.heap_setCell w a u p.block hne)]; exact h
theorem heap_made (w : World) (o : Obj) : (w.alloc o).heap[w.heap.size]? = some o := by
  show (w.heap.push o)[w.heap.size]? = _
  simp
/-- A cell of a new block. -/
theorem cell_new (w : World) (cs : Array Value) (T : TypeId) (g j : Nat) (v : Value) (hg : g = w.heap.size) (h : cs[j]? = some v) : (w.alloc (.cells cs T)).cell? ⟨g, j, none⟩ = some v := by
  subst hg
  unfold World.cell?
  rw [heap_made]
  simp [h]
theorem free_new (w : World) (cs : Array Value) (T : TypeId) (g j : Nat) (hg : g = w.heap.size) : (w.alloc (.cells cs T)).frozen? ⟨g, j, none⟩ = false := by
  subst hg
  unfold World.frozen?
  rw [heap_made]
  simp
theorem num_made (w : World) (n : Nat) (E : TypeId) : Num (w.alloc (.cells (madeCells #[.int .u32 0] (n * 1)) E)) w.heap.size 0 n 0 := by
  refine ⟨Bp n, fun i hi => ?_⟩
  unfold World.cell?
  rw [heap_made]
  simp [madeCells, dg_zero, hi, Nat.mod_one]
theorem free_made (w : World) (n : Nat) (E : TypeId) : Free (w.alloc (.cells (madeCells #[.int .u32 0] (n * 1)) E)) w.heap.size 0 n := by
  intro i hi
  unfold World.frozen?
  rw [heap_made]
  simp
/-- A block that is known whole: N cells, none of them frozen. -/
def Row (w : World) (g N : Nat) : Prop := ∃ (cur : List Value) (t : TypeId), w.heap[g]? = some (.cells cur.toArray t (0, 0)) ∧ cur.length = N
theorem row_made (w : World) (n : Nat) (E : TypeId) : Row (w.alloc (.cells (madeCells #[.int .u32 0] (n * 1)) E)) w.heap.size n :=
  ⟨(madeCells #[.int .u32 0] (n * 1)).toList, E, by rw [heap_made], by simp [size_madeCells]⟩
theorem getElem?_splice {α : Type} (L : List α) (off : Nat) (cs : List α) (h : off + cs.length ≤ L.length) (i : Nat) :
    (splice L off cs)[i]? = if i < off then L[i]? else if i < off + cs.length then cs[i - off]? else L[i]? := by
  unfold splice
  by_cases h1 : i < off
  · rw [if_pos h1, List.getElem?_append_left (by simp; omega), List.getElem?_take, if_pos h1]
  · rw [if_neg h1, List.getElem?_append_right (by simp; omega), List.length_take, Nat.min_eq_left (by omega)]
    by_cases h2 : i < off + cs.length
    · rw [if_pos h2, List.getElem?_append_left (by omega)]
    · rw [if_neg h2, List.getElem?_append_right (by omega), List.getElem?_drop]
      congr 1; omega
/-- 'copy(dst, src)' into a row of zeros that the call has made. -/
theorem wpList_copy_num {P : Program} {w : World} {ops : Array Oper} {rest : List Oper} {o : Oper} {a : Act} {Q : Exit → Act → World → Prop} (hgd : o.guard = none) (d s : Operand) (dT sT : TypeId)
    (ho : o.op = .call { callee := .builtin .copy, args := #[d, s], argTypes := #[dT, sT] }) (elem : TypeId) (hu : P.underlying dT = some (.slice elem)) (hsz : (P.info? elem).map (·.size) = some 1)
    (dp sp : Option Addr) (dLen dCap ns sCap : Nat) (hd : a.eval d = .slice dp dLen dCap) (hs : a.eval s = .slice sp ns sCap)
    (g off N sb so X m : Nat) (hm : m = min ns dLen) (hrow : Row w g N) (hz : Num w g 0 N 0) (hX : Num w sb so ns X) (hsp : ns ≠ 0 → sp = some ⟨sb, so, none⟩) (hdp : dLen ≠ 0 → dp = some ⟨g, off, none⟩) (hfit : off + m ≤ N)
    (B0 : Nat) (w0 : World) (hb : Below B0 w0 w) (hBg : B0 ≤ g)
    (h : ∀ w', Below B0 w0 w' → g < w'.heap.size → Num w' g 0 N (X % B^m * B^off) → Free w' g 0 N → wpList P ops Q rest (a.put o.dst (goInt m)) w') :
    wpList P ops Q (o :: rest) a w := by
  obtain ⟨cur, t, hcur, hN⟩ := hrow
  have hcz : ∀ i, i < N → cur[i]? = some (.int .u32 ((0 : Nat) : Int)) := by
    intro i hi
    have := hz.cell0 hi
    unfold World.cell? at this
    rw [hcur] at this
    simpa [dg_zero] using this
  let cs : List Value := (List.range m).map fun i => .int .u32 (dg X i)
  have hcs : cs.length = m := by simp [cs]
  have hci : ∀ i, i < m → cs[i]? = some (.int .u32 (dg X i)) := by intro i hi; simp [cs, hi]
  refine wpList_copy_splice hgd d s dT sT ho elem hu hsz dp sp dLen dCap ns sCap hd hs g off cur t hcur cs (by rw [hcs, hm]) ?_ (by rw [hcs, hN]; exact hfit) ?_ B0 w0 hb hBg ?_
  · intro hpos
    rw [hcs] at hpos
    refine ⟨hdp (by omega), _, hsp (by omega), fun j v hj => ?_⟩
    have hjm : j < m := by have := (List.getElem?_eq_some_iff.1 hj).1; omega
    rw [hci j hjm] at hj
    obtain rfl := Option.some.inj hj
    rw [Addr.add_lit]; exact hX.cell (i := j) (by omega)
  · intro v hv
    obtain ⟨i, _, rfl⟩ := List.mem_map.1 hv
    rfl
  · intro w' hw' hb'
    have hw := hw'.out
    have hlt : g < w'.heap.size := (Array.getElem?_eq_some_iff.1 hw).1
    rw [hcs]
    refine h w' hb' hlt ⟨?_, fun i hi => ?_⟩ fun i hi => ?_
    · have h1 : X % B^m < B^m := mod_lt_pow _ _
      have h2 : X % B^m * B^off < B^m * B^off := Nat.mul_lt_mul_of_pos_right h1 (Bp _)
      rw [← pow_add] at h2
      exact Nat.lt_of_lt_of_le h2 (pow_le (by omega))
    · unfold World.cell?
      rw [hw]
      have e := getElem?_splice cur off cs (by rw [hcs, hN]; exact hfit) i
      simp only [Option.isSome_none, Bool.false_eq_true, if_false, Nat.zero_add, List.getElem?_toArray, e, hcs]
      by_cases h1 : i < off
      · rw [if_pos h1, hcz i hi]
        have : dg (X % B^m * B^off) i = 0 := by
          have := dg_add_lo (S := 0) (d := X % B^m) h1
          rwa [Nat.zero_add, dg_zero] at this
        rw [this]
      · obtain ⟨j, rfl⟩ : ∃ j, i = off + j := ⟨i - off, by omega⟩
        have hdj : dg (X % B^m * B^off) (off + j) = dg (X % B^m) j := by
          have := dg_add_hi (S := 0) (d := X % B^m) (i := j) (Bp off)
          rwa [Nat.zero_add] at this
        rw [if_neg h1, hdj]
        by_cases h2 : j < m
        · rw [if_pos (by omega), show off + j - off = j by omega, hci j h2, dg_mod h2]
        · rw [if_neg (by omega), hcz _ hi, dg_of_lt (mod_lt_pow X m) (by omega)]
    · unfold World.frozen?
      rw [hw]
      simp
/-- 'make([]uint32, n)'. -/
theorem wpList_make_num {P : Program} (w : World) {ops : Array Oper} {rest : List Oper} {o : Oper} {a : Act} {Q : Exit → Act → World → Prop}
    (hg : o.guard = none) (l c : Operand) (t : TypeId) (hop : o.op = Op.makeSlice t l c)
    (e : TypeId) (hi : (P.info? e).map (fun i => (i.zero, i.size, i.bytes)) = some (some (.int .u32 0), 1, 4)) (h1 : P.underlying t = some (.slice e))
    (kl kc : IntKind) (L C : Int) (n : Nat) (hl : a.eval l = .int kl L) (hc : a.eval c = .int kc C) (hL : L = n) (hC : C = n) (hn : n ≤ 1099511627777)
    (hK : ∀ w', Below w.heap.size w w' → w'.heap.size = w.heap.size + 1 → Num w' w.heap.size 0 n 0 → Free w' w.heap.size 0 n → Row w' w.heap.size n → wpList P ops Q rest (a.put o.dst (.slice (some ⟨w.heap.size, 0, none⟩) n n)) w') :
    wpList P ops Q (o :: rest) a w := by
  subst hL
  subst hC
  obtain ⟨i, h2, hz, hs, hb⟩ := info_parts hi
  refine wpList_plain hg fun K hK' => ?_
  have hrun := run_make (P := P) w t e i (.int .u32 0) h1 h2 hz kl kc n n (by omega) (by omega) (by rw [hb]; omega) (by omega)
  rw [hs] at hrun
  simp only [Int.toNat_natCast] at hrun
  unfold Oper.wp
  simp [execOp, hop, hl, hc, Result.andThen]
  rw [hrun]
  exact hK' _ _ (hK _ ((Below.refl _ _).alloc (Nat.le_refl _) _) (by simp) (num_made w n e) (free_made w n e) (row_made w n e))
end PB
