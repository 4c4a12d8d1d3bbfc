/-
  Plain arithmetic of numbers written with limbs of 32 bits: digits, lengths, sums, products. It speaks of no program.
  What memory holds: the cells from a place on hold the limbs of a number; a new row of limbs; a store into a row.
-/
import Derived.WalkKit
import Derived.Lib.Hide
import Derived.Deep.Draws
import Derived.Laws.CopyOwn
namespace PB
def B : Nat := 4294967296
theorem B_eq : B = 4294967296 := rfl
theorem B_pos : 0 < B := by decide
theorem Bp (i : Nat) : 0 < B^i := Nat.pow_pos (by decide)
/-- Limb i of X. -/
def dg (X i : Nat) : Nat := X / B^i % B
theorem dg_lt (X i : Nat) : dg X i < B := Nat.mod_lt _ (by decide)
theorem dg_lt' (X i : Nat) : dg X i < 4294967296 := dg_lt X i
theorem dg_zero (i : Nat) : dg 0 i = 0 := by simp [dg]
theorem mod_succ (X i : Nat) : X % B^(i+1) = X % B^i + dg X i * B^i := by
  unfold dg
  rw [Nat.pow_succ, Nat.mod_mul, Nat.mul_comm]
theorem div_succ (X i : Nat) : X / B^i = X / B^(i+1) * B + dg X i := by
  unfold dg
  rw [Nat.pow_succ, ← Nat.div_div_eq_div_mul, Nat.mul_comm, Nat.div_add_mod]
theorem pow_le {n m : Nat} (h : n ≤ m) : B^n ≤ B^m := Nat.pow_le_pow_right (by decide) h
theorem pow_add (n m : Nat) : B^(n+m) = B^n * B^m := Nat.pow_add _ _ _
theorem pow_succ (n : Nat) : B^(n+1) = B^n * B := Nat.pow_succ _ _
theorem dg_of_lt {X n i : Nat} (h : X < B^n) (hi : n ≤ i) : dg X i = 0 := by
  unfold dg
  rw [Nat.div_eq_of_lt (Nat.lt_of_lt_of_le h (pow_le hi)), Nat.zero_mod]
theorem dg_add_lo {S d k i : Nat} (hi : i < k) : dg (S + d * B^k) i = dg S i := by
  obtain ⟨j, rfl⟩ : ∃ j, k = i + 1 + j := ⟨k - i - 1, by omega⟩
  unfold dg
  rw [pow_add, pow_succ, show S + d * (B^i * B * B^j) = S + B^i * (d * B^j * B) by grind, Nat.add_mul_div_left _ _ (Bp i), Nat.add_mul_mod_self_right]
theorem dg_add_hi {S d k i : Nat} (hS : S < B^k) : dg (S + d * B^k) (k + i) = dg d i := by
  unfold dg
  rw [pow_add, ← Nat.div_div_eq_div_mul, Nat.add_mul_div_right _ _ (Bp k), Nat.div_eq_of_lt hS, Nat.zero_add]
theorem dg_add_eq {S d k : Nat} (hS : S < B^k) (hd : d < B) : dg (S + d * B^k) k = d := by
  have h := dg_add_hi (i := 0) (d := d) hS
  rw [Nat.add_zero] at h
  rw [h]; unfold dg; rw [Nat.pow_zero, Nat.div_one, Nat.mod_eq_of_lt hd]
theorem add_lt_pow {S d k : Nat} (hS : S < B^k) (hd : d < B) : S + d * B^k < B^(k+1) := by
  rw [pow_succ, Nat.mul_comm (B^k)]
  have h1 : (d + 1) * B^k ≤ B * B^k := Nat.mul_le_mul_right _ hd
  have h2 : (d + 1) * B^k = d * B^k + B^k := by grind
  omega
theorem mod_lt_pow (X k : Nat) : X % B^k < B^k := Nat.mod_lt _ (Bp k)
theorem mod_of_lt {X k : Nat} (h : X < B^k) : X % B^k = X := Nat.mod_eq_of_lt h
theorem dg_mod {X k i : Nat} (hi : i < k) : dg (X % B^k) i = dg X i := by
  have h := dg_add_lo (S := X % B^k) (d := X / B^k) hi
  rw [← h, Nat.mod_add_div' X (B^k)]
theorem dg_div (X k i : Nat) : dg (X / B^k) i = dg X (k + i) := by
  unfold dg; rw [pow_add, Nat.div_div_eq_div_mul]
theorem split (X k : Nat) : X = X % B^k + X / B^k * B^k := (Nat.mod_add_div' X (B^k)).symm
theorem dg_ext {X Y n : Nat} (hX : X < B^n) (hY : Y < B^n) (h : ∀ i, i < n → dg X i = dg Y i) : X = Y := by
  suffices ∀ k, k ≤ n → X % B^k = Y % B^k by
    have := this n (Nat.le_refl _); rwa [mod_of_lt hX, mod_of_lt hY] at this
  intro k hk
  induction k with
  | zero => simp [Nat.mod_one]
  | succ k ih => rw [mod_succ, mod_succ, ih (by omega), h k (by omega)]
theorem lt_pow_of_dg {X n k : Nat} (hX : X < B^n) (hk : k ≤ n) (h : ∀ i, k ≤ i → i < n → dg X i = 0) : X < B^k := by
  have : ∀ j, j ≤ n - k → X < B^(n - j) := by
    intro j hj
    induction j with
    | zero => simpa using hX
    | succ j ih =>
      have i1 := ih (by omega)
      have e : n - j = (n - (j+1)) + 1 := by omega
      rw [e] at i1
      have hm := mod_succ X (n - (j+1))
      rw [mod_of_lt i1, h (n - (j+1)) (by omega) (by omega), Nat.zero_mul, Nat.add_zero] at hm
      rw [hm]; exact mod_lt_pow _ _
  have h2 := this (n - k) (Nat.le_refl _)
  rwa [show n - (n - k) = k by omega] at h2
/-- The number of limbs of X. -/
def nl (X : Nat) : Nat := if h : X = 0 then 0 else nl (X / B) + 1
termination_by X
decreasing_by exact Nat.div_lt_self (by omega) (by decide)
theorem nl_zero : nl 0 = 0 := by rw [nl, dif_pos rfl]
theorem nl_pos {X : Nat} (h : X ≠ 0) : nl X = nl (X / B) + 1 := by rw [nl, dif_neg h]
theorem lt_nl (X : Nat) : X < B^(nl X) := by
  induction X using Nat.strongRecOn with
  | _ X ih =>
    by_cases h : X = 0
    · subst h; exact Bp _
    · rw [nl_pos h, pow_succ]
      have := ih (X / B) (Nat.div_lt_self (by omega) (by decide))
      exact (Nat.div_lt_iff_lt_mul B_pos).1 this
theorem nl_le {X k : Nat} (h : X < B^k) : nl X ≤ k := by
  induction k generalizing X with
  | zero => simp at h; subst h; rw [nl_zero]; omega
  | succ k ih =>
    by_cases h0 : X = 0
    · subst h0; rw [nl_zero]; omega
    · rw [nl_pos h0]
      have := ih (X := X / B) ((Nat.div_lt_iff_lt_mul B_pos).2 (by rwa [pow_succ] at h))
      omega
theorem nl_le_iff {X k : Nat} : nl X ≤ k ↔ X < B^k := ⟨fun h => Nat.lt_of_lt_of_le (lt_nl X) (pow_le h), nl_le⟩
theorem nl_eq {X k : Nat} (h : X < B^k) (ht : k = 0 ∨ dg X (k-1) ≠ 0) : nl X = k := by
  have h1 := nl_le h
  rcases ht with rfl | ht
  · omega
  · by_cases h2 : nl X = k
    · exact h2
    · exact absurd (dg_of_lt (lt_nl X) (show nl X ≤ k - 1 by omega)) ht
theorem nl_eq_zero {X : Nat} : nl X = 0 ↔ X = 0 := by
  constructor
  · intro h; have := lt_nl X; rw [h] at this; simp at this; exact this
  · rintro rfl; exact nl_zero
theorem nl_top {X : Nat} (h : X ≠ 0) : dg X (nl X - 1) ≠ 0 := by
  intro h0
  have hz : nl X ≠ 0 := fun e => h (nl_eq_zero.1 e)
  have := lt_pow_of_dg (k := nl X - 1) (lt_nl X) (by omega) (fun i h1 h2 => by rw [show i = nl X - 1 by omega]; exact h0)
  have := nl_le this
  omega
theorem pow_le_of_nl {X : Nat} (h : X ≠ 0) : B^(nl X - 1) ≤ X := by
  apply Nat.le_of_not_lt
  intro hlt
  have := nl_le hlt
  have hz : nl X ≠ 0 := fun e => h (nl_eq_zero.1 e)
  omega
theorem nl_mono {X Y : Nat} (h : X ≤ Y) : nl X ≤ nl Y := nl_le (Nat.lt_of_le_of_lt h (lt_nl Y))
/-- One more limb: what the first k+1 limbs are. -/
theorem lt_of_nl_lt {X Y : Nat} (h : nl X < nl Y) : X < Y := by
  apply Nat.lt_of_not_le
  intro h2
  have := nl_mono h2
  omega
/-- Comparing from the top. -/
theorem lt_of_dg {X Y k : Nat} (h : X / B^(k+1) = Y / B^(k+1)) (hd : dg X k < dg Y k) : X < Y := by
  have hx := div_succ X k
  have hy := div_succ Y k
  have : X / B^k < Y / B^k := by rw [hx, hy, h]; omega
  apply Nat.lt_of_not_le
  intro hle
  have := Nat.div_le_div_right (c := B^k) hle
  omega
theorem div_eq_of_dg {X Y k : Nat} (h : X / B^(k+1) = Y / B^(k+1)) (hd : dg X k = dg Y k) : X / B^k = Y / B^k := by
  rw [div_succ X k, div_succ Y k, h, hd]
/-- The number X with limb k replaced by d. -/
def put (X k d : Nat) : Nat := X % B^k + d * B^k + X / B^(k+1) * B^(k+1)
theorem put_eq (X k d : Nat) : put X k d + dg X k * B^k = X + d * B^k := by
  have h1 := split X (k+1)
  have h2 := mod_succ X k
  unfold put
  omega
theorem dg_put_same {X k d : Nat} (hd : d < B) : dg (put X k d) k = d := by
  unfold put
  rw [dg_add_lo (by omega), dg_add_eq (mod_lt_pow _ _) hd]
theorem dg_put_other {X k d i : Nat} (hd : d < B) (h : i ≠ k) : dg (put X k d) i = dg X i := by
  unfold put
  by_cases hlt : i < k
  · rw [dg_add_lo (by omega), dg_add_lo hlt, dg_mod hlt]
  · obtain ⟨j, rfl⟩ : ∃ j, i = k + 1 + j := ⟨i - k - 1, by omega⟩
    rw [dg_add_hi (add_lt_pow (mod_lt_pow _ _) hd), dg_div]
theorem put_lt {X k d n : Nat} (hd : d < B) (hX : X < B^n) (hk : k < n) : put X k d < B^n := by
  have hq : X / B^(k+1) < B^(n - (k+1)) := (Nat.div_lt_iff_lt_mul (Bp _)).2 (by rw [← pow_add, show n - (k+1) + (k+1) = n by omega]; exact hX)
  have h1 := add_lt_pow (mod_lt_pow X k) hd
  unfold put
  have h2 : (X / B^(k+1) + 1) * B^(k+1) ≤ B^(n - (k+1)) * B^(k+1) := Nat.mul_le_mul_right _ hq
  rw [← pow_add, show n - (k+1) + (k+1) = n by omega, Nat.add_mul, Nat.one_mul] at h2
  omega
/-- Adding limb by limb. -/
theorem add_step {S c x y d c' P X Y : Nat} (h : S + c * P = X + Y) (hd : d + c' * B = x + y + c) :
    (S + d * P) + c' * (P * B) = (X + x * P) + (Y + y * P) := by
  have : (d + c' * B) * P = (x + y + c) * P := by rw [hd]
  grind
end PB

namespace PB
open Go Go.RowKit

/-- The n cells from place off of block b on hold the limbs of X. -/
def Num (w : World) (b off n X : Nat) : Prop := X < B^n ∧ ∀ i, i < n → w.cell? ⟨b, off + i, none⟩ = some (.int .u32 (dg X i))
theorem Num.lt {w : World} {b off n X : Nat} (h : Num w b off n X) : X < B^n := h.1
theorem Num.cell {w : World} {b off n X : Nat} (h : Num w b off n X) {i : Nat} (hi : i < n) : w.cell? ⟨b, off + i, none⟩ = some (.int .u32 (dg X i)) := h.2 i hi
theorem Num.cell0 {w : World} {b n X : Nat} (h : Num w b 0 n X) {i : Nat} (hi : i < n) : w.cell? ⟨b, i, none⟩ = some (.int .u32 (dg X i)) := by
  have := h.2 i hi; rwa [Nat.zero_add] at this
theorem Num.block_lt {w : World} {b off n X : Nat} (h : Num w b off n X) (hn : n ≠ 0) : b < w.heap.size := by
  have h0 := h.2 0 (by omega)
  unfold World.cell? at h0
  apply Nat.lt_of_not_le
  intro hle
  rw [Array.getElem?_eq_none (by exact hle)] at h0
  cases h0
theorem Num.drewN {w : World} {b off n X m : Nat} (h : Num w b off n X) : Num (w.drewN m) b off n X := h
theorem Num.drew {w : World} {b off n X : Nat} (h : Num w b off n X) : Num w.drew b off n X := h
theorem Num.below {w w' : World} {b off n X N : Nat} (h : Num w b off n X) (hb : Below N w w') (hlt : n ≠ 0 → b < N) : Num w' b off n X :=
  ⟨h.1, fun i hi => by rw [hb.cell (p := ⟨b, off + i, none⟩) (hlt (by omega))]; exact h.2 i hi⟩
/-- Below the first world's size everything stays. -/
theorem Num.kept {w w' : World} {b off n X : Nat} (h : Num w b off n X) (hb : Below w.heap.size w w') : Num w' b off n X := h.below hb h.block_lt
theorem Num.alloc {w : World} {b off n X : Nat} (h : Num w b off n X) (o : Obj) : Num (w.alloc o) b off n X := h.kept ((Below.refl _ _).alloc (Nat.le_refl _) _)
theorem Num.val {w : World} {b off n X Y : Nat} (h : Num w b off n X) (e : X = Y) : Num w b off n Y := e ▸ h
/-- The low k limbs, and the others. -/
theorem Num.low {w : World} {b off n X k : Nat} (h : Num w b off n X) (hk : k ≤ n) : Num w b off k (X % B^k) :=
  ⟨mod_lt_pow _ _, fun i hi => by rw [dg_mod hi]; exact h.2 i (by omega)⟩
theorem Num.high {w : World} {b off n X k : Nat} (h : Num w b off n X) (hk : k ≤ n) : Num w b (off + k) (n - k) (X / B^k) :=
  ⟨(Nat.div_lt_iff_lt_mul (Bp _)).2 (by rw [← pow_add, show n - k + k = n by omega]; exact h.1), fun i hi => by rw [dg_div, Nat.add_assoc]; exact h.2 (k + i) (by omega)⟩
theorem Num.fewer {w : World} {b off n X k : Nat} (h : Num w b off n X) (hk : k ≤ n) (hX : X < B^k) : Num w b off k X := (h.low hk).val (mod_of_lt hX)

/-- A row that may be written: none of its cells is frozen. -/
def Free (w : World) (b off n : Nat) : Prop := ∀ i, i < n → w.frozen? ⟨b, off + i, none⟩ = false
theorem Free.at {w : World} {b off n : Nat} (h : Free w b off n) {i : Nat} (hi : i < n) : w.frozen? ⟨b, off + i, none⟩ = false := h i hi
theorem Free.at0 {w : World} {b n : Nat} (h : Free w b 0 n) {i : Nat} (hi : i < n) : w.frozen? ⟨b, i, none⟩ = false := by
  have := h i hi; rwa [Nat.zero_add] at this
theorem Free.below {w w' : World} {b off n N : Nat} (h : Free w b off n) (hb : Below N w w') (hlt : n ≠ 0 → b < N) : Free w' b off n :=
  fun i hi => by rw [hb.frozen (p := ⟨b, off + i, none⟩) (hlt (by omega))]; exact h i hi
theorem Free.part {w : World} {b off n k m : Nat} (h : Free w b off n) (hk : k + m ≤ n) : Free w b (off + k) m :=
  fun i hi => by rw [Nat.add_assoc]; exact h (k + i) (by omega)

/-- The call has made a row of n limbs that hold X, at block g; nothing that was there has changed. -/
structure Fresh (w w' : World) (g n X : Nat) : Prop where
  below : Below w.heap.size w w'
  num : Num w' g 0 n X
  free : Free w' g 0 n
  ge : w.heap.size ≤ g
  lt : g < w'.heap.size

/-- A store into a row. -/
theorem Num.set {w : World} {b off n X k d : Nat} (h : Num w b off n X) (hk : k < n) (hd : d < B) : Num (w.setCell ⟨b, off + k, none⟩ (.int .u32 d)) b off n (put X k d) := by
  refine ⟨put_lt hd h.1 hk, fun i hi => ?_⟩
  by_cases e : i = k
  · subst e
    rw [dg_put_same hd]
    have h0 := h.2 i hi
    unfold World.cell? World.setCell at *
    simp only [Array.getElem?_modify, if_true]
    cases hb : w.heap[b]? with
    | none => rw [hb] at h0; cases h0
    | some o =>
      rw [hb] at h0
      cases o with
      | cells c t fr =>
        simp only [Option.isSome_none, Bool.false_eq_true, if_false, Option.map_some] at h0 ⊢
        have hlt := (Array.getElem?_eq_some_iff.1 h0).1
        rw [Array.getElem?_setIfInBounds]
        simp [hlt]
      | _ => cases h0
  · rw [dg_put_other hd e]
    have h0 := h.2 i hi
    unfold World.cell? World.setCell at *
    simp only [Array.getElem?_modify, if_true]
    cases hb : w.heap[b]? with
    | none => rw [hb] at h0; cases h0
    | some o =>
      rw [hb] at h0
      cases o with
      | cells c t fr =>
        simp only [Option.isSome_none, Bool.false_eq_true, if_false, Option.map_some] at h0 ⊢
        rw [Array.getElem?_setIfInBounds, if_neg (by omega)]
        exact h0
      | _ => cases h0
theorem Num.set0 {w : World} {b n X k d : Nat} (h : Num w b 0 n X) (hk : k < n) (hd : d < B) : Num (w.setCell ⟨b, k, none⟩ (.int .u32 d)) b 0 n (put X k d) := by
  have := h.set hk hd; rwa [Nat.zero_add] at this
theorem frozen_setCell (w : World) (a p : Addr) (v : Value) : (w.setCell a v).frozen? p = w.frozen? p := by
  unfold World.frozen? World.setCell
  simp only [Array.getElem?_modify]
  by_cases h : a.block = p.block
  · rw [if_pos h, ← h]
    cases w.heap[a.block]? with
    | none => rfl
    | some o => cases o <;> rfl
  · rw [if_neg h]
theorem Free.set {w : World} {b off n : Nat} (h : Free w b off n) (a : Addr) (v : Value) : Free (w.setCell a v) b off n :=
  fun i hi => by rw [frozen_setCell]; exact h i hi
theorem put_new {S k d : Nat} (h : S < B^k) : put S k d = S + d * B^k := by
  unfold put; rw [mod_of_lt h, Nat.div_eq_of_lt (Nat.lt_of_lt_of_le h (pow_le (by omega)))]; omega
/-- A store elsewhere. -/
theorem Num.other {w : World} {b off n X : Nat} (h : Num w b off n X) {a : Addr} (v : Value) (hne : n ≠ 0 → b ≠ a.block) : Num (w.setCell a v) b off n X :=
  ⟨h.1, fun i hi => by
    rw [World.cell?_of_block (w := w) (w' := w.setCell a v) (a := ⟨b, off + i, none⟩) (Below.heap_setCell w a v b (hne (by omega)))]
    exact h.2 i hi⟩

theorem cell_other {w : World} {a p : Addr} {u v : Value} (h : w.cell? p = some v) (hne : p.block ≠ a.block) : (w.setCell a u).cell? p = some v := by
  rw [World.cell?_of_block (w := w) (w' := w.setCell a u) (a := p) (Below.heap_setCell w a u p.block hne)]; exact h
theorem heap_made (w : World) (o : Obj) : (w.alloc o).heap[w.heap.size]? = some o := by
  show (w.heap.push o)[w.heap.size]? = _
  simp
/-- A cell of a new block. -/
theorem cell_new (w : World) (cs : Array Value) (T : TypeId) (g j : Nat) (v : Value) (hg : g = w.heap.size) (h : cs[j]? = some v) : (w.alloc (.cells cs T)).cell? ⟨g, j, none⟩ = some v := by
  subst hg
  unfold World.cell?
  rw [heap_made]
  simp [h]
theorem free_new (w : World) (cs : Array Value) (T : TypeId) (g j : Nat) (hg : g = w.heap.size) : (w.alloc (.cells cs T)).frozen? ⟨g, j, none⟩ = false := by
  subst hg
  unfold World.frozen?
  rw [heap_made]
  simp
theorem num_made (w : World) (n : Nat) (E : TypeId) : Num (w.alloc (.cells (madeCells #[.int .u32 0] (n * 1)) E)) w.heap.size 0 n 0 := by
  refine ⟨Bp n, fun i hi => ?_⟩
  unfold World.cell?
  rw [heap_made]
  simp [madeCells, dg_zero, hi, Nat.mod_one]
theorem free_made (w : World) (n : Nat) (E : TypeId) : Free (w.alloc (.cells (madeCells #[.int .u32 0] (n * 1)) E)) w.heap.size 0 n := by
  intro i hi
  unfold World.frozen?
  rw [heap_made]
  simp
/-- A block that is known whole: N cells, none of them frozen. -/
def Row (w : World) (g N : Nat) : Prop := ∃ (cur : List Value) (t : TypeId), w.heap[g]? = some (.cells cur.toArray t (0, 0)) ∧ cur.length = N
theorem row_made (w : World) (n : Nat) (E : TypeId) : Row (w.alloc (.cells (madeCells #[.int .u32 0] (n * 1)) E)) w.heap.size n :=
  ⟨(madeCells #[.int .u32 0] (n * 1)).toList, E, by rw [heap_made], by simp [size_madeCells]⟩
theorem getElem?_splice {α : Type} (L : List α) (off : Nat) (cs : List α) (h : off + cs.length ≤ L.length) (i : Nat) :
    (splice L off cs)[i]? = if i < off then L[i]? else if i < off + cs.length then cs[i - off]? else L[i]? := by
  unfold splice
  by_cases h1 : i < off
  · rw [if_pos h1, List.getElem?_append_left (by simp; omega), List.getElem?_take, if_pos h1]
  · rw [if_neg h1, List.getElem?_append_right (by simp; omega), List.length_take, Nat.min_eq_left (by omega)]
    by_cases h2 : i < off + cs.length
    · rw [if_pos h2, List.getElem?_append_left (by omega)]
    · rw [if_neg h2, List.getElem?_append_right (by omega), List.getElem?_drop]
      congr 1; omega
/-- 'copy(dst, src)' into a row of zeros that the call has made. -/
theorem wpList_copy_num {P : Program} {w : World} {ops : Array Oper} {rest : List Oper} {o : Oper} {a : Act} {Q : Exit → Act → World → Prop} (hgd : o.guard = none) (d s : Operand) (dT sT : TypeId)
    (ho : o.op = .call { callee := .builtin .copy, args := #[d, s], argTypes := #[dT, sT] }) (elem : TypeId) (hu : P.underlying dT = some (.slice elem)) (hsz : (P.info? elem).map (·.size) = some 1)
    (dp sp : Option Addr) (dLen dCap ns sCap : Nat) (hd : a.eval d = .slice dp dLen dCap) (hs : a.eval s = .slice sp ns sCap)
    (g off N sb so X m : Nat) (hm : m = min ns dLen) (hrow : Row w g N) (hz : Num w g 0 N 0) (hX : Num w sb so ns X) (hsp : ns ≠ 0 → sp = some ⟨sb, so, none⟩) (hdp : dLen ≠ 0 → dp = some ⟨g, off, none⟩) (hfit : off + m ≤ N)
    (B0 : Nat) (w0 : World) (hb : Below B0 w0 w) (hBg : B0 ≤ g)
    (h : ∀ w', Below B0 w0 w' → g < w'.heap.size → Num w' g 0 N (X % B^m * B^off) → Free w' g 0 N → wpList P ops Q rest (a.put o.dst (goInt m)) w') :
    wpList P ops Q (o :: rest) a w := by
  obtain ⟨cur, t, hcur, hN⟩ := hrow
  have hcz : ∀ i, i < N → cur[i]? = some (.int .u32 ((0 : Nat) : Int)) := by
    intro i hi
    have := hz.cell0 hi
    unfold World.cell? at this
    rw [hcur] at this
    simpa [dg_zero] using this
  let cs : List Value := (List.range m).map fun i => .int .u32 (dg X i)
  have hcs : cs.length = m := by simp [cs]
  have hci : ∀ i, i < m → cs[i]? = some (.int .u32 (dg X i)) := by intro i hi; simp [cs, hi]
  refine wpList_copy_splice hgd d s dT sT ho elem hu hsz dp sp dLen dCap ns sCap hd hs g off cur t hcur cs (by rw [hcs, hm]) ?_ (by rw [hcs, hN]; exact hfit) ?_ B0 w0 hb hBg ?_
  · intro hpos
    rw [hcs] at hpos
    refine ⟨hdp (by omega), _, hsp (by omega), fun j v hj => ?_⟩
    have hjm : j < m := by have := (List.getElem?_eq_some_iff.1 hj).1; omega
    rw [hci j hjm] at hj
    obtain rfl := Option.some.inj hj
    rw [Addr.add_lit]; exact hX.cell (i := j) (by omega)
  · intro v hv
    obtain ⟨i, _, rfl⟩ := List.mem_map.1 hv
    rfl
  · intro w' hw' hb'
    have hw := hw'.out
    have hlt : g < w'.heap.size := (Array.getElem?_eq_some_iff.1 hw).1
    rw [hcs]
    refine h w' hb' hlt ⟨?_, fun i hi => ?_⟩ fun i hi => ?_
    · have h1 : X % B^m < B^m := mod_lt_pow _ _
      have h2 : X % B^m * B^off < B^m * B^off := Nat.mul_lt_mul_of_pos_right h1 (Bp _)
      rw [← pow_add] at h2
      exact Nat.lt_of_lt_of_le h2 (pow_le (by omega))
    · unfold World.cell?
      rw [hw]
      have e := getElem?_splice cur off cs (by rw [hcs, hN]; exact hfit) i
      simp only [Option.isSome_none, Bool.false_eq_true, if_false, Nat.zero_add, List.getElem?_toArray, e, hcs]
      by_cases h1 : i < off
      · rw [if_pos h1, hcz i hi]
        have : dg (X % B^m * B^off) i = 0 := by
          have := dg_add_lo (S := 0) (d := X % B^m) h1
          rwa [Nat.zero_add, dg_zero] at this
        rw [this]
      · obtain ⟨j, rfl⟩ : ∃ j, i = off + j := ⟨i - off, by omega⟩
        have hdj : dg (X % B^m * B^off) (off + j) = dg (X % B^m) j := by
          have := dg_add_hi (S := 0) (d := X % B^m) (i := j) (Bp off)
          rwa [Nat.zero_add] at this
        rw [if_neg h1, hdj]
        by_cases h2 : j < m
        · rw [if_pos (by omega), show off + j - off = j by omega, hci j h2, dg_mod h2]
        · rw [if_neg (by omega), hcz _ hi, dg_of_lt (mod_lt_pow X m) (by omega)]
    · unfold World.frozen?
      rw [hw]
      simp
/-- 'make([]uint32, n)'. -/
theorem wpList_make_num {P : Program} (w : World) {ops : Array Oper} {rest : List Oper} {o : Oper} {a : Act} {Q : Exit → Act → World → Prop}
    (hg : o.guard = none) (l c : Operand) (t : TypeId) (hop : o.op = Op.makeSlice t l c)
    (e : TypeId) (hi : (P.info? e).map (fun i => (i.zero, i.size, i.bytes)) = some (some (.int .u32 0), 1, 4)) (h1 : P.underlying t = some (.slice e))
    (kl kc : IntKind) (L C : Int) (n : Nat) (hl : a.eval l = .int kl L) (hc : a.eval c = .int kc C) (hL : L = n) (hC : C = n) (hn : n ≤ 1099511627777)
    (hK : ∀ w', Below w.heap.size w w' → w'.heap.size = w.heap.size + 1 → Num w' w.heap.size 0 n 0 → Free w' w.heap.size 0 n → Row w' w.heap.size n → wpList P ops Q rest (a.put o.dst (.slice (some ⟨w.heap.size, 0, none⟩) n n)) w') :
    wpList P ops Q (o :: rest) a w := by
  subst hL
  subst hC
  obtain ⟨i, h2, hz, hs, hb⟩ := info_parts hi
  refine wpList_plain hg fun K hK' => ?_
  have hrun := run_make (P := P) w t e i (.int .u32 0) h1 h2 hz kl kc n n (by omega) (by omega) (by rw [hb]; omega) (by omega)
  rw [hs] at hrun
  simp only [Int.toNat_natCast] at hrun
  unfold Oper.wp
  simp [execOp, hop, hl, hc, Result.andThen]
  rw [hrun]
  exact hK' _ _ (hK _ ((Below.refl _ _).alloc (Nat.le_refl _) _) (by simp) (num_made w n e) (free_made w n e) (row_made w n e))
end PB
