/-
  What memory holds: the cells from a place on hold the limbs of a number; a new row of limbs; a store into a row.
  Blocks that are known whole.
  A word as a value; the words of a name.
-/
import Derived.WalkKit
import Derived.Lib.Hide
import Derived.Deep.Draws
import Derived.Laws.CopyOwn
import Derived.Laws.ResultCell
import Derived.Laws.Rows
import Derived.ChangeMaps5
import Derived.Test.YtdikoeeoglfmaaaGreatDoorM03
namespace PB
open Go Go.RowKit

/-- The n cells from place off of block b on hold the limbs of X. -/
def Num (w : World) (b off n X : Nat) : Prop := X < B^n ∧ ∀ i, i < n → w.cell? ⟨b, off + i, none⟩ = some (.int .u32 (dg X i))
theorem Num.lt {w : World} {b off n X : Nat} (h : Num w b off n X) : X < B^n := h.1
theorem Num.cell {w : World} {b off n X : Nat} (h : Num w b off n X) {i : Nat} (hi : i < n) : w.cell? ⟨b, off + i, none⟩ = some (.int .u32 (dg X i)) := h.2 i hi
theorem Num.cell0 {w : World} {b n X : Nat} (h : Num w b 0 n X) {i : Nat} (hi : i < n) : w.cell? ⟨b, i, none⟩ = some (.int .u32 (dg X i)) := by
  have := h.2 i hi; rwa [Nat.zero_add] at this
theorem Num.block_lt {w : World} {b off n X : Nat} (h : Num w b off n X) (hn : n ≠ 0) : b < w.heap.size := by
  have h0 := h.2 0 (by omega)
  unfold World.cell? at h0
  apply Nat.lt_of_not_le
  intro hle
  rw [Array.getElem?_eq_none (by exact hle)] at h0
  cases h0
theorem Num.drewN {w : World} {b off n X m : Nat} (h : Num w b off n X) : Num (w.drewN m) b off n X := h
theorem Num.drew {w : World} {b off n X : Nat} (h : Num w b off n X) : Num w.drew b off n X := h
theorem Num.below {w w' : World} {b off n X N : Nat} (h : Num w b off n X) (hb : Below N w w') (hlt : n ≠ 0 → b < N) : Num w' b off n X :=
  ⟨h.1, fun i hi => by rw [hb.cell (p := ⟨b, off + i, none⟩) (hlt (by omega))]; exact h.2 i hi⟩
/-- Below the first world's size everything stays. -/
theorem Num.kept {w w' : World} {b off n X : Nat} (h : Num w b off n X) (hb : Below w.heap.size w w') : Num w' b off n X := h.below hb h.block_lt
theorem Num.alloc {w : World} {b off n X : Nat} (h : Num w b off n X) (o : Obj) : Num (w.alloc o) b off n X := h.kept ((Below.refl _ _).alloc (Nat.le_refl _) _)
theorem Num.val {w : World} {b off n X Y : Nat} (h : Num w b off n X) (e : X = Y) : Num w b off n Y := e ▸ h
/-- The low k limbs, and the others. -/
theorem Num.low {w : World} {b off n X k : Nat} (h : Num w b off n X) (hk : k ≤ n) : Num w b off k (X % B^k) :=
  ⟨mod_lt_pow _ _, fun i hi => by rw [dg_mod hi]; exact h.2 i (by omega)⟩
theorem Num.high {w : World} {b off n X k : Nat} (h : Num w b off n X) (hk : k ≤ n) : Num w b (off + k) (n - k) (X / B^k) :=
  ⟨(Nat.div_lt_iff_lt_mul (Bp _)).2 (by rw [← pow_add, show n - k + k = n by omega]; exact h.1), fun i hi => by rw [dg_div, Nat.add_assoc]; exact h.2 (k + i) (by omega)⟩
theorem Num.fewer {w : World} {b off n X k : Nat} (h : Num w b off n X) (hk : k ≤ n) (hX : X < B^k) : Num w b off k X := (h.low hk).val (mod_of_lt hX)

/-- A row that may be written: none of its cells is frozen. -/
def Free (w : World) (b off n : Nat) : Prop := ∀ i, i < n → w.frozen? ⟨b, off + i, none⟩ = false
theorem Free.at {w : World} {b off n : Nat} (h : Free w b off n) {i : Nat} (hi : i < n) : w.frozen? ⟨b, off + i, none⟩ = false := h i hi
theorem Free.at0 {w : World} {b n : Nat} (h : Free w b 0 n) {i : Nat} (hi : i < n) : w.frozen? ⟨b, i, none⟩ = false := by
  have := h i hi; rwa [Nat.zero_add] at this
theorem Free.below {w w' : World} {b off n N : Nat} (h : Free w b off n) (hb : Below N w w') (hlt : n ≠ 0 → b < N) : Free w' b off n :=
  fun i hi => by rw [hb.frozen (p := ⟨b, off + i, none⟩) (hlt (by omega))]; exact h i hi
theorem Free.part {w : World} {b off n k m : Nat} (h : Free w b off n) (hk : k + m ≤ n) : Free w b (off + k) m :=
  fun i hi => by rw [Nat.add_assoc]; exact h (k + i) (by omega)

/-- The call has made a row of n limbs that hold X, at block g; nothing that was there has changed. -/
structure Fresh (w w' : World) (g n X : Nat) : Prop where
  below : Below w.heap.size w w'
  num : Num w' g 0 n X
  free : Free w' g 0 n
  ge : w.heap.size ≤ g
  lt : g < w'.heap.size

/-- A store into a row. -/
theorem Num.set {w : World} {b off n X k d : Nat} (h : Num w b off n X) (hk : k < n) (hd : d < B) : Num (w.setCell ⟨b, off + k, none⟩ (.int .u32 d)) b off n (put X k d) := by
  refine ⟨put_lt hd h.1 hk, fun i hi => ?_⟩
  by_cases e : i = k
  · subst e
    rw [dg_put_same hd]
    have h0 := h.2 i hi
    unfold World.cell? World.setCell at *
    simp only [Array.getElem?_modify, if_true]
    cases hb : w.heap[b]? with
    | none => rw [hb] at h0; cases h0
    | some o =>
      rw [hb] at h0
      cases o with
      | cells c t fr =>
        simp only [Option.isSome_none, Bool.false_eq_true, if_false, Option.map_some] at h0 ⊢
        have hlt := (Array.getElem?_eq_some_iff.1 h0).1
        rw [Array.getElem?_setIfInBounds]
        simp [hlt]
      | _ => cases h0
  · rw [dg_put_other hd e]
    have h0 := h.2 i hi
    unfold World.cell? World.setCell at *
    simp only [Array.getElem?_modify, if_true]
    cases hb : w.heap[b]? with
    | none => rw [hb] at h0; cases h0
    | some o =>
      rw [hb] at h0
      cases o with
      | cells c t fr =>
        simp only [Option.isSome_none, Bool.false_eq_true, if_false, Option.map_some] at h0 ⊢
        rw [Array.getElem?_setIfInBounds, if_neg (by omega)]
        exact h0
      | _ => cases h0
theorem Num.set0 {w : World} {b n X k d : Nat} (h : Num w b 0 n X) (hk : k < n) (hd : d < B) : Num (w.setCell ⟨b, k, none⟩ (.int .u32 d)) b 0 n (put X k d) := by
  have := h.set hk hd; rwa [Nat.zero_add] at this
theorem frozen_setCell (w : World) (a p : Addr) (v : Value) : (w.setCell a v).frozen? p = w.frozen? p := by
  unfold World.frozen? World.setCell
  simp only [Array.getElem?_modify]
  by_cases h : a.block = p.block
  · rw [if_pos h, ← h]
    cases w.heap[a.block]? with
    | none => rfl
    | some o => cases o <;> rfl
  · rw [if_neg h]
theorem Free.set {w : World} {b off n : Nat} (h : Free w b off n) (a : Addr) (v : Value) : Free (w.setCell a v) b off n :=
  fun i hi => by rw [frozen_setCell]; exact h i hi
theorem put_new {S k d : Nat} (h : S < B^k) : put S k d = S + d * B^k := by
  unfold put; rw [mod_of_lt h, Nat.div_eq_of_lt (Nat.lt_of_lt_of_le h (pow_le (by omega)))]; omega
/-- A store elsewhere. -/
theorem Num.other {w : World} {b off n X : Nat} (h : Num w b off n X) {a : Addr} (v : Value) (hne : n ≠ 0 → b ≠ a.block) : Num (w.setCell a v) b off n X :=
  ⟨h.1, fun i hi => by
    rw [World.cell?_of_block (w := w) (w' := w.setCell a v) (a := ⟨b, off + i, none⟩) (Below.heap_setCell w a v b (hne (by omega)))]
    exact h.2 i hi⟩

theorem cell_other {w : World} {a p : Addr} {u v : Value} (h : w.cell? p = some v) (hne : p.block ≠ a.block) : (w.setCell a u).cell? p = some v := by
  rw [World.cell?_of_block (w := w) (w' := w.setCell a u) (a := p) (Below.heap_setCell w a u p.block hne)]; exact h
theorem heap_made (w : World) (o : Obj) : (w.alloc o).heap[w.heap.size]? = some o := by
  show (w.heap.push o)[w.heap.size]? = _
  simp
/-- A cell of a new block. -/
theorem cell_new (w : World) (cs : Array Value) (T : TypeId) (g j : Nat) (v : Value) (hg : g = w.heap.size) (h : cs[j]? = some v) : (w.alloc (.cells cs T)).cell? ⟨g, j, none⟩ = some v := by
  subst hg
  unfold World.cell?
  rw [heap_made]
  simp [h]
theorem free_new (w : World) (cs : Array Value) (T : TypeId) (g j : Nat) (hg : g = w.heap.size) : (w.alloc (.cells cs T)).frozen? ⟨g, j, none⟩ = false := by
  subst hg
  unfold World.frozen?
  rw [heap_made]
  simp
theorem num_made (w : World) (n : Nat) (E : TypeId) : Num (w.alloc (.cells (madeCells #[.int .u32 0] (n * 1)) E)) w.heap.size 0 n 0 := by
  refine ⟨Bp n, fun i hi => ?_⟩
  unfold World.cell?
  rw [heap_made]
  simp [madeCells, dg_zero, hi, Nat.mod_one]
theorem free_made (w : World) (n : Nat) (E : TypeId) : Free (w.alloc (.cells (madeCells #[.int .u32 0] (n * 1)) E)) w.heap.size 0 n := by
  intro i hi
  unfold World.frozen?
  rw [heap_made]
  simp
/-- A block that is known whole: N cells, none of them frozen. -/
def Row (w : World) (g N : Nat) : Prop := ∃ (cur : List Value) (t : TypeId), w.heap[g]? = some (.cells cur.toArray t (0, 0)) ∧ cur.length = N
theorem row_made (w : World) (n : Nat) (E : TypeId) : Row (w.alloc (.cells (madeCells #[.int .u32 0] (n * 1)) E)) w.heap.size n :=
  ⟨(madeCells #[.int .u32 0] (n * 1)).toList, E, by rw [heap_made], by simp [size_madeCells]⟩
theorem getElem?_splice {α : Type} (L : List α) (off : Nat) (cs : List α) (h : off + cs.length ≤ L.length) (i : Nat) :
    (splice L off cs)[i]? = if i < off then L[i]? else if i < off + cs.length then cs[i - off]? else L[i]? := by
  unfold splice
  by_cases h1 : i < off
  · rw [if_pos h1, List.getElem?_append_left (by simp; omega), List.getElem?_take, if_pos h1]
  · rw [if_neg h1, List.getElem?_append_right (by simp; omega), List.length_take, Nat.min_eq_left (by omega)]
    by_cases h2 : i < off + cs.length
    · rw [if_pos h2, List.getElem?_append_left (by omega)]
    · rw [if_neg h2, List.getElem?_append_right (by omega), List.getElem?_drop]
      congr 1; omega
/-- 'copy(dst, src)' into a row of zeros that the call has made. -/
theorem wpList_copy_num {P : Program} {w : World} {ops : Array Oper} {rest : List Oper} {o : Oper} {a : Act} {Q : Exit → Act → World → Prop} (hgd : o.guard = none) (d s : Operand) (dT sT : TypeId)
    (ho : o.op = .call { callee := .builtin .copy, args := #[d, s], argTypes := #[dT, sT] }) (elem : TypeId) (hu : P.underlying dT = some (.slice elem)) (hsz : (P.info? elem).map (·.size) = some 1)
    (dp sp : Option Addr) (dLen dCap ns sCap : Nat) (hd : a.eval d = .slice dp dLen dCap) (hs : a.eval s = .slice sp ns sCap)
    (g off N sb so X m : Nat) (hm : m = min ns dLen) (hrow : Row w g N) (hz : Num w g 0 N 0) (hX : Num w sb so ns X) (hsp : ns ≠ 0 → sp = some ⟨sb, so, none⟩) (hdp : dLen ≠ 0 → dp = some ⟨g, off, none⟩) (hfit : off + m ≤ N)
    (B0 : Nat) (w0 : World) (hb : Below B0 w0 w) (hBg : B0 ≤ g)
    (h : ∀ w', Below B0 w0 w' → g < w'.heap.size → Num w' g 0 N (X % B^m * B^off) → Free w' g 0 N → wpList P ops Q rest (a.put o.dst (goInt m)) w') :
    wpList P ops Q (o :: rest) a w := by
  obtain ⟨cur, t, hcur, hN⟩ := hrow
  have hcz : ∀ i, i < N → cur[i]? = some (.int .u32 ((0 : Nat) : Int)) := by
    intro i hi
    have := hz.cell0 hi
    unfold World.cell? at this
    rw [hcur] at this
    simpa [dg_zero] using this
  let cs : List Value := (List.range m).map fun i => .int .u32 (dg X i)
  have hcs : cs.length = m := by simp [cs]
  have hci : ∀ i, i < m → cs[i]? = some (.int .u32 (dg X i)) := by intro i hi; simp [cs, hi]
  refine wpList_copy_splice hgd d s dT sT ho elem hu hsz dp sp dLen dCap ns sCap hd hs g off cur t hcur cs (by rw [hcs, hm]) ?_ (by rw [hcs, hN]; exact hfit) ?_ B0 w0 hb hBg ?_
  · intro hpos
    rw [hcs] at hpos
    refine ⟨hdp (by omega), _, hsp (by omega), fun j v hj => ?_⟩
    have hjm : j < m := by have := (List.getElem?_eq_some_iff.1 hj).1; omega
    rw [hci j hjm] at hj
    obtain rfl := Option.some.inj hj
    rw [Addr.add_lit]; exact hX.cell (i := j) (by omega)
  · intro v hv
    obtain ⟨i, _, rfl⟩ := List.mem_map.1 hv
    rfl
  · intro w' hw' hb'
    have hw := hw'.out
    have hlt : g < w'.heap.size := (Array.getElem?_eq_some_iff.1 hw).1
    rw [hcs]
    refine h w' hb' hlt ⟨?_, fun i hi => ?_⟩ fun i hi => ?_
    · have h1 : X % B^m < B^m := mod_lt_pow _ _
      have h2 : X % B^m * B^off < B^m * B^off := Nat.mul_lt_mul_of_pos_right h1 (Bp _)
      rw [← pow_add] at h2
      exact Nat.lt_of_lt_of_le h2 (pow_le (by omega))
    · unfold World.cell?
      rw [hw]
      have e := getElem?_splice cur off cs (by rw [hcs, hN]; exact hfit) i
      simp only [Option.isSome_none, Bool.false_eq_true, if_false, Nat.zero_add, List.getElem?_toArray, e, hcs]
      by_cases h1 : i < off
      · rw [if_pos h1, hcz i hi]
        have : dg (X % B^m * B^off) i = 0 := by
          have := dg_add_lo (S := 0) (d := X % B^m) h1
          rwa [Nat.zero_add, dg_zero] at this
        rw [this]
      · obtain ⟨j, rfl⟩ : ∃ j, i = off + j := ⟨i - off, by omega⟩
        have hdj : dg (X % B^m * B^off) (off + j) = dg (X % B^m) j := by
          have := dg_add_hi (S := 0) (d := X % B^m) (i := j) (Bp off)
          rwa [Nat.zero_add] at this
        rw [if_neg h1, hdj]
        by_cases h2 : j < m
        · rw [if_pos (by omega), show off + j - off = j by omega, hci j h2, dg_mod h2]
        · rw [if_neg (by omega), hcz _ hi, dg_of_lt (mod_lt_pow X m) (by omega)]
    · unfold World.frozen?
      rw [hw]
      simp
/-- 'make([]uint32, n)'. -/
theorem wpList_make_num {P : Program} (w : World) {ops : Array Oper} {rest : List Oper} {o : Oper} {a : Act} {Q : Exit → Act → World → Prop}
    (hg : o.guard = none) (l c : Operand) (t : TypeId) (hop : o.op = Op.makeSlice t l c)
    (e : TypeId) (hi : (P.info? e).map (fun i => (i.zero, i.size, i.bytes)) = some (some (.int .u32 0), 1, 4)) (h1 : P.underlying t = some (.slice e))
    (kl kc : IntKind) (L C : Int) (n : Nat) (hl : a.eval l = .int kl L) (hc : a.eval c = .int kc C) (hL : L = n) (hC : C = n) (hn : n ≤ 1099511627777)
    (hK : ∀ w', Below w.heap.size w w' → w'.heap.size = w.heap.size + 1 → Num w' w.heap.size 0 n 0 → Free w' w.heap.size 0 n → Row w' w.heap.size n → wpList P ops Q rest (a.put o.dst (.slice (some ⟨w.heap.size, 0, none⟩) n n)) w') :
    wpList P ops Q (o :: rest) a w := by
  subst hL
  subst hC
  obtain ⟨i, h2, hz, hs, hb⟩ := info_parts hi
  refine wpList_plain hg fun K hK' => ?_
  have hrun := run_make (P := P) w t e i (.int .u32 0) h1 h2 hz kl kc n n (by omega) (by omega) (by rw [hb]; omega) (by omega)
  rw [hs] at hrun
  simp only [Int.toNat_natCast] at hrun
  unfold Oper.wp
  simp [execOp, hop, hl, hc, Result.andThen]
  rw [hrun]
  exact hK' _ _ (hK _ ((Below.refl _ _).alloc (Nat.le_refl _) _) (by simp) (num_made w n e) (free_made w n e) (row_made w n e))
end PB

namespace PB
open Go Go.RowKit

theorem below_undrew {N : Nat} {w w' : World} (h : Below N w.drew w') : Below N w w' := ⟨h.os, h.tape, h.output, h.size, h.block⟩
theorem below_drewN {N : Nat} {w w' : World} (h : Below N w w') (n : Nat) : Below N w (w'.drewN n) := ⟨h.os, h.tape, h.output, h.size, h.block⟩
theorem below_undrewN {N n : Nat} {w w' : World} (h : Below N (w.drewN n) w') : Below N w w' := ⟨h.os, h.tape, h.output, h.size, h.block⟩
/-- Block g holds these cells, none of them frozen. -/
def Blk (w : World) (g : Nat) (cs : Array Value) : Prop := ∃ T, w.heap[g]? = some (.cells cs T (0, 0))
theorem Blk.lt {w : World} {g : Nat} {cs : Array Value} (h : Blk w g cs) : g < w.heap.size := by
  obtain ⟨T, h⟩ := h; exact (Array.getElem?_eq_some_iff.1 h).1
theorem blk_new {w : World} {g : Nat} {cs : Array Value} {T : TypeId} (hg : g = w.heap.size) : Blk (w.alloc (.cells cs T)) g cs := ⟨T, by subst hg; exact heap_made _ _⟩
theorem Blk.alloc {w : World} {g : Nat} {cs : Array Value} (h : Blk w g cs) (o : Obj) : Blk (w.alloc o) g cs := by
  have hl := h.lt
  obtain ⟨T, h⟩ := h
  exact ⟨T, by rw [Below.heap_alloc _ _ _ hl]; exact h⟩
theorem Blk.drew {w : World} {g : Nat} {cs : Array Value} (h : Blk w g cs) : Blk w.drew g cs := h
theorem Blk.drewN {w : World} {g n : Nat} {cs : Array Value} (h : Blk w g cs) : Blk (w.drewN n) g cs := h
theorem Blk.below {w w' : World} {g N : Nat} {cs : Array Value} (h : Blk w g cs) (hb : Below N w w') (hg : g < N) : Blk w' g cs := by
  obtain ⟨T, h⟩ := h
  exact ⟨T, by rw [hb.block g hg]; exact h⟩
theorem Blk.kept {w w' : World} {g : Nat} {cs : Array Value} (h : Blk w g cs) (hb : Below w.heap.size w w') : Blk w' g cs := h.below hb h.lt
theorem Blk.cell {w : World} {g : Nat} {cs : Array Value} (h : Blk w g cs) (j : Nat) (v : Value) (hv : cs[j]? = some v) : w.cell? ⟨g, j, none⟩ = some v := by
  obtain ⟨T, h⟩ := h
  unfold World.cell?
  rw [h]
  simp [hv]
theorem Blk.free {w : World} {g : Nat} {cs : Array Value} (h : Blk w g cs) (j : Nat) : w.frozen? ⟨g, j, none⟩ = false := by
  obtain ⟨T, h⟩ := h
  unfold World.frozen?
  rw [h]
  simp
theorem Blk.set {w : World} {g : Nat} {cs : Array Value} (h : Blk w g cs) (j : Nat) (v : Value) : Blk (w.setCell ⟨g, j, none⟩ v) g (cs.setIfInBounds j v) := by
  obtain ⟨T, h⟩ := h
  refine ⟨T, ?_⟩
  simp [World.setCell, Array.getElem?_modify, h]
theorem Blk.other {w : World} {g : Nat} {cs : Array Value} (h : Blk w g cs) {a : Addr} (v : Value) (hne : g ≠ a.block) : Blk (w.setCell a v) g cs := by
  obtain ⟨T, h⟩ := h
  exact ⟨T, by rw [Below.heap_setCell _ _ _ _ hne]; exact h⟩

theorem Blk2 {w : World} {g : Nat} {v0 v1 : Value} (h : Blk w g #[v0, v1]) : w.cell? ⟨g, 0, none⟩ = some v0 ∧ w.cell? ⟨g, 1, none⟩ = some v1 := ⟨h.cell 0 _ rfl, h.cell 1 _ rfl⟩
theorem Blk2f {w : World} {g : Nat} {v0 v1 : Value} (h : Blk w g #[v0, v1]) : w.frozen? ⟨g, 0, none⟩ = false ∧ w.frozen? ⟨g, 1, none⟩ = false := ⟨h.free 0, h.free 1⟩
theorem blk_set2 {w : World} {g : Nat} {x y a b : Value} (h : Blk w g #[x, y]) : Blk ((w.setCell ⟨g, 0, none⟩ a).setCell ⟨g, 1, none⟩ b) g #[a, b] := (h.set 0 a).set 1 b
theorem blk_oth2 {w : World} {g k : Nat} {cs : Array Value} {a b : Value} (h : Blk w g cs) (hne : g ≠ k) : Blk ((w.setCell ⟨k, 0, none⟩ a).setCell ⟨k, 1, none⟩ b) g cs := (h.other a hne).other b hne
theorem blk_last {w w' : World} {cs : Array Value} {T : TypeId} (h : Below (w.alloc (.cells cs T)).heap.size (w.alloc (.cells cs T)) w') : Blk w' w.heap.size cs := (blk_new rfl).kept h
theorem blk_prev {w w' : World} {cs : Array Value} {T : TypeId} {o : Obj} (h : Below ((w.alloc (.cells cs T)).alloc o).heap.size ((w.alloc (.cells cs T)).alloc o) w') : Blk w' w.heap.size cs := ((blk_new rfl).alloc _).kept h
theorem blk_last2 {w w' : World} {cs : Array Value} {T : TypeId} {o : Obj} (h : Below ((w.alloc o).alloc (.cells cs T)).heap.size ((w.alloc o).alloc (.cells cs T)) w') : Blk w' (w.heap.size + 1) cs := (blk_new (by simp)).kept h
theorem blk_lastd {w w' : World} {cs : Array Value} {T : TypeId} (h : Below (w.alloc (.cells cs T)).drew.heap.size (w.alloc (.cells cs T)).drew w') : Blk w' w.heap.size cs := blk_last (below_undrew h)
theorem blk_prevd {w w' : World} {cs : Array Value} {T : TypeId} {o : Obj} (h : Below ((w.alloc (.cells cs T)).alloc o).drew.heap.size ((w.alloc (.cells cs T)).alloc o).drew w') : Blk w' w.heap.size cs := blk_prev (below_undrew h)
theorem blk_last2d {w w' : World} {cs : Array Value} {T : TypeId} {o : Obj} (h : Below ((w.alloc o).alloc (.cells cs T)).drew.heap.size ((w.alloc o).alloc (.cells cs T)).drew w') : Blk w' (w.heap.size + 1) cs := blk_last2 (below_undrew h)
theorem setCell_same {w : World} {g j : Nat} {v : Value} (h : w.cell? ⟨g, j, none⟩ = some v) : w.setCell ⟨g, j, none⟩ v = w := by
  have e : (w.setCell ⟨g, j, none⟩ v).heap = w.heap := by
    apply Array.ext_getElem?
    intro k
    unfold World.cell? at h
    simp only [World.setCell, Array.getElem?_modify]
    by_cases hk : g = k
    · subst hk
      rw [if_pos rfl]
      cases hb : w.heap[g]? with
      | none => rfl
      | some o =>
        rw [hb] at h
        cases o with
        | cells c t fr =>
          simp only [Option.map_some, Option.isSome_none, Bool.false_eq_true, if_false] at h ⊢
          have h2 : c.setIfInBounds j v = c := by
            apply Array.ext_getElem?
            intro i
            rw [Array.getElem?_setIfInBounds]
            by_cases hi : j = i
            · subst hi
              have hlt := (Array.getElem?_eq_some_iff.1 h).1
              simp [hlt]
              rw [Array.getElem?_eq_some_iff] at h
              exact h.2.symm
            · simp [hi]
          rw [h2]
        | _ => cases h
    · rw [if_neg hk]
  cases w
  simp only [World.setCell] at e ⊢
  simp only [e]
theorem results_row_tmp {P : Program} {fn : Func} {p u : Tmp} {ty : TypeId} (h : fn.results = #[.cell p ty, .tmp u]) (tmps : Array Value) (w : World) (g : Nat) (t : TypeId) (cs : Array Value) (fr : Nat × Nat) (d : TypeDesc)
    (hp : tmps.getD p undef = .pointer (some ⟨g, 0, none⟩)) (hg : w.heap[g]? = some (.cells cs t fr))
    (hu : P.underlying ty = some d) (hd : (match d with | .struct _ | .array _ _ => true | _ => false) = true) (hi : (P.info? ty).map (·.size) = some cs.size) :
    (results fn tmps).run P w = .ok (.tuple #[.agg cs, tmps.getD u undef]) w := by
  rw [results_cell_tmp h]
  have hp' : tmps[p]?.getD undef = .pointer (some ⟨g, 0, none⟩) := by simpa using hp
  simp [hp', asAddr, run_loadVar_row w g t ty cs fr d hg hu hd hi, Result.andThen]
theorem blk_res_tmp {P : Program} {fn : Func} {p u : Tmp} {ty : TypeId} (h : fn.results = #[.cell p ty, .tmp u]) {tmps : Array Value} {w : World} {g : Nat} {cs : Array Value} (d : TypeDesc)
    (hp : tmps.getD p undef = .pointer (some ⟨g, 0, none⟩)) (hg : Blk w g cs)
    (hu : P.underlying ty = some d) (hd : (match d with | .struct _ | .array _ _ => true | _ => false) = true) (hi : (P.info? ty).map (·.size) = some cs.size) :
    (results fn tmps).run P w = .ok (.tuple #[.agg cs, tmps.getD u undef]) w := by
  obtain ⟨T, hg⟩ := hg
  exact results_row_tmp h _ _ g T cs (0, 0) d hp hg hu hd hi
theorem blk_res {P : Program} {fn : Func} {p : Tmp} {ty : TypeId} (h : fn.results = #[.cell p ty]) {tmps : Array Value} {w : World} {g : Nat} {cs : Array Value} (d : TypeDesc)
    (hp : tmps.getD p undef = .pointer (some ⟨g, 0, none⟩)) (hg : Blk w g cs)
    (hu : P.underlying ty = some d) (hd : (match d with | .struct _ | .array _ _ => true | _ => false) = true) (hi : (P.info? ty).map (·.size) = some cs.size) :
    (results fn tmps).run P w = .ok (.agg cs) w := by
  obtain ⟨T, hg⟩ := hg
  exact results_cell_row h _ _ g T cs (0, 0) d hp hg hu hd hi
end PB

namespace SC
open Go Go.RowKit PB
abbrev wordV (k : Int) (t : ByteArray) (n a : Int) : Value := .agg #[.int .i64 k, .string t, .int .i64 n, .int .i64 a]
def wcells (k : Int) (t : ByteArray) (n a : Int) : Array Value := #[.int .i64 k, .string t, .int .i64 n, .int .i64 a]
theorem Blk4 {w : World} {g : Nat} {v0 v1 v2 v3 : Value} (h : Blk w g #[v0, v1, v2, v3]) : w.cell? ⟨g, 0, none⟩ = some v0 ∧ w.cell? ⟨g, 1, none⟩ = some v1 ∧ w.cell? ⟨g, 2, none⟩ = some v2 ∧ w.cell? ⟨g, 3, none⟩ = some v3 := ⟨h.cell 0 _ rfl, h.cell 1 _ rfl, h.cell 2 _ rfl, h.cell 3 _ rfl⟩
theorem Blk4f {w : World} {g : Nat} {v0 v1 v2 v3 : Value} (h : Blk w g #[v0, v1, v2, v3]) : w.frozen? ⟨g, 0, none⟩ = false ∧ w.frozen? ⟨g, 1, none⟩ = false ∧ w.frozen? ⟨g, 2, none⟩ = false ∧ w.frozen? ⟨g, 3, none⟩ = false := ⟨h.free 0, h.free 1, h.free 2, h.free 3⟩
theorem blk_set4 {w : World} {g : Nat} {x y z u a b c d : Value} (h : Blk w g #[x, y, z, u]) : Blk ((((w.setCell ⟨g, 0, none⟩ a).setCell ⟨g, 1, none⟩ b).setCell ⟨g, 2, none⟩ c).setCell ⟨g, 3, none⟩ d) g #[a, b, c, d] := (((h.set 0 a).set 1 b).set 2 c).set 3 d
end SC
namespace Go.Proofs.YtdikoeeoglfmaaaGreatDoor
open Go.RowKit SC PB
set_option maxRecDepth 100000 in
theorem clone_any (s : ByteArray) (w : World) (hs : s.size ≤ 281474976710656) :
    Calls Tryz.prog 70 #[.string s] w fun e w' => e = .returned (.string s) ∧ Below w.heap.size w w' := by
  go_enter Tryz.func70, Tryz.ntmps70
  go_wp2_with (go_at_call 82; refine (Tryz.stringslite_Clone s _ hs).mono ?_; rintro e w' ⟨rfl, hb⟩)
  go_ret
  exact ⟨rfl, hb⟩
set_option maxHeartbeats 1000000 in
set_option maxRecDepth 100000 in
theorem name_any (s : ByteArray) (w : World) (hs : s.size ≤ 281474976710656) :
    Calls Tryz.prog 54 #[.string s] w fun e w' => e = .returned (if s.size ≤ 12 then .tuple #[wordV 1 s 0 0, .int .i64 0] else .tuple #[wordV 0 ⟨#[]⟩ 0 0, .int .i64 6]) ∧ Below w.heap.size w w' := by
  by_cases h : s.size ≤ 12
  · rw [if_pos h]
    go_enter Tryz.func54, Tryz.ntmps54
    go_wp2_with fail
    refine (clone_any s _ hs).mono ?_
    rintro e w1 ⟨rfl, hw1⟩
    have X1 := blk_last hw1
    have q1 := ((Below.refl _ w).alloc (Nat.le_refl _) _).trans (hw1.mono (by simp))
    obtain ⟨c0, c1, c2, c3⟩ := Blk4 X1
    obtain ⟨f0, f1, f2, f3⟩ := Blk4f X1
    clear hw1
    go_wp2_with fail
    refine bodyPost_ret (blk_res_tmp rfl _ rfl (blk_set4 X1) Tryz.underlying64 rfl (by rfl)) rfl ?_
    exact ⟨rfl, (((q1.setCell (Nat.le_refl _) _).setCell (Nat.le_refl _) _).setCell (Nat.le_refl _) _).setCell (Nat.le_refl _) _⟩
  · rw [if_neg h]
    go_enter Tryz.func54, Tryz.ntmps54
    go_wp2_with fail
    refine bodyPost_ret (blk_res_tmp rfl _ rfl (blk_new rfl) Tryz.underlying64 rfl (by rfl)) rfl ?_
    exact ⟨rfl, (Below.refl _ w).alloc (Nat.le_refl _) _⟩
end Go.Proofs.YtdikoeeoglfmaaaGreatDoor
