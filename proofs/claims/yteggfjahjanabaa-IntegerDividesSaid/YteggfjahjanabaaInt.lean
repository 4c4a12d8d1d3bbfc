/-
  api.Int values: what they stand for, and when they are canonical. Blocks that are known whole.
-/
import Derived.Test.YteggfjahjanabaaLarge
import Derived.Test.YteggfjahjanabaaLen
namespace PB
open Go Go.RowKit

theorem below_undrew {N : Nat} {w w' : World} (h : Below N w.drew w') : Below N w w' := ⟨h.os, h.tape, h.output, h.size, h.block⟩
theorem below_drewN {N : Nat} {w w' : World} (h : Below N w w') (n : Nat) : Below N w (w'.drewN n) := ⟨h.os, h.tape, h.output, h.size, h.block⟩
theorem below_undrewN {N n : Nat} {w w' : World} (h : Below N (w.drewN n) w') : Below N w w' := ⟨h.os, h.tape, h.output, h.size, h.block⟩
/-- Block g holds these cells, none of them frozen. -/
def Blk (w : World) (g : Nat) (cs : Array Value) : Prop := ∃ T, w.heap[g]? = some (.cells cs T (0, 0))
theorem Blk.lt {w : World} {g : Nat} {cs : Array Value} (h : Blk w g cs) : g < w.heap.size := by
  obtain ⟨T, h⟩ := h; exact (Array.getElem?_eq_some_iff.1 h).1
theorem blk_new {w : World} {g : Nat} {cs : Array Value} {T : TypeId} (hg : g = w.heap.size) : Blk (w.alloc (.cells cs T)) g cs := ⟨T, by subst hg; exact heap_made _ _⟩
theorem Blk.alloc {w : World} {g : Nat} {cs : Array Value} (h : Blk w g cs) (o : Obj) : Blk (w.alloc o) g cs := by
  have hl := h.lt
  obtain ⟨T, h⟩ := h
  exact ⟨T, by rw [Below.heap_alloc _ _ _ hl]; exact h⟩
theorem Blk.drew {w : World} {g : Nat} {cs : Array Value} (h : Blk w g cs) : Blk w.drew g cs := h
theorem Blk.drewN {w : World} {g n : Nat} {cs : Array Value} (h : Blk w g cs) : Blk (w.drewN n) g cs := h
theorem Blk.below {w w' : World} {g N : Nat} {cs : Array Value} (h : Blk w g cs) (hb : Below N w w') (hg : g < N) : Blk w' g cs := by
  obtain ⟨T, h⟩ := h
  exact ⟨T, by rw [hb.block g hg]; exact h⟩
theorem Blk.kept {w w' : World} {g : Nat} {cs : Array Value} (h : Blk w g cs) (hb : Below w.heap.size w w') : Blk w' g cs := h.below hb h.lt
theorem Blk.cell {w : World} {g : Nat} {cs : Array Value} (h : Blk w g cs) (j : Nat) (v : Value) (hv : cs[j]? = some v) : w.cell? ⟨g, j, none⟩ = some v := by
  obtain ⟨T, h⟩ := h
  unfold World.cell?
  rw [h]
  simp [hv]
theorem Blk.free {w : World} {g : Nat} {cs : Array Value} (h : Blk w g cs) (j : Nat) : w.frozen? ⟨g, j, none⟩ = false := by
  obtain ⟨T, h⟩ := h
  unfold World.frozen?
  rw [h]
  simp
theorem Blk.set {w : World} {g : Nat} {cs : Array Value} (h : Blk w g cs) (j : Nat) (v : Value) : Blk (w.setCell ⟨g, j, none⟩ v) g (cs.setIfInBounds j v) := by
  obtain ⟨T, h⟩ := h
  refine ⟨T, ?_⟩
  simp [World.setCell, Array.getElem?_modify, h]
theorem Blk.other {w : World} {g : Nat} {cs : Array Value} (h : Blk w g cs) {a : Addr} (v : Value) (hne : g ≠ a.block) : Blk (w.setCell a v) g cs := by
  obtain ⟨T, h⟩ := h
  exact ⟨T, by rw [Below.heap_setCell _ _ _ _ hne]; exact h⟩

/-- The number that a sign and limbs stand for. -/
def sg (s : Bool) (X : Nat) : Int := if s then -(X : Int) else X
/-- v is an api.Int that stands for z. -/
def IsInt (w : World) (v : Value) (z : Int) : Prop :=
  ∃ (s : Bool) (base : Option Addr) (b off n c X : Nat), v = .agg #[.bool s, .slice base n c] ∧ (n ≠ 0 → base = some ⟨b, off, none⟩) ∧ Num w b off n X ∧ n ≤ c ∧ n ≤ 1000000000 ∧ z = sg s X
/-- .. in canonical form, its limbs in a block from N on. -/
def IsCan (N : Nat) (w : World) (v : Value) (z : Int) : Prop :=
  ∃ (s : Bool) (base : Option Addr) (b off X c : Nat), v = .agg #[.bool s, .slice base (nl X) c] ∧ (nl X ≠ 0 → base = some ⟨b, off, none⟩) ∧ Num w b off (nl X) X ∧ nl X ≤ c ∧ nl X ≤ 1000000000 ∧ z = sg s X ∧ (X = 0 → s = false) ∧ (nl X ≠ 0 → N ≤ b)
theorem IsCan.int {N : Nat} {w : World} {v : Value} {z : Int} (h : IsCan N w v z) : IsInt w v z := by
  obtain ⟨s, base, b, off, X, c, h1, h2, h3, h4, h5, h6, _⟩ := h
  exact ⟨s, base, b, off, nl X, c, X, h1, h2, h3, h4, h5, h6⟩
theorem IsInt.kept {w w' : World} {v : Value} {z : Int} (h : IsInt w v z) (hb : Below w.heap.size w w') : IsInt w' v z := by
  obtain ⟨s, base, b, off, n, c, X, h1, h2, h3, h4, h5, h6⟩ := h
  exact ⟨s, base, b, off, n, c, X, h1, h2, h3.kept hb, h4, h5, h6⟩
theorem IsCan.kept {N : Nat} {w w' : World} {v : Value} {z : Int} (h : IsCan N w v z) (hb : Below w.heap.size w w') : IsCan N w' v z := by
  obtain ⟨s, base, b, off, X, c, h1, h2, h3, h4, h5, h6, h7⟩ := h
  exact ⟨s, base, b, off, X, c, h1, h2, h3.kept hb, h4, h5, h6, h7⟩
theorem IsCan.mono {N N' : Nat} {w : World} {v : Value} {z : Int} (h : IsCan N w v z) (hN : N' ≤ N) : IsCan N' w v z := by
  obtain ⟨s, base, b, off, X, c, h1, h2, h3, h4, h5, h6, h7, h8⟩ := h
  exact ⟨s, base, b, off, X, c, h1, h2, h3, h4, h5, h6, h7, fun h => Nat.le_trans hN (h8 h)⟩
/-- A store below the limbs. -/
theorem IsCan.set {N : Nat} {w : World} {v : Value} {z : Int} (h : IsCan N w v z) {p : Addr} (hp : p.block < N) (u : Value) : IsCan N (w.setCell p u) v z := by
  obtain ⟨s, base, b, off, X, c, h1, h2, h3, h4, h5, h6, h7, h8⟩ := h
  exact ⟨s, base, b, off, X, c, h1, h2, h3.other u (fun hn e => by have := h8 hn; omega), h4, h5, h6, h7, h8⟩
theorem sg_natAbs (s : Bool) (X : Nat) : (sg s X).natAbs = X := by unfold sg; cases s <;> simp
theorem sg_zero {s : Bool} {X : Nat} : sg s X = 0 ↔ X = 0 := by unfold sg; cases s <;> simp
/-- More than 256 limbs. -/
def big (z : Int) : Prop := 256 < nl z.natAbs
instance (z : Int) : Decidable (big z) := by unfold big; exact inferInstance
theorem big_sg (s : Bool) (X : Nat) : big (sg s X) ↔ 256 < nl X := by unfold big; rw [sg_natAbs]

/-- The call returns a canonical Int that stands for z; nothing that was there has changed. -/
def RetInt (w : World) (z : Int) (e : Ending) (w' : World) : Prop := ∃ v, e = .returned v ∧ IsCan w.heap.size w' v z ∧ Below w.heap.size w w'
/-- .. with an error number. -/
def RetIntE (w : World) (z err : Int) (e : Ending) (w' : World) : Prop := ∃ v, e = .returned (.tuple #[v, .int .i64 err]) ∧ IsCan w.heap.size w' v z ∧ Below w.heap.size w w'
end PB
namespace Go.Proofs.Yteggfjahjanabaa
open Go.RowKit PB
theorem can_zero (N : Nat) (w : World) : IsCan N w (.agg #[.bool false, .slice none 0 0]) 0 :=
  ⟨false, none, 0, 0, 0, 0, by rw [nl_zero], fun h => absurd nl_zero h, ⟨Bp _, fun i hi => by rw [nl_zero] at hi; omega⟩, by rw [nl_zero]; omega, by rw [nl_zero]; omega, rfl, fun _ => rfl, fun h => absurd nl_zero h⟩
theorem can_intv {N : Nat} {w : World} {s : Bool} {base : Option Addr} {b off n X : Nat} (hb : n ≠ 0 → base = some ⟨b, off, none⟩) (hX : Num w b off n X) (hl : nl X ≤ 1000000000) (hN : n ≠ 0 → N ≤ b) : IsCan N w (intv s base X) (sg s X) := by
  by_cases h : X = 0
  · subst h
    rw [intv_zero, show sg s 0 = 0 from sg_zero.2 rfl]
    exact can_zero N w
  · rw [intv_pos _ _ h]
    have hn := nl_le hX.lt
    exact ⟨s, base, b, off, X, nl X, rfl, fun h => hb (by omega), hX.fewer hn (lt_nl X), Nat.le_refl _, hl, rfl, fun e => absurd e h, fun h => hN (by omega)⟩
theorem intv_form (s : Bool) (base : Option Addr) (X : Nat) : ∃ s' q m, intv s base X = .agg #[.bool s', .slice q m m] := by
  by_cases h : X = 0
  · exact ⟨false, none, 0, by subst h; exact intv_zero _ _⟩
  · exact ⟨s, base, nl X, intv_pos _ _ h⟩
end Go.Proofs.Yteggfjahjanabaa
