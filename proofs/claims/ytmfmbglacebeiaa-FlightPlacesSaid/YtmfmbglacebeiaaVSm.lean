/-
  Small functions on vectors, and what they return.
-/
import Derived.WalkKit
import Derived.WalkLawsBesides
import Derived.Lib.Hide
import Derived.Deep.Draws
import Derived.Deep.QuietTactic
import Derived.BigQuiet
import Derived.Deep.RegionHeld3
import Derived.Laws.ResultCell
import Derived.Laws.Rows
import Derived.Test.YtmfmbglacebeiaaBlk
import Derived.Test.YtmfmbglacebeiaaProg
namespace VB
open Go Go.RowKit PB
/-- A vector as a value. -/
abbrev vec (x y : Int) : Value := .agg #[.int .i64 x, .int .i64 y]
/-- A small vector. -/
structure Sm (x y : Int) : Prop where
  a : -1073741824 ≤ x
  b : x ≤ 1073741824
  c : -1073741824 ≤ y
  d : y ≤ 1073741824
instance (x y : Int) : Decidable (Sm x y) := decidable_of_iff (-1073741824 ≤ x ∧ x ≤ 1073741824 ∧ -1073741824 ≤ y ∧ y ≤ 1073741824) ⟨fun h => ⟨h.1, h.2.1, h.2.2.1, h.2.2.2⟩, fun h => ⟨h.a, h.b, h.c, h.d⟩⟩
def smB (x y : Int) : Bool := decide (Sm x y)
theorem smB_t {x y : Int} (h : Sm x y) : smB x y = true := by unfold smB; exact decide_eq_true h
theorem smB_f {x y : Int} (h : ¬ Sm x y) : smB x y = false := by unfold smB; exact decide_eq_false h
theorem in1 {w w1 : World} {o : Obj} (h : Below (w.alloc o).heap.size (w.alloc o) w1) : Below w.heap.size w w1 :=
  ((Below.refl _ _).alloc (Nat.le_refl _) _).trans (h.mono (by simp))
theorem in2 {w w1 : World} {o o' : Obj} (h : Below ((w.alloc o).alloc o').heap.size ((w.alloc o).alloc o') w1) : Below w.heap.size w w1 := in1 (in1 h)
theorem in3 {w w1 : World} {o o' o2 : Obj} (h : Below (((w.alloc o).alloc o').alloc o2).heap.size (((w.alloc o).alloc o').alloc o2) w1) : Below w.heap.size w w1 := in2 (in1 h)
theorem next {w w1 w2 : World} (h : Below w.heap.size w w1) (h' : Below w1.heap.size w1 w2) : Below w.heap.size w w2 := h.trans (h'.mono h.size)
theorem not_sm {x y : Int} (h : ¬ Sm x y) : x < -1073741824 ∨ 1073741824 < x ∨ y < -1073741824 ∨ 1073741824 < y := by
  by_cases h1 : -1073741824 ≤ x
  · by_cases h2 : x ≤ 1073741824
    · by_cases h3 : -1073741824 ≤ y
      · by_cases h4 : y ≤ 1073741824
        · exact absurd ⟨h1, h2, h3, h4⟩ h
        · omega
      · omega
    · omega
  · omega
end VB
namespace Go.Proofs.Ytmfmbglacebeiaa
open Go.RowKit PB VB
set_option maxRecDepth 100000 in
theorem vsmall_t (x y : Int) (w : World) (h : Sm x y) : Calls Try.prog 39 #[vec x y] w fun e w' => e = .returned (.bool true) ∧ Below w.heap.size w w' := by
  obtain ⟨a, b, c, d⟩ := h
  go_enter Try.func39, Try.ntmps39
  go_wp2
  go_ret
  exact ⟨rfl, (Below.refl _ _).alloc (Nat.le_refl _) _⟩
set_option maxRecDepth 100000 in
theorem vsmall_f (x y : Int) (w : World) (h : ¬ Sm x y) : Calls Try.prog 39 #[vec x y] w fun e w' => e = .returned (.bool false) ∧ Below w.heap.size w w' := by
  by_cases h1 : -1073741824 ≤ x
  · by_cases h2 : x ≤ 1073741824
    · by_cases h3 : -1073741824 ≤ y
      · by_cases h4 : y ≤ 1073741824
        · exact absurd ⟨h1, h2, h3, h4⟩ h
        · clear h
          have h4' : decide (y ≤ 1073741824) = false := decide_eq_false h4
          clear h4
          go_enter Try.func39, Try.ntmps39
          go_wp2
          go_ret
          exact ⟨rfl, (Below.refl _ _).alloc (Nat.le_refl _) _⟩
      · clear h
        have h4' : decide (-1073741824 ≤ y) = false := decide_eq_false h3
        clear h3
        go_enter Try.func39, Try.ntmps39
        go_wp2
        go_ret
        exact ⟨rfl, (Below.refl _ _).alloc (Nat.le_refl _) _⟩
    · clear h
      have h4' : decide (x ≤ 1073741824) = false := decide_eq_false h2
      clear h2
      go_enter Try.func39, Try.ntmps39
      go_wp2
      go_ret
      exact ⟨rfl, (Below.refl _ _).alloc (Nat.le_refl _) _⟩
  · clear h
    have h4' : decide (-1073741824 ≤ x) = false := decide_eq_false h1
    clear h1
    go_enter Try.func39, Try.ntmps39
    go_wp2
    go_ret
    exact ⟨rfl, (Below.refl _ _).alloc (Nat.le_refl _) _⟩
end Go.Proofs.Ytmfmbglacebeiaa
