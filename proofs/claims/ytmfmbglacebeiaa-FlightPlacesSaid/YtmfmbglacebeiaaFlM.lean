/-
  Motions: ranges, ends, positions.
-/
import Derived.Test.YtmfmbglacebeiaaZVec
namespace FL
open Go Go.RowKit PB VB
/-- A Motion as a value. -/
abbrev mo (px py vx vy hx hy : Int) : Value := .agg #[.int .i64 px, .int .i64 py, .int .i64 vx, .int .i64 vy, .int .i64 hx, .int .i64 hy]
/-- Both components have an absolute value of at most n. -/
structure Wi (n x y : Int) : Prop where
  a : -n ≤ x
  b : x ≤ n
  c : -n ≤ y
  d : y ≤ n
instance (n x y : Int) : Decidable (Wi n x y) := decidable_of_iff (-n ≤ x ∧ x ≤ n ∧ -n ≤ y ∧ y ≤ n) ⟨fun h => ⟨h.1, h.2.1, h.2.2.1, h.2.2.2⟩, fun h => ⟨h.a, h.b, h.c, h.d⟩⟩
theorem not_wi {n x y : Int} (h : ¬ Wi n x y) : x < -n ∨ n < x ∨ y < -n ∨ n < y := by
  by_cases h1 : -n ≤ x
  · by_cases h2 : x ≤ n
    · by_cases h3 : -n ≤ y
      · by_cases h4 : y ≤ n
        · exact absurd ⟨h1, h2, h3, h4⟩ h
        · omega
      · omega
    · omega
  · omega
/-- A valid Motion. -/
structure VM (px py vx vy hx hy : Int) : Prop where
  p : Wi 8388608 px py
  v : Wi 262144 vx vy
  h : Wi 4096 hx hy
instance (px py vx vy hx hy : Int) : Decidable (VM px py vx vy hx hy) := decidable_of_iff (Wi 8388608 px py ∧ Wi 262144 vx vy ∧ Wi 4096 hx hy) ⟨fun h => ⟨h.1, h.2.1, h.2.2⟩, fun h => ⟨h.p, h.v, h.h⟩⟩
def wiB (n x y : Int) : Bool := decide (Wi n x y)
def vmB (px py vx vy hx hy : Int) : Bool := decide (VM px py vx vy hx hy)
theorem vmB_t {px py vx vy hx hy : Int} (h : VM px py vx vy hx hy) : vmB px py vx vy hx hy = true := by unfold vmB; exact decide_eq_true h
theorem vmB_f {px py vx vy hx hy : Int} (h : ¬ VM px py vx vy hx hy) : vmB px py vx vy hx hy = false := by unfold vmB; exact decide_eq_false h
theorem vmB_and (px py vx vy hx hy : Int) : vmB px py vx vy hx hy = (wiB 8388608 px py && (wiB 262144 vx vy && wiB 4096 hx hy)) := by
  unfold vmB wiB
  rw [Bool.eq_iff_iff]
  simp only [decide_eq_true_eq, Bool.and_eq_true]
  exact ⟨fun h => ⟨h.p, h.v, h.h⟩, fun h => ⟨h.1, h.2.1, h.2.2⟩⟩
theorem Blk6 {w : World} {g : Nat} {v0 v1 v2 v3 v4 v5 : Value} (h : Blk w g #[v0, v1, v2, v3, v4, v5]) : w.cell? ⟨g, 0, none⟩ = some v0 ∧ w.cell? ⟨g, 1, none⟩ = some v1 ∧ w.cell? ⟨g, 2, none⟩ = some v2 ∧ w.cell? ⟨g, 3, none⟩ = some v3 ∧ w.cell? ⟨g, 4, none⟩ = some v4 ∧ w.cell? ⟨g, 5, none⟩ = some v5 :=
  ⟨h.cell 0 _ rfl, h.cell 1 _ rfl, h.cell 2 _ rfl, h.cell 3 _ rfl, h.cell 4 _ rfl, h.cell 5 _ rfl⟩
theorem Blk6f {w : World} {g : Nat} {v0 v1 v2 v3 v4 v5 : Value} (h : Blk w g #[v0, v1, v2, v3, v4, v5]) : w.frozen? ⟨g, 0, none⟩ = false ∧ w.frozen? ⟨g, 1, none⟩ = false ∧ w.frozen? ⟨g, 2, none⟩ = false ∧ w.frozen? ⟨g, 3, none⟩ = false ∧ w.frozen? ⟨g, 4, none⟩ = false ∧ w.frozen? ⟨g, 5, none⟩ = false :=
  ⟨h.free 0, h.free 1, h.free 2, h.free 3, h.free 4, h.free 5⟩
theorem blk_set6 {w : World} {k : Nat} {a b c d e f a' b' c' d' e' f' : Value} (H : Blk w k #[a, b, c, d, e, f]) :
    Blk ((((((w.setCell ⟨k, 0, none⟩ a').setCell ⟨k, 1, none⟩ b').setCell ⟨k, 2, none⟩ c').setCell ⟨k, 3, none⟩ d').setCell ⟨k, 4, none⟩ e').setCell ⟨k, 5, none⟩ f') k #[a', b', c', d', e', f'] := by
  have h0 : Blk _ k #[a', b, c, d, e, f] := H.set 0 a'
  have h1 : Blk _ k #[a', b', c, d, e, f] := h0.set 1 b'
  have h2 : Blk _ k #[a', b', c', d, e, f] := h1.set 2 c'
  have h3 : Blk _ k #[a', b', c', d', e, f] := h2.set 3 d'
  have h4 : Blk _ k #[a', b', c', d', e', f] := h3.set 4 e'
  exact h4.set 5 f'
theorem below_set6 {w w' : World} {k : Nat} {a' b' c' d' e' f' : Value} {N : Nat} (h : Below N w w') (hk : N ≤ k) :
    Below N w ((((((w'.setCell ⟨k, 0, none⟩ a').setCell ⟨k, 1, none⟩ b').setCell ⟨k, 2, none⟩ c').setCell ⟨k, 3, none⟩ d').setCell ⟨k, 4, none⟩ e').setCell ⟨k, 5, none⟩ f') :=
  (((((h.setCell hk _).setCell hk _).setCell hk _).setCell hk _).setCell hk _).setCell hk _
end FL
namespace Go.Proofs.Ytmfmbglacebeiaa
open Go.RowKit PB VB FL
set_option maxRecDepth 100000 in
theorem within_any (n x y : Int) (w : World) (hn : 0 ≤ n) (hn' : n ≤ 1099511627776) : Calls Try.prog 31 #[vec x y, .int .i64 n] w fun e w' => e = .returned (.bool (wiB n x y)) ∧ Below w.heap.size w w' := by
  unfold wiB
  by_cases h1 : -n ≤ x
  · by_cases h2 : x ≤ n
    · by_cases h3 : -n ≤ y
      · by_cases h4 : y ≤ n
        · rw [decide_eq_true (show Wi n x y from ⟨h1, h2, h3, h4⟩)]
          go_enter Try.func31, Try.ntmps31
          go_wp2
          go_ret
          exact ⟨rfl, (Below.refl _ _).alloc (Nat.le_refl _) _⟩
        · rw [decide_eq_false (show ¬ Wi n x y from fun h => h4 h.d)]
          have h4' : decide (y ≤ n) = false := decide_eq_false h4
          clear h4
          go_enter Try.func31, Try.ntmps31
          go_wp2
          go_ret
          exact ⟨rfl, (Below.refl _ _).alloc (Nat.le_refl _) _⟩
      · rw [decide_eq_false (show ¬ Wi n x y from fun h => h3 h.c)]
        have h4' : decide (-n ≤ y) = false := decide_eq_false h3
        clear h3
        go_enter Try.func31, Try.ntmps31
        go_wp2
        go_ret
        exact ⟨rfl, (Below.refl _ _).alloc (Nat.le_refl _) _⟩
    · rw [decide_eq_false (show ¬ Wi n x y from fun h => h2 h.b)]
      have h4' : decide (x ≤ n) = false := decide_eq_false h2
      clear h2
      go_enter Try.func31, Try.ntmps31
      go_wp2
      go_ret
      exact ⟨rfl, (Below.refl _ _).alloc (Nat.le_refl _) _⟩
  · rw [decide_eq_false (show ¬ Wi n x y from fun h => h1 h.a)]
    have h4' : decide (-n ≤ x) = false := decide_eq_false h1
    clear h1
    go_enter Try.func31, Try.ntmps31
    go_wp2
    go_ret
    exact ⟨rfl, (Below.refl _ _).alloc (Nat.le_refl _) _⟩
end Go.Proofs.Ytmfmbglacebeiaa
