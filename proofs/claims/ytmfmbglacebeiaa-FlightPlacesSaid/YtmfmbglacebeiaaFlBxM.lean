/-
  Motions: the least and the greatest value of a component.
-/
import Derived.Test.YtmfmbglacebeiaaFlAt
namespace FL
/-- The floor of the value at the vertex, h above 0. -/
def vtx (p v h : Int) : Int := p - (v * v + 4 * h - 1) / (4 * h)
def loE (p v h : Int) : Int := if v < 0 ∧ -v < 2 * h then vtx p v h else min p (p + v + h)
def hiE (p v h : Int) : Int := max p (p + v + h)
def exL (p v h : Int) : Int := if h < 0 then -(hiE (-p) (-v) (-h)) else loE p v h
def exH (p v h : Int) : Int := if h < 0 then -(loE (-p) (-v) (-h)) else hiE p v h
theorem neg_ediv_ceil {x d : Int} (hd : 0 < d) : (-x) / d = -((x + d - 1) / d) := by
  have h1 := Int.mul_ediv_add_emod (-x) d
  have h2 := Int.mul_ediv_add_emod (x + d - 1) d
  have h3 := Int.emod_nonneg (-x) (show d ≠ 0 by omega)
  have h4 := Int.emod_lt_of_pos (-x) hd
  have h5 := Int.emod_nonneg (x + d - 1) (show d ≠ 0 by omega)
  have h6 := Int.emod_lt_of_pos (x + d - 1) hd
  generalize (-x) / d = a at *
  generalize (x + d - 1) / d = b at *
  generalize (-x) % d = r at *
  generalize (x + d - 1) % d = s at *
  -- d (a + b) = d - 1 - r - s, between -(d - 1) and d - 1
  have e : d * (a + b) = d - 1 - r - s := by rw [Int.mul_add]; omega
  have h7 : a + b = 0 := by
    by_cases h : 0 < a + b
    · have : d * 1 ≤ d * (a + b) := Int.mul_le_mul_of_nonneg_left (by omega) (by omega)
      omega
    · by_cases h' : a + b < 0
      · have : d * (a + b) ≤ d * (-1) := Int.mul_le_mul_of_nonneg_left (by omega) (by omega)
        omega
      · omega
  omega
theorem vtx_floor {p v h : Int} (hh : 0 < h) : (4 * h * p - v * v) / (4 * h) = vtx p v h := by
  unfold vtx
  have hd : 0 < 4 * h := by omega
  rw [show 4 * h * p - v * v = -(v * v) + 4 * h * p from by omega, Int.add_mul_ediv_left _ _ (by omega), neg_ediv_ceil hd]
  omega
theorem vtx_le {p v h : Int} (hh : 0 < h) : vtx p v h ≤ p ∧ vtx p v h ≤ p + v + h := by
  have hd : 0 < 4 * h := by omega
  rw [← vtx_floor hh]
  have hs : ∀ z : Int, 0 ≤ z * z := fun z => by rcases Int.le_total 0 z with h | h; exact Int.mul_nonneg h h; exact Int.mul_nonneg_of_nonpos_of_nonpos h h
  constructor
  · have h1 : 4 * h * p - v * v ≤ p * (4 * h) := by have := hs v; rw [Int.mul_comm p]; omega
    calc (4 * h * p - v * v) / (4 * h) ≤ p * (4 * h) / (4 * h) := Int.ediv_le_ediv hd h1
      _ = p := Int.mul_ediv_cancel _ (by omega)
  · have h1 : 4 * h * p - v * v ≤ (p + v + h) * (4 * h) := by
      have h2 := hs (v + 2 * h)
      have h3 : (v + 2 * h) * (v + 2 * h) = v * v + 4 * h * (v + h) := by grind
      have h4 : (p + v + h) * (4 * h) = 4 * h * p + 4 * h * (v + h) := by grind
      omega
    calc (4 * h * p - v * v) / (4 * h) ≤ (p + v + h) * (4 * h) / (4 * h) := Int.ediv_le_ediv hd h1
      _ = p + v + h := Int.mul_ediv_cancel _ (by omega)
theorem sq_bd {v : Int} (v1 : -262144 ≤ v) (v2 : v ≤ 262144) : 0 ≤ v * v ∧ v * v ≤ 68719476736 := by
  have h := mul_le (a := v) (b := v) (A := 262144) (C := 262144) (by omega) (by omega) (by omega) (by omega)
  refine ⟨?_, by omega⟩
  rcases Int.le_total 0 v with h | h
  · exact Int.mul_nonneg h h
  · exact Int.mul_nonneg_of_nonpos_of_nonpos h h
theorem vtx_quo {v h : Int} (v1 : -262144 ≤ v) (v2 : v ≤ 262144) (hh : 0 < h) (h1 : h ≤ 4096) : 0 ≤ (v * v + 4 * h - 1) / (4 * h) ∧ (v * v + 4 * h - 1) / (4 * h) ≤ 68719510000 := by
  obtain ⟨s1, s2⟩ := sq_bd v1 v2
  have hd : 0 < 4 * h := by omega
  refine ⟨Int.ediv_nonneg (by omega) (by omega), ?_⟩
  exact Int.le_trans (Int.ediv_le_self _ (by omega)) (by omega)
theorem tdiv_pos' {a b : Int} (ha : 0 ≤ a) : a.tdiv b = a / b := Int.tdiv_eq_ediv_of_nonneg ha
theorem fl_t {a b : Int} (hb : 0 < b) : (a.tmod b < 0 → a.tdiv b - 1 = a / b) ∧ (¬ a.tmod b < 0 → a.tdiv b = a / b) := by
  have e1 := Int.mul_tdiv_add_tmod a b
  have e2 := Int.mul_ediv_add_emod a b
  have h3 := Int.emod_nonneg a (show b ≠ 0 by omega)
  have h4 := Int.emod_lt_of_pos a hb
  have h5 : (a.tmod b).natAbs < b.natAbs := by rw [Int.natAbs_tmod]; exact Nat.mod_lt _ (by omega)
  generalize a.tdiv b = q at *
  generalize a.tmod b = r at *
  generalize a / b = x at *
  generalize a % b = y at *
  have key : ∀ k : Int, b * (q - x) = b * k + (y - r - b * k) := fun k => by rw [Int.mul_sub]; omega
  have e : b * (q - x) = y - r := by have := key 0; omega
  constructor
  · intro h
    -- 0 < y - r < 2 b
    have : q - x = 1 := by
      by_cases g : q - x ≤ 0
      · have := Int.mul_le_mul_of_nonneg_left g (show 0 ≤ b by omega); omega
      · by_cases g' : 2 ≤ q - x
        · have := Int.mul_le_mul_of_nonneg_left g' (show 0 ≤ b by omega); omega
        · omega
    omega
  · intro h
    have : q - x = 0 := by
      by_cases g : q - x ≤ -1
      · have := Int.mul_le_mul_of_nonneg_left g (show 0 ≤ b by omega); omega
      · by_cases g' : 1 ≤ q - x
        · have := Int.mul_le_mul_of_nonneg_left g' (show 0 ≤ b by omega); omega
        · omega
    omega
end FL
