/-
  FlightPlaces: the walk.
-/
import Derived.Test.YtmfmbglacebeiaaFlValue
namespace FL
open Go Go.RowKit PB VB PO
theorem at_neg (p v h j : Int) : atI (-p) (-v) (-h) j = -atI p v h j := by unfold atI; grind
theorem sq0 (z : Int) : 0 ≤ z * z := by
  rcases Int.le_total 0 z with h | h
  · exact Int.mul_nonneg h h
  · exact Int.mul_nonneg_of_nonpos_of_nonpos h h
theorem at_hi {p v h j : Int} (j0 : 0 ≤ j) (j1 : j ≤ 16) (hh : 0 ≤ h) : atI p v h j ≤ 256 * hiE p v h := by
  have e1 : 0 ≤ j * (16 - j) * h := Int.mul_nonneg (Int.mul_nonneg j0 (by omega)) hh
  have h1 : p ≤ hiE p v h := by unfold hiE; omega
  have h2 : p + v + h ≤ hiE p v h := by unfold hiE; omega
  generalize hiE p v h = m at *
  have e2 : 0 ≤ (16 - j) * (m - p) := Int.mul_nonneg (by omega) (by omega)
  have e3 : 0 ≤ j * (m - (p + v + h)) := Int.mul_nonneg j0 (by omega)
  unfold atI
  have e : 256 * m - (256 * p + 16 * j * v + j * j * h) = 16 * ((16 - j) * (m - p)) + 16 * (j * (m - (p + v + h))) + j * (16 - j) * h := by grind
  omega
theorem at_lo {p v h j : Int} (j0 : 0 ≤ j) (j1 : j ≤ 16) (hh : 0 ≤ h) : 256 * loE p v h ≤ atI p v h j := by
  unfold loE
  split
  · rename_i hc
    have hp : 0 < h := by omega
    have h1 : vtx p v h * (4 * h) ≤ 4 * h * p - v * v := by
      rw [← vtx_floor hp]
      exact Int.ediv_mul_le _ (by omega)
    have h2 : 0 ≤ (2 * h * j + 16 * v) * (2 * h * j + 16 * v) := sq0 _
    have h3 : 4 * h * (256 * p + 16 * j * v + j * j * h) = 256 * (4 * h * p - v * v) + (2 * h * j + 16 * v) * (2 * h * j + 16 * v) := by grind
    have h4 : 4 * h * (256 * vtx p v h) ≤ 4 * h * (256 * p + 16 * j * v + j * j * h) := by
      have : 4 * h * (256 * vtx p v h) = 256 * (vtx p v h * (4 * h)) := by grind
      omega
    unfold atI
    exact Int.le_of_mul_le_mul_left h4 (by omega)
  · rename_i hc
    by_cases hv : v < 0
    · have hv2 : 2 * h ≤ -v := by
        by_cases h2 : -v < 2 * h
        · exact absurd ⟨hv, h2⟩ hc
        · omega
      -- falls all the time: the end is the least
      have e1 : 0 ≤ (16 - j) * (-v - 2 * h) := Int.mul_nonneg (by omega) (by omega)
      have e2 : 0 ≤ (16 - j) * ((16 - j) * h) := Int.mul_nonneg (by omega) (Int.mul_nonneg (by omega) hh)
      have e : (256 * p + 16 * j * v + j * j * h) - 256 * (p + v + h) = 16 * ((16 - j) * (-v - 2 * h)) + (16 - j) * ((16 - j) * h) := by grind
      unfold atI
      omega
    · have e1 : 0 ≤ j * v := Int.mul_nonneg j0 (by omega)
      have e2 : 0 ≤ j * j * h := Int.mul_nonneg (sq0 j) hh
      have e : 16 * j * v = 16 * (j * v) := by grind
      unfold atI
      omega
theorem at_box {p v h j : Int} (j0 : 0 ≤ j) (j1 : j ≤ 16) : 256 * exL p v h ≤ atI p v h j ∧ atI p v h j ≤ 256 * exH p v h := by
  unfold exL exH
  by_cases c : h < 0
  · rw [if_pos c, if_pos c]
    have h1 := at_hi (p := -p) (v := -v) (h := -h) j0 j1 (by omega)
    have h2 := at_lo (p := -p) (v := -v) (h := -h) j0 j1 (by omega)
    rw [at_neg] at h1 h2
    omega
  · rw [if_neg c, if_neg c]
    exact ⟨at_lo j0 j1 (by omega), at_hi j0 j1 (by omega)⟩
theorem ex_bd {p v h : Int} (p1 : -8388608 ≤ p) (p2 : p ≤ 8388608) (v1 : -262144 ≤ v) (v2 : v ≤ 262144) (h1 : -4096 ≤ h) (h2 : h ≤ 4096) : (-9007199254740992 ≤ exL p v h ∧ exL p v h ≤ 9007199254740992) ∧ (-9007199254740992 ≤ exH p v h ∧ exH p v h ≤ 9007199254740992) := by
  unfold exL exH
  by_cases c : h < 0
  · rw [if_pos c, if_pos c]
    have hq := vtx_quo (v := -v) (h := -h) (by omega) (by omega) (by omega) (by omega)
    unfold hiE loE vtx
    split <;> omega
  · rw [if_neg c, if_neg c]
    unfold hiE loE vtx
    split
    · have hq := vtx_quo (v := v) (h := h) (by omega) (by omega) (by omega) (by omega)
      omega
    · omega
theorem at_ends (p v h : Int) : atI p v h 0 = 256 * p ∧ atI p v h 16 = 256 * (p + (v + h)) := by unfold atI; omega
theorem at_64 {p v h j : Int} (p1 : -8388608 ≤ p) (p2 : p ≤ 8388608) (v1 : -262144 ≤ v) (v2 : v ≤ 262144) (h1 : -4096 ≤ h) (h2 : h ≤ 4096) (j0 : 0 ≤ j) (j1 : j ≤ 16) : -1000000000000 ≤ atI p v h j ∧ atI p v h j ≤ 1000000000000 := by
  obtain ⟨a, b, c, d⟩ := at_bd (p := p) j0 j1 v1 v2 h1 h2
  unfold atI
  omega
end FL
