/-
  A component at j / 16 by its polynomial.
-/
import Derived.Test.YtmfmbglacebeiaaPoVal
import Derived.Test.YtmfmbglacebeiaaFlLawX
namespace FL
open Go Go.RowKit PB VB PO
theorem nl_two {z : Int} (h1 : -1000000000000000 ≤ z) (h2 : z ≤ 1000000000000000) : nl z.natAbs ≤ 100000 := by
  have h : nl z.natAbs ≤ 2 := nl_le (show z.natAbs < B^2 by unfold B; omega)
  omega
theorem at3 (p v h : Int) : at0 [p, v, h] 0 = p ∧ at0 [p, v, h] 1 = v ∧ at0 [p, v, h] 2 = h := ⟨rfl, rfl, rfl⟩
theorem at3_bd {p v h : Int} (hp1 : -8388608 ≤ p) (hp2 : p ≤ 8388608) (hv1 : -8388608 ≤ v) (hv2 : v ≤ 8388608) (hh1 : -8388608 ≤ h) (hh2 : h ≤ 8388608) (i : Nat) : -8388608 ≤ at0 (trimL [p, v, h]) i ∧ at0 (trimL [p, v, h]) i ≤ 8388608 := by
  rw [trimL_at0]
  match i with
  | 0 => exact ⟨hp1, hp2⟩
  | 1 => exact ⟨hv1, hv2⟩
  | 2 => exact ⟨hh1, hh2⟩
  | i + 3 => rw [at0_ge (by simp)]; omega
theorem hv_bd {t : List Int} {x : Int} (x0 : 0 ≤ x) (x1 : x ≤ 16) (ht : ∀ i, -8388608 ≤ at0 t i ∧ at0 t i ≤ 8388608) : ∀ d, d ≤ 3 → -(8388608 * 273 * 2^(8 * d)) ≤ hv t x 4 d ∧ hv t x 4 d ≤ 8388608 * 273 * 2^(8 * d)
  | 0, _ => by show _ ≤ (0 : Int) ∧ (0 : Int) ≤ _; constructor <;> decide
  | d + 1, h => by
    have ih := hv_bd x0 x1 ht d (by omega)
    have ha := ht (t.length - 1 - d)
    rw [hv_succ]
    have hm := mul_le (a := hv t x 4 d) (b := x) (A := 8388608 * 273 * 2^(8 * d)) (C := 16) ih.1 ih.2 (by omega) x1
    generalize hv t x 4 d * x = m at *
    generalize at0 t (t.length - 1 - d) = a at *
    have hd : d = 0 ∨ d = 1 ∨ d = 2 := by omega
    rcases hd with rfl | rfl | rfl
    · simp only [Nat.mul_zero, Nat.pow_zero] at *; omega
    · simp only [Nat.mul_one] at *; omega
    · simp only [show 4 * 2 = 8 from rfl] at *; omega
theorem hv_ok {p v h j : Int} (hp1 : -8388608 ≤ p) (hp2 : p ≤ 8388608) (hv1 : -8388608 ≤ v) (hv2 : v ≤ 8388608) (hh1 : -8388608 ≤ h) (hh2 : h ≤ 8388608) (x0 : 0 ≤ j) (x1 : j ≤ 16) : HvOk (trimL [p, v, h]) j 4 := by
  have ht := at3_bd hp1 hp2 hv1 hv2 hh1 hh2
  have hl : (trimL [p, v, h]).length ≤ 3 := by rw [trimL_length]; exact trimN_le _
  have hb : ∀ d, d ≤ 3 → -100000000000000 ≤ hv (trimL [p, v, h]) j 4 d ∧ hv (trimL [p, v, h]) j 4 d ≤ 100000000000000000 → True := fun _ _ _ => trivial
  have hc : ∀ d, d ≤ 3 → -50000000000000000 ≤ hv (trimL [p, v, h]) j 4 d ∧ hv (trimL [p, v, h]) j 4 d ≤ 50000000000000000 := fun d hd => by
    have h1 := hv_bd x0 x1 ht d hd
    have hd' : d = 0 ∨ d = 1 ∨ d = 2 ∨ d = 3 := by omega
    rcases hd' with rfl | rfl | rfl | rfl
    · simp only [Nat.mul_zero, Int.pow_zero] at h1; omega
    · simp only [Nat.mul_one] at h1; omega
    · simp only [show 8 * 2 = 16 from rfl] at h1; omega
    · simp only [show 8 * 3 = 24 from rfl] at h1; omega
  have n2 : ∀ z : Int, -(50000000000000000 * 16) ≤ z → z ≤ 50000000000000000 * 16 → nl z.natAbs ≤ 100000 := fun z a b => by
    have h : nl z.natAbs ≤ 2 := nl_le (show z.natAbs < B^2 by unfold B; omega)
    omega
  refine ⟨nl_two (by omega) (by omega), by omega, by decide, fun d hd => ?_, fun d hd => ?_, fun d hd => ?_, fun d hd => ?_⟩
  · have := hc d (by omega); exact n2 _ (by omega) (by omega)
  · have h1 := hc d (by omega)
    have := mul_le (a := hv (trimL [p, v, h]) j 4 d) (b := j) (A := 50000000000000000) (C := 16) h1.1 h1.2 (by omega) x1
    exact n2 _ (by omega) (by omega)
  · have := ht ((trimL [p, v, h]).length - 1 - d); exact nl_two (by omega) (by omega)
  · have h1 := ht ((trimL [p, v, h]).length - 1 - d)
    generalize at0 (trimL [p, v, h]) ((trimL [p, v, h]).length - 1 - d) = a at *
    have hd' : d = 0 ∨ d = 1 ∨ d = 2 := by omega
    rcases hd' with rfl | rfl | rfl
    · exact nl_two (by simp; omega) (by simp; omega)
    · exact nl_two (by simp only [Nat.mul_one]; omega) (by simp only [Nat.mul_one]; omega)
    · exact nl_two (by simp only [show 4 * 2 = 8 from rfl]; omega) (by simp only [show 4 * 2 = 8 from rfl]; omega)
/-- By which power of 2 the value is too small. -/
def lack (n : Nat) : Nat := 4 * (2 - (n - 1))
theorem hv_at (p v h j : Int) : hv (trimL [p, v, h]) j 4 (trimL [p, v, h]).length * (2^(lack (trimL [p, v, h]).length) : Nat) = atI p v h j := by
  have hl : (trimL [p, v, h]).length ≤ 3 := by rw [trimL_length]; exact trimN_le _
  have g : ∀ i, at0 (trimL [p, v, h]) i = at0 [p, v, h] i := trimL_at0 _
  have z : ∀ i, (trimL [p, v, h]).length ≤ i → at0 [p, v, h] i = 0 := fun i hi => by rw [← g i]; exact at0_ge hi
  obtain ⟨a0, a1, a2⟩ := at3 p v h
  have hs := hv_succ (trimL [p, v, h]) j 4
  have h0 : hv (trimL [p, v, h]) j 4 0 = 0 := rfl
  generalize trimL [p, v, h] = t at *
  unfold atI lack
  have hn : t.length = 0 ∨ t.length = 1 ∨ t.length = 2 ∨ t.length = 3 := by omega
  rcases hn with e | e | e | e
  · rw [e, h0]
    have p0 := z 0 (by omega); have v0 := z 1 (by omega); have q0 := z 2 (by omega)
    rw [a0] at p0; rw [a1] at v0; rw [a2] at q0
    subst p0 v0 q0
    simp
  · have v0 := z 1 (by omega); have q0 := z 2 (by omega)
    rw [a1] at v0; rw [a2] at q0
    rw [e, hs 0, h0, e, g, show 1 - 1 - 0 = 0 from rfl, a0]
    subst v0 q0
    simp
    omega
  · have q0 := z 2 (by omega)
    rw [a2] at q0
    rw [e, hs 1, hs 0, h0, e, g, g, show 2 - 1 - 0 = 1 from rfl, show 2 - 1 - 1 = 0 from rfl, a0, a1]
    subst q0
    simp
    grind
  · rw [e, hs 2, hs 1, hs 0, h0, e, g, g, g, show 3 - 1 - 0 = 2 from rfl, show 3 - 1 - 1 = 1 from rfl, show 3 - 1 - 2 = 0 from rfl, a0, a1, a2]
    simp
    grind
end FL
