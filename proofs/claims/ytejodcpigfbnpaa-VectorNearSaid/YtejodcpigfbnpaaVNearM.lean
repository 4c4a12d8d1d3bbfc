/-
  Plain arithmetic of VectorNear: a corner of the projection is allowed and near.
-/
import Derived.Test.YtejodcpigfbnpaaVMath
import Derived.Test.YtejodcpigfbnpaaVRoot
namespace VB
theorem cauchy {d r k m t E : Int} (hd : 0 < d) (hrd : r * r ≤ d) (hm : 0 ≤ m) (hk0 : 0 ≤ k) (hk : k ≤ r * (m + 1)) (ht : t * t ≤ 2 * d * d * d) (hE : E ≤ 2 * d * d) : k * k * d + 2 * (k * t) + E ≤ d * d * ((m + 3) * (m + 3)) := by
  have hm1 : 0 ≤ (m + 1) * (m + 1) := sq_nonneg _
  have hdd : 0 ≤ d * d := sq_nonneg _
  have A1 : k * k ≤ r * (m + 1) * (r * (m + 1)) := sq_mono hk0 hk
  have A2 : r * r * ((m + 1) * (m + 1)) ≤ d * ((m + 1) * (m + 1)) := Int.mul_le_mul_of_nonneg_right hrd hm1
  have e1 : r * (m + 1) * (r * (m + 1)) = r * r * ((m + 1) * (m + 1)) := by grind
  have A3 : k * k * d ≤ d * ((m + 1) * (m + 1)) * d := Int.mul_le_mul_of_nonneg_right (by omega) (by omega)
  have B1 : r * r * (t * t) ≤ d * (t * t) := Int.mul_le_mul_of_nonneg_right hrd (sq_nonneg t)
  have B2 : d * (t * t) ≤ d * (2 * d * d * d) := Int.mul_le_mul_of_nonneg_left ht (by omega)
  have e2 : r * t * (r * t) = r * r * (t * t) := by grind
  have e3 : 2 * d * d * (2 * d * d) = 2 * (d * (2 * d * d * d)) := by grind
  have B4 : 0 ≤ d * (2 * d * d * d) := by
    have : d * (2 * d * d * d) = 2 * (d * d * (d * d)) := by grind
    have := sq_nonneg (d * d)
    omega
  have e4 : 2 * d * d = 2 * (d * d) := by grind
  have B3 : r * t ≤ 2 * d * d := by
    apply Int.le_of_not_gt
    intro hgt
    have h1 : (2 * d * d + 1) * (2 * d * d + 1) ≤ r * t * (r * t) := sq_mono (by omega) (by omega)
    have h2 : (2 * d * d + 1) * (2 * d * d + 1) = 2 * d * d * (2 * d * d) + 2 * (2 * d * d) + 1 := by grind
    omega
  have C : k * t ≤ (m + 1) * (2 * d * d) := by
    rcases Int.le_total 0 t with h | h
    · have c1 : k * t ≤ r * (m + 1) * t := Int.mul_le_mul_of_nonneg_right hk h
      have c2 : (m + 1) * (r * t) ≤ (m + 1) * (2 * d * d) := Int.mul_le_mul_of_nonneg_left B3 (by omega)
      have e5 : r * (m + 1) * t = (m + 1) * (r * t) := by grind
      omega
    · have c1 : k * t ≤ 0 := Int.mul_nonpos_of_nonneg_of_nonpos hk0 h
      have c2 : 0 ≤ (m + 1) * (2 * d * d) := Int.mul_nonneg (by omega) (by omega)
      omega
  have e6 : d * d * ((m + 3) * (m + 3)) = d * ((m + 1) * (m + 1)) * d + 2 * ((m + 1) * (2 * d * d)) + 4 * (d * d) := by grind
  omega
/-- The corner on the side of n. -/
def corner (nx ny : Int) : Nat := if 0 ≤ nx then (if 0 ≤ ny then 3 else 2) else (if 0 ≤ ny then 1 else 0)
theorem corner_lt (nx ny : Int) : corner nx ny < 4 := by unfold corner; split <;> split <;> omega
theorem mul_sides {n a b : Int} (h : 0 ≤ n ∧ a ≤ b ∨ n ≤ 0 ∧ b ≤ a) : n * a ≤ n * b := by
  rcases h with ⟨h0, h⟩ | ⟨h0, h⟩
  · exact Int.mul_le_mul_of_nonneg_left h h0
  · have := Int.mul_le_mul_of_nonneg_left h (show 0 ≤ -n by omega)
    have e1 : -n * b = -(n * b) := by grind
    have e2 : -n * a = -(n * a) := by grind
    omega
theorem cor1 (xx xy nx ny : Int) : (cnd xx xy nx ny (corner nx ny)).1 = if 0 ≤ nx then cdiv (-ny * crossI nx ny xx xy) (dotI nx ny nx ny) else -ny * crossI nx ny xx xy / dotI nx ny nx ny := by
  unfold corner
  by_cases hx : 0 ≤ nx
  · rw [if_pos hx, if_pos hx]; split <;> rfl
  · rw [if_neg hx, if_neg hx]; split <;> rfl
theorem cor2 (xx xy nx ny : Int) : (cnd xx xy nx ny (corner nx ny)).2 = if 0 ≤ ny then cdiv (nx * crossI nx ny xx xy) (dotI nx ny nx ny) else nx * crossI nx ny xx xy / dotI nx ny nx ny := by
  unfold corner
  by_cases hy : 0 ≤ ny
  · rw [if_pos hy, if_pos hy, if_pos hy]; split <;> rfl
  · rw [if_neg hy, if_neg hy, if_neg hy]; split <;> rfl
/-- The corner on the side of n is allowed: d times its product is at least that of the projection, 0. -/
theorem corner_ok {xx xy nx ny : Int} (hd : 0 < dotI nx ny nx ny) : 0 ≤ dotI (cnd xx xy nx ny (corner nx ny)).1 (cnd xx xy nx ny (corner nx ny)).2 nx ny := by
  obtain ⟨a1, a2, a3, a4⟩ := fl_mul (p := -ny * crossI nx ny xx xy) hd
  obtain ⟨b1, b2, b3, b4⟩ := fl_mul (p := nx * crossI nx ny xx xy) hd
  have h1 : nx * (-ny * crossI nx ny xx xy) ≤ nx * (dotI nx ny nx ny * (cnd xx xy nx ny (corner nx ny)).1) := by
    apply mul_sides
    rw [cor1]
    by_cases hx : 0 ≤ nx
    · rw [if_pos hx]; exact Or.inl ⟨hx, a3⟩
    · rw [if_neg hx]; exact Or.inr ⟨by omega, a2⟩
  have h2 : ny * (nx * crossI nx ny xx xy) ≤ ny * (dotI nx ny nx ny * (cnd xx xy nx ny (corner nx ny)).2) := by
    apply mul_sides
    rw [cor2]
    by_cases hx : 0 ≤ ny
    · rw [if_pos hx]; exact Or.inl ⟨hx, b3⟩
    · rw [if_neg hx]; exact Or.inr ⟨by omega, b2⟩
  have e0 : nx * (-ny * crossI nx ny xx xy) + ny * (nx * crossI nx ny xx xy) = 0 := by grind
  generalize (cnd xx xy nx ny (corner nx ny)).1 = u at *
  generalize (cnd xx xy nx ny (corner nx ny)).2 = v at *
  have e1 : nx * (dotI nx ny nx ny * u) + ny * (dotI nx ny nx ny * v) = dotI nx ny nx ny * dotI u v nx ny := by unfold dotI; grind
  apply Int.le_of_not_gt
  intro hlt
  have := Int.mul_neg_of_pos_of_neg hd hlt
  omega
/-- .. and near. -/
theorem corner_near {xx xy nx ny r : Int} (hr : 1 ≤ r) (hrd : r * r ≤ dotI nx ny nx ny) (h : dotI xx xy nx ny < 0) (j : Nat) :
    distI xx xy (cnd xx xy nx ny j).1 (cnd xx xy nx ny j).2 ≤ (-dotI xx xy nx ny / r + 3) * (-dotI xx xy nx ny / r + 3) := by
  have hd := dot_self_pos h
  obtain ⟨⟨c1, c2⟩, c3, c4⟩ := cnd_fl (xx := xx) (xy := xy) hd j
  have ex := split_x nx ny xx xy
  have ey := split_y nx ny xx xy
  have hk := Int.lt_mul_ediv_self_add (x := -dotI xx xy nx ny) (show 0 < r by omega)
  have hm : 0 ≤ -dotI xx xy nx ny / r := Int.ediv_nonneg (by omega) (by omega)
  have hcs : -dotI xx xy nx ny ≤ r * (-dotI xx xy nx ny / r + 1) := by
    have e0 : r * (-dotI xx xy nx ny / r + 1) = r * (-dotI xx xy nx ny / r) + r := by grind
    omega
  generalize (cnd xx xy nx ny j).1 = u at *
  generalize (cnd xx xy nx ny j).2 = v at *
  generalize -dotI xx xy nx ny / r = m at *
  generalize crossI nx ny xx xy = c at *
  obtain ⟨k, hk'⟩ : ∃ k, dotI xx xy nx ny = -k := ⟨-dotI xx xy nx ny, by omega⟩
  rw [hk'] at hk hcs ex ey h
  have hdn : dotI nx ny nx ny = nx * nx + ny * ny := rfl
  generalize dotI nx ny nx ny = d at *
  obtain ⟨e, he⟩ : ∃ e, d * u - (-ny * c) = e := ⟨_, rfl⟩
  obtain ⟨f, hf⟩ : ∃ f, d * v - nx * c = f := ⟨_, rfl⟩
  have e1 : d * (u - xx) = k * nx + e := by rw [Int.mul_sub, Int.mul_comm d xx, ex]; grind
  have e2 : d * (v - xy) = k * ny + f := by rw [Int.mul_sub, Int.mul_comm d xy, ey]; grind
  have q1 : e * e ≤ d * d := by
    rcases Int.le_total 0 e with h0 | h0
    · exact sq_mono h0 (by omega)
    · have := sq_mono (a := -e) (b := d) (by omega) (by omega)
      have : -e * -e = e * e := by grind
      omega
  have q2 : f * f ≤ d * d := by
    rcases Int.le_total 0 f with h0 | h0
    · exact sq_mono h0 (by omega)
    · have := sq_mono (a := -f) (b := d) (by omega) (by omega)
      have : -f * -f = f * f := by grind
      omega
  have ht : (nx * e + ny * f) * (nx * e + ny * f) ≤ 2 * d * d * d := by
    have h1 := sq_nonneg (nx * f - ny * e)
    have h2 : (nx * e + ny * f) * (nx * e + ny * f) + (nx * f - ny * e) * (nx * f - ny * e) = d * (e * e + f * f) := by rw [hdn]; grind
    have h3 : d * (e * e + f * f) ≤ d * (2 * (d * d)) := Int.mul_le_mul_of_nonneg_left (by omega) (by omega)
    have h4 : d * (2 * (d * d)) = 2 * d * d * d := by grind
    omega
  have hE : e * e + f * f ≤ 2 * d * d := by
    have e0 : 2 * d * d = 2 * (d * d) := by grind
    omega
  have hfin := cauchy (k := k) (m := m) (E := e * e + f * f) hd hrd hm (by omega) (by omega) ht hE
  have e3 : d * d * distI xx xy u v = k * k * d + 2 * (k * (nx * e + ny * f)) + (e * e + f * f) := by
    have : d * d * distI xx xy u v = d * (u - xx) * (d * (u - xx)) + d * (v - xy) * (d * (v - xy)) := by unfold distI; grind
    rw [this, e1, e2, hdn]
    grind
  apply Int.le_of_not_gt
  intro hgt
  have := Int.mul_lt_mul_of_pos_left hgt (Int.mul_pos hd hd)
  omega
/-- What is better is not farther. -/
theorem upd_le (xx xy : Int) (s : Both) (best y : Int × Int) : distI xx xy (upd xx xy s best y).1 (upd xx xy s best y).2 ≤ distI xx xy best.1 best.2 ∧ (Sm y.1 y.2 → s.al y.1 y.2 = true → distI xx xy (upd xx xy s best y).1 (upd xx xy s best y).2 ≤ distI xx xy y.1 y.2) := by
  unfold upd lexB
  by_cases h1 : Sm y.1 y.2 ∧ s.al y.1 y.2 = true
  · by_cases h2 : distI xx xy y.1 y.2 < distI xx xy best.1 best.2 ∨ distI xx xy y.1 y.2 = distI xx xy best.1 best.2 ∧ dotI y.1 y.2 y.1 y.2 < dotI best.1 best.2 best.1 best.2
    · rw [if_pos ⟨h1.1, h1.2, decide_eq_true h2⟩]
      exact ⟨by omega, fun _ _ => Int.le_refl _⟩
    · rw [if_neg (fun k => h2 (of_decide_eq_true k.2.2))]
      exact ⟨Int.le_refl _, fun _ _ => by omega⟩
  · rw [if_neg (fun k => h1 ⟨k.1, k.2.1⟩)]
    exact ⟨Int.le_refl _, fun a b => absurd ⟨a, b⟩ h1⟩
theorem updN_le (xx xy : Int) (s : Both) (best : Int × Int) (c : Nat → Int × Int) : ∀ n j, j < n → Sm (c j).1 (c j).2 → s.al (c j).1 (c j).2 = true → distI xx xy (updN xx xy s best c n).1 (updN xx xy s best c n).2 ≤ distI xx xy (c j).1 (c j).2
  | 0, j, h, _, _ => by omega
  | n + 1, j, h, h1, h2 => by
    have := upd_le xx xy s (updN xx xy s best c n) (c n)
    by_cases e : j = n
    · subst e; exact this.2 h1 h2
    · exact Int.le_trans this.1 (updN_le xx xy s best c n j (by omega) h1 h2)
theorem dot_zero (x y : Int) : dotI x y 0 0 = 0 := by unfold dotI; omega
theorem al_one (nx ny x y : Int) : (sidesOf (fun _ => (nx, ny)) 1).al x y = decide (0 ≤ dotI x y nx ny) := by
  show (Both.step ⟨Half.zero, Half.zero⟩ nx ny).al x y = _
  unfold Both.step
  have hz : Half.step Half.zero nx ny = ⟨nx, ny, nx, ny⟩ := half_zero ⟨rfl, rfl⟩ nx ny
  by_cases h : lower nx ny
  · rw [if_pos h, hz]
    unfold Both.al alB Half.zero
    simp only [dot_zero]
    congr 1
    apply propext
    constructor
    · intro k; exact k.2.2.1
    · intro k; exact ⟨by decide, by decide, k, k⟩
  · rw [if_neg h, hz]
    unfold Both.al alB Half.zero
    simp only [dot_zero]
    congr 1
    apply propext
    constructor
    · intro k; exact k.1
    · intro k; exact ⟨k, k, by decide, by decide⟩
end VB
