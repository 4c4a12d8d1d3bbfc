/-
  The four sides allow what all vectors allow.
-/
import Derived.Test.YtejodcpigfbnpaaVMath
namespace VB
/-- Above, or to the right. -/
def Up (x y : Int) : Prop := 0 < y ∨ y = 0 ∧ 0 < x
theorem up_y {x y : Int} (h : Up x y) : 0 ≤ y := by unfold Up at h; omega
theorem cross_vec (ax ay bx b_ cx cy : Int) : crossI ax ay cx cy * bx = crossI bx b_ cx cy * ax + crossI ax ay bx b_ * cx ∧ crossI ax ay cx cy * b_ = crossI bx b_ cx cy * ay + crossI ax ay bx b_ * cy := by
  unfold crossI; constructor <;> grind
theorem pos_of_mul {a b : Int} (hb : 0 < b) (h : 0 ≤ a * b) : 0 ≤ a := by
  apply Int.le_of_not_gt
  intro hlt
  have := Int.mul_neg_of_neg_of_pos hlt hb
  omega
theorem up_trans {ax ay bx b_ cx cy : Int} (ha : Up ax ay) (hb : Up bx b_) (hc : Up cx cy) (h1 : 0 ≤ crossI ax ay bx b_) (h2 : 0 ≤ crossI bx b_ cx cy) : 0 ≤ crossI ax ay cx cy := by
  obtain ⟨e1, e2⟩ := cross_vec ax ay bx b_ cx cy
  rcases hb with hb | ⟨hb, hbx⟩
  · apply pos_of_mul hb
    rw [e2]
    exact Int.add_nonneg (Int.mul_nonneg h2 (up_y ha)) (Int.mul_nonneg h1 (up_y hc))
  · subst hb
    have a0 : ay = 0 := by
      have k1 : crossI ax ay bx 0 = -(ay * bx) := by unfold crossI; grind
      have k2 := up_y ha
      apply Int.le_antisymm _ k2
      apply Int.le_of_not_gt
      intro hlt
      have := Int.mul_pos hlt hbx
      omega
    subst a0
    have ax0 : 0 < ax := by unfold Up at ha; omega
    have k3 : crossI ax 0 cx cy = ax * cy := by unfold crossI; omega
    rw [k3]
    exact Int.mul_nonneg (by omega) (up_y hc)
/-- A vector between two others is allowed by what they allow. -/
theorem up_between {ax ay nx ny bx b_ vx vy : Int} (ha : Up ax ay) (hn : Up nx ny) (hb : Up bx b_) (h1 : 0 ≤ crossI ax ay nx ny) (h2 : 0 ≤ crossI nx ny bx b_) (k1 : 0 ≤ dotI vx vy ax ay) (k2 : 0 ≤ dotI vx vy bx b_) : 0 ≤ dotI vx vy nx ny := by
  have h3 := up_trans ha hn hb h1 h2
  obtain ⟨e1, e2⟩ := cross_vec ax ay nx ny bx b_
  have e3 : dotI vx vy nx ny * crossI ax ay bx b_ = crossI nx ny bx b_ * dotI vx vy ax ay + crossI ax ay nx ny * dotI vx vy bx b_ := by
    have : dotI vx vy nx ny * crossI ax ay bx b_ = vx * (crossI ax ay bx b_ * nx) + vy * (crossI ax ay bx b_ * ny) := by unfold dotI; grind
    rw [this, e1, e2]; unfold dotI; grind
  by_cases hpos : 0 < crossI ax ay bx b_
  · apply pos_of_mul hpos
    rw [e3]
    exact Int.add_nonneg (Int.mul_nonneg h2 k1) (Int.mul_nonneg h1 k2)
  · have hz : crossI ax ay bx b_ = 0 := by omega
    rw [hz, Int.zero_mul] at e1 e2
    have hcz : crossI ax ay nx ny = 0 := by
      rcases hb with hb' | ⟨hb', hbx⟩
      · have t1 : 0 ≤ crossI nx ny bx b_ * ay := Int.mul_nonneg h2 (up_y ha)
        have t2 : 0 ≤ crossI ax ay nx ny * b_ := Int.mul_nonneg h1 (by omega)
        have t3 : crossI ax ay nx ny * b_ = 0 := by omega
        rcases Int.mul_eq_zero.1 t3 with h | h
        · exact h
        · omega
      · subst hb'
        have a0 : ay = 0 := by
          have k1 : crossI ax ay bx 0 = -(ay * bx) := by unfold crossI; grind
          have k2 := up_y ha
          apply Int.le_antisymm _ k2
          apply Int.le_of_not_gt
          intro hlt
          have := Int.mul_pos hlt hbx
          omega
        subst a0
        have ax0 : 0 < ax := by unfold Up at ha; omega
        have t1 : 0 ≤ crossI nx ny bx 0 * ax := Int.mul_nonneg h2 (by omega)
        have t2 : 0 ≤ crossI ax 0 nx ny * bx := Int.mul_nonneg h1 (by omega)
        have t3 : crossI ax 0 nx ny * bx = 0 := by omega
        rcases Int.mul_eq_zero.1 t3 with h | h
        · exact h
        · omega
    have c : ax * ny = ay * nx := by unfold crossI at hcz; omega
    rcases ha with ha' | ⟨ha', hax⟩
    · apply pos_of_mul ha'
      have : dotI vx vy nx ny * ay = ny * dotI vx vy ax ay := by unfold dotI; grind
      rw [this]
      exact Int.mul_nonneg (up_y hn) k1
    · subst ha'
      have hny : ny = 0 := by
        rw [Int.zero_mul] at c
        rcases Int.mul_eq_zero.1 c with h | h
        · omega
        · exact h
      subst hny
      have hnx : 0 < nx := by unfold Up at hn; omega
      apply pos_of_mul hax
      have : dotI vx vy nx 0 * ax = nx * dotI vx vy ax 0 := by unfold dotI; grind
      rw [this]
      exact Int.mul_nonneg (by omega) k1
end VB
