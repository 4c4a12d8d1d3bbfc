/-
  Plain arithmetic of projections: the candidates are words, and not far away.
  The four sides allow what all vectors allow.
  The four sides allow just what all the vectors allow.
-/
import Derived.Test.YtdgfmkideghhaaaM08
namespace VB
theorem sq_nonneg (a : Int) : 0 ≤ a * a := by
  rcases Int.le_total 0 a with h | h
  · exact Int.mul_nonneg h h
  · exact Int.mul_nonneg_of_nonpos_of_nonpos h h
theorem sq_mono {a b : Int} (h0 : 0 ≤ a) (h : a ≤ b) : a * a ≤ b * b := Int.mul_le_mul h h h0 (by omega)
theorem lt_of_sq {a b X M : Int} (h : a * a ≤ b * b * X) (hX : X < M * M) (hb : 0 < b) (hM : 0 < M) : -(b * M) < a ∧ a < b * M := by
  have hbb : 0 < b * b := Int.mul_pos hb hb
  have h1 : b * b * X < b * b * (M * M) := Int.mul_lt_mul_of_pos_left hX hbb
  have e : b * b * (M * M) = (b * M) * (b * M) := by grind
  have hbm : 0 < b * M := Int.mul_pos hb hM
  constructor
  · apply Int.lt_of_not_ge
    intro hle
    have := sq_mono (a := b * M) (b := -a) (by omega) (by omega)
    have e2 : -a * -a = a * a := by grind
    omega
  · apply Int.lt_of_not_ge
    intro hle
    have := sq_mono (a := b * M) (b := a) (by omega) (by omega)
    omega
theorem tdiv_lt {a d M : Int} (h1 : -(d * M) < a) (h2 : a < d * M) (hd : 0 < d) (hM : 0 < M) : -M < a.tdiv d ∧ a.tdiv d < M := by
  have h : (a.tdiv d).natAbs < M.natAbs := by
    rw [Int.natAbs_tdiv]
    apply Nat.div_lt_of_lt_mul
    rw [← Int.natAbs_mul]
    have : 0 < d * M := Int.mul_pos hd hM
    omega
  omega
theorem lagrange (nx ny xx xy : Int) : crossI nx ny xx xy * crossI nx ny xx xy + dotI xx xy nx ny * dotI xx xy nx ny = dotI nx ny nx ny * dotI xx xy xx xy := by
  unfold crossI dotI; grind
theorem split_x (nx ny xx xy : Int) : xx * dotI nx ny nx ny = -ny * crossI nx ny xx xy + dotI xx xy nx ny * nx := by
  unfold crossI dotI; grind
theorem split_y (nx ny xx xy : Int) : xy * dotI nx ny nx ny = nx * crossI nx ny xx xy + dotI xx xy nx ny * ny := by
  unfold crossI dotI; grind
theorem dot_self_pos {nx ny xx xy : Int} (h : dotI xx xy nx ny < 0) : 0 < dotI nx ny nx ny := by
  have h1 := sq_nonneg nx
  have h2 := sq_nonneg ny
  apply Int.lt_of_not_ge
  intro hle
  unfold dotI at hle
  have e1 : nx * nx = 0 := by omega
  have e2 : ny * ny = 0 := by omega
  have z1 : nx = 0 := by rcases Int.mul_eq_zero.1 e1 with h | h <;> exact h
  have z2 : ny = 0 := by rcases Int.mul_eq_zero.1 e2 with h | h <;> exact h
  subst z1 z2
  unfold dotI at h
  omega
theorem len_lt {xx xy : Int} (h : Sm xx xy) : dotI xx xy xx xy ≤ 2305843009213693952 := (sm_dot h h).2
/-- Products of a side and a component are bounded by the square of the vector. -/
theorem side_lt {nx ny xx xy m c M : Int} (hx : dotI xx xy xx xy < M * M) (hd : 0 < dotI nx ny nx ny) (hm : m * m ≤ dotI nx ny nx ny) (hc : c * c ≤ dotI nx ny nx ny * dotI xx xy xx xy) (hM : 0 < M) :
    -(dotI nx ny nx ny * M) < m * c ∧ m * c < dotI nx ny nx ny * M := by
  refine lt_of_sq (X := dotI xx xy xx xy) ?_ hx hd hM
  have h1 : m * m * (c * c) ≤ dotI nx ny nx ny * (c * c) := Int.mul_le_mul_of_nonneg_right hm (sq_nonneg c)
  have h2 : dotI nx ny nx ny * (c * c) ≤ dotI nx ny nx ny * (dotI nx ny nx ny * dotI xx xy xx xy) := Int.mul_le_mul_of_nonneg_left hc (by omega)
  have e1 : m * c * (m * c) = m * m * (c * c) := by grind
  have e2 : dotI nx ny nx ny * (dotI nx ny nx ny * dotI xx xy xx xy) = dotI nx ny nx ny * dotI nx ny nx ny * dotI xx xy xx xy := by grind
  omega
theorem fl_mul {p d : Int} (hd : 0 < d) : p - d < d * (p / d) ∧ d * (p / d) ≤ p ∧ p ≤ d * cdiv p d ∧ d * cdiv p d < p + d := by
  have h1 := Int.mul_ediv_add_emod p d
  have h2 := Int.emod_nonneg p (show d ≠ 0 by omega)
  have h3 := Int.emod_lt_of_pos p hd
  have h4 := Int.mul_ediv_add_emod (-p) d
  have h5 := Int.emod_nonneg (-p) (show d ≠ 0 by omega)
  have h6 := Int.emod_lt_of_pos (-p) hd
  unfold cdiv
  have e : d * -(-p / d) = -(d * (-p / d)) := by grind
  omega
theorem near_lt {y x d k m : Int} (hd : 0 < d) (hx : x * d = m + k) (h1 : m - d < d * y) (h2 : d * y < m + d) (k1 : -(d * 1518500250) < k) (k2 : k < d * 1518500250) : -1518500251 ≤ y - x ∧ y - x ≤ 1518500251 := by
  have e : d * (y - x) = d * y - (m + k) := by rw [← hx]; grind
  have a1 : d * (y - x) < d * 1518500251 := by omega
  have a2 : d * (-1518500251) < d * (y - x) := by omega
  have b1 := Int.lt_of_mul_lt_mul_left a1 (by omega)
  have b2 := Int.lt_of_mul_lt_mul_left a2 (by omega)
  omega
theorem sq_near {a : Int} (h1 : -1518500251 ≤ a) (h2 : a ≤ 1518500251) : a * a ≤ 2305843012287063001 := by
  rcases Int.le_total 0 a with h | h
  · exact Int.le_trans (sq_mono h h2) (by decide)
  · have := sq_mono (a := -a) (b := 1518500251) (by omega) (by omega)
    have e : -a * -a = a * a := by grind
    omega
theorem cnd_fl {nx ny xx xy : Int} (hd : 0 < dotI nx ny nx ny) (j : Nat) :
    (-ny * crossI nx ny xx xy - dotI nx ny nx ny < dotI nx ny nx ny * (cnd xx xy nx ny j).1 ∧ dotI nx ny nx ny * (cnd xx xy nx ny j).1 < -ny * crossI nx ny xx xy + dotI nx ny nx ny) ∧
    (nx * crossI nx ny xx xy - dotI nx ny nx ny < dotI nx ny nx ny * (cnd xx xy nx ny j).2 ∧ dotI nx ny nx ny * (cnd xx xy nx ny j).2 < nx * crossI nx ny xx xy + dotI nx ny nx ny) := by
  obtain ⟨a1, a2, a3, a4⟩ := fl_mul (p := -ny * crossI nx ny xx xy) hd
  obtain ⟨b1, b2, b3, b4⟩ := fl_mul (p := nx * crossI nx ny xx xy) hd
  unfold cnd
  split <;> (dsimp only; exact ⟨⟨by omega, by omega⟩, by omega, by omega⟩)
theorem parts_le {nx ny xx xy : Int} : nx * nx ≤ dotI nx ny nx ny ∧ ny * ny ≤ dotI nx ny nx ny ∧ crossI nx ny xx xy * crossI nx ny xx xy ≤ dotI nx ny nx ny * dotI xx xy xx xy ∧ dotI xx xy nx ny * dotI xx xy nx ny ≤ dotI nx ny nx ny * dotI xx xy xx xy := by
  have h1 := sq_nonneg nx
  have h2 := sq_nonneg ny
  have h3 := sq_nonneg (crossI nx ny xx xy)
  have h4 := sq_nonneg (dotI xx xy nx ny)
  have h5 := lagrange nx ny xx xy
  have h6 : dotI nx ny nx ny = nx * nx + ny * ny := rfl
  omega
theorem cnd_near {nx ny xx xy : Int} (hx : Sm xx xy) (h : dotI xx xy nx ny < 0) (j : Nat) : distI xx xy (cnd xx xy nx ny j).1 (cnd xx xy nx ny j).2 ≤ 9223372036854775807 := by
  have hd := dot_self_pos h
  obtain ⟨p1, p2, p3, p4⟩ := parts_le (nx := nx) (ny := ny) (xx := xx) (xy := xy)
  have hl : dotI xx xy xx xy < 1518500250 * 1518500250 := Int.lt_of_le_of_lt (len_lt hx) (by decide)
  obtain ⟨k1, k2⟩ := side_lt (m := nx) (c := dotI xx xy nx ny) hl hd p1 p4 (by decide)
  obtain ⟨l1, l2⟩ := side_lt (m := ny) (c := dotI xx xy nx ny) hl hd p2 p4 (by decide)
  obtain ⟨⟨c1, c2⟩, c3, c4⟩ := cnd_fl (xx := xx) (xy := xy) hd j
  have e1 := split_x nx ny xx xy
  have e2 := split_y nx ny xx xy
  obtain ⟨n1, n2⟩ := near_lt hd (show xx * dotI nx ny nx ny = -ny * crossI nx ny xx xy + nx * dotI xx xy nx ny by rw [e1]; grind) c1 c2 k1 k2
  obtain ⟨n3, n4⟩ := near_lt hd (show xy * dotI nx ny nx ny = nx * crossI nx ny xx xy + ny * dotI xx xy nx ny by rw [e2]; grind) c3 c4 l1 l2
  have s1 := sq_near n1 n2
  have s2 := sq_near n3 n4
  unfold distI
  omega
end VB
namespace Go.Proofs.Ytdgfmkideghhaaa
open Go.RowKit PB VB
set_option maxRecDepth 100000 in
theorem i64_of {a : Int} (h1 : -4611686018427387904 ≤ a) (h2 : a ≤ 4611686018427387904) : I64 a := ⟨by omega, by omega⟩
set_option maxRecDepth 100000 in
theorem ar_both {nx ny xx xy : Int} (hx : Sm xx xy) (hn : Sm nx ny) (h : dotI xx xy nx ny < 0)
    (hD : DivFor (DivOK 137) (-ny) (crossI nx ny xx xy) (dotI nx ny nx ny) ∧ DivFor (DivOK 137) nx (crossI nx ny xx xy) (dotI nx ny nx ny)) :
    ArOK (-ny) (crossI nx ny xx xy) (dotI nx ny nx ny) ∧ ArOK nx (crossI nx ny xx xy) (dotI nx ny nx ny) := by
  have hd := dot_self_pos h
  obtain ⟨p1, p2, p3, p4⟩ := parts_le (nx := nx) (ny := ny) (xx := xx) (xy := xy)
  have hl : dotI xx xy xx xy < 2147483648 * 2147483648 := Int.lt_of_le_of_lt (len_lt hx) (by decide)
  have p2' : -ny * -ny ≤ dotI nx ny nx ny := by rw [show -ny * -ny = ny * ny by grind]; exact p2
  obtain ⟨k1, k2⟩ := side_lt (m := -ny) (c := crossI nx ny xx xy) hl hd p2' p3 (by decide)
  obtain ⟨l1, l2⟩ := side_lt (m := nx) (c := crossI nx ny xx xy) hl hd p1 p3 (by decide)
  obtain ⟨t1, t2⟩ := tdiv_lt k1 k2 hd (by decide)
  obtain ⟨t3, t4⟩ := tdiv_lt l1 l2 hd (by decide)
  have c1 := sm_cross hn hx
  have d1 := sm_dot hn hn
  have n1 := hn.a; have n2 := hn.b; have n3 := hn.c; have n4 := hn.d
  exact ⟨ar_any (i64_of (by omega) (by omega)) (i64_of (by omega) (by omega)) (i64_of (by omega) (by omega)) hD.1 hd (by omega) (by omega),
    ar_any (i64_of (by omega) (by omega)) (i64_of (by omega) (by omega)) (i64_of (by omega) (by omega)) hD.2 hd (by omega) (by omega)⟩
/-- What the divisions of Lift need. -/
def LiftDiv (xx xy : Int) (f : Nat → Int × Int) (n : Nat) : Prop := ∀ i, i < n → Sm xx xy → Sm (f i).1 (f i).2 → dotI xx xy (f i).1 (f i).2 < 0 → DivFor (DivOK 137) (-(f i).2) (crossI (f i).1 (f i).2 xx xy) (dotI (f i).1 (f i).2 (f i).1 (f i).2) ∧ DivFor (DivOK 137) (f i).1 (crossI (f i).1 (f i).2 xx xy) (dotI (f i).1 (f i).2 (f i).1 (f i).2)
set_option maxRecDepth 100000 in
theorem lift_any (xx xy : Int) (base : Option Addr) (b off n c : Nat) (f : Nat → Int × Int) (w : World) (hb : n ≠ 0 → base = some ⟨b, off, none⟩) (hlt : n ≠ 0 → b < w.heap.size) (hV : VSl w b off n f) (hn : n ≤ 1000000) (hD : LiftDiv xx xy f n) :
    Calls Try.prog 61 #[vec xx xy, .slice base n c] w fun e w' => e = .returned (vec (liftV xx xy f n).1 (liftV xx xy f n).2) ∧ Below w.heap.size w w' := by
  unfold liftV
  by_cases hx : Sm xx xy
  · by_cases hl : AllSm f n
    · rw [if_pos ⟨hx, hl⟩]
      cases ha : (sidesOf f n).al xx xy with
      | true => exact lift_same xx xy base b off n c f w hx hb hlt hV hn hl ha
      | false => exact lift_main xx xy base b off n c f w hx hb hlt hV hn hl ha (fun i hi h => ar_both hx (hl i hi) h (hD i hi hx (hl i hi) h)) (fun i hi h j => cnd_near hx h j)
    · rw [if_neg (fun k => hl k.2)]
      exact lift_l xx xy base b off n c f w hx hb hlt hV hn hl
  · rw [if_neg (fun k => hx k.1)]
    exact lift_x xx xy base n c w hx
end Go.Proofs.Ytdgfmkideghhaaa

namespace VB
/-- Above, or to the right. -/
def Up (x y : Int) : Prop := 0 < y ∨ y = 0 ∧ 0 < x
theorem up_y {x y : Int} (h : Up x y) : 0 ≤ y := by unfold Up at h; omega
theorem cross_vec (ax ay bx b_ cx cy : Int) : crossI ax ay cx cy * bx = crossI bx b_ cx cy * ax + crossI ax ay bx b_ * cx ∧ crossI ax ay cx cy * b_ = crossI bx b_ cx cy * ay + crossI ax ay bx b_ * cy := by
  unfold crossI; constructor <;> grind
theorem pos_of_mul {a b : Int} (hb : 0 < b) (h : 0 ≤ a * b) : 0 ≤ a := by
  apply Int.le_of_not_gt
  intro hlt
  have := Int.mul_neg_of_neg_of_pos hlt hb
  omega
theorem up_trans {ax ay bx b_ cx cy : Int} (ha : Up ax ay) (hb : Up bx b_) (hc : Up cx cy) (h1 : 0 ≤ crossI ax ay bx b_) (h2 : 0 ≤ crossI bx b_ cx cy) : 0 ≤ crossI ax ay cx cy := by
  obtain ⟨e1, e2⟩ := cross_vec ax ay bx b_ cx cy
  rcases hb with hb | ⟨hb, hbx⟩
  · apply pos_of_mul hb
    rw [e2]
    exact Int.add_nonneg (Int.mul_nonneg h2 (up_y ha)) (Int.mul_nonneg h1 (up_y hc))
  · subst hb
    have a0 : ay = 0 := by
      have k1 : crossI ax ay bx 0 = -(ay * bx) := by unfold crossI; grind
      have k2 := up_y ha
      apply Int.le_antisymm _ k2
      apply Int.le_of_not_gt
      intro hlt
      have := Int.mul_pos hlt hbx
      omega
    subst a0
    have ax0 : 0 < ax := by unfold Up at ha; omega
    have k3 : crossI ax 0 cx cy = ax * cy := by unfold crossI; omega
    rw [k3]
    exact Int.mul_nonneg (by omega) (up_y hc)
/-- A vector between two others is allowed by what they allow. -/
theorem up_between {ax ay nx ny bx b_ vx vy : Int} (ha : Up ax ay) (hn : Up nx ny) (hb : Up bx b_) (h1 : 0 ≤ crossI ax ay nx ny) (h2 : 0 ≤ crossI nx ny bx b_) (k1 : 0 ≤ dotI vx vy ax ay) (k2 : 0 ≤ dotI vx vy bx b_) : 0 ≤ dotI vx vy nx ny := by
  have h3 := up_trans ha hn hb h1 h2
  obtain ⟨e1, e2⟩ := cross_vec ax ay nx ny bx b_
  have e3 : dotI vx vy nx ny * crossI ax ay bx b_ = crossI nx ny bx b_ * dotI vx vy ax ay + crossI ax ay nx ny * dotI vx vy bx b_ := by
    have : dotI vx vy nx ny * crossI ax ay bx b_ = vx * (crossI ax ay bx b_ * nx) + vy * (crossI ax ay bx b_ * ny) := by unfold dotI; grind
    rw [this, e1, e2]; unfold dotI; grind
  by_cases hpos : 0 < crossI ax ay bx b_
  · apply pos_of_mul hpos
    rw [e3]
    exact Int.add_nonneg (Int.mul_nonneg h2 k1) (Int.mul_nonneg h1 k2)
  · have hz : crossI ax ay bx b_ = 0 := by omega
    rw [hz, Int.zero_mul] at e1 e2
    have hcz : crossI ax ay nx ny = 0 := by
      rcases hb with hb' | ⟨hb', hbx⟩
      · have t1 : 0 ≤ crossI nx ny bx b_ * ay := Int.mul_nonneg h2 (up_y ha)
        have t2 : 0 ≤ crossI ax ay nx ny * b_ := Int.mul_nonneg h1 (by omega)
        have t3 : crossI ax ay nx ny * b_ = 0 := by omega
        rcases Int.mul_eq_zero.1 t3 with h | h
        · exact h
        · omega
      · subst hb'
        have a0 : ay = 0 := by
          have k1 : crossI ax ay bx 0 = -(ay * bx) := by unfold crossI; grind
          have k2 := up_y ha
          apply Int.le_antisymm _ k2
          apply Int.le_of_not_gt
          intro hlt
          have := Int.mul_pos hlt hbx
          omega
        subst a0
        have ax0 : 0 < ax := by unfold Up at ha; omega
        have t1 : 0 ≤ crossI nx ny bx 0 * ax := Int.mul_nonneg h2 (by omega)
        have t2 : 0 ≤ crossI ax 0 nx ny * bx := Int.mul_nonneg h1 (by omega)
        have t3 : crossI ax 0 nx ny * bx = 0 := by omega
        rcases Int.mul_eq_zero.1 t3 with h | h
        · exact h
        · omega
    have c : ax * ny = ay * nx := by unfold crossI at hcz; omega
    rcases ha with ha' | ⟨ha', hax⟩
    · apply pos_of_mul ha'
      have : dotI vx vy nx ny * ay = ny * dotI vx vy ax ay := by unfold dotI; grind
      rw [this]
      exact Int.mul_nonneg (up_y hn) k1
    · subst ha'
      have hny : ny = 0 := by
        rw [Int.zero_mul] at c
        rcases Int.mul_eq_zero.1 c with h | h
        · omega
        · exact h
      subst hny
      have hnx : 0 < nx := by unfold Up at hn; omega
      apply pos_of_mul hax
      have : dotI vx vy nx 0 * ax = nx * dotI vx vy ax 0 := by unfold dotI; grind
      rw [this]
      exact Int.mul_nonneg (by omega) k1
end VB

namespace VB
/-- What is known of one half behind k vectors; Q: which of them belong to it. -/
def St (g : Nat → Int × Int) (Q : Nat → Prop) (p : Half) (k : Nat) : Prop :=
  (p = Half.zero ∧ ∀ i, i < k → Q i → (g i).1 = 0 ∧ (g i).2 = 0) ∨
  (Up p.fx p.fy ∧ Up p.lx p.ly ∧ (∃ i, i < k ∧ Q i ∧ g i = (p.fx, p.fy)) ∧ (∃ i, i < k ∧ Q i ∧ g i = (p.lx, p.ly)) ∧
    ∀ i, i < k → Q i → ((g i).1 = 0 ∧ (g i).2 = 0) ∨ (Up (g i).1 (g i).2 ∧ 0 ≤ crossI p.fx p.fy (g i).1 (g i).2 ∧ 0 ≤ crossI (g i).1 (g i).2 p.lx p.ly))
theorem st_zero (g : Nat → Int × Int) (Q : Nat → Prop) : St g Q Half.zero 0 := Or.inl ⟨rfl, fun i h => by omega⟩
theorem st_skip {g : Nat → Int × Int} {Q : Nat → Prop} {p : Half} {k : Nat} (h : St g Q p k) (hq : ¬ Q k) : St g Q p (k + 1) := by
  have lt : ∀ i, i < k + 1 → Q i → i < k := fun i hi q => by
    by_cases e : i = k
    · subst e; exact absurd q hq
    · omega
  rcases h with ⟨h1, h2⟩ | ⟨h1, h2, ⟨i, hi, q, e⟩, ⟨j, hj, q', e'⟩, h3⟩
  · exact Or.inl ⟨h1, fun i hi q => h2 i (lt i hi q) q⟩
  · exact Or.inr ⟨h1, h2, ⟨i, by omega, q, e⟩, ⟨j, by omega, q', e'⟩, fun i hi q => h3 i (lt i hi q) q⟩
theorem up_not_zero {x y : Int} (h : Up x y) : ¬ (x = 0 ∧ y = 0) := by unfold Up at h; omega
theorem cross_anti (ax ay bx b_ : Int) : crossI ax ay bx b_ = -crossI bx b_ ax ay := by unfold crossI; grind
theorem cross_zero_l (x y : Int) : crossI 0 0 x y = 0 := by unfold crossI; omega
theorem cross_zero_r (x y : Int) : crossI x y 0 0 = 0 := by unfold crossI; omega
theorem st_take {g : Nat → Int × Int} {Q : Nat → Prop} {p : Half} {k : Nat} (h : St g Q p k) (hq : Q k) (hg : ((g k).1 = 0 ∧ (g k).2 = 0) ∨ Up (g k).1 (g k).2) : St g Q (p.step (g k).1 (g k).2) (k + 1) := by
  have gk : g k = ((g k).1, (g k).2) := rfl
  obtain ⟨fx, fy, lx, ly⟩ := p
  generalize hx : (g k).1 = x at *
  generalize hy : (g k).2 = y at *
  have split : ∀ i, i < k + 1 → i < k ∨ i = k := fun i hi => by omega
  rcases h with ⟨h1, h2⟩ | ⟨h1, h2, ⟨i, hi, q, e⟩, ⟨j, hj, q', e'⟩, h3⟩
  · cases h1
    rw [half_zero ⟨rfl, rfl⟩]
    rcases hg with ⟨rfl, rfl⟩ | hg
    · exact Or.inl ⟨rfl, fun i hi q => by
        rcases split i hi with h | rfl
        · exact h2 i h q
        · exact ⟨hx, hy⟩⟩
    · refine Or.inr ⟨hg, hg, ⟨k, by omega, hq, gk⟩, ⟨k, by omega, hq, gk⟩, fun i hi q => ?_⟩
      rcases split i hi with h | rfl
      · exact Or.inl (h2 i h q)
      · right; rw [hx, hy]; exact ⟨hg, by rw [cross_self]; exact Int.le_refl _, by rw [cross_self]; exact Int.le_refl _⟩
  · dsimp only at h1 h2 e e' h3
    rw [half_not (up_not_zero h1)]
    rcases hg with ⟨rfl, rfl⟩ | hg
    · rw [cross_zero_l, cross_zero_r]
      simp only [Int.lt_irrefl, if_false]
      refine Or.inr ⟨h1, h2, ⟨i, by omega, q, e⟩, ⟨j, by omega, q', e'⟩, fun i hi q => ?_⟩
      rcases split i hi with h | rfl
      · exact h3 i h q
      · exact Or.inl ⟨hx, hy⟩
    · -- first
      have hF : ∃ F G, (F = if 0 < crossI x y fx fy then x else fx) ∧ (G = if 0 < crossI x y fx fy then y else fy) ∧ Up F G ∧ (∃ i, i < k + 1 ∧ Q i ∧ g i = (F, G)) ∧ 0 ≤ crossI F G x y ∧ ∀ a b, Up a b → 0 ≤ crossI fx fy a b → 0 ≤ crossI F G a b := by
        by_cases c : 0 < crossI x y fx fy
        · rw [if_pos c, if_pos c]
          exact ⟨x, y, rfl, rfl, hg, ⟨k, by omega, hq, gk⟩, by rw [cross_self]; exact Int.le_refl _, fun a b u hc => up_trans hg h1 u (by omega) hc⟩
        · rw [if_neg c, if_neg c]
          exact ⟨fx, fy, rfl, rfl, h1, ⟨i, by omega, q, e⟩, by rw [cross_anti]; omega, fun a b _ hc => hc⟩
      have hL : ∃ F G, (F = if 0 < crossI lx ly x y then x else lx) ∧ (G = if 0 < crossI lx ly x y then y else ly) ∧ Up F G ∧ (∃ i, i < k + 1 ∧ Q i ∧ g i = (F, G)) ∧ 0 ≤ crossI x y F G ∧ ∀ a b, Up a b → 0 ≤ crossI a b lx ly → 0 ≤ crossI a b F G := by
        by_cases c : 0 < crossI lx ly x y
        · rw [if_pos c, if_pos c]
          exact ⟨x, y, rfl, rfl, hg, ⟨k, by omega, hq, gk⟩, by rw [cross_self]; exact Int.le_refl _, fun a b u hc => up_trans u h2 hg hc (by omega)⟩
        · rw [if_neg c, if_neg c]
          exact ⟨lx, ly, rfl, rfl, h2, ⟨j, by omega, q', e'⟩, by rw [cross_anti]; omega, fun a b _ hc => hc⟩
      obtain ⟨F, G, rF, rG, uF, mF, cF, tF⟩ := hF
      obtain ⟨K, L, rK, rL, uL, mL, cL, tL⟩ := hL
      rw [← rF, ← rG, ← rK, ← rL]
      refine Or.inr ⟨uF, uL, mF, mL, fun i hi q => ?_⟩
      rcases split i hi with h | rfl
      · rcases h3 i h q with z | ⟨u, c1, c2⟩
        · exact Or.inl z
        · exact Or.inr ⟨u, tF _ _ u c1, tL _ _ u c2⟩
      · right; rw [hx, hy]; exact ⟨hg, cF, cL⟩
theorem dot_z (vx vy : Int) : dotI vx vy 0 0 = 0 := by unfold dotI; omega
/-- The two of a half allow what its vectors allow. -/
theorem st_al {g : Nat → Int × Int} {Q : Nat → Prop} {p : Half} {k : Nat} (h : St g Q p k) (vx vy : Int) : (0 ≤ dotI vx vy p.fx p.fy ∧ 0 ≤ dotI vx vy p.lx p.ly) ↔ ∀ i, i < k → Q i → 0 ≤ dotI vx vy (g i).1 (g i).2 := by
  rcases h with ⟨rfl, h2⟩ | ⟨h1, h2, ⟨i, hi, q, e⟩, ⟨j, hj, q', e'⟩, h3⟩
  · constructor
    · intro _ i hi q
      rw [(h2 i hi q).1, (h2 i hi q).2, dot_z]; exact Int.le_refl _
    · intro _
      show 0 ≤ dotI vx vy 0 0 ∧ 0 ≤ dotI vx vy 0 0
      rw [dot_z]; exact ⟨Int.le_refl _, Int.le_refl _⟩
  · constructor
    · intro ⟨k1, k2⟩ i hi q
      rcases h3 i hi q with ⟨z1, z2⟩ | ⟨u, c1, c2⟩
      · rw [z1, z2, dot_z]; exact Int.le_refl _
      · exact up_between h1 u h2 c1 c2 k1 k2
    · intro k
      have a := k i hi q
      have b := k j hj q'
      rw [e] at a
      rw [e'] at b
      exact ⟨a, b⟩
/-- The other side. -/
def Half.neg (p : Half) : Half := ⟨-p.fx, -p.fy, -p.lx, -p.ly⟩
theorem cross_neg (ax ay bx b_ : Int) : crossI (-ax) (-ay) (-bx) (-b_) = crossI ax ay bx b_ := by unfold crossI; grind
theorem dot_neg (ax ay bx b_ : Int) : dotI (-ax) (-ay) (-bx) (-b_) = dotI ax ay bx b_ := by unfold dotI; grind
theorem step_neg (p : Half) (x y : Int) : (p.neg).step (-x) (-y) = (p.step x y).neg := by
  obtain ⟨fx, fy, lx, ly⟩ := p
  show Half.step ⟨-fx, -fy, -lx, -ly⟩ (-x) (-y) = _
  by_cases h : fx = 0 ∧ fy = 0
  · rw [half_zero h, half_zero (by omega)]; rfl
  · rw [half_not h, half_not (by omega), cross_neg, cross_neg]
    unfold Half.neg
    dsimp only
    split <;> split <;> rfl
theorem sides_st (f : Nat → Int × Int) : ∀ k, St f (fun i => ¬ lower (f i).1 (f i).2) (sidesOf f k).u k ∧ St (fun i => (-(f i).1, -(f i).2)) (fun i => lower (f i).1 (f i).2) (sidesOf f k).d.neg k
  | 0 => ⟨st_zero _ _, st_zero _ _⟩
  | k + 1 => by
    obtain ⟨h1, h2⟩ := sides_st f k
    show St _ _ (Both.step (sidesOf f k) (f k).1 (f k).2).u _ ∧ St _ _ (Both.step (sidesOf f k) (f k).1 (f k).2).d.neg _
    unfold Both.step
    by_cases hl : lower (f k).1 (f k).2
    · rw [if_pos hl]
      refine ⟨st_skip h1 (fun h => h hl), ?_⟩
      have := st_take h2 hl (Or.inr (by dsimp only; unfold lower at hl; unfold Up; omega))
      rw [step_neg] at this
      exact this
    · rw [if_neg hl]
      exact ⟨st_take h1 hl (by unfold lower at hl; unfold Up; omega), st_skip h2 hl⟩
/-- The four sides allow just what all the vectors allow. -/
theorem sides_al (f : Nat → Int × Int) (n : Nat) (vx vy : Int) : (sidesOf f n).al vx vy = true ↔ ∀ i, i < n → 0 ≤ dotI vx vy (f i).1 (f i).2 := by
  obtain ⟨h1, h2⟩ := sides_st f n
  have a := st_al h1 vx vy
  have b := st_al h2 (-vx) (-vy)
  unfold Half.neg at b
  simp only [dot_neg] at b
  unfold Both.al alB
  rw [decide_eq_true_iff]
  constructor
  · intro ⟨k1, k2, k3, k4⟩ i hi
    by_cases hl : lower (f i).1 (f i).2
    · exact b.1 ⟨k3, k4⟩ i hi hl
    · exact a.1 ⟨k1, k2⟩ i hi hl
  · intro k
    obtain ⟨k1, k2⟩ := a.2 (fun i hi _ => k i hi)
    obtain ⟨k3, k4⟩ := b.2 (fun i hi _ => k i hi)
    exact ⟨k1, k2, k3, k4⟩
end VB
