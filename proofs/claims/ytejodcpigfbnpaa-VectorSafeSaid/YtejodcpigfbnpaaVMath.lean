/-
  Plain arithmetic of projections: the candidates are words, and not far away.
-/
import Derived.Test.YtejodcpigfbnpaaVLiftM
namespace VB
theorem sq_nonneg (a : Int) : 0 ≤ a * a := by
  rcases Int.le_total 0 a with h | h
  · exact Int.mul_nonneg h h
  · exact Int.mul_nonneg_of_nonpos_of_nonpos h h
theorem sq_mono {a b : Int} (h0 : 0 ≤ a) (h : a ≤ b) : a * a ≤ b * b := Int.mul_le_mul h h h0 (by omega)
theorem lt_of_sq {a b X M : Int} (h : a * a ≤ b * b * X) (hX : X < M * M) (hb : 0 < b) (hM : 0 < M) : -(b * M) < a ∧ a < b * M := by
  have hbb : 0 < b * b := Int.mul_pos hb hb
  have h1 : b * b * X < b * b * (M * M) := Int.mul_lt_mul_of_pos_left hX hbb
  have e : b * b * (M * M) = (b * M) * (b * M) := by grind
  have hbm : 0 < b * M := Int.mul_pos hb hM
  constructor
  · apply Int.lt_of_not_ge
    intro hle
    have := sq_mono (a := b * M) (b := -a) (by omega) (by omega)
    have e2 : -a * -a = a * a := by grind
    omega
  · apply Int.lt_of_not_ge
    intro hle
    have := sq_mono (a := b * M) (b := a) (by omega) (by omega)
    omega
theorem tdiv_lt {a d M : Int} (h1 : -(d * M) < a) (h2 : a < d * M) (hd : 0 < d) (hM : 0 < M) : -M < a.tdiv d ∧ a.tdiv d < M := by
  have h : (a.tdiv d).natAbs < M.natAbs := by
    rw [Int.natAbs_tdiv]
    apply Nat.div_lt_of_lt_mul
    rw [← Int.natAbs_mul]
    have : 0 < d * M := Int.mul_pos hd hM
    omega
  omega
theorem lagrange (nx ny xx xy : Int) : crossI nx ny xx xy * crossI nx ny xx xy + dotI xx xy nx ny * dotI xx xy nx ny = dotI nx ny nx ny * dotI xx xy xx xy := by
  unfold crossI dotI; grind
theorem split_x (nx ny xx xy : Int) : xx * dotI nx ny nx ny = -ny * crossI nx ny xx xy + dotI xx xy nx ny * nx := by
  unfold crossI dotI; grind
theorem split_y (nx ny xx xy : Int) : xy * dotI nx ny nx ny = nx * crossI nx ny xx xy + dotI xx xy nx ny * ny := by
  unfold crossI dotI; grind
theorem dot_self_pos {nx ny xx xy : Int} (h : dotI xx xy nx ny < 0) : 0 < dotI nx ny nx ny := by
  have h1 := sq_nonneg nx
  have h2 := sq_nonneg ny
  apply Int.lt_of_not_ge
  intro hle
  unfold dotI at hle
  have e1 : nx * nx = 0 := by omega
  have e2 : ny * ny = 0 := by omega
  have z1 : nx = 0 := by rcases Int.mul_eq_zero.1 e1 with h | h <;> exact h
  have z2 : ny = 0 := by rcases Int.mul_eq_zero.1 e2 with h | h <;> exact h
  subst z1 z2
  unfold dotI at h
  omega
theorem len_lt {xx xy : Int} (h : Sm xx xy) : dotI xx xy xx xy ≤ 2305843009213693952 := (sm_dot h h).2
/-- Products of a side and a component are bounded by the square of the vector. -/
theorem side_lt {nx ny xx xy m c M : Int} (hx : dotI xx xy xx xy < M * M) (hd : 0 < dotI nx ny nx ny) (hm : m * m ≤ dotI nx ny nx ny) (hc : c * c ≤ dotI nx ny nx ny * dotI xx xy xx xy) (hM : 0 < M) :
    -(dotI nx ny nx ny * M) < m * c ∧ m * c < dotI nx ny nx ny * M := by
  refine lt_of_sq (X := dotI xx xy xx xy) ?_ hx hd hM
  have h1 : m * m * (c * c) ≤ dotI nx ny nx ny * (c * c) := Int.mul_le_mul_of_nonneg_right hm (sq_nonneg c)
  have h2 : dotI nx ny nx ny * (c * c) ≤ dotI nx ny nx ny * (dotI nx ny nx ny * dotI xx xy xx xy) := Int.mul_le_mul_of_nonneg_left hc (by omega)
  have e1 : m * c * (m * c) = m * m * (c * c) := by grind
  have e2 : dotI nx ny nx ny * (dotI nx ny nx ny * dotI xx xy xx xy) = dotI nx ny nx ny * dotI nx ny nx ny * dotI xx xy xx xy := by grind
  omega
theorem fl_mul {p d : Int} (hd : 0 < d) : p - d < d * (p / d) ∧ d * (p / d) ≤ p ∧ p ≤ d * cdiv p d ∧ d * cdiv p d < p + d := by
  have h1 := Int.mul_ediv_add_emod p d
  have h2 := Int.emod_nonneg p (show d ≠ 0 by omega)
  have h3 := Int.emod_lt_of_pos p hd
  have h4 := Int.mul_ediv_add_emod (-p) d
  have h5 := Int.emod_nonneg (-p) (show d ≠ 0 by omega)
  have h6 := Int.emod_lt_of_pos (-p) hd
  unfold cdiv
  have e : d * -(-p / d) = -(d * (-p / d)) := by grind
  omega
theorem near_lt {y x d k m : Int} (hd : 0 < d) (hx : x * d = m + k) (h1 : m - d < d * y) (h2 : d * y < m + d) (k1 : -(d * 1518500250) < k) (k2 : k < d * 1518500250) : -1518500251 ≤ y - x ∧ y - x ≤ 1518500251 := by
  have e : d * (y - x) = d * y - (m + k) := by rw [← hx]; grind
  have a1 : d * (y - x) < d * 1518500251 := by omega
  have a2 : d * (-1518500251) < d * (y - x) := by omega
  have b1 := Int.lt_of_mul_lt_mul_left a1 (by omega)
  have b2 := Int.lt_of_mul_lt_mul_left a2 (by omega)
  omega
theorem sq_near {a : Int} (h1 : -1518500251 ≤ a) (h2 : a ≤ 1518500251) : a * a ≤ 2305843012287063001 := by
  rcases Int.le_total 0 a with h | h
  · exact Int.le_trans (sq_mono h h2) (by decide)
  · have := sq_mono (a := -a) (b := 1518500251) (by omega) (by omega)
    have e : -a * -a = a * a := by grind
    omega
theorem cnd_fl {nx ny xx xy : Int} (hd : 0 < dotI nx ny nx ny) (j : Nat) :
    (-ny * crossI nx ny xx xy - dotI nx ny nx ny < dotI nx ny nx ny * (cnd xx xy nx ny j).1 ∧ dotI nx ny nx ny * (cnd xx xy nx ny j).1 < -ny * crossI nx ny xx xy + dotI nx ny nx ny) ∧
    (nx * crossI nx ny xx xy - dotI nx ny nx ny < dotI nx ny nx ny * (cnd xx xy nx ny j).2 ∧ dotI nx ny nx ny * (cnd xx xy nx ny j).2 < nx * crossI nx ny xx xy + dotI nx ny nx ny) := by
  obtain ⟨a1, a2, a3, a4⟩ := fl_mul (p := -ny * crossI nx ny xx xy) hd
  obtain ⟨b1, b2, b3, b4⟩ := fl_mul (p := nx * crossI nx ny xx xy) hd
  unfold cnd
  split <;> (dsimp only; exact ⟨⟨by omega, by omega⟩, by omega, by omega⟩)
theorem parts_le {nx ny xx xy : Int} : nx * nx ≤ dotI nx ny nx ny ∧ ny * ny ≤ dotI nx ny nx ny ∧ crossI nx ny xx xy * crossI nx ny xx xy ≤ dotI nx ny nx ny * dotI xx xy xx xy ∧ dotI xx xy nx ny * dotI xx xy nx ny ≤ dotI nx ny nx ny * dotI xx xy xx xy := by
  have h1 := sq_nonneg nx
  have h2 := sq_nonneg ny
  have h3 := sq_nonneg (crossI nx ny xx xy)
  have h4 := sq_nonneg (dotI xx xy nx ny)
  have h5 := lagrange nx ny xx xy
  have h6 : dotI nx ny nx ny = nx * nx + ny * ny := rfl
  omega
theorem cnd_near {nx ny xx xy : Int} (hx : Sm xx xy) (h : dotI xx xy nx ny < 0) (j : Nat) : distI xx xy (cnd xx xy nx ny j).1 (cnd xx xy nx ny j).2 ≤ 9223372036854775807 := by
  have hd := dot_self_pos h
  obtain ⟨p1, p2, p3, p4⟩ := parts_le (nx := nx) (ny := ny) (xx := xx) (xy := xy)
  have hl : dotI xx xy xx xy < 1518500250 * 1518500250 := Int.lt_of_le_of_lt (len_lt hx) (by decide)
  obtain ⟨k1, k2⟩ := side_lt (m := nx) (c := dotI xx xy nx ny) hl hd p1 p4 (by decide)
  obtain ⟨l1, l2⟩ := side_lt (m := ny) (c := dotI xx xy nx ny) hl hd p2 p4 (by decide)
  obtain ⟨⟨c1, c2⟩, c3, c4⟩ := cnd_fl (xx := xx) (xy := xy) hd j
  have e1 := split_x nx ny xx xy
  have e2 := split_y nx ny xx xy
  obtain ⟨n1, n2⟩ := near_lt hd (show xx * dotI nx ny nx ny = -ny * crossI nx ny xx xy + nx * dotI xx xy nx ny by rw [e1]; grind) c1 c2 k1 k2
  obtain ⟨n3, n4⟩ := near_lt hd (show xy * dotI nx ny nx ny = nx * crossI nx ny xx xy + ny * dotI xx xy nx ny by rw [e2]; grind) c3 c4 l1 l2
  have s1 := sq_near n1 n2
  have s2 := sq_near n3 n4
  unfold distI
  omega
end VB
namespace Go.Proofs.Ytejodcpigfbnpaa
open Go.RowKit PB VB
set_option maxRecDepth 100000 in
theorem i64_of {a : Int} (h1 : -4611686018427387904 ≤ a) (h2 : a ≤ 4611686018427387904) : I64 a := ⟨by omega, by omega⟩
set_option maxRecDepth 100000 in
theorem ar_both {nx ny xx xy : Int} (hx : Sm xx xy) (hn : Sm nx ny) (h : dotI xx xy nx ny < 0)
    (hD : DivFor (DivOK 64) (-ny) (crossI nx ny xx xy) (dotI nx ny nx ny) ∧ DivFor (DivOK 64) nx (crossI nx ny xx xy) (dotI nx ny nx ny)) :
    ArOK (-ny) (crossI nx ny xx xy) (dotI nx ny nx ny) ∧ ArOK nx (crossI nx ny xx xy) (dotI nx ny nx ny) := by
  have hd := dot_self_pos h
  obtain ⟨p1, p2, p3, p4⟩ := parts_le (nx := nx) (ny := ny) (xx := xx) (xy := xy)
  have hl : dotI xx xy xx xy < 2147483648 * 2147483648 := Int.lt_of_le_of_lt (len_lt hx) (by decide)
  have p2' : -ny * -ny ≤ dotI nx ny nx ny := by rw [show -ny * -ny = ny * ny by grind]; exact p2
  obtain ⟨k1, k2⟩ := side_lt (m := -ny) (c := crossI nx ny xx xy) hl hd p2' p3 (by decide)
  obtain ⟨l1, l2⟩ := side_lt (m := nx) (c := crossI nx ny xx xy) hl hd p1 p3 (by decide)
  obtain ⟨t1, t2⟩ := tdiv_lt k1 k2 hd (by decide)
  obtain ⟨t3, t4⟩ := tdiv_lt l1 l2 hd (by decide)
  have c1 := sm_cross hn hx
  have d1 := sm_dot hn hn
  have n1 := hn.a; have n2 := hn.b; have n3 := hn.c; have n4 := hn.d
  exact ⟨ar_any (i64_of (by omega) (by omega)) (i64_of (by omega) (by omega)) (i64_of (by omega) (by omega)) hD.1 hd (by omega) (by omega),
    ar_any (i64_of (by omega) (by omega)) (i64_of (by omega) (by omega)) (i64_of (by omega) (by omega)) hD.2 hd (by omega) (by omega)⟩
/-- What the divisions of Lift need. -/
def LiftDiv (xx xy : Int) (f : Nat → Int × Int) (n : Nat) : Prop := ∀ i, i < n → Sm xx xy → Sm (f i).1 (f i).2 → dotI xx xy (f i).1 (f i).2 < 0 → DivFor (DivOK 64) (-(f i).2) (crossI (f i).1 (f i).2 xx xy) (dotI (f i).1 (f i).2 (f i).1 (f i).2) ∧ DivFor (DivOK 64) (f i).1 (crossI (f i).1 (f i).2 xx xy) (dotI (f i).1 (f i).2 (f i).1 (f i).2)
set_option maxRecDepth 100000 in
theorem lift_any (xx xy : Int) (base : Option Addr) (b off n c : Nat) (f : Nat → Int × Int) (w : World) (hb : n ≠ 0 → base = some ⟨b, off, none⟩) (hlt : n ≠ 0 → b < w.heap.size) (hV : VSl w b off n f) (hn : n ≤ 1000000) (hD : LiftDiv xx xy f n) :
    Calls Try.prog 32 #[vec xx xy, .slice base n c] w fun e w' => e = .returned (vec (liftV xx xy f n).1 (liftV xx xy f n).2) ∧ Below w.heap.size w w' := by
  unfold liftV
  by_cases hx : Sm xx xy
  · by_cases hl : AllSm f n
    · rw [if_pos ⟨hx, hl⟩]
      cases ha : (sidesOf f n).al xx xy with
      | true => exact lift_same xx xy base b off n c f w hx hb hlt hV hn hl ha
      | false => exact lift_main xx xy base b off n c f w hx hb hlt hV hn hl ha (fun i hi h => ar_both hx (hl i hi) h (hD i hi hx (hl i hi) h)) (fun i hi h j => cnd_near hx h j)
    · rw [if_neg (fun k => hl k.2)]
      exact lift_l xx xy base b off n c f w hx hb hlt hV hn hl
  · rw [if_neg (fun k => hx k.1)]
    exact lift_x xx xy base n c w hx
end Go.Proofs.Ytejodcpigfbnpaa
