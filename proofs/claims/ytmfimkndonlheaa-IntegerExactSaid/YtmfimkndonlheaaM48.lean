/-
  The verifier's Gcd (written by wip/genrefbd.py).
  The verifier's same, at two canonical results for one number.
  Leh Head
-/
import Derived.Test.YtmfimkndonlheaaM01
import Derived.Test.YtmfimkndonlheaaM19
import Derived.Test.YtmfimkndonlheaaM25
import Derived.Test.YtmfimkndonlheaaM26
import Derived.Test.YtmfimkndonlheaaM47
namespace Go.Proofs.Ytmfimkndonlheaa
open Go.RowKit PB

set_option maxHeartbeats 3200000 in
set_option maxRecDepth 100000 in
theorem gcd_ref (v1 v2 : Value) (z1 z2 : Int) (w : World) (h1 : IsInt w v1 z1) (h2 : IsInt w v2 z2) (g1 : ¬ 256 < nl z1.natAbs) (g2 : ¬ 256 < nl z2.natAbs) :
    Calls Try.prog 22 #[v1, v2] w (RetIntE w (Nat.gcd z1.natAbs z2.natAbs) 0) := by
  obtain ⟨s, base, n, c, rfl, h1⟩ := int_form h1
  obtain ⟨t, base', n', c', rfl, h2⟩ := int_form h2
  have L1 : Hid (∀ W, Below w.heap.size w W → Calls Try.prog 60 #[.agg #[.bool s, .slice base n c]] W (fun e w' => e = .returned (.bool false) ∧ Below W.heap.size W w')) := Lib.hid (fun W h => by
    have := large_ref _ z1 W (h1.kept h)
    rwa [decide_eq_false g1] at this)
  have L2 : Hid (∀ W, Below w.heap.size w W → Calls Try.prog 60 #[.agg #[.bool t, .slice base' n' c']] W (fun e w' => e = .returned (.bool false) ∧ Below W.heap.size W w')) := Lib.hid (fun W h => by
    have := large_ref _ z2 W (h2.kept h)
    rwa [decide_eq_false g2] at this)
  have HG := Lib.hid (fun W (h : Below w.heap.size w W) => common_ref _ _ z1 z2 W (h1.kept h) (h2.kept h) (by omega) (by omega))
  obtain ⟨G, hG⟩ : ∃ G : Int, ((Nat.gcd z1.natAbs z2.natAbs : Nat) : Int) = G := ⟨_, rfl⟩
  rw [hG] at HG ⊢
  clear hG h1 h2 g1 g2
  go_enter Try.func22, Try.ntmps22
  go_wp2_with fail
  generalize hW : World.alloc _ _ = W
  have B0 : Blk W w.heap.size #[.bool s, .slice base n c] := by rw [← hW]; exact ((blk_new rfl).alloc _).alloc _
  have B1 : Blk W (w.heap.size + 1) #[.bool t, .slice base' n' c'] := by rw [← hW]; exact (blk_new (by simp)).alloc _
  have B2 : Blk W (w.heap.size + 1 + 1) #[.bool false, .slice none 0 0] := by rw [← hW]; exact blk_new (by simp)
  have hbW : Below w.heap.size w W := by rw [← hW]; exact (((Below.refl _ _).alloc (Nat.le_refl _) _).alloc (by simp) _).alloc (by simp; omega) _
  have HS := Lib.hid (show w.heap.size + 3 ≤ W.heap.size by rw [← hW]; simp)
  clear hW
  obtain ⟨a0, a1⟩ := Blk2 B0
  obtain ⟨b0, b1⟩ := Blk2 B1
  go_wp2_with fail
  refine (L1.out W hbW).mono ?_
  rintro e w1 ⟨rfl, hb1⟩
  have Bel1 : Below w.heap.size w w1 := bs_trans hbW hb1
  replace HS := Lib.hid (Nat.le_trans HS.out hb1.size)
  replace B0 := B0.kept hb1
  replace B1 := B1.kept hb1
  replace B2 := B2.kept hb1
  obtain ⟨a0, a1⟩ := Blk2 B0
  obtain ⟨b0, b1⟩ := Blk2 B1
  obtain ⟨r0, r1⟩ := Blk2 B2
  obtain ⟨f0, f1⟩ := Blk2f B2
  clear hb1
  go_wp2_with fail
  refine (L2.out w1 Bel1).mono ?_
  rintro e w2 ⟨rfl, hb2⟩
  have Bel2 : Below w.heap.size w w2 := bs_trans Bel1 hb2
  replace HS := Lib.hid (Nat.le_trans HS.out hb2.size)
  replace B0 := B0.kept hb2
  replace B1 := B1.kept hb2
  replace B2 := B2.kept hb2
  obtain ⟨a0, a1⟩ := Blk2 B0
  obtain ⟨b0, b1⟩ := Blk2 B1
  obtain ⟨r0, r1⟩ := Blk2 B2
  obtain ⟨f0, f1⟩ := Blk2f B2
  clear hb2
  have HS2 := HS
  go_wp2_with fail
  refine (HG.out w2 Bel2).mono ?_
  rintro e w3 ⟨u, rfl, hc, hb3⟩
  have Bel3 : Below w.heap.size w w3 := bs_trans Bel2 hb3
  replace HS := Lib.hid (Nat.le_trans HS.out hb3.size)
  replace B0 := B0.kept hb3
  replace B1 := B1.kept hb3
  replace B2 := B2.kept hb3
  obtain ⟨a0, a1⟩ := Blk2 B0
  obtain ⟨b0, b1⟩ := Blk2 B1
  obtain ⟨r0, r1⟩ := Blk2 B2
  obtain ⟨f0, f1⟩ := Blk2f B2
  obtain ⟨s1, q1, c1, rfl⟩ := can_agg hc
  have HC := Lib.hid hc
  clear hc
  clear hb3
  go_wp2_with fail
  have hle := HS2.out
  exact bodyPost_ret (v := .tuple #[.agg #[.bool s1, .slice q1 (nl G.natAbs) c1], .int .i64 0]) (by simp [results, Try.results22, go_sem, r0, r1]) rfl
    ⟨_, rfl, ((HC.out.set (by show w.heap.size + 1 + 1 < w2.heap.size; omega) _).set (by show w.heap.size + 1 + 1 < w2.heap.size; omega) _).mono (by omega), bs_set (bs_set Bel3 (by show w.heap.size ≤ w.heap.size + 1 + 1; omega) _) (by show w.heap.size ≤ w.heap.size + 1 + 1; omega) _⟩
end Go.Proofs.Ytmfimkndonlheaa

namespace Go.Proofs.Ytmfimkndonlheaa
open Go.RowKit PB

set_option maxHeartbeats 1600000 in
set_option maxRecDepth 100000 in
theorem same_yes (N1 N2 : Nat) (s t : Bool) (q r : Option Addr) (n c m d : Nat) (z er : Int) (w : World) (h1 : IsCan N1 w (.agg #[.bool s, .slice q n c]) z) (h2 : IsCan N2 w (.agg #[.bool t, .slice r m d]) z) :
    Calls Try.prog 24 #[.agg #[.bool s, .slice q n c], .int .i64 er, .agg #[.bool t, .slice r m d], .int .i64 er] w fun e w' => e = .returned (.bool true) ∧ Below w.heap.size w w' := by
  have t0 : (er == er) = true := by simp
  go_enter Try.func24, Try.ntmps24
  go_upto_region 1 with fail
  generalize hW : World.alloc _ _ = W
  have B0 : Blk W w.heap.size #[.bool s, .slice q n c] := by rw [← hW]; exact (blk_new rfl).alloc _
  have B1 : Blk W (w.heap.size + 1) #[.bool t, .slice r m d] := by rw [← hW]; exact blk_new (by simp)
  have hbW : Below w.heap.size w W := by rw [← hW]; exact bs_alloc (bs_alloc (Below.refl _ _) _) _
  obtain ⟨a0, a1⟩ := Blk2 B0
  obtain ⟨b0, b1⟩ := Blk2 B1
  have h3 := h1.kept hbW
  have h4 := h2.kept hbW
  clear hW h1 h2 B0 B1
  go_wp2_with fail
  refine (same_ref N1 N2 _ _ z W h3 h4).mono ?_
  rintro e w1 ⟨rfl, hx⟩
  have HB := bs_trans hbW hx
  clear h3 h4 hx hbW a0 a1 b0 b1
  go_wp2_with fail
  go_ret
  exact ⟨rfl, HB⟩

end Go.Proofs.Ytmfimkndonlheaa

/- Plain arithmetic of Lehmer's form of Euclid's algorithm. It speaks of no program. -/
namespace PB
/-- D N + u p + v q is at least k D, if N + u and N + v are at least k, for p and q from 0 to D. -/
theorem lin_ge {D p q N u v k : Int} (hp0 : 0 ≤ p) (hpD : p ≤ D) (hq0 : 0 ≤ q) (hqD : q ≤ D) (h1 : k ≤ N + u) (h2 : k ≤ N + v) (hs : (u ≤ 0 ∧ 0 ≤ v) ∨ (0 ≤ u ∧ v ≤ 0)) : k * D ≤ D * N + u * p + v * q := by
  have hD : 0 ≤ D := by omega
  rcases hs with ⟨a, b⟩ | ⟨a, b⟩
  · have e1 : 0 ≤ (-u) * (D - p) := Int.mul_nonneg (by omega) (by omega)
    have e2 : 0 ≤ v * q := Int.mul_nonneg b hq0
    have e3 : 0 ≤ (N + u - k) * D := Int.mul_nonneg (by omega) hD
    grind
  · have e1 : 0 ≤ (-v) * (D - q) := Int.mul_nonneg (by omega) (by omega)
    have e2 : 0 ≤ u * p := Int.mul_nonneg a hp0
    have e3 : 0 ≤ (N + v - k) * D := Int.mul_nonneg (by omega) hD
    grind
/-- One is behind 2^31 if its product with something greater is below 2^62. -/
theorem half_bits {u n M : Int} (_hu : 0 ≤ u) (h : u < n) (hM : M < 4611686018427387904) (hp : u * n ≤ M) : u < 2147483648 := by
  apply Int.lt_of_not_ge
  intro hge
  have e1 : 0 ≤ (u - 2147483648) * n := Int.mul_nonneg (by omega) (by omega)
  have e2 : 0 ≤ 2147483648 * (n - 2147483648) := by omega
  grind
/-- What foresee has at the head of a round: the heads of x and y are m0 and n0, behind which they have D p q. -/
structure Leh (x y D m0 n0 a b c d m n : Int) : Prop where
  em : m = a * m0 + b * n0
  en : n = c * m0 + d * n0
  sgn : (0 ≤ a ∧ b ≤ 0 ∧ c ≤ 0 ∧ 0 ≤ d) ∨ (a ≤ 0 ∧ 0 ≤ b ∧ 0 ≤ c ∧ d ≤ 0)
  det : a * d - b * c = 1 ∨ a * d - b * c = -1
  ma : 0 ≤ m + a
  mb : 0 ≤ m + b
  nc : 0 ≤ n + c
  nd : 0 ≤ n + d
  m0' : 0 ≤ m
  n0' : 0 ≤ n
  mlt : m < 4611686018427387904
  nlt : n < 4611686018427387904
  ba : -2147483648 < a ∧ a < 2147483648
  bb : -2147483648 < b ∧ b < 2147483648
  bc : -2147483648 < c ∧ c < 2147483648
  bd : -2147483648 < d ∧ d < 2147483648
  y0 : 0 ≤ c * x + d * y
  yle : c * x + d * y ≤ y
  gcd : Int.gcd (a * x + b * y) (c * x + d * y) = Int.gcd x y
  go : b = 0 ∨ (a * x + b * y ≤ y ∧ c * x + d * y < a * x + b * y)
theorem leh_start {x y D m0 n0 : Int} (hm : 0 ≤ m0) (hm2 : m0 < 4611686018427387904) (hn : 0 ≤ n0) (hn2 : n0 < 4611686018427387904) (hy : 0 ≤ y) : Leh x y D m0 n0 1 0 0 1 m0 n0 := by
  refine ⟨by omega, by omega, by omega, by omega, by omega, by omega, by omega, by omega, hm, hn, hm2, hn2, by omega, by omega, by omega, by omega, by omega, by omega, ?_, Or.inl rfl⟩
  rw [Int.one_mul, Int.zero_mul, Int.zero_mul, Int.one_mul, Int.add_zero, Int.zero_add]
theorem gcd_step (X Y q : Int) : Int.gcd Y (X - q * Y) = Int.gcd X Y := by
  rw [Int.gcd_comm X Y]
  apply Nat.dvd_antisymm
  · apply Int.dvd_gcd
    · exact Int.gcd_dvd_left ..
    · have h1 := Int.gcd_dvd_left (a := Y) (b := X - q * Y)
      have h2 := Int.gcd_dvd_right (a := Y) (b := X - q * Y)
      have h3 := Int.dvd_add h2 (Int.dvd_mul_of_dvd_right (b := q) h1)
      rwa [Int.sub_add_cancel] at h3
  · apply Int.dvd_gcd
    · exact Int.gcd_dvd_left ..
    · have h1 := Int.gcd_dvd_left (a := Y) (b := X)
      have h2 := Int.gcd_dvd_right (a := Y) (b := X)
      exact Int.dvd_sub h2 (Int.dvd_mul_of_dvd_right (b := q) h1)
/-- One round of foresee. -/
theorem leh_step {x y D p s m0 n0 a b c d m n q : Int} (h : Leh x y D m0 n0 a b c d m n) (hx : x = D * m0 + p) (hy : y = D * n0 + s) (hp0 : 0 ≤ p) (hpD : p < D) (hs0 : 0 ≤ s) (hsD : s < D)
    (hm0 : 0 ≤ m0) (hm2 : m0 < 4611686018427387904) (hn0 : 0 ≤ n0) (hn2 : n0 < 4611686018427387904)
    (hc : n + c ≠ 0) (hd : n + d ≠ 0) (hq1 : (m + a) / (n + c) = q) (hq2 : (m + b) / (n + d) = q) :
    Leh x y D m0 n0 c d (a - q * c) (b - q * d) n (m - q * n) ∧ m - q * n < n ∧ 0 ≤ q * n ∧ q * n ≤ m + 2147483648 := by
  obtain ⟨em, en, sgn, det, ma, mb, nc, nd, m0', n0', mlt, nlt, ba, bb, bc, bd, y0, yle, gcd, go⟩ := h
  have r1 := Int.emod_nonneg (m + a) hc
  have r2 := Int.emod_lt_of_pos (m + a) (show 0 < n + c by omega)
  have r3 := Int.emod_nonneg (m + b) hd
  have r4 := Int.emod_lt_of_pos (m + b) (show 0 < n + d by omega)
  have hq0 : 0 ≤ q := by rw [← hq1]; exact Int.ediv_nonneg ma nc
  rw [Int.emod_def, hq1] at r1 r2
  rw [Int.emod_def, hq2] at r3 r4
  rw [Int.add_mul, Int.mul_comm n q, Int.mul_comm c q] at r1 r2
  rw [Int.add_mul, Int.mul_comm n q, Int.mul_comm d q] at r3 r4
  -- the signs of the products
  have sqc : (c ≤ 0 ∧ q * c ≤ 0) ∨ (0 ≤ c ∧ 0 ≤ q * c) := by
    by_cases e : c ≤ 0
    · exact Or.inl ⟨e, Int.mul_nonpos_of_nonneg_of_nonpos hq0 e⟩
    · exact Or.inr ⟨by omega, Int.mul_nonneg hq0 (by omega)⟩
  have sqd : (d ≤ 0 ∧ q * d ≤ 0) ∨ (0 ≤ d ∧ 0 ≤ q * d) := by
    by_cases e : d ≤ 0
    · exact Or.inl ⟨e, Int.mul_nonpos_of_nonneg_of_nonpos hq0 e⟩
    · exact Or.inr ⟨by omega, Int.mul_nonneg hq0 (by omega)⟩
  have sqn : 0 ≤ q * n := Int.mul_nonneg hq0 n0'
  have zc : c = 0 → q * c = 0 := by rintro rfl; exact Int.mul_zero _
  have zd : d = 0 → q * d = 0 := by rintro rfl; exact Int.mul_zero _
  have sgn' : (0 ≤ c ∧ d ≤ 0 ∧ a - q * c ≤ 0 ∧ 0 ≤ b - q * d) ∨ (c ≤ 0 ∧ 0 ≤ d ∧ 0 ≤ a - q * c ∧ b - q * d ≤ 0) := by omega
  -- the new numbers
  have en' : m - q * n = (a - q * c) * m0 + (b - q * d) * n0 := by rw [em, en]; grind
  have det' : c * (b - q * d) - d * (a - q * c) = 1 ∨ c * (b - q * d) - d * (a - q * c) = -1 := by
    have e : c * (b - q * d) - d * (a - q * c) = -(a * d - b * c) := by grind
    omega
  have hn' : 0 ≤ m - q * n := by omega
  have hlt : m - q * n < n := by omega
  have hcn : -n < a - q * c ∧ a - q * c < n := by omega
  have hdn : -n < b - q * d ∧ b - q * d < n := by omega
  -- their products with n are below the heads
  have p1 : (b - q * d) * n - d * (m - q * n) = m0 ∨ (b - q * d) * n - d * (m - q * n) = -m0 := by
    have e : (b - q * d) * n - d * (m - q * n) = (c * (b - q * d) - d * (a - q * c)) * m0 := by rw [en', en]; grind
    rcases det' with e2 | e2
    · left; rw [e, e2, Int.one_mul]
    · right; rw [e, e2]; omega
  have p2 : c * (m - q * n) - (a - q * c) * n = n0 ∨ c * (m - q * n) - (a - q * c) * n = -n0 := by
    have e : c * (m - q * n) - (a - q * c) * n = (c * (b - q * d) - d * (a - q * c)) * n0 := by rw [en', en]; grind
    rcases det' with e2 | e2
    · left; rw [e, e2, Int.one_mul]
    · right; rw [e, e2]; omega
  have bc' : -2147483648 < a - q * c ∧ a - q * c < 2147483648 := by
    generalize hu : a - q * c = u at *
    rcases sgn' with ⟨s1, _, s3, _⟩ | ⟨s1, _, s3, _⟩
    · have e1 : 0 ≤ c * (m - q * n) := Int.mul_nonneg s1 hn'
      have e2 : 0 ≤ (-u) * n := Int.mul_nonneg (by omega) n0'
      rw [Int.neg_mul] at e2
      have := half_bits (u := -u) (n := n) (M := n0) (by omega) (by omega) hn2 (by rw [Int.neg_mul]; omega)
      omega
    · have e1 : c * (m - q * n) ≤ 0 := Int.mul_nonpos_of_nonpos_of_nonneg s1 hn'
      have e2 : 0 ≤ u * n := Int.mul_nonneg s3 n0'
      have := half_bits (u := u) (n := n) (M := n0) s3 (by omega) hn2 (by omega)
      omega
  have bd' : -2147483648 < b - q * d ∧ b - q * d < 2147483648 := by
    generalize hv : b - q * d = v at *
    rcases sgn' with ⟨_, s2, _, s4⟩ | ⟨_, s2, _, s4⟩
    · have e1 : d * (m - q * n) ≤ 0 := Int.mul_nonpos_of_nonpos_of_nonneg s2 hn'
      have e2 : 0 ≤ v * n := Int.mul_nonneg s4 n0'
      have := half_bits (u := v) (n := n) (M := m0) s4 (by omega) hm2 (by omega)
      omega
    · have e1 : 0 ≤ d * (m - q * n) := Int.mul_nonneg s2 hn'
      have e2 : 0 ≤ (-v) * n := Int.mul_nonneg (by omega) n0'
      rw [Int.neg_mul] at e2
      have := half_bits (u := -v) (n := n) (M := m0) (by omega) (by omega) hm2 (by rw [Int.neg_mul]; omega)
      omega
  -- the whole numbers
  have eY : (a - q * c) * x + (b - q * d) * y = (a * x + b * y) - q * (c * x + d * y) := by grind
  have eD : (a - q * c) * x + (b - q * d) * y = D * (m - q * n) + (a - q * c) * p + (b - q * d) * s := by rw [en', hx, hy]; grind
  have eE : (c * x + d * y) - ((a - q * c) * x + (b - q * d) * y) = D * (n - (m - q * n)) + (c - (a - q * c)) * p + (d - (b - q * d)) * s := by rw [eD, hx, hy, en]; grind
  have g1 := lin_ge (D := D) (p := p) (q := s) (N := m - q * n) (u := a - q * c) (v := b - q * d) (k := 0) hp0 (by omega) hs0 (by omega) (by omega) (by omega) (by omega)
  have g2 := lin_ge (D := D) (p := p) (q := s) (N := n - (m - q * n)) (u := c - (a - q * c)) (v := d - (b - q * d)) (k := 1) hp0 (by omega) hs0 (by omega) (by omega) (by omega) (by omega)
  rw [Int.zero_mul, ← eD] at g1
  rw [Int.one_mul, ← eE] at g2
  refine ⟨⟨en, en', by omega, det', nc, nd, by omega, by omega, n0', hn', nlt, by omega, bc, bd, bc', bd', g1, by omega, ?_, Or.inr ⟨yle, by omega⟩⟩, hlt, sqn, by omega⟩
  rw [eY, gcd_step]
  exact gcd
end PB

/- integer.head: the low 64 bits of x / 2^n. -/
namespace PB
open Go
def M64 : Nat := 18446744073709551616
theorem M64_pow : M64 = 2^64 := rfl
/-- What the first i limbs of Z give. -/
def hd (Z p i : Nat) : Nat := Z % B^i / 2^p % M64
theorem hd_lt (Z p i : Nat) : hd Z p i < M64 := Nat.mod_lt _ (by decide)
theorem B_two_pow (i : Nat) : B^i = 2^(32*i) := by rw [Nat.pow_mul]; rfl
theorem hd_low {Z p i s : Nat} (hs : 32 * i = p + s) (hs2 : s ≤ 64) : hd Z p i = Z % B^i / 2^p ∧ hd Z p i < 2^s := by
  have h1 : Z % B^i / 2^p < 2^s := Nat.div_lt_of_lt_mul (by rw [← Nat.pow_add, ← hs, ← B_two_pow]; exact mod_lt_pow _ _)
  have h2 : 2^s ≤ M64 := by rw [M64_pow]; exact Nat.pow_le_pow_right (by decide) hs2
  unfold hd
  rw [Nat.mod_eq_of_lt (by omega)]
  exact ⟨rfl, h1⟩
theorem hd_step {Z p i s : Nat} (hs : 32 * i = p + s) (hs2 : s ≤ 64) : hd Z p (i+1) = hd Z p i + dg Z i * 2^s % M64 ∧ (dg Z i * 2^s % M64) % 2^s = 0 := by
  obtain ⟨e1, e2⟩ := hd_low (Z := Z) hs hs2
  have e3 : Z % B^(i+1) / 2^p = hd Z p i + dg Z i * 2^s := by
    rw [mod_succ, B_two_pow i, hs, Nat.pow_add, Nat.mul_comm (2^p), ← Nat.mul_assoc, Nat.add_mul_div_right _ _ (Nat.pow_pos (by decide)), e1, B_two_pow i, hs, Nat.pow_add, Nat.mul_comm (2^p)]
  have e4 : M64 = 2^s * 2^(64 - s) := by rw [← Nat.pow_add, show s + (64 - s) = 64 by omega]; rfl
  have e5 : dg Z i * 2^s % M64 = dg Z i % 2^(64 - s) * 2^s := by rw [e4, Nat.mul_comm (2^s), Nat.mul_mod_mul_right]
  refine ⟨?_, by rw [e5]; exact Nat.mul_mod_left _ _⟩
  have e6 : hd Z p i + dg Z i * 2^s % M64 < M64 := by
    rw [e5]
    have h1 : dg Z i % 2^(64 - s) < 2^(64 - s) := Nat.mod_lt _ (Nat.pow_pos (by decide))
    have h2 : (dg Z i % 2^(64 - s) + 1) * 2^s ≤ 2^(64 - s) * 2^s := Nat.mul_le_mul_right _ h1
    rw [Nat.mul_comm (2^(64 - s)), ← e4, Nat.add_mul] at h2
    omega
  conv => lhs; unfold hd
  rw [e3, Nat.add_mod, Nat.mod_eq_of_lt (hd_lt Z p i)]
  exact Nat.mod_eq_of_lt e6
theorem hd_end {Z p : Nat} (hp : p < 32) : hd Z p 3 = Z / 2^p % M64 := by
  have e : Z % B^3 / 2^p = Z / 2^p % 2^(96 - p) := by
    rw [B_two_pow 3, show 32 * 3 = p + (96 - p) by omega, Nat.pow_add, Nat.mod_mul_right_div_self]
  unfold hd
  rw [e, M64_pow]
  exact Nat.mod_mod_of_dvd _ (Nat.pow_dvd_pow 2 (by omega))
theorem hd_all {Z p i : Nat} (h : Z < B^i) : hd Z p i = Z / 2^p % M64 := by unfold hd; rw [Nat.mod_eq_of_lt h]
theorem hd_whole {X n q p : Nat} (hn : n = 32 * q + p) : X / B^q / 2^p = X / 2^n := by rw [B_two_pow, Nat.div_div_eq_div_mul, ← Nat.pow_add, hn]
theorem hd_bits {h d s : Nat} (hh : h < 2^s) (hd : (d * 2^s % M64) % 2^s = 0) (hh2 : h < M64) : bits BinOp.or IntKind.u64 (h : Int) ((d * 2^s % M64 : Nat) : Int) = ((h + d * 2^s % M64 : Nat) : Int) := by
  have hm : d * 2^s % M64 < M64 := Nat.mod_lt _ (by decide)
  generalize d * 2^s % M64 = v at *
  rw [u64_or_nat _ _ hh2 hm, Nat.or_comm, nat_join s _ _ hd hh, Nat.add_comm]
theorem hd_or {Z p j s : Nat} (hs : 32 * j = p + s) (hs2 : s ≤ 64) : bits BinOp.or IntKind.u64 (hd Z p j : Int) (IntKind.u64.wrap ((dg Z j : Int) * 2^s)) = (hd Z p (j+1) : Nat) := by
  obtain ⟨e1, e2⟩ := hd_step (Z := Z) hs hs2
  have e3 : IntKind.u64.wrap ((dg Z j : Int) * 2^s) = ((dg Z j * 2^s % M64 : Nat) : Int) := by
    have e4 : (dg Z j : Int) * 2^s = ((dg Z j * 2^s : Nat) : Int) := by rw [Int.natCast_mul]; rfl
    rw [e4, IntKind.wrap_u64]
    generalize dg Z j * 2^s = v
    unfold M64
    omega
  rw [e3, hd_bits (hd_low hs hs2).2 e2 (hd_lt Z p j), e1]
end PB
namespace Go.Proofs.Ytmfimkndonlheaa
open Go.RowKit PB

set_option maxHeartbeats 1600000 in
set_option maxRecDepth 100000 in
theorem head_any (base : Option Addr) (b off X c k q p : Nat) (w : World) (hb : nl X ≠ 0 → base = some ⟨b, off, none⟩) (hX : Num w b off (nl X) X) (hk : k = 32 * q + p) (hp : p < 32) (hk2 : k ≤ 100000) (hl : nl X ≤ 1000000000) (R : Nat) (hR : X / 2^k % M64 = R) :
    Calls Try.prog 84 #[.slice base (nl X) c, .int .i64 k] w fun e w' => e = .returned (.int .u64 R) ∧ w = w' := by
  have e1 : (k : Int) / 32 = q := by omega
  have e2 : (k : Int) % 32 = p := by omega
  have HW := Lib.hid (hd_whole (X := X) hk)
  rw [← hd_whole (X := X) hk] at hR
  clear hk
  by_cases hq : nl X ≤ q
  · rw [Nat.div_eq_of_lt (nl_le_iff.1 hq), Nat.zero_div, Nat.zero_mod] at hR
    subst hR
    have i1 : (nl X : Int) ≤ q := by omega
    clear HW hq hX hb
    go_enter Try.func84, Try.ntmps84
    go_wp2
    go_ret
    exact ⟨rfl, rfl⟩
  · obtain ⟨N, hN⟩ : ∃ N, nl X = N := ⟨_, rfl⟩
    rw [hN] at hX hb hq hl ⊢
    obtain rfl := hb (by omega)
    obtain ⟨Z, hZ⟩ : ∃ Z, X / B^q = Z := ⟨_, rfl⟩
    have hZn := hX.high (k := q) (by omega)
    rw [hZ] at hZn
    rw [hZ] at hR
    have HWX := Lib.hid hX.lt
    have c1 := hZn.cell (i := 0) (by omega)
    rw [Nat.add_zero] at c1
    have hd0 := dg_lt' Z 0
    have i1 : ¬ (N : Int) ≤ q := by omega
    have i2 : (q : Int) < N := by omega
    have i3 : (0 : Int) ≤ q := by omega
    have i4 : (0 : Int) ≤ p := by omega
    have i5 : (p : Int) < 32 := by omega
    have HH1 : Hid (dg Z 0 / 2^p = hd Z p 1) := Lib.hid (by
      have := (hd_low (Z := Z) (p := p) (i := 1) (s := 32 - p) (by omega) (by omega)).1
      rw [this, mod_succ, Nat.pow_zero, Nat.mod_one, Nat.mul_one, Nat.zero_add])
    have HR := Lib.hid hR
    have HZN := Lib.hid hZn.lt
    clear hb hN hZ hX hq HW hR
    go_enter Try.func84, Try.ntmps84
    go_wp2_with fail
    go_loop [7, 8] (fun h i => ∃ j : Nat, 1 ≤ j ∧ j ≤ 3 ∧ q + j ≤ N ∧ h = .int .u64 (hd Z p j : Nat) ∧ i = .int .i64 j) (fun _ i => 3 - (intOf i).toNat)
    case atStart => exact ⟨1, by omega, by omega, by omega, by rw [← HH1.out, Int.natCast_ediv]; rfl, rfl⟩
    case round =>
      obtain ⟨j, hj1, hj3, hjN, rfl, rfl⟩ := hrel
      have k1 : (1 : Int) ≤ j := by omega
      by_cases hc : j < 3 ∧ q + j < N
      · obtain ⟨hc1, hc2⟩ := hc
        have c2 := hZn.cell (i := j) (by omega)
        rw [Nat.add_assoc] at c2
        have hdj := dg_lt' Z j
        obtain ⟨s, hs⟩ : ∃ s, 32 * j = p + s := ⟨32 * j - p, by omega⟩
        have e3 : (32 : Int) * j - p = s := by omega
        have j1 : (j : Int) < 3 := by omega
        have j2 : (q : Int) + j < N := by omega
        have j3 : (0 : Int) ≤ s := by omega
        have j4 : (s : Int) < 128 := by omega
        have HS := Lib.hid hs
        clear hs c1
        go_wp2_with fail
        go_round
        case rel =>
          refine ⟨j + 1, by omega, by omega, by omega, ?_, by go_num⟩
          rw [hd_or (by have := HS.out; exact this) (by have := HS.out; omega)]
        case measure => simp [intOf]; omega
      · have HE : Hid (hd Z p j = R) := Lib.hid (by
          rw [← HR.out]
          by_cases h3 : j = 3
          · rw [h3]; exact hd_end hp
          · exact hd_all (by rw [show j = N - q by omega]; exact HZN.out))
        clear c1
        go_wp2_with fail
        all_goals
          go_ret
          exact ⟨by rw [← HE.out]; rfl, rfl⟩
end Go.Proofs.Ytmfimkndonlheaa
