/-
  The walk of IntegerWords (written by wip/genwords.py).
  integer.foresee: the steps of Euclid's algorithm that the heads decide.
-/
import Derived.Test.YtmfimkndonlheaaM16
import Derived.Test.YtmfimkndonlheaaM18
import Derived.Test.YtmfimkndonlheaaM23
import Derived.Test.YtmfimkndonlheaaM24
import Derived.Test.YtmfimkndonlheaaM25
import Derived.Test.YtmfimkndonlheaaM48
namespace Go.Proofs.Ytmfimkndonlheaa
open Go.RowKit PB
theorem wd_less {v1 v2 : Value} {z1 z2 : Int} (w : World) (h1 : IsInt w v1 z1) (h2 : IsInt w v2 z2) (e : z1 < z2) :
    Calls Try.prog 36 #[v1, v2] w fun e w' => e = .returned (.int .i64 (-1)) ∧ Below w.heap.size w w' := by
  have h := cmp_any v1 v2 z1 z2 w h1 h2
  rwa [show cmpi z1 z2 = -1 by unfold cmpi; rw [if_pos e]] at h
theorem wd_greater {v1 v2 : Value} {z1 z2 : Int} (w : World) (h1 : IsInt w v1 z1) (h2 : IsInt w v2 z2) (e : z2 < z1) :
    Calls Try.prog 36 #[v1, v2] w fun e w' => e = .returned (.int .i64 1) ∧ Below w.heap.size w w' := by
  have h := cmp_any v1 v2 z1 z2 w h1 h2
  rwa [show cmpi z1 z2 = 1 by unfold cmpi; rw [if_neg (by omega), if_pos e]] at h
theorem wd_mul {X Y : Int} (h1 : -1073741824 ≤ X) (h2 : X ≤ 1073741823) (h3 : -1073741824 ≤ Y) (h4 : Y ≤ 1073741823) : -9223372036854775808 ≤ X * Y ∧ X * Y ≤ 9223372036854775807 := by
  have h : (X * Y).natAbs ≤ 1073741824 * 1073741824 := by
    rw [Int.natAbs_mul]
    exact Nat.mul_le_mul (by omega) (by omega)
  omega
theorem wd_wrap {z : Int} (h1 : -9223372036854775808 ≤ z) (h2 : z ≤ 9223372036854775807) : IntKind.i64.wrap z = z := by
  rw [IntKind.wrap_i64]
  omega
theorem wd_quo {x y : Int} (h1 : -9223372036854775808 ≤ x) (h2 : x ≤ 9223372036854775807) (h3 : y ≠ 0) (h4 : y ≠ -1) : -9223372036854775808 ≤ x.tdiv y ∧ x.tdiv y ≤ 9223372036854775807 := by
  by_cases hy : y = 1
  · subst hy
    rw [Int.tdiv_one]
    exact ⟨h1, h2⟩
  · have h : (x.tdiv y).natAbs * 2 ≤ x.natAbs := by
      rw [Int.natAbs_tdiv]
      exact Nat.le_trans (Nat.mul_le_mul_left _ (show 2 ≤ y.natAbs by omega)) (Nat.div_mul_le_self _ _)
    omega
theorem wd_rem {x y : Int} (h1 : -9223372036854775808 ≤ y) (h2 : y ≤ 9223372036854775807) (h3 : y ≠ 0) : -9223372036854775808 ≤ x.tmod y ∧ x.tmod y ≤ 9223372036854775807 := by
  have h : (x.tmod y).natAbs < y.natAbs := by
    rw [Int.natAbs_tmod]
    exact Nat.mod_lt _ (by omega)
  omega
theorem wd_big {z : Int} (h1 : -9223372036854775808 ≤ z) (h2 : z ≤ 9223372036854775807) : sm 2 z := by
  unfold sm B
  omega
end Go.Proofs.Ytmfimkndonlheaa

namespace PB
open Go Go.RowKit
theorem Blk4 {w : World} {g : Nat} {v0 v1 v2 v3 : Value} (h : Blk w g #[v0, v1, v2, v3]) : w.cell? ⟨g, 0, none⟩ = some v0 ∧ w.cell? ⟨g, 1, none⟩ = some v1 ∧ w.cell? ⟨g, 2, none⟩ = some v2 ∧ w.cell? ⟨g, 3, none⟩ = some v3 := ⟨h.cell 0 _ rfl, h.cell 1 _ rfl, h.cell 2 _ rfl, h.cell 3 _ rfl⟩
theorem Blk4f {w : World} {g : Nat} {v0 v1 v2 v3 : Value} (h : Blk w g #[v0, v1, v2, v3]) : w.frozen? ⟨g, 0, none⟩ = false ∧ w.frozen? ⟨g, 1, none⟩ = false ∧ w.frozen? ⟨g, 2, none⟩ = false ∧ w.frozen? ⟨g, 3, none⟩ = false := ⟨h.free 0, h.free 1, h.free 2, h.free 3⟩
theorem Blk4s {w : World} {g : Nat} {v0 v1 v2 v3 : Value} (h : Blk w g #[v0, v1, v2, v3]) (u0 u1 u2 u3 : Value) : Blk ((((w.setCell ⟨g, 0, none⟩ u0).setCell ⟨g, 1, none⟩ u1).setCell ⟨g, 2, none⟩ u2).setCell ⟨g, 3, none⟩ u3) g #[u0, u1, u2, u3] :=
  (((h.set 0 u0).set 1 u1).set 2 u2).set 3 u3
/-- What combine may make of X and Y. -/
structure Fac (X Y : Nat) (a b c d : Int) : Prop where
  ba : -2147483648 < a ∧ a < 2147483648
  bb : -2147483648 < b ∧ b < 2147483648
  bc : -2147483648 < c ∧ c < 2147483648
  bd : -2147483648 < d ∧ d < 2147483648
  sgn : (0 ≤ a ∧ b ≤ 0 ∧ c ≤ 0 ∧ 0 ≤ d) ∨ (a ≤ 0 ∧ 0 ≤ b ∧ 0 ≤ c ∧ d ≤ 0)
  go : b = 0 ∨ ∃ x y : Nat, a * X + b * Y = x ∧ c * X + d * Y = y ∧ x ≤ Y ∧ y < x ∧ Nat.gcd x y = Nat.gcd X Y
theorem Leh.fac {X Y : Nat} {D m0 n0 a b c d m n : Int} (h : Leh X Y D m0 n0 a b c d m n) : Fac X Y a b c d := by
  refine ⟨h.ba, h.bb, h.bc, h.bd, h.sgn, ?_⟩
  rcases h.go with g | ⟨g1, g2⟩
  · exact Or.inl g
  · right
    obtain ⟨y, hy⟩ := Int.eq_ofNat_of_zero_le h.y0
    obtain ⟨x, hx⟩ := Int.eq_ofNat_of_zero_le (show 0 ≤ a * X + b * Y by have := h.y0; omega)
    refine ⟨x, y, hx, hy, by omega, by omega, ?_⟩
    have e := h.gcd
    rw [hx, hy] at e
    exact e
theorem head_of {X K : Nat} (h : X < 2^(K + 62)) : X / 2^K % M64 = X / 2^K ∧ X / 2^K < 4611686018427387904 := by
  have h1 : X / 2^K < 2^62 := Nat.div_lt_of_lt_mul (by rw [← Nat.pow_add]; exact h)
  have h2 : (2:Nat)^62 = 4611686018427387904 := rfl
  rw [h2] at h1
  exact ⟨Nat.mod_eq_of_lt (by unfold M64; omega), h1⟩
theorem bl_lt (X : Nat) : X < 2^(bl X) := by
  by_cases h0 : X = 0
  · subst h0; exact Nat.pow_pos (by decide)
  · unfold bl
    rw [if_neg h0]
    obtain ⟨j, hj⟩ : ∃ j, nl X = j + 1 := ⟨nl X - 1, by have := mt nl_eq_zero.1 h0; omega⟩
    rw [hj, Nat.add_sub_cancel]
    have hX := lt_nl X
    rw [hj] at hX
    have hd0 : dg X j ≠ 0 := by have := nl_top h0; rwa [hj, Nat.add_sub_cancel] at this
    have hb := (Lib.bitLenAux_bounds 64 (dg X j) (Nat.lt_trans (dg_lt X j) (by decide)) hd0).2.2
    change dg X j < 2^(Lib.bitLen (dg X j)) at hb
    have e := mod_succ X j
    rw [mod_of_lt hX] at e
    have h1 := mod_lt_pow X j
    have h2 : (dg X j + 1) * B^j ≤ 2^(Lib.bitLen (dg X j)) * B^j := Nat.mul_le_mul_right _ hb
    rw [Nat.add_mul, Nat.one_mul] at h2
    rw [Nat.add_comm (32 * j), Nat.pow_add, ← B_two_pow]
    omega
theorem bl_ge {X : Nat} (h : 2 < nl X) : 65 ≤ bl X := by
  have h0 : X ≠ 0 := by rintro rfl; rw [nl_zero] at h; omega
  unfold bl
  rw [if_neg h0]
  have hb := (Lib.bitLenAux_bounds 64 (dg X (nl X - 1)) (Nat.lt_trans (dg_lt X _) (by decide)) (nl_top h0)).1
  change 1 ≤ Lib.bitLen (dg X (nl X - 1)) at hb
  omega
theorem bl_le (X : Nat) : bl X ≤ 32 * nl X + 32 := by
  unfold bl
  split
  · omega
  · have := Lib.bitLen_le (dg X (nl X - 1)) 32 (by decide) (by have := dg_lt X (nl X - 1); unfold B at this; omega)
    omega
end PB
namespace Go.Proofs.Ytmfimkndonlheaa
open Go.RowKit PB

set_option maxHeartbeats 6400000 in
set_option maxRecDepth 100000 in
theorem foresee_any (basex basey : Option Addr) (bx ox X cx by_ oy Y cy : Nat) (w : World) (hbx : nl X ≠ 0 → basex = some ⟨bx, ox, none⟩) (hby : nl Y ≠ 0 → basey = some ⟨by_, oy, none⟩)
    (hX : Num w bx ox (nl X) X) (hY : Num w by_ oy (nl Y) Y) (hc : nl X ≤ 1000) (hle : Y ≤ X) (hy3 : 2 < nl Y) :
    Calls Try.prog 82 #[.slice basex (nl X) cx, .slice basey (nl Y) cy] w (fun e w' => ∃ a b c d : Int, e = .returned (.agg #[.int .i64 a, .int .i64 b, .int .i64 c, .int .i64 d]) ∧ Fac X Y a b c d ∧ Below w.heap.size w w') := by
  have hnle := nl_mono hle
  have hbl1 := bl_ge (X := X) (by omega)
  have hbl2 := bl_le X
  obtain ⟨K, hK⟩ : ∃ K, bl X = K + 62 := ⟨bl X - 62, by omega⟩
  have hXlt := bl_lt X
  rw [hK] at hXlt
  obtain ⟨q, p, hqp, hp⟩ : ∃ q p, K = 32 * q + p ∧ p < 32 := ⟨K / 32, K % 32, by omega, by omega⟩
  obtain ⟨hm, hm2⟩ := head_of hXlt
  obtain ⟨hn, hn2⟩ := head_of (Nat.lt_of_le_of_lt hle hXlt)
  have LEN := Lib.hid (fun W (h : Below w.heap.size w W) => length_any basex bx ox cx X W hbx (hX.kept h) (by omega))
  rw [hK] at LEN
  have H1 := Lib.hid (fun W (h : Below w.heap.size w W) => head_any basex bx ox X cx K q p W hbx (hX.kept h) hqp hp (by omega) (by omega) _ hm)
  have H2 := Lib.hid (fun W (h : Below w.heap.size w W) => head_any basey by_ oy Y cy K q p W hby (hY.kept h) hqp hp (by omega) (by omega) _ hn)
  obtain ⟨m0, hm0⟩ : ∃ m, X / 2^K = m := ⟨_, rfl⟩
  obtain ⟨n0, hn0⟩ : ∃ m, Y / 2^K = m := ⟨_, rfl⟩
  rw [hm0] at H1 hm2
  rw [hn0] at H2 hn2
  have HX : Hid ((X : Int) = ((2^K : Nat) : Int) * m0 + ((X % 2^K : Nat) : Int)) := Lib.hid (by rw [← Int.natCast_mul, ← Int.natCast_add, ← hm0, Nat.div_add_mod])
  have HY : Hid ((Y : Int) = ((2^K : Nat) : Int) * n0 + ((Y % 2^K : Nat) : Int)) := Lib.hid (by rw [← Int.natCast_mul, ← Int.natCast_add, ← hn0, Nat.div_add_mod])
  have HL0 : Hid (Leh X Y ((2^K : Nat) : Int) m0 n0 1 0 0 1 m0 n0) := Lib.hid (leh_start (by omega) (by omega) (by omega) (by omega) (by omega))
  have HPX : Hid (X % 2^K < 2^K ∧ Y % 2^K < 2^K) := Lib.hid ⟨Nat.mod_lt _ (Nat.pow_pos (by decide)), Nat.mod_lt _ (Nat.pow_pos (by decide))⟩
  have i1 : (K : Int) ≤ 100000 := by omega
  have i2 : (m0 : Int) < 4611686018427387904 := by omega
  have i3 : (n0 : Int) < 4611686018427387904 := by omega
  clear hm2 hn2 hm0 hn0 hm hn hqp hK hXlt hbl1 hbl2 hnle hX hY hbx hby hle
  go_enter Try.func82, Try.ntmps82
  go_upto_region 1 with fail
  generalize hW : World.alloc _ _ = W
  have BR : Blk W w.heap.size #[.int .i64 0, .int .i64 0, .int .i64 0, .int .i64 0] := by rw [← hW]; exact blk_new rfl
  have hb : Below w.heap.size w W := by rw [← hW]; exact (Below.refl _ _).alloc (Nat.le_refl _) _
  have HS : Hid (W.heap.size = w.heap.size + 1) := Lib.hid (by rw [← hW]; simp)
  clear hW
  go_wp2_with fail
  refine (LEN.out W hb).mono ?_
  rintro e w' ⟨rfl, rfl⟩
  go_wp2_with fail
  refine (H1.out W hb).mono ?_
  rintro e w' ⟨rfl, rfl⟩
  go_wp2_with fail
  refine (H2.out W hb).mono ?_
  rintro e w' ⟨rfl, rfl⟩
  go_wp2_with fail
  generalize hV : World.alloc _ _ = V
  obtain ⟨F, hF⟩ : ∃ F, W.heap.size = F := ⟨_, rfl⟩
  rw [hF]
  have BF : Blk V F #[.int .i64 1, .int .i64 0, .int .i64 0, .int .i64 1] := by rw [← hV]; exact blk_new hF.symm
  have BR1 : Blk V w.heap.size #[.int .i64 0, .int .i64 0, .int .i64 0, .int .i64 0] := by rw [← hV]; exact BR.alloc _
  have HBV : Hid (Below w.heap.size w V) := Lib.hid (by rw [← hV]; exact hb.alloc hb.size _)
  have HFR : Hid (w.heap.size < F) := Lib.hid (by have := HS.out; omega)
  clear hV hF BR hb HS LEN H1 H2
  obtain ⟨R, hR⟩ : ∃ R, w.heap.size = R := ⟨_, rfl⟩
  rw [hR] at BR1 HBV HFR ⊢
  have HRR := Lib.hid hR
  clear hR
  go_loopw [6, 7, 9] (fun sm sn _ wr => ∃ a b c d m n : Int, sm = .int .i64 m ∧ sn = .int .i64 n ∧ Hid (Leh X Y ((2^K : Nat) : Int) m0 n0 a b c d m n) ∧ Blk wr F #[.int .i64 a, .int .i64 b, .int .i64 c, .int .i64 d] ∧ Blk wr R #[.int .i64 0, .int .i64 0, .int .i64 0, .int .i64 0] ∧ Below R w wr) (fun _ sn _ _ => (intOf sn).toNat)
  case atStart => exact ⟨1, 0, 0, 1, m0, n0, rfl, rfl, HL0, BF, BR1, HBV.out⟩
  case round =>
    clear BF BR1 HBV HL0
    obtain ⟨a, b, c, d, m, n, rfl, rfl, HL, BF, BR, hbr⟩ := hrel
    have L := HL.out
    have l1 := L.ma
    have l2 := L.mb
    have l3 := L.nc
    have l4 := L.nd
    have l5 := L.m0'
    have l6 := L.n0'
    have l7 := L.mlt
    have l8 := L.nlt
    obtain ⟨a1, a2⟩ := L.ba
    obtain ⟨b1, b2⟩ := L.bb
    obtain ⟨c1, c2⟩ := L.bc
    obtain ⟨d1, d2⟩ := L.bd
    clear L
    obtain ⟨f0, f1, f2, f3⟩ := Blk4 BF
    have HBF := Lib.hid BF
    have HBR := Lib.hid BR
    have HBB := Lib.hid hbr
    clear BF BR hbr
    by_cases hnc : n + c = 0
    · have t1 : (n + c != (0 : Int)) = false := by simp [hnc]
      clear hnc
      have BR := HBR.out
      obtain ⟨r0, r1, r2, r3⟩ := Blk4 BR
      obtain ⟨z0, z1, z2, z3⟩ := Blk4f BR
      go_wp2_with fail
      have BZ := Blk4s BR (.int .i64 a) (.int .i64 b) (.int .i64 c) (.int .i64 d)
      have HZ : Below R w ((((wr.setCell ⟨R, 0, none⟩ (.int .i64 a)).setCell ⟨R, 1, none⟩ (.int .i64 b)).setCell ⟨R, 2, none⟩ (.int .i64 c)).setCell ⟨R, 3, none⟩ (.int .i64 d)) := (((HBB.out.setCell (Nat.le_refl R) _).setCell (Nat.le_refl R) _).setCell (Nat.le_refl R) _).setCell (Nat.le_refl R) _
      generalize ((((wr.setCell ⟨R, 0, none⟩ (.int .i64 a)).setCell ⟨R, 1, none⟩ (.int .i64 b)).setCell ⟨R, 2, none⟩ (.int .i64 c)).setCell ⟨R, 3, none⟩ (.int .i64 d)) = Z at *
      obtain ⟨q0, q1, q2, q3⟩ := Blk4 BZ
      exact bodyPost_ret (v := .agg #[.int .i64 a, .int .i64 b, .int .i64 c, .int .i64 d]) (by simp [results, Try.results82, go_sem, q0, q1, q2, q3]) rfl ⟨a, b, c, d, rfl, HL.out.fac, HRR.out ▸ HZ⟩
    by_cases hnd : n + d = 0
    · have t1 : (n + c != (0 : Int)) = true := by simp [hnc]
      have t2 : (n + d != (0 : Int)) = false := by simp [hnd]
      clear hnc hnd
      have BR := HBR.out
      obtain ⟨r0, r1, r2, r3⟩ := Blk4 BR
      obtain ⟨z0, z1, z2, z3⟩ := Blk4f BR
      go_wp2_with fail
      have BZ := Blk4s BR (.int .i64 a) (.int .i64 b) (.int .i64 c) (.int .i64 d)
      have HZ : Below R w ((((wr.setCell ⟨R, 0, none⟩ (.int .i64 a)).setCell ⟨R, 1, none⟩ (.int .i64 b)).setCell ⟨R, 2, none⟩ (.int .i64 c)).setCell ⟨R, 3, none⟩ (.int .i64 d)) := (((HBB.out.setCell (Nat.le_refl R) _).setCell (Nat.le_refl R) _).setCell (Nat.le_refl R) _).setCell (Nat.le_refl R) _
      generalize ((((wr.setCell ⟨R, 0, none⟩ (.int .i64 a)).setCell ⟨R, 1, none⟩ (.int .i64 b)).setCell ⟨R, 2, none⟩ (.int .i64 c)).setCell ⟨R, 3, none⟩ (.int .i64 d)) = Z at *
      obtain ⟨q0, q1, q2, q3⟩ := Blk4 BZ
      exact bodyPost_ret (v := .agg #[.int .i64 a, .int .i64 b, .int .i64 c, .int .i64 d]) (by simp [results, Try.results82, go_sem, q0, q1, q2, q3]) rfl ⟨a, b, c, d, rfl, HL.out.fac, HRR.out ▸ HZ⟩
    have t1 : (n + c != (0 : Int)) = true := by simp [hnc]
    have t2 : (n + d != (0 : Int)) = true := by simp [hnd]
    have hd1 : (m + a).tdiv (n + c) = (m + a) / (n + c) := Int.tdiv_eq_ediv_of_nonneg l1
    have hd2 : (m + b).tdiv (n + d) = (m + b) / (n + d) := Int.tdiv_eq_ediv_of_nonneg l2
    have g1 : 0 ≤ (m + a) / (n + c) := Int.ediv_nonneg l1 l3
    have g2 : 0 ≤ (m + b) / (n + d) := Int.ediv_nonneg l2 l4
    have g3 : (m + a) / (n + c) ≤ m + a := Int.ediv_le_self _ l1
    have g4 : (m + b) / (n + d) ≤ m + b := Int.ediv_le_self _ l2
    obtain ⟨Q, hQ⟩ : ∃ Q, (m + a) / (n + c) = Q := ⟨_, rfl⟩
    obtain ⟨Q2, hQ2⟩ : ∃ Q, (m + b) / (n + d) = Q := ⟨_, rfl⟩
    rw [hQ] at hd1 g1 g3
    rw [hQ2] at hd2 g2 g4
    have u1 : 0 < n + c := by omega
    have u2 : 0 < n + d := by omega
    have HNC := Lib.hid hnc
    have HND := Lib.hid hnd
    by_cases hqq : Q = Q2
    · subst hqq
      obtain ⟨HL', s1, s2, s3⟩ := leh_step HL.out HX.out HY.out (by omega) (by have := HPX.out.1; omega) (by omega) (by have := HPX.out.2; omega) (by omega) (by omega) (by omega) (by omega) hnc hnd hQ hQ2
      have hc' := HL'.bc
      have hd' := HL'.bd
      obtain ⟨y0, y1, y2, y3⟩ := Blk4f HBF.out
      have t3 : (Q != Q) = false := by simp
      have w1 : IntKind.i64.wrap (Q * c) = Q * c := wd_wrap (by omega) (by omega)
      have w2 : IntKind.i64.wrap (Q * d) = Q * d := wd_wrap (by omega) (by omega)
      have w3 : IntKind.i64.wrap (Q * n) = Q * n := wd_wrap (by omega) (by omega)
      have w4 : IntKind.i64.wrap (a - Q * c) = a - Q * c := wd_wrap (by omega) (by omega)
      have w5 : IntKind.i64.wrap (b - Q * d) = b - Q * d := wd_wrap (by omega) (by omega)
      have w6 : IntKind.i64.wrap (m - Q * n) = m - Q * n := wd_wrap (by omega) (by omega)
      have HLL := Lib.hid HL'
      have HMS := Lib.hid s1
      clear hQ hQ2 hnc hnd HL' s1 s2 s3 hc' hd'
      go_wp2_with fail
      go_roundw
      case rel =>
        exact ⟨c, d, a - Q * c, b - Q * d, n, m - Q * n, rfl, rfl, HLL, Blk4s HBF.out _ _ _ _, (((HBR.out.other _ (by have := HFR.out; simp; omega)).other _ (by have := HFR.out; simp; omega)).other _ (by have := HFR.out; simp; omega)).other _ (by have := HFR.out; simp; omega), (((HBB.out.setCell (by have := HFR.out; simp; omega) _).setCell (by have := HFR.out; simp; omega) _).setCell (by have := HFR.out; simp; omega) _).setCell (by have := HFR.out; simp; omega) _⟩
      case measure => have := HMS.out; have := HLL.out.n0'; simp [intOf]; omega
    · have t3 : (Q != Q2) = true := by simp [hqq]
      have HQ := Lib.hid hQ
      have HQ2 := Lib.hid hQ2
      clear hqq hQ hQ2 hnc hnd
      have BR := HBR.out
      obtain ⟨r0, r1, r2, r3⟩ := Blk4 BR
      obtain ⟨z0, z1, z2, z3⟩ := Blk4f BR
      go_wp2_with fail
      have BZ := Blk4s BR (.int .i64 a) (.int .i64 b) (.int .i64 c) (.int .i64 d)
      have HZ : Below R w ((((wr.setCell ⟨R, 0, none⟩ (.int .i64 a)).setCell ⟨R, 1, none⟩ (.int .i64 b)).setCell ⟨R, 2, none⟩ (.int .i64 c)).setCell ⟨R, 3, none⟩ (.int .i64 d)) := (((HBB.out.setCell (Nat.le_refl R) _).setCell (Nat.le_refl R) _).setCell (Nat.le_refl R) _).setCell (Nat.le_refl R) _
      generalize ((((wr.setCell ⟨R, 0, none⟩ (.int .i64 a)).setCell ⟨R, 1, none⟩ (.int .i64 b)).setCell ⟨R, 2, none⟩ (.int .i64 c)).setCell ⟨R, 3, none⟩ (.int .i64 d)) = Z at *
      obtain ⟨q0, q1, q2, q3⟩ := Blk4 BZ
      exact bodyPost_ret (v := .agg #[.int .i64 a, .int .i64 b, .int .i64 c, .int .i64 d]) (by simp [results, Try.results82, go_sem, q0, q1, q2, q3]) rfl ⟨a, b, c, d, rfl, HL.out.fac, HRR.out ▸ HZ⟩
end Go.Proofs.Ytmfimkndonlheaa
