/-
  integer.times returns new limbs that hold the product.
-/
import Derived.Test.YteggfjahjanabaaPlus
namespace PB
/-- The low limb and the carry of m y + d + c. -/
def mulLo (m y d c : Nat) : Nat := (c + (m * y + d)) % 4294967296
def mulHi (m y d c : Nat) : Nat := (c + (m * y + d)) / 4294967296
theorem mul_lo_hi (m y d c : Nat) : mulLo m y d c + mulHi m y d c * B = m * y + d + c := by unfold mulLo mulHi B; omega
theorem mulLo_lt (m y d c : Nat) : mulLo m y d c < B := Nat.mod_lt _ (by decide)
theorem mul_le {m y : Nat} (hm : m < B) (hy : y < B) : m * y ≤ 18446744065119617025 := by
  unfold B at *
  have : m * y ≤ 4294967295 * 4294967295 := Nat.mul_le_mul (by omega) (by omega)
  omega
theorem mulHi_lt {m y d c : Nat} (hm : m < B) (hy : y < B) (hd : d < B) (hc : c < B) : mulHi m y d c < B := by
  have := mul_le hm hy
  unfold mulHi B at *; omega
theorem mul_step {P P0 c m y d lo c' p q Yl r P' : Nat} (h : P + c * p = P0 + m * Yl * q) (hd : lo + c' * B = m * y + d + c) (hp : P' + d * p = P + lo * p) (hr : p = q * r) :
    P' + c' * (p * B) = P0 + m * (Yl + y * r) * q := by
  have e : (lo + c' * B) * p = (m * y + d + c) * p := by rw [hd]
  have e1 : m * (Yl + y * r) * q = m * Yl * q + m * y * p := by subst hr; rw [Nat.mul_add, Nat.add_mul]; congr 1; simp only [Nat.mul_comm, Nat.mul_left_comm]
  have e2 : c' * (p * B) = c' * B * p := by rw [Nat.mul_assoc, Nat.mul_comm B p]
  rw [Nat.add_mul, Nat.add_mul, Nat.add_mul] at e
  omega
open Go in
theorem mul_wraps {m y d c : Nat} (hm : m < B) (hy : y < B) (hd : d < B) (hc : c < B) :
    IntKind.u64.wrap ((c : Int) + IntKind.u64.wrap (IntKind.u64.wrap (IntKind.u64.wrap (m : Int) * IntKind.u64.wrap (y : Int)) + IntKind.u64.wrap (d : Int))) = ((c + (m * y + d) : Nat) : Int) := by
  have := mul_le hm hy
  have e : (m : Int) * (y : Int) = ((m * y : Nat) : Int) := (Int.natCast_mul m y).symm
  have e1 : IntKind.u64.wrap (m : Int) = m := by rw [IntKind.wrap_u64]; unfold B at *; omega
  have e2 : IntKind.u64.wrap (y : Int) = y := by rw [IntKind.wrap_u64]; unfold B at *; omega
  have e3 : IntKind.u64.wrap (d : Int) = d := by rw [IntKind.wrap_u64]; unfold B at *; omega
  rw [e1, e2, e3, e]
  generalize m * y = p at *
  have e4 : IntKind.u64.wrap (p : Int) = p := by rw [IntKind.wrap_u64]; omega
  have e5 : IntKind.u64.wrap ((p : Int) + d) = (p : Int) + d := by rw [IntKind.wrap_u64]; unfold B at *; omega
  rw [e4, e5, IntKind.wrap_u64]
  unfold B at *; omega
open Go in
theorem mul_wraps_lo {m y d c : Nat} (hm : m < B) (hy : y < B) (hd : d < B) (hc : c < B) :
    IntKind.u64.wrap ((c : Int) + IntKind.u64.wrap (IntKind.u64.wrap (IntKind.u64.wrap (m : Int) * IntKind.u64.wrap (y : Int)) + IntKind.u64.wrap (d : Int))) % 4294967296 = (mulLo m y d c : Nat) := by
  rw [mul_wraps hm hy hd hc]; exact (Int.natCast_emod _ _).symm
open Go in
theorem mul_wraps_hi {m y d c : Nat} (hm : m < B) (hy : y < B) (hd : d < B) (hc : c < B) :
    IntKind.u64.wrap ((c : Int) + IntKind.u64.wrap (IntKind.u64.wrap (IntKind.u64.wrap (m : Int) * IntKind.u64.wrap (y : Int)) + IntKind.u64.wrap (d : Int))) / 4294967296 = (mulHi m y d c : Nat) := by
  rw [mul_wraps hm hy hd hc]; exact (Int.natCast_ediv _ _).symm
end PB
namespace Go.Proofs.Yteggfjahjanabaa
open Go.RowKit PB

set_option maxRecDepth 100000 in
set_option maxHeartbeats 1600000 in
theorem times_any (basex basey : Option Addr) (bx ox nx cx X by_ oy ny cy Y : Nat) (w : World) (hbx : nx ≠ 0 → basex = some ⟨bx, ox, none⟩) (hby : ny ≠ 0 → basey = some ⟨by_, oy, none⟩)
    (hX : Num w bx ox nx X) (hY : Num w by_ oy ny Y) (hc : nx ≤ 500000000000) (hc' : ny ≤ 500000000000) :
    Calls Try.prog 50 #[.slice basex nx cx, .slice basey ny cy] w fun e w' => e = .returned (.slice (some ⟨w.heap.size, 0, none⟩) (nx + ny) (nx + ny)) ∧ Fresh w w' w.heap.size (nx + ny) (X * Y) := by
  have HB := Lib.hid hbx
  have HB' := Lib.hid hby
  clear hbx hby
  go_enter Try.func50, Try.ntmps50
  go_wp2_with (at_make; refine wpList_make_num _ rfl _ _ 22 rfl 51 info51 Try.underlying22 .i64 .i64 _ _ (nx + ny) rfl rfl (by omega) (by omega) (by omega) ?_)
  intro w1 hb1 hz1 hS1 hF1 _
  have HN := Lib.hid hz1
  clear hz1
  go_wp2_with fail
  go_loopw [20] (fun i wr => ∃ k : Nat, k ≤ nx ∧ i = .int .i64 k ∧ Below w.heap.size w wr ∧ Num wr w.heap.size 0 (nx + ny) ((X % B^k) * Y) ∧ Free wr w.heap.size 0 (nx + ny) ∧ Hid (w1.heap.size ≤ wr.heap.size)) (fun i _ => nx - (intOf i).toNat)
  case atStart => exact ⟨0, by omega, rfl, hb1, hS1.val (by simp [Nat.mod_one]), hF1, show _ from Nat.le_refl _⟩
  case round =>
    obtain ⟨k, hk, rfl, hbr, hSr, hFr, hzr⟩ := hrel
    by_cases hlt : k < nx
    · obtain rfl := HB.out (by omega)
      have c1 := (hX.kept hbr).cell (i := k) (by omega)
      have i1 : (k : Int) < nx := by omega
      have i4 : (0 : Int) ≤ k := by omega
      have i5 : ¬ (nx + ny = k) := by omega
      have i6 : (k : Int) ≤ nx + ny := by omega
      obtain ⟨m, hm⟩ : ∃ m, dg X k = m := ⟨_, rfl⟩
      have hmB : m < B := hm ▸ dg_lt X k
      rw [hm] at c1
      have HM := Lib.hid hm
      clear hm
      have hP0 : X % B^k * Y < B^(k + ny) := by
        rw [pow_add]; exact Nat.mul_lt_mul'' (mod_lt_pow _ _) hY.lt
      obtain ⟨P0, hP0e⟩ : ∃ P0, X % B^k * Y = P0 := ⟨_, rfl⟩
      rw [hP0e] at hSr hP0
      have HP := Lib.hid hP0e
      clear hP0e
      go_wp2_with fail
      go_loopw [9, 30] (fun c i wr => ∃ j cc P : Nat, j ≤ ny ∧ cc < B ∧ c = .int .u64 cc ∧ i = .int .i64 j ∧ P < B^(k + ny) ∧ Hid (P + cc * B^(k + j) = P0 + m * (Y % B^j) * B^k) ∧ Below w.heap.size w wr ∧ Num wr w.heap.size 0 (nx + ny) P ∧ Free wr w.heap.size 0 (nx + ny) ∧ Hid (w1.heap.size ≤ wr.heap.size)) (fun _ i _ => ny - (intOf i).toNat)
      case atStart => exact ⟨0, 0, P0, by omega, by decide, rfl, rfl, hP0, Lib.hid (by simp [Nat.mod_one]), hbr, hSr, hFr, hzr⟩
      case round =>
        clear hbr hSr hFr hzr
        obtain ⟨j, cc, P, hj, hcc, rfl, rfl, hP, hE, hbr, hSr, hFr, hzr⟩ := hrel
        by_cases hlt2 : j < ny
        · obtain rfl := HB'.out (by omega)
          have c2 := (hY.kept hbr).cell (i := j) (by omega)
          have c3 := hSr.cell0 (i := k + j) (by omega)
          have f3 := hFr.at0 (i := k + j) (by omega)
          obtain ⟨y, hy⟩ : ∃ y, dg Y j = y := ⟨_, rfl⟩
          have hyB : y < B := hy ▸ dg_lt Y j
          rw [hy] at c2
          obtain ⟨d, hd⟩ : ∃ d, dg P (k + j) = d := ⟨_, rfl⟩
          have hdB : d < B := hd ▸ dg_lt P (k + j)
          rw [hd] at c3
          have HY := Lib.hid hy
          have HD := Lib.hid hd
          clear hy hd
          have j1 : (j : Int) < ny := by omega
          have j2 : (0 : Int) ≤ j := by omega
          have j3 : (j : Int) < nx + ny - k := by omega
          go_wp2_with fail
          go_roundw
          case rel =>
            rw [mul_wraps_lo hmB hyB hdB hcc, mul_wraps_hi hmB hyB hdB hcc]
            refine ⟨j + 1, mulHi m y d cc, put P (k + j) (mulLo m y d cc), by omega, mulHi_lt hmB hyB hdB hcc, rfl, by go_num, put_lt (mulLo_lt _ _ _ _) hP (by omega), Lib.hid ?_,
              hbr.setCell (Nat.le_refl _) _, hSr.set0 (by omega) (mulLo_lt _ _ _ _), hFr.set _ _, Lib.hid ?_⟩
            · rw [mod_succ Y, HY.out, ← Nat.add_assoc, pow_succ (k + j)]
              have hp := put_eq P (k + j) (mulLo m y d cc)
              rw [HD.out] at hp
              exact mul_step hE.out (mul_lo_hi m y d cc) hp (pow_add k j)
            · simpa using hzr.out
          case measure => simp [intOf]; omega
        · obtain rfl : j = ny := by omega
          have c3 := hSr.cell0 (i := k + j) (by omega)
          have f3 := hFr.at0 (i := k + j) (by omega)
          have hd0 : dg P (k + j) = 0 := dg_of_lt hP (by omega)
          have HD := Lib.hid hd0
          clear hd0
          have j1 : (0 : Int) ≤ j := by omega
          have j2 : (j : Int) < nx + j - k := by omega
          have j3 : (cc : Int) < 4294967296 := by unfold B at hcc; omega
          go_wp2_with fail
          go_roundw
          case rel =>
            refine ⟨k + 1, by omega, by go_num, hbr.setCell (Nat.le_refl _) _, ?_, hFr.set _ _, Lib.hid ?_⟩
            · refine (hSr.set0 (by omega) hcc).val ?_
              have hp := put_eq P (k + j) cc
              rw [HD.out, Nat.zero_mul, Nat.add_zero] at hp
              rw [hp, hE.out, mod_succ X, HM.out, mod_of_lt hY.lt, ← HP.out, Nat.add_mul]
              congr 1
              exact Nat.mul_right_comm _ _ _
            · simpa using hzr.out
          case measure => simp [intOf]; omega
    · obtain rfl : k = nx := by omega
      have hv := hSr.val (show (X % B^k) * Y = X * Y by rw [mod_of_lt hX.lt])
      have hlt2 := HN.out
      have hz2 := hzr.out
      clear HN hzr
      go_wp2_with fail
      go_ret
      exact ⟨rfl, hbr, hv, hFr, Nat.le_refl _, by omega⟩
end Go.Proofs.Yteggfjahjanabaa
