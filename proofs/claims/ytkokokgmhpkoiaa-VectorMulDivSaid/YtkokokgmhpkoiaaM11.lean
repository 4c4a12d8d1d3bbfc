/-
  integer.times returns new limbs that hold the product.
  integer.Add, Sub and Mul.
-/
import Derived.Test.YtkokokgmhpkoiaaM06
import Derived.Test.YtkokokgmhpkoiaaM09
namespace PB
/-- The low limb and the carry of m y + d + c. -/
def mulLo (m y d c : Nat) : Nat := (c + (m * y + d)) % 4294967296
def mulHi (m y d c : Nat) : Nat := (c + (m * y + d)) / 4294967296
theorem mul_lo_hi (m y d c : Nat) : mulLo m y d c + mulHi m y d c * B = m * y + d + c := by unfold mulLo mulHi B; omega
theorem mulLo_lt (m y d c : Nat) : mulLo m y d c < B := Nat.mod_lt _ (by decide)
theorem mul_le {m y : Nat} (hm : m < B) (hy : y < B) : m * y ≤ 18446744065119617025 := by
  unfold B at *
  have : m * y ≤ 4294967295 * 4294967295 := Nat.mul_le_mul (by omega) (by omega)
  omega
theorem mulHi_lt {m y d c : Nat} (hm : m < B) (hy : y < B) (hd : d < B) (hc : c < B) : mulHi m y d c < B := by
  have := mul_le hm hy
  unfold mulHi B at *; omega
theorem mul_step {P P0 c m y d lo c' p q Yl r P' : Nat} (h : P + c * p = P0 + m * Yl * q) (hd : lo + c' * B = m * y + d + c) (hp : P' + d * p = P + lo * p) (hr : p = q * r) :
    P' + c' * (p * B) = P0 + m * (Yl + y * r) * q := by
  have e : (lo + c' * B) * p = (m * y + d + c) * p := by rw [hd]
  have e1 : m * (Yl + y * r) * q = m * Yl * q + m * y * p := by subst hr; rw [Nat.mul_add, Nat.add_mul]; congr 1; simp only [Nat.mul_comm, Nat.mul_left_comm]
  have e2 : c' * (p * B) = c' * B * p := by rw [Nat.mul_assoc, Nat.mul_comm B p]
  rw [Nat.add_mul, Nat.add_mul, Nat.add_mul] at e
  omega
open Go in
theorem mul_wraps {m y d c : Nat} (hm : m < B) (hy : y < B) (hd : d < B) (hc : c < B) :
    IntKind.u64.wrap ((c : Int) + IntKind.u64.wrap (IntKind.u64.wrap (IntKind.u64.wrap (m : Int) * IntKind.u64.wrap (y : Int)) + IntKind.u64.wrap (d : Int))) = ((c + (m * y + d) : Nat) : Int) := by
  have := mul_le hm hy
  have e : (m : Int) * (y : Int) = ((m * y : Nat) : Int) := (Int.natCast_mul m y).symm
  have e1 : IntKind.u64.wrap (m : Int) = m := by rw [IntKind.wrap_u64]; unfold B at *; omega
  have e2 : IntKind.u64.wrap (y : Int) = y := by rw [IntKind.wrap_u64]; unfold B at *; omega
  have e3 : IntKind.u64.wrap (d : Int) = d := by rw [IntKind.wrap_u64]; unfold B at *; omega
  rw [e1, e2, e3, e]
  generalize m * y = p at *
  have e4 : IntKind.u64.wrap (p : Int) = p := by rw [IntKind.wrap_u64]; omega
  have e5 : IntKind.u64.wrap ((p : Int) + d) = (p : Int) + d := by rw [IntKind.wrap_u64]; unfold B at *; omega
  rw [e4, e5, IntKind.wrap_u64]
  unfold B at *; omega
open Go in
theorem mul_wraps_lo {m y d c : Nat} (hm : m < B) (hy : y < B) (hd : d < B) (hc : c < B) :
    IntKind.u64.wrap ((c : Int) + IntKind.u64.wrap (IntKind.u64.wrap (IntKind.u64.wrap (m : Int) * IntKind.u64.wrap (y : Int)) + IntKind.u64.wrap (d : Int))) % 4294967296 = (mulLo m y d c : Nat) := by
  rw [mul_wraps hm hy hd hc]; exact (Int.natCast_emod _ _).symm
open Go in
theorem mul_wraps_hi {m y d c : Nat} (hm : m < B) (hy : y < B) (hd : d < B) (hc : c < B) :
    IntKind.u64.wrap ((c : Int) + IntKind.u64.wrap (IntKind.u64.wrap (IntKind.u64.wrap (m : Int) * IntKind.u64.wrap (y : Int)) + IntKind.u64.wrap (d : Int))) / 4294967296 = (mulHi m y d c : Nat) := by
  rw [mul_wraps hm hy hd hc]; exact (Int.natCast_ediv _ _).symm
end PB
namespace Go.Proofs.Ytkokokgmhpkoiaa
open Go.RowKit PB

set_option maxRecDepth 100000 in
set_option maxHeartbeats 1600000 in
theorem times_any (basex basey : Option Addr) (bx ox nx cx X by_ oy ny cy Y : Nat) (w : World) (hbx : nx ≠ 0 → basex = some ⟨bx, ox, none⟩) (hby : ny ≠ 0 → basey = some ⟨by_, oy, none⟩)
    (hX : Num w bx ox nx X) (hY : Num w by_ oy ny Y) (hc : nx ≤ 500000000000) (hc' : ny ≤ 500000000000) :
    Calls Try.prog 74 #[.slice basex nx cx, .slice basey ny cy] w fun e w' => e = .returned (.slice (some ⟨w.heap.size, 0, none⟩) (nx + ny) (nx + ny)) ∧ Fresh w w' w.heap.size (nx + ny) (X * Y) := by
  have HB := Lib.hid hbx
  have HB' := Lib.hid hby
  clear hbx hby
  go_enter Try.func74, Try.ntmps74
  go_wp2_with (at_make; refine wpList_make_num _ rfl _ _ 22 rfl 77 info51 Try.underlying22 .i64 .i64 _ _ (nx + ny) rfl rfl (by omega) (by omega) (by omega) ?_)
  intro w1 hb1 hz1 hS1 hF1 _
  have HN := Lib.hid hz1
  clear hz1
  go_wp2_with fail
  go_loopw [20] (fun i wr => ∃ k : Nat, k ≤ nx ∧ i = .int .i64 k ∧ Below w.heap.size w wr ∧ Num wr w.heap.size 0 (nx + ny) ((X % B^k) * Y) ∧ Free wr w.heap.size 0 (nx + ny) ∧ Hid (w1.heap.size ≤ wr.heap.size)) (fun i _ => nx - (intOf i).toNat)
  case atStart => exact ⟨0, by omega, rfl, hb1, hS1.val (by simp [Nat.mod_one]), hF1, show _ from Nat.le_refl _⟩
  case round =>
    obtain ⟨k, hk, rfl, hbr, hSr, hFr, hzr⟩ := hrel
    by_cases hlt : k < nx
    · obtain rfl := HB.out (by omega)
      have c1 := (hX.kept hbr).cell (i := k) (by omega)
      have i1 : (k : Int) < nx := by omega
      have i4 : (0 : Int) ≤ k := by omega
      have i5 : ¬ (nx + ny = k) := by omega
      have i6 : (k : Int) ≤ nx + ny := by omega
      obtain ⟨m, hm⟩ : ∃ m, dg X k = m := ⟨_, rfl⟩
      have hmB : m < B := hm ▸ dg_lt X k
      rw [hm] at c1
      have HM := Lib.hid hm
      clear hm
      have hP0 : X % B^k * Y < B^(k + ny) := by
        rw [pow_add]; exact Nat.mul_lt_mul'' (mod_lt_pow _ _) hY.lt
      obtain ⟨P0, hP0e⟩ : ∃ P0, X % B^k * Y = P0 := ⟨_, rfl⟩
      rw [hP0e] at hSr hP0
      have HP := Lib.hid hP0e
      clear hP0e
      go_wp2_with fail
      go_loopw [9, 30] (fun c i wr => ∃ j cc P : Nat, j ≤ ny ∧ cc < B ∧ c = .int .u64 cc ∧ i = .int .i64 j ∧ P < B^(k + ny) ∧ Hid (P + cc * B^(k + j) = P0 + m * (Y % B^j) * B^k) ∧ Below w.heap.size w wr ∧ Num wr w.heap.size 0 (nx + ny) P ∧ Free wr w.heap.size 0 (nx + ny) ∧ Hid (w1.heap.size ≤ wr.heap.size)) (fun _ i _ => ny - (intOf i).toNat)
      case atStart => exact ⟨0, 0, P0, by omega, by decide, rfl, rfl, hP0, Lib.hid (by simp [Nat.mod_one]), hbr, hSr, hFr, hzr⟩
      case round =>
        clear hbr hSr hFr hzr
        obtain ⟨j, cc, P, hj, hcc, rfl, rfl, hP, hE, hbr, hSr, hFr, hzr⟩ := hrel
        by_cases hlt2 : j < ny
        · obtain rfl := HB'.out (by omega)
          have c2 := (hY.kept hbr).cell (i := j) (by omega)
          have c3 := hSr.cell0 (i := k + j) (by omega)
          have f3 := hFr.at0 (i := k + j) (by omega)
          obtain ⟨y, hy⟩ : ∃ y, dg Y j = y := ⟨_, rfl⟩
          have hyB : y < B := hy ▸ dg_lt Y j
          rw [hy] at c2
          obtain ⟨d, hd⟩ : ∃ d, dg P (k + j) = d := ⟨_, rfl⟩
          have hdB : d < B := hd ▸ dg_lt P (k + j)
          rw [hd] at c3
          have HY := Lib.hid hy
          have HD := Lib.hid hd
          clear hy hd
          have j1 : (j : Int) < ny := by omega
          have j2 : (0 : Int) ≤ j := by omega
          have j3 : (j : Int) < nx + ny - k := by omega
          go_wp2_with fail
          go_roundw
          case rel =>
            rw [mul_wraps_lo hmB hyB hdB hcc, mul_wraps_hi hmB hyB hdB hcc]
            refine ⟨j + 1, mulHi m y d cc, put P (k + j) (mulLo m y d cc), by omega, mulHi_lt hmB hyB hdB hcc, rfl, by go_num, put_lt (mulLo_lt _ _ _ _) hP (by omega), Lib.hid ?_,
              hbr.setCell (Nat.le_refl _) _, hSr.set0 (by omega) (mulLo_lt _ _ _ _), hFr.set _ _, Lib.hid ?_⟩
            · rw [mod_succ Y, HY.out, ← Nat.add_assoc, pow_succ (k + j)]
              have hp := put_eq P (k + j) (mulLo m y d cc)
              rw [HD.out] at hp
              exact mul_step hE.out (mul_lo_hi m y d cc) hp (pow_add k j)
            · simpa using hzr.out
          case measure => simp [intOf]; omega
        · obtain rfl : j = ny := by omega
          have c3 := hSr.cell0 (i := k + j) (by omega)
          have f3 := hFr.at0 (i := k + j) (by omega)
          have hd0 : dg P (k + j) = 0 := dg_of_lt hP (by omega)
          have HD := Lib.hid hd0
          clear hd0
          have j1 : (0 : Int) ≤ j := by omega
          have j2 : (j : Int) < nx + j - k := by omega
          have j3 : (cc : Int) < 4294967296 := by unfold B at hcc; omega
          go_wp2_with fail
          go_roundw
          case rel =>
            refine ⟨k + 1, by omega, by go_num, hbr.setCell (Nat.le_refl _) _, ?_, hFr.set _ _, Lib.hid ?_⟩
            · refine (hSr.set0 (by omega) hcc).val ?_
              have hp := put_eq P (k + j) cc
              rw [HD.out, Nat.zero_mul, Nat.add_zero] at hp
              rw [hp, hE.out, mod_succ X, HM.out, mod_of_lt hY.lt, ← HP.out, Nat.add_mul]
              congr 1
              exact Nat.mul_right_comm _ _ _
            · simpa using hzr.out
          case measure => simp [intOf]; omega
    · obtain rfl : k = nx := by omega
      have hv := hSr.val (show (X % B^k) * Y = X * Y by rw [mod_of_lt hX.lt])
      have hlt2 := HN.out
      have hz2 := hzr.out
      clear HN hzr
      go_wp2_with fail
      go_ret
      exact ⟨rfl, hbr, hv, hFr, Nat.le_refl _, by omega⟩
end Go.Proofs.Ytkokokgmhpkoiaa

namespace Go.Proofs.Ytkokokgmhpkoiaa
open Go.RowKit PB

theorem big_iff {s : Bool} {X : Nat} : big (sg s X) ↔ 256 < nl X := big_sg s X

set_option maxHeartbeats 1600000 in
set_option maxRecDepth 100000 in
/-- Add refuses a number that is large. -/
theorem add_large (v1 v2 : Value) (z1 z2 : Int) (w : World) (h1 : IsInt w v1 z1) (h2 : IsInt w v2 z2) (hbig : big z1 ∨ big z2) :
    Calls Try.prog 12 #[v1, v2] w (RetIntE w 0 2) := by
  obtain ⟨s, base, b, off, n, c, X, rfl, hb, hX, hn, hl, rfl⟩ := h1
  obtain ⟨t, base', b', off', n', c', Y, rfl, hb', hY, hn', hl', rfl⟩ := h2
  rw [big_sg, big_sg] at hbig
  go_enter Try.func12, Try.ntmps12
  go_wp2_with fail
  generalize hW : World.alloc _ _ = W
  have B2 : Blk W (w.heap.size + 1 + 1) #[.bool false, .slice none 0 0] := by rw [← hW]; exact (blk_new (by simp)).alloc _
  have B3 : Blk W (w.heap.size + 1 + 1 + 1) #[.bool s, .slice base n c, .bool t, .slice base' n' c'] := by rw [← hW]; exact blk_new (by simp)
  have hbW : Below w.heap.size w W := by rw [← hW]; exact ((((Below.refl _ _).alloc (Nat.le_refl _) _).alloc (by simp) _).alloc (by simp; omega) _).alloc (by simp; omega) _
  have HS := Lib.hid (show W.heap.size = w.heap.size + 4 by rw [← hW]; simp)
  clear hW
  have call := large_two (w.heap.size + 1 + 1 + 1) s t base base' b off n c X b' off' n' c' Y W (B3.cell 0 _ rfl) (B3.cell 1 _ rfl) (B3.cell 2 _ rfl) (B3.cell 3 _ rfl) hb (hX.kept hbW) hn (by omega) hb' (hY.kept hbW) hn' (by omega)
  rw [decide_eq_true hbig] at call
  refine call.mono ?_
  clear call
  rintro e w1 ⟨rfl, hb1⟩
  obtain ⟨c0, c1⟩ := Blk2 (B2.kept hb1)
  obtain ⟨f0, f1⟩ := Blk2f (B2.kept hb1)
  go_wp2_with fail
  have hsz := HS.out
  refine bodyPost_ret (v := .tuple #[.agg #[.bool false, .slice none 0 0], .int .i64 2]) (by simp [results, Try.results12, go_sem, c0, c1]) rfl ⟨_, rfl, can_zero _ _, ?_⟩
  exact ((hbW.trans (hb1.mono (by omega))).setCell (by show w.heap.size ≤ w.heap.size + 1 + 1; omega) _).setCell (by show w.heap.size ≤ w.heap.size + 1 + 1; omega) _

set_option maxHeartbeats 1600000 in
set_option maxRecDepth 100000 in
/-- Add, at two numbers that are not large. -/
theorem add_small (v1 v2 : Value) (z1 z2 : Int) (w : World) (h1 : IsInt w v1 z1) (h2 : IsInt w v2 z2) (hs1 : ¬ big z1) (hs2 : ¬ big z2) :
    Calls Try.prog 12 #[v1, v2] w (if big (z1 + z2) then RetIntE w 0 2 else RetIntE w (z1 + z2) 0) := by
  have h1' := h1
  have h2' := h2
  obtain ⟨s, base, b, off, n, c, X, rfl, hb, hX, hn, hl, hz1⟩ := h1
  obtain ⟨t, base', b', off', n', c', Y, rfl, hb', hY, hn', hl', hz2⟩ := h2
  have hsX : ¬ (256 < nl X ∨ 256 < nl Y) := by subst hz1 hz2; rw [big_sg] at hs1 hs2; omega
  have SUM := Lib.hid (fun W (hbW : Below w.heap.size w W) => sum_any _ _ _ _ W (h1'.kept hbW) (h2'.kept hbW) hs1 hs2)
  clear hz1 hz2 h1' h2'
  generalize z1 + z2 = z at *
  have HQ : ∃ Q, Q = (if big z then RetIntE w 0 2 else RetIntE w z 0) := ⟨_, rfl⟩
  obtain ⟨Q, HQ⟩ := HQ
  rw [← HQ]
  have HQ' := Lib.hid HQ
  clear HQ
  go_enter Try.func12, Try.ntmps12
  go_wp2_with fail
  generalize hW : World.alloc _ _ = W
  have B0 : Blk W w.heap.size #[.bool s, .slice base n c] := by rw [← hW]; exact (((blk_new rfl).alloc _).alloc _).alloc _
  have B1 : Blk W (w.heap.size + 1) #[.bool t, .slice base' n' c'] := by rw [← hW]; exact ((blk_new (by simp)).alloc _).alloc _
  have B2 : Blk W (w.heap.size + 1 + 1) #[.bool false, .slice none 0 0] := by rw [← hW]; exact (blk_new (by simp)).alloc _
  have B3 : Blk W (w.heap.size + 1 + 1 + 1) #[.bool s, .slice base n c, .bool t, .slice base' n' c'] := by rw [← hW]; exact blk_new (by simp)
  have hbW : Below w.heap.size w W := by rw [← hW]; exact ((((Below.refl _ _).alloc (Nat.le_refl _) _).alloc (by simp) _).alloc (by simp; omega) _).alloc (by simp; omega) _
  have HS := Lib.hid (show W.heap.size = w.heap.size + 4 by rw [← hW]; simp)
  clear hW
  have call := large_two (w.heap.size + 1 + 1 + 1) s t base base' b off n c X b' off' n' c' Y W (B3.cell 0 _ rfl) (B3.cell 1 _ rfl) (B3.cell 2 _ rfl) (B3.cell 3 _ rfl) hb (hX.kept hbW) hn (by omega) hb' (hY.kept hbW) hn' (by omega)
  rw [decide_eq_false hsX] at call
  refine call.mono ?_
  clear call
  rintro e w1 ⟨rfl, hb1⟩
  have hbw1 : Below w.heap.size w w1 := hbW.trans (hb1.mono (by have := HS.out; omega))
  obtain ⟨a0, a1⟩ := Blk2 (B0.kept hb1)
  obtain ⟨b0, b1⟩ := Blk2 (B1.kept hb1)
  have B2' := B2.kept hb1
  have HS' := Lib.hid (show w.heap.size + 4 ≤ w1.heap.size by have := HS.out; have := hb1.size; omega)
  clear B0 B1 B2 B3 hbW HS hb1
  go_wp2_with fail
  refine (SUM.out _ hbw1).mono ?_
  rintro e w2 ⟨v, rfl, hcan, hb2⟩
  obtain ⟨r, q, g, o, Z, m, rfl, hq, hZ, hm, hml, rfl, hsz, hgN⟩ := hcan
  have hbw2 : Below w.heap.size w w2 := hbw1.trans (hb2.mono (by have := HS'.out; omega))
  have B2'' := B2'.kept hb2
  have HS'' := Lib.hid (show w.heap.size + 4 ≤ w2.heap.size by have := HS'.out; have := hb2.size; omega)
  clear a0 a1 b0 b1 B2'
  go_wp2_with fail
  refine (bounded_any r q g o (nl Z) m Z w2 hq hZ hm (by omega)).mono ?_
  rintro e w3 ⟨rfl, hb3⟩
  have hbw3 : Below w.heap.size w w3 := hbw2.trans (hb3.mono (by have := HS''.out; omega))
  obtain ⟨c0, c1⟩ := Blk2 (B2''.kept hb3)
  obtain ⟨f0, f1⟩ := Blk2f (B2''.kept hb3)
  by_cases hbz : 256 < nl Z
  · rw [bnd_big _ hbz]
    have HB := Lib.hid hbz
    clear hbz
    go_wp2_with fail
    refine bodyPost_ret (v := .tuple #[.agg #[.bool false, .slice none 0 0], .int .i64 2]) (by simp [results, Try.results12, go_sem, c0, c1]) rfl ?_
    rw [HQ'.out, if_pos ((big_sg r Z).2 HB.out)]
    exact ⟨_, rfl, can_zero _ _, (hbw3.setCell (by show w.heap.size ≤ w.heap.size + 1 + 1; omega) _).setCell (by show w.heap.size ≤ w.heap.size + 1 + 1; omega) _⟩
  · rw [bnd_ok _ hbz]
    have HB := Lib.hid hbz
    clear hbz
    go_wp2_with fail
    refine bodyPost_ret (v := .tuple #[.agg #[.bool r, .slice q (nl Z) m], .int .i64 0]) (by simp [results, Try.results12, go_sem, c0, c1]) rfl ?_
    rw [HQ'.out, if_neg (fun h => HB.out ((big_sg r Z).1 h))]
    have hsize := HS'.out
    have hcan : IsCan w1.heap.size w3 (.agg #[.bool r, .slice q (nl Z) m]) (sg r Z) := ⟨r, q, g, o, Z, m, rfl, hq, hZ.kept hb3, hm, hml, rfl, hsz, hgN⟩
    exact ⟨_, rfl, ((hcan.set (by show w.heap.size + 1 + 1 < _; omega) _).set (by show w.heap.size + 1 + 1 < _; omega) _).mono (by omega), (hbw3.setCell (by show w.heap.size ≤ w.heap.size + 1 + 1; omega) _).setCell (by show w.heap.size ≤ w.heap.size + 1 + 1; omega) _⟩

theorem ret_if {w : World} {z : Int} {c : Prop} [Decidable c] : (if c then RetIntE w 0 2 else RetIntE w z 0) = RetIntE w (if c then 0 else z) (if c then 2 else 0) := by split <;> rfl
/-- integer.Add: the sum, or ErrSize. -/
theorem add_any (v1 v2 : Value) (z1 z2 : Int) (w : World) (h1 : IsInt w v1 z1) (h2 : IsInt w v2 z2) :
    Calls Try.prog 12 #[v1, v2] w (RetIntE w (if big z1 ∨ big z2 ∨ big (z1 + z2) then 0 else z1 + z2) (if big z1 ∨ big z2 ∨ big (z1 + z2) then 2 else 0)) := by
  by_cases h : big z1 ∨ big z2
  · have h' : big z1 ∨ big z2 ∨ big (z1 + z2) := by rcases h with h | h; exact Or.inl h; exact Or.inr (Or.inl h)
    rw [if_pos h', if_pos h']
    exact add_large v1 v2 z1 z2 w h1 h2 h
  · have h3 : ¬ big z1 := fun e => h (Or.inl e)
    have h4 : ¬ big z2 := fun e => h (Or.inr e)
    have := add_small v1 v2 z1 z2 w h1 h2 h3 h4
    rw [ret_if] at this
    simpa only [h3, h4, false_or] using this

set_option maxHeartbeats 1600000 in
set_option maxRecDepth 100000 in
/-- integer.Sub: the difference, or ErrSize. -/
theorem sub_any (v1 v2 : Value) (z1 z2 : Int) (w : World) (h1 : IsInt w v1 z1) (h2 : IsInt w v2 z2) :
    Calls Try.prog 13 #[v1, v2] w (RetIntE w (if big z1 ∨ big z2 ∨ big (z1 - z2) then 0 else z1 - z2) (if big z1 ∨ big z2 ∨ big (z1 - z2) then 2 else 0)) := by
  have h1' := h1
  obtain ⟨s, base, b, off, n, c, X, rfl, hb, hX, hn, hl, hz1⟩ := h1
  obtain ⟨t, base', b', off', n', c', Y, rfl, hb', hY, hn', hl', hz2⟩ := h2
  have h2' : IsInt w (.agg #[.bool (!t), .slice base' n' c']) (-z2) := ⟨!t, base', b', off', n', c', Y, rfl, hb', hY, hn', hl', by subst hz2; unfold sg; cases t <;> simp⟩
  have hbg : big (-z2) ↔ big z2 := by unfold big; rw [Int.natAbs_neg]
  have ADD := Lib.hid (fun W (hbW : Below w.heap.size w W) => add_any _ _ _ _ W (h1'.kept hbW) (h2'.kept hbW))
  simp only [hbg, ← Int.sub_eq_add_neg] at ADD
  clear hz1 hz2 h1' h2' hbg
  generalize (if big z1 ∨ big z2 ∨ big (z1 - z2) then 0 else z1 - z2) = z at *
  generalize (if big z1 ∨ big z2 ∨ big (z1 - z2) then 2 else 0 : Int) = er at *
  go_enter Try.func13, Try.ntmps13
  go_wp2_with fail
  generalize hW : World.alloc _ _ = W
  have B2 : Blk W (w.heap.size + 1 + 1) #[.bool false, .slice none 0 0] := by rw [← hW]; exact blk_new (by simp)
  have hbW : Below w.heap.size w W := by rw [← hW]; exact (((Below.refl _ _).alloc (Nat.le_refl _) _).alloc (by simp) _).alloc (by simp; omega) _
  have HS := Lib.hid (show W.heap.size = w.heap.size + 3 by rw [← hW]; simp)
  clear hW
  refine (ADD.out _ hbW).mono ?_
  rintro e w2 ⟨v, rfl, hcan, hb2⟩
  obtain ⟨r, q, g, o, Z, m, rfl, hq, hZ, hm, hml, hzz, hsz, hgN⟩ := hcan
  have hbw2 : Below w.heap.size w w2 := hbW.trans (hb2.mono (by have := HS.out; omega))
  obtain ⟨c0, c1⟩ := Blk2 (B2.kept hb2)
  obtain ⟨f0, f1⟩ := Blk2f (B2.kept hb2)
  have HZ := Lib.hid hzz
  clear B2 hzz
  go_wp2_with fail
  have hsize := HS.out
  refine bodyPost_ret (v := .tuple #[.agg #[.bool r, .slice q (nl Z) m], .int .i64 er]) (by simp [results, Try.results13, go_sem, c0, c1]) rfl ?_
  have hcan : IsCan W.heap.size w2 (.agg #[.bool r, .slice q (nl Z) m]) z := ⟨r, q, g, o, Z, m, rfl, hq, hZ, hm, hml, HZ.out, hsz, hgN⟩
  exact ⟨_, rfl, ((hcan.set (by show w.heap.size + 1 + 1 < _; omega) _).set (by show w.heap.size + 1 + 1 < _; omega) _).mono (by omega), (hbw2.setCell (by show w.heap.size ≤ w.heap.size + 1 + 1; omega) _).setCell (by show w.heap.size ≤ w.heap.size + 1 + 1; omega) _⟩
end Go.Proofs.Ytkokokgmhpkoiaa
