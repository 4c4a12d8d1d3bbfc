/-
  The verifier's mulMag.
-/
import Derived.Test.YtkokokgmhpkoiaaM11
import Derived.Test.YtkokokgmhpkoiaaM29
namespace PB
open Go
theorem mul_wraps2 {m y d c : Nat} (hm : m < B) (hy : y < B) (hd : d < B) (hc : c < B) :
    IntKind.u64.wrap ((c : Int) + IntKind.u64.wrap (IntKind.u64.wrap (d : Int) + IntKind.u64.wrap (IntKind.u64.wrap (m : Int) * IntKind.u64.wrap (y : Int)))) = ((c + (m * y + d) : Nat) : Int) := by
  rw [Int.add_comm (IntKind.u64.wrap (d : Int))]
  exact mul_wraps hm hy hd hc
theorem mul_wraps2_lo {m y d c : Nat} (hm : m < B) (hy : y < B) (hd : d < B) (hc : c < B) :
    IntKind.u64.wrap ((c : Int) + IntKind.u64.wrap (IntKind.u64.wrap (d : Int) + IntKind.u64.wrap (IntKind.u64.wrap (m : Int) * IntKind.u64.wrap (y : Int)))) % 4294967296 = (mulLo m y d c : Nat) := by
  rw [mul_wraps2 hm hy hd hc]; exact (Int.natCast_emod _ _).symm
theorem mul_wraps2_hi {m y d c : Nat} (hm : m < B) (hy : y < B) (hd : d < B) (hc : c < B) :
    IntKind.u64.wrap ((c : Int) + IntKind.u64.wrap (IntKind.u64.wrap (d : Int) + IntKind.u64.wrap (IntKind.u64.wrap (m : Int) * IntKind.u64.wrap (y : Int)))) / 4294967296 = (mulHi m y d c : Nat) := by
  rw [mul_wraps2 hm hy hd hc]; exact (Int.natCast_ediv _ _).symm
end PB
namespace Go.Proofs.Ytkokokgmhpkoiaa
open Go.RowKit PB

set_option maxRecDepth 100000 in
set_option maxHeartbeats 1600000 in
theorem mulmag_any (basex basey : Option Addr) (bx ox nx cx X by_ oy ny cy Y : Nat) (w : World) (hbx : nx ≠ 0 → basex = some ⟨bx, ox, none⟩) (hby : ny ≠ 0 → basey = some ⟨by_, oy, none⟩)
    (hX : Num w bx ox nx X) (hY : Num w by_ oy ny Y) (hc : nx ≤ 500000000000) (hc' : ny ≤ 500000000000) :
    Calls Try.prog 128 #[.slice basex nx cx, .slice basey ny cy] w fun e w' => e = .returned (.slice (some ⟨w.heap.size, 0, none⟩) (nx + ny) (nx + ny)) ∧ Fresh w w' w.heap.size (nx + ny) (X * Y) := by
  have HB := Lib.hid hbx
  have HB' := Lib.hid hby
  clear hbx hby
  go_enter Try.func128, Try.ntmps128
  go_wp2_with (at_make; refine wpList_make_num _ rfl _ _ 22 rfl 77 info51 Try.underlying22 .i64 .i64 _ _ (nx + ny) rfl rfl (by omega) (by omega) (by omega) ?_)
  intro w1 hb1 hz1 hS1 hF1 _
  have HN := Lib.hid hz1
  clear hz1
  go_wp2_with fail
  go_loopw [6] (fun i wr => ∃ k : Nat, k ≤ nx ∧ i = .int .i64 k ∧ Below w.heap.size w wr ∧ Num wr w.heap.size 0 (nx + ny) ((X % B^k) * Y) ∧ Free wr w.heap.size 0 (nx + ny) ∧ Hid (w1.heap.size ≤ wr.heap.size)) (fun i _ => nx - (intOf i).toNat)
  case atStart => exact ⟨0, by omega, rfl, hb1, hS1.val (by simp [Nat.mod_one]), hF1, show _ from Nat.le_refl _⟩
  case round =>
    obtain ⟨k, hk, rfl, hbr, hSr, hFr, hzr⟩ := hrel
    by_cases hlt : k < nx
    · obtain rfl := HB.out (by omega)
      have c1 := (hX.kept hbr).cell (i := k) (by omega)
      have i1 : (k : Int) < nx := by omega
      have i4 : (0 : Int) ≤ k := by omega
      have i5 : ¬ (nx + ny = k) := by omega
      have i6 : (k : Int) ≤ nx + ny := by omega
      obtain ⟨m, hm⟩ : ∃ m, dg X k = m := ⟨_, rfl⟩
      have hmB : m < B := hm ▸ dg_lt X k
      rw [hm] at c1
      have HM := Lib.hid hm
      clear hm
      have hP0 : X % B^k * Y < B^(k + ny) := by
        rw [pow_add]; exact Nat.mul_lt_mul'' (mod_lt_pow _ _) hY.lt
      obtain ⟨P0, hP0e⟩ : ∃ P0, X % B^k * Y = P0 := ⟨_, rfl⟩
      rw [hP0e] at hSr hP0
      have HP := Lib.hid hP0e
      clear hP0e
      go_wp2_with fail
      go_loopw [7, 8] (fun c i wr => ∃ j cc P : Nat, j ≤ ny ∧ cc < B ∧ c = .int .u64 cc ∧ i = .int .i64 j ∧ P < B^(k + ny) ∧ Hid (P + cc * B^(k + j) = P0 + m * (Y % B^j) * B^k) ∧ Below w.heap.size w wr ∧ Num wr w.heap.size 0 (nx + ny) P ∧ Free wr w.heap.size 0 (nx + ny) ∧ Hid (w1.heap.size ≤ wr.heap.size)) (fun _ i _ => ny - (intOf i).toNat)
      case atStart => exact ⟨0, 0, P0, by omega, by decide, rfl, rfl, hP0, Lib.hid (by simp [Nat.mod_one]), hbr, hSr, hFr, hzr⟩
      case round =>
        clear hbr hSr hFr hzr
        obtain ⟨j, cc, P, hj, hcc, rfl, rfl, hP, hE, hbr, hSr, hFr, hzr⟩ := hrel
        by_cases hlt2 : j < ny
        · obtain rfl := HB'.out (by omega)
          have c2 := (hY.kept hbr).cell (i := j) (by omega)
          have cX := (hX.kept hbr).cell (i := k) hlt
          rw [HM.out] at cX
          have c3 := hSr.cell0 (i := k + j) (by omega)
          have f3 := hFr.at0 (i := k + j) (by omega)
          obtain ⟨y, hy⟩ : ∃ y, dg Y j = y := ⟨_, rfl⟩
          have hyB : y < B := hy ▸ dg_lt Y j
          rw [hy] at c2
          obtain ⟨d, hd⟩ : ∃ d, dg P (k + j) = d := ⟨_, rfl⟩
          have hdB : d < B := hd ▸ dg_lt P (k + j)
          rw [hd] at c3
          have HY := Lib.hid hy
          have HD := Lib.hid hd
          clear hy hd
          have j1 : (j : Int) < ny := by omega
          have j2 : (0 : Int) ≤ j := by omega
          have j3 : (j : Int) < nx + ny - k := by omega
          obtain ⟨q, hq⟩ : ∃ q, k + j = q := ⟨_, rfl⟩
          have jq : (k : Int) + (j : Int) = (q : Nat) := by omega
          have j4 : (q : Int) < nx + ny := by omega
          have j5 : (0 : Int) ≤ q := by omega
          have j6 : IntKind.i64.wrap (q : Int) = (q : Int) := by rw [IntKind.wrap_i64]; omega
          rw [hq] at c3 f3 HD
          have HQ := Lib.hid hq
          clear hq
          go_wp2_with fail
          go_quiet (fail)
          go_wp2_with fail
          go_roundw
          case rel =>
            rw [mul_wraps2_lo hmB hyB hdB hcc, mul_wraps2_hi hmB hyB hdB hcc]
            rw [← HQ.out]
            refine ⟨j + 1, mulHi m y d cc, put P (k + j) (mulLo m y d cc), by omega, mulHi_lt hmB hyB hdB hcc, rfl, by go_num, put_lt (mulLo_lt _ _ _ _) hP (by omega), Lib.hid ?_,
              (below_drewN hbr _).setCell (Nat.le_refl _) _, hSr.drewN.set0 (by omega) (mulLo_lt _ _ _ _), Free.set (fun i hi => (by rw [World.frozen?_drewN]; exact hFr i hi)) _ _, Lib.hid ?_⟩
            · rw [mod_succ Y, HY.out, ← Nat.add_assoc, pow_succ (k + j)]
              have hp := put_eq P (k + j) (mulLo m y d cc)
              rw [show dg P (k + j) = d by rw [HQ.out]; exact HD.out] at hp
              exact mul_step hE.out (mul_lo_hi m y d cc) hp (pow_add k j)
            · simpa using hzr.out
          case measure => simp [intOf]; omega
        · obtain rfl : j = ny := by omega
          have c3 := hSr.cell0 (i := k + j) (by omega)
          have f3 := hFr.at0 (i := k + j) (by omega)
          have hd0 : dg P (k + j) = 0 := dg_of_lt hP (by omega)
          have HD := Lib.hid hd0
          clear hd0
          have j1 : (0 : Int) ≤ j := by omega
          have j2 : (j : Int) < nx + j - k := by omega
          have j3 : (cc : Int) < 4294967296 := by unfold B at hcc; omega
          go_wp2_with fail
          go_roundw
          case rel =>
            refine ⟨k + 1, by omega, by go_num, hbr.setCell (Nat.le_refl _) _, ?_, hFr.set _ _, Lib.hid ?_⟩
            · refine (hSr.set0 (by omega) hcc).val ?_
              have hp := put_eq P (k + j) cc
              rw [HD.out, Nat.zero_mul, Nat.add_zero] at hp
              rw [hp, hE.out, mod_succ X, HM.out, mod_of_lt hY.lt, ← HP.out, Nat.add_mul]
              congr 1
              exact Nat.mul_right_comm _ _ _
            · simpa using hzr.out
          case measure => simp [intOf]; omega
    · obtain rfl : k = nx := by omega
      have hv := hSr.val (show (X % B^k) * Y = X * Y by rw [mod_of_lt hX.lt])
      have hlt2 := HN.out
      have hz2 := hzr.out
      clear HN hzr
      go_wp2_with fail
      go_ret
      exact ⟨rfl, hbr, hv, hFr, Nat.le_refl _, by omega⟩
end Go.Proofs.Ytkokokgmhpkoiaa
