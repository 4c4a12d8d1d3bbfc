/-
  integer.plus returns new limbs that hold the sum.
-/
import Derived.Test.YteggfjahjanabaaBits
import Derived.Deep.RegionHeld3
import Derived.Deep.DeepCutAuto
namespace Go.Proofs.Yteggfjahjanabaa
open Go.RowKit PB

theorem info51 : (Try.prog.info? 51).map (fun i => (i.zero, i.size, i.bytes)) = some (some (.int .u32 0), 1, 4) := by kernel_rfl

set_option maxRecDepth 100000 in
set_option maxHeartbeats 800000 in
theorem plus_ge (basex basey : Option Addr) (bx ox nx cx X by_ oy ny cy Y : Nat) (w : World) (hbx : nx ≠ 0 → basex = some ⟨bx, ox, none⟩) (hby : ny ≠ 0 → basey = some ⟨by_, oy, none⟩)
    (hX : Num w bx ox nx X) (hY : Num w by_ oy ny Y) (hn : ny ≤ nx) (hc : nx ≤ 1099511627776) :
    Calls Try.prog 77 #[.slice basex nx cx, .slice basey ny cy] w fun e w' => e = .returned (.slice (some ⟨w.heap.size, 0, none⟩) (nx+1) (nx+1)) ∧ Fresh w w' w.heap.size (nx+1) (X+Y) := by
  have HB := Lib.hid hbx
  have HB' := Lib.hid hby
  clear hbx hby
  go_enter Try.func77, Try.ntmps77
  go_wp2_with (at_make; refine wpList_make_num _ rfl _ _ 22 rfl 51 info51 Try.underlying22 .i64 .i64 _ _ (nx+1) rfl rfl (by omega) (by omega) (by omega) ?_)
  intro w1 hb1 hz1 hS1 hF1 _
  have HN := Lib.hid hz1
  clear hz1
  go_wp2_with fail
  go_loopw [6, 22] (fun c i wr => ∃ k cc S : Nat, k ≤ ny ∧ cc < 2 ∧ S < B^k ∧ c = .int .u32 cc ∧ i = .int .i64 k ∧ S + cc * B^k = X % B^k + Y % B^k ∧ Below w.heap.size w wr ∧ Num wr w.heap.size 0 (nx+1) S ∧ Free wr w.heap.size 0 (nx+1)) (fun _ i _ => ny - (intOf i).toNat)
  case atStart => exact ⟨0, 0, 0, by omega, by omega, Bp _, rfl, rfl, by simp [Nat.mod_one], hb1, hS1, hF1⟩
  case round =>
    obtain ⟨k, cc, S, hk, hcc, hSk, rfl, rfl, heq, hbr, hSr, hFr⟩ := hrel
    by_cases hlt : k < ny
    · obtain rfl := HB.out (by omega)
      obtain rfl := HB'.out (by omega)
      have c1 := (hX.kept hbr).cell (i := k) (by omega)
      have c2 := (hY.kept hbr).cell (i := k) (by omega)
      have c3 := hSr.cell0 (i := k) (by omega)
      have f3 := hFr.at0 (i := k) (by omega)
      go_wp2_with fail
      have b1 := hX.block_lt (by omega)
      have b2 := hY.block_lt (by omega)
      have i1 : (k : Int) < nx := by omega
      have i2 : (k : Int) < nx + 1 := by omega
      have i3 : (k : Int) < ny := by omega
      have i4 : (0 : Int) ≤ k := by omega
      have hx := dg_lt X k
      have hy := dg_lt Y k
      go_region_held3 (fun w' => w'.cell? ⟨bx, ox + k, none⟩ = some (.int .u32 (dg X k)) ∧ w'.cell? ⟨by_, oy + k, none⟩ = some (.int .u32 (dg Y k))) (first | exact ⟨c1, c2⟩ | exact ⟨cell_other c1 (Nat.ne_of_lt b1), cell_other c2 (Nat.ne_of_lt b2)⟩)
        (first | (go_at_call 94; refine (add32_any _ _ _ _ hx hy hcc).mono ?_; rintro e w' ⟨rfl, rfl⟩))
      go_wp2_with fail
      go_roundw
      case rel =>
        refine ⟨k + 1, addHi (dg X k) (dg Y k) cc, S + addLo (dg X k) (dg Y k) cc * B^k, by omega, addHi_lt hx hy hcc, add_lt_pow hSk (addLo_lt _ _ _), rfl, by go_num, ?_, ?_, ?_, ?_⟩
        · rw [mod_succ X, mod_succ Y, pow_succ]
          exact add_step heq (add_lo_hi _ _ _)
        · exact (hbr.setCell (Nat.le_refl _) _).drew
        · rw [← put_new hSk]; exact (hSr.set0 (by omega) (addLo_lt _ _ _)).drew
        · exact hFr.set _ _
      case measure => simp [intOf]; omega
    · obtain rfl : k = ny := by omega
      go_wp2_with fail
      have hYk : Y % B^k = Y := mod_of_lt hY.lt
      rw [hYk] at heq
      clear hYk
      go_loopw [6, 8] (fun c i wr => ∃ j cc S : Nat, k ≤ j ∧ j ≤ nx ∧ cc < 2 ∧ S < B^j ∧ c = .int .u32 cc ∧ i = .int .i64 j ∧ S + cc * B^j = X % B^j + Y ∧ Below w.heap.size w wr ∧ Num wr w.heap.size 0 (nx+1) S ∧ Free wr w.heap.size 0 (nx+1)) (fun _ i _ => nx - (intOf i).toNat)
      case atStart => exact ⟨k, cc, S, by omega, by omega, hcc, hSk, rfl, rfl, heq, hbr, hSr, hFr⟩
      case round =>
        clear hbr hSr hFr heq hSk hcc
        obtain ⟨j, cc, S, hkj, hj, hcc, hSk, rfl, rfl, heq, hbr, hSr, hFr⟩ := hrel
        by_cases hlt : j < nx
        · obtain rfl := HB.out (by omega)
          have c1 := (hX.kept hbr).cell (i := j) (by omega)
          have c3 := hSr.cell0 (i := j) (by omega)
          have f3 := hFr.at0 (i := j) (by omega)
          have b1 := hX.block_lt (by omega)
          have i1 : (j : Int) < nx := by omega
          have i2 : (j : Int) < nx + 1 := by omega
          have i4 : (0 : Int) ≤ j := by omega
          have hx := dg_lt X j
          go_wp2_with (go_at_call 94; refine (add32_zero _ _ _ hx hcc).mono ?_; rintro e w' ⟨rfl, rfl⟩)
          go_roundw
          case rel =>
            refine ⟨j + 1, addHi (dg X j) 0 cc, S + addLo (dg X j) 0 cc * B^j, by omega, by omega, addHi_lt hx (by decide) hcc, add_lt_pow hSk (addLo_lt _ _ _), rfl, by go_num, ?_, ?_, ?_, ?_⟩
            · rw [mod_succ X, pow_succ]
              have := add_step heq (add_lo_hi (dg X j) 0 cc)
              rwa [Nat.zero_mul, Nat.add_zero] at this
            · exact hbr.setCell (Nat.le_refl _) _
            · rw [← put_new hSk]; exact hSr.set0 (by omega) (addLo_lt _ _ _)
            · exact hFr.set _ _
          case measure => simp [intOf]; omega
        · obtain rfl : j = nx := by omega
          have c3 := hSr.cell0 (i := j) (by omega)
          have f3 := hFr.at0 (i := j) (by omega)
          have hlt2 := hSr.block_lt (by omega)
          have e : X + Y = put S j cc := by rw [put_new hSk, heq, mod_of_lt hX.lt]
          go_wp2_with fail
          go_ret
          rw [e]
          exact ⟨rfl, hbr.setCell (Nat.le_refl _) _, hSr.set0 (by omega) (Nat.lt_of_lt_of_le hcc (by decide)), hFr.set _ _, Nat.le_refl _, by simpa using hlt2⟩
set_option maxRecDepth 100000 in
set_option maxHeartbeats 800000 in
theorem plus_lt (basex basey : Option Addr) (bx ox nx cx X by_ oy ny cy Y : Nat) (w : World) (hbx : nx ≠ 0 → basex = some ⟨bx, ox, none⟩) (hby : ny ≠ 0 → basey = some ⟨by_, oy, none⟩)
    (hX : Num w bx ox nx X) (hY : Num w by_ oy ny Y) (hn : ny < nx) (hc : nx ≤ 1099511627776) :
    Calls Try.prog 77 #[.slice basey ny cy, .slice basex nx cx] w fun e w' => e = .returned (.slice (some ⟨w.heap.size, 0, none⟩) (nx+1) (nx+1)) ∧ Fresh w w' w.heap.size (nx+1) (X+Y) := by
  have HB := Lib.hid hbx
  have HB' := Lib.hid hby
  clear hbx hby
  go_enter Try.func77, Try.ntmps77
  go_wp2_with (at_make; refine wpList_make_num _ rfl _ _ 22 rfl 51 info51 Try.underlying22 .i64 .i64 _ _ (nx+1) rfl rfl (by omega) (by omega) (by omega) ?_)
  intro w1 hb1 hz1 hS1 hF1 _
  have HN := Lib.hid hz1
  clear hz1
  go_wp2_with fail
  go_loopw [6, 22] (fun c i wr => ∃ k cc S : Nat, k ≤ ny ∧ cc < 2 ∧ S < B^k ∧ c = .int .u32 cc ∧ i = .int .i64 k ∧ S + cc * B^k = X % B^k + Y % B^k ∧ Below w.heap.size w wr ∧ Num wr w.heap.size 0 (nx+1) S ∧ Free wr w.heap.size 0 (nx+1)) (fun _ i _ => ny - (intOf i).toNat)
  case atStart => exact ⟨0, 0, 0, by omega, by omega, Bp _, rfl, rfl, by simp [Nat.mod_one], hb1, hS1, hF1⟩
  case round =>
    obtain ⟨k, cc, S, hk, hcc, hSk, rfl, rfl, heq, hbr, hSr, hFr⟩ := hrel
    by_cases hlt : k < ny
    · obtain rfl := HB.out (by omega)
      obtain rfl := HB'.out (by omega)
      have c1 := (hX.kept hbr).cell (i := k) (by omega)
      have c2 := (hY.kept hbr).cell (i := k) (by omega)
      have c3 := hSr.cell0 (i := k) (by omega)
      have f3 := hFr.at0 (i := k) (by omega)
      go_wp2_with fail
      have b1 := hX.block_lt (by omega)
      have b2 := hY.block_lt (by omega)
      have i1 : (k : Int) < nx := by omega
      have i2 : (k : Int) < nx + 1 := by omega
      have i3 : (k : Int) < ny := by omega
      have i4 : (0 : Int) ≤ k := by omega
      have hx := dg_lt X k
      have hy := dg_lt Y k
      go_region_held3 (fun w' => w'.cell? ⟨bx, ox + k, none⟩ = some (.int .u32 (dg X k)) ∧ w'.cell? ⟨by_, oy + k, none⟩ = some (.int .u32 (dg Y k))) (first | exact ⟨c1, c2⟩ | exact ⟨cell_other c1 (Nat.ne_of_lt b1), cell_other c2 (Nat.ne_of_lt b2)⟩)
        (first | (go_at_call 94; refine (add32_any _ _ _ _ hx hy hcc).mono ?_; rintro e w' ⟨rfl, rfl⟩))
      go_wp2_with fail
      go_roundw
      case rel =>
        refine ⟨k + 1, addHi (dg X k) (dg Y k) cc, S + addLo (dg X k) (dg Y k) cc * B^k, by omega, addHi_lt hx hy hcc, add_lt_pow hSk (addLo_lt _ _ _), rfl, by go_num, ?_, ?_, ?_, ?_⟩
        · rw [mod_succ X, mod_succ Y, pow_succ]
          exact add_step heq (add_lo_hi _ _ _)
        · exact (hbr.setCell (Nat.le_refl _) _).drew
        · rw [← put_new hSk]; exact (hSr.set0 (by omega) (addLo_lt _ _ _)).drew
        · exact hFr.set _ _
      case measure => simp [intOf]; omega
    · obtain rfl : k = ny := by omega
      go_wp2_with fail
      have hYk : Y % B^k = Y := mod_of_lt hY.lt
      rw [hYk] at heq
      clear hYk
      go_loopw [6, 8] (fun c i wr => ∃ j cc S : Nat, k ≤ j ∧ j ≤ nx ∧ cc < 2 ∧ S < B^j ∧ c = .int .u32 cc ∧ i = .int .i64 j ∧ S + cc * B^j = X % B^j + Y ∧ Below w.heap.size w wr ∧ Num wr w.heap.size 0 (nx+1) S ∧ Free wr w.heap.size 0 (nx+1)) (fun _ i _ => nx - (intOf i).toNat)
      case atStart => exact ⟨k, cc, S, by omega, by omega, hcc, hSk, rfl, rfl, heq, hbr, hSr, hFr⟩
      case round =>
        clear hbr hSr hFr heq hSk hcc
        obtain ⟨j, cc, S, hkj, hj, hcc, hSk, rfl, rfl, heq, hbr, hSr, hFr⟩ := hrel
        by_cases hlt : j < nx
        · obtain rfl := HB.out (by omega)
          have c1 := (hX.kept hbr).cell (i := j) (by omega)
          have c3 := hSr.cell0 (i := j) (by omega)
          have f3 := hFr.at0 (i := j) (by omega)
          have b1 := hX.block_lt (by omega)
          have i1 : (j : Int) < nx := by omega
          have i2 : (j : Int) < nx + 1 := by omega
          have i4 : (0 : Int) ≤ j := by omega
          have hx := dg_lt X j
          go_wp2_with (go_at_call 94; refine (add32_zero _ _ _ hx hcc).mono ?_; rintro e w' ⟨rfl, rfl⟩)
          go_roundw
          case rel =>
            refine ⟨j + 1, addHi (dg X j) 0 cc, S + addLo (dg X j) 0 cc * B^j, by omega, by omega, addHi_lt hx (by decide) hcc, add_lt_pow hSk (addLo_lt _ _ _), rfl, by go_num, ?_, ?_, ?_, ?_⟩
            · rw [mod_succ X, pow_succ]
              have := add_step heq (add_lo_hi (dg X j) 0 cc)
              rwa [Nat.zero_mul, Nat.add_zero] at this
            · exact hbr.setCell (Nat.le_refl _) _
            · rw [← put_new hSk]; exact hSr.set0 (by omega) (addLo_lt _ _ _)
            · exact hFr.set _ _
          case measure => simp [intOf]; omega
        · obtain rfl : j = nx := by omega
          have c3 := hSr.cell0 (i := j) (by omega)
          have f3 := hFr.at0 (i := j) (by omega)
          have hlt2 := hSr.block_lt (by omega)
          have e : X + Y = put S j cc := by rw [put_new hSk, heq, mod_of_lt hX.lt]
          go_wp2_with fail
          go_ret
          rw [e]
          exact ⟨rfl, hbr.setCell (Nat.le_refl _) _, hSr.set0 (by omega) (Nat.lt_of_lt_of_le hcc (by decide)), hFr.set _ _, Nat.le_refl _, by simpa using hlt2⟩
/-- integer.plus, whichever is longer. -/
theorem plus_any (basex basey : Option Addr) (bx ox nx cx X by_ oy ny cy Y : Nat) (w : World) (hbx : nx ≠ 0 → basex = some ⟨bx, ox, none⟩) (hby : ny ≠ 0 → basey = some ⟨by_, oy, none⟩)
    (hX : Num w bx ox nx X) (hY : Num w by_ oy ny Y) (hc : nx ≤ 1099511627776) (hc' : ny ≤ 1099511627776) :
    Calls Try.prog 77 #[.slice basex nx cx, .slice basey ny cy] w fun e w' => e = .returned (.slice (some ⟨w.heap.size, 0, none⟩) (max nx ny + 1) (max nx ny + 1)) ∧ Fresh w w' w.heap.size (max nx ny + 1) (X+Y) := by
  rcases Nat.lt_or_ge nx ny with h | h
  · rw [Nat.max_eq_right (by omega), Nat.add_comm X Y]
    exact plus_lt basey basex by_ oy ny cy Y bx ox nx cx X w hby hbx hY hX h hc'
  · rw [Nat.max_eq_left h]
    exact plus_ge basex basey bx ox nx cx X by_ oy ny cy Y w hbx hby hX hY h hc
end Go.Proofs.Yteggfjahjanabaa
