/-
  integer.plus returns new limbs that hold the sum.
  Small functions of package integer: duplicate, number, large, bounded, length, order.
-/
import Derived.Deep.RegionHeld3
import Derived.Deep.DeepCutAuto
import Derived.Test.YtkokokgmhpkoiaaM05
namespace Go.Proofs.Ytkokokgmhpkoiaa
open Go.RowKit PB

theorem info51 : (Try.prog.info? 77).map (fun i => (i.zero, i.size, i.bytes)) = some (some (.int .u32 0), 1, 4) := by kernel_rfl

set_option maxRecDepth 100000 in
set_option maxHeartbeats 800000 in
theorem plus_ge (basex basey : Option Addr) (bx ox nx cx X by_ oy ny cy Y : Nat) (w : World) (hbx : nx ≠ 0 → basex = some ⟨bx, ox, none⟩) (hby : ny ≠ 0 → basey = some ⟨by_, oy, none⟩)
    (hX : Num w bx ox nx X) (hY : Num w by_ oy ny Y) (hn : ny ≤ nx) (hc : nx ≤ 1099511627776) :
    Calls Try.prog 117 #[.slice basex nx cx, .slice basey ny cy] w fun e w' => e = .returned (.slice (some ⟨w.heap.size, 0, none⟩) (nx+1) (nx+1)) ∧ Fresh w w' w.heap.size (nx+1) (X+Y) := by
  have HB := Lib.hid hbx
  have HB' := Lib.hid hby
  clear hbx hby
  go_enter Try.func117, Try.ntmps117
  go_wp2_with (at_make; refine wpList_make_num _ rfl _ _ 22 rfl 77 info51 Try.underlying22 .i64 .i64 _ _ (nx+1) rfl rfl (by omega) (by omega) (by omega) ?_)
  intro w1 hb1 hz1 hS1 hF1 _
  have HN := Lib.hid hz1
  clear hz1
  go_wp2_with fail
  go_loopw [6, 22] (fun c i wr => ∃ k cc S : Nat, k ≤ ny ∧ cc < 2 ∧ S < B^k ∧ c = .int .u32 cc ∧ i = .int .i64 k ∧ S + cc * B^k = X % B^k + Y % B^k ∧ Below w.heap.size w wr ∧ Num wr w.heap.size 0 (nx+1) S ∧ Free wr w.heap.size 0 (nx+1)) (fun _ i _ => ny - (intOf i).toNat)
  case atStart => exact ⟨0, 0, 0, by omega, by omega, Bp _, rfl, rfl, by simp [Nat.mod_one], hb1, hS1, hF1⟩
  case round =>
    obtain ⟨k, cc, S, hk, hcc, hSk, rfl, rfl, heq, hbr, hSr, hFr⟩ := hrel
    by_cases hlt : k < ny
    · obtain rfl := HB.out (by omega)
      obtain rfl := HB'.out (by omega)
      have c1 := (hX.kept hbr).cell (i := k) (by omega)
      have c2 := (hY.kept hbr).cell (i := k) (by omega)
      have c3 := hSr.cell0 (i := k) (by omega)
      have f3 := hFr.at0 (i := k) (by omega)
      go_wp2_with fail
      have b1 := hX.block_lt (by omega)
      have b2 := hY.block_lt (by omega)
      have i1 : (k : Int) < nx := by omega
      have i2 : (k : Int) < nx + 1 := by omega
      have i3 : (k : Int) < ny := by omega
      have i4 : (0 : Int) ≤ k := by omega
      have hx := dg_lt X k
      have hy := dg_lt Y k
      go_region_held3 (fun w' => w'.cell? ⟨bx, ox + k, none⟩ = some (.int .u32 (dg X k)) ∧ w'.cell? ⟨by_, oy + k, none⟩ = some (.int .u32 (dg Y k))) (first | exact ⟨c1, c2⟩ | exact ⟨cell_other c1 (Nat.ne_of_lt b1), cell_other c2 (Nat.ne_of_lt b2)⟩)
        (first | (go_at_call 145; refine (add32_any _ _ _ _ hx hy hcc).mono ?_; rintro e w' ⟨rfl, rfl⟩))
      go_wp2_with fail
      go_roundw
      case rel =>
        refine ⟨k + 1, addHi (dg X k) (dg Y k) cc, S + addLo (dg X k) (dg Y k) cc * B^k, by omega, addHi_lt hx hy hcc, add_lt_pow hSk (addLo_lt _ _ _), rfl, by go_num, ?_, ?_, ?_, ?_⟩
        · rw [mod_succ X, mod_succ Y, pow_succ]
          exact add_step heq (add_lo_hi _ _ _)
        · exact (hbr.setCell (Nat.le_refl _) _).drew
        · rw [← put_new hSk]; exact (hSr.set0 (by omega) (addLo_lt _ _ _)).drew
        · exact hFr.set _ _
      case measure => simp [intOf]; omega
    · obtain rfl : k = ny := by omega
      go_wp2_with fail
      have hYk : Y % B^k = Y := mod_of_lt hY.lt
      rw [hYk] at heq
      clear hYk
      go_loopw [6, 8] (fun c i wr => ∃ j cc S : Nat, k ≤ j ∧ j ≤ nx ∧ cc < 2 ∧ S < B^j ∧ c = .int .u32 cc ∧ i = .int .i64 j ∧ S + cc * B^j = X % B^j + Y ∧ Below w.heap.size w wr ∧ Num wr w.heap.size 0 (nx+1) S ∧ Free wr w.heap.size 0 (nx+1)) (fun _ i _ => nx - (intOf i).toNat)
      case atStart => exact ⟨k, cc, S, by omega, by omega, hcc, hSk, rfl, rfl, heq, hbr, hSr, hFr⟩
      case round =>
        clear hbr hSr hFr heq hSk hcc
        obtain ⟨j, cc, S, hkj, hj, hcc, hSk, rfl, rfl, heq, hbr, hSr, hFr⟩ := hrel
        by_cases hlt : j < nx
        · obtain rfl := HB.out (by omega)
          have c1 := (hX.kept hbr).cell (i := j) (by omega)
          have c3 := hSr.cell0 (i := j) (by omega)
          have f3 := hFr.at0 (i := j) (by omega)
          have b1 := hX.block_lt (by omega)
          have i1 : (j : Int) < nx := by omega
          have i2 : (j : Int) < nx + 1 := by omega
          have i4 : (0 : Int) ≤ j := by omega
          have hx := dg_lt X j
          go_wp2_with (go_at_call 145; refine (add32_zero _ _ _ hx hcc).mono ?_; rintro e w' ⟨rfl, rfl⟩)
          go_roundw
          case rel =>
            refine ⟨j + 1, addHi (dg X j) 0 cc, S + addLo (dg X j) 0 cc * B^j, by omega, by omega, addHi_lt hx (by decide) hcc, add_lt_pow hSk (addLo_lt _ _ _), rfl, by go_num, ?_, ?_, ?_, ?_⟩
            · rw [mod_succ X, pow_succ]
              have := add_step heq (add_lo_hi (dg X j) 0 cc)
              rwa [Nat.zero_mul, Nat.add_zero] at this
            · exact hbr.setCell (Nat.le_refl _) _
            · rw [← put_new hSk]; exact hSr.set0 (by omega) (addLo_lt _ _ _)
            · exact hFr.set _ _
          case measure => simp [intOf]; omega
        · obtain rfl : j = nx := by omega
          have c3 := hSr.cell0 (i := j) (by omega)
          have f3 := hFr.at0 (i := j) (by omega)
          have hlt2 := hSr.block_lt (by omega)
          have e : X + Y = put S j cc := by rw [put_new hSk, heq, mod_of_lt hX.lt]
          go_wp2_with fail
          go_ret
          rw [e]
          exact ⟨rfl, hbr.setCell (Nat.le_refl _) _, hSr.set0 (by omega) (Nat.lt_of_lt_of_le hcc (by decide)), hFr.set _ _, Nat.le_refl _, by simpa using hlt2⟩
set_option maxRecDepth 100000 in
set_option maxHeartbeats 800000 in
theorem plus_lt (basex basey : Option Addr) (bx ox nx cx X by_ oy ny cy Y : Nat) (w : World) (hbx : nx ≠ 0 → basex = some ⟨bx, ox, none⟩) (hby : ny ≠ 0 → basey = some ⟨by_, oy, none⟩)
    (hX : Num w bx ox nx X) (hY : Num w by_ oy ny Y) (hn : ny < nx) (hc : nx ≤ 1099511627776) :
    Calls Try.prog 117 #[.slice basey ny cy, .slice basex nx cx] w fun e w' => e = .returned (.slice (some ⟨w.heap.size, 0, none⟩) (nx+1) (nx+1)) ∧ Fresh w w' w.heap.size (nx+1) (X+Y) := by
  have HB := Lib.hid hbx
  have HB' := Lib.hid hby
  clear hbx hby
  go_enter Try.func117, Try.ntmps117
  go_wp2_with (at_make; refine wpList_make_num _ rfl _ _ 22 rfl 77 info51 Try.underlying22 .i64 .i64 _ _ (nx+1) rfl rfl (by omega) (by omega) (by omega) ?_)
  intro w1 hb1 hz1 hS1 hF1 _
  have HN := Lib.hid hz1
  clear hz1
  go_wp2_with fail
  go_loopw [6, 22] (fun c i wr => ∃ k cc S : Nat, k ≤ ny ∧ cc < 2 ∧ S < B^k ∧ c = .int .u32 cc ∧ i = .int .i64 k ∧ S + cc * B^k = X % B^k + Y % B^k ∧ Below w.heap.size w wr ∧ Num wr w.heap.size 0 (nx+1) S ∧ Free wr w.heap.size 0 (nx+1)) (fun _ i _ => ny - (intOf i).toNat)
  case atStart => exact ⟨0, 0, 0, by omega, by omega, Bp _, rfl, rfl, by simp [Nat.mod_one], hb1, hS1, hF1⟩
  case round =>
    obtain ⟨k, cc, S, hk, hcc, hSk, rfl, rfl, heq, hbr, hSr, hFr⟩ := hrel
    by_cases hlt : k < ny
    · obtain rfl := HB.out (by omega)
      obtain rfl := HB'.out (by omega)
      have c1 := (hX.kept hbr).cell (i := k) (by omega)
      have c2 := (hY.kept hbr).cell (i := k) (by omega)
      have c3 := hSr.cell0 (i := k) (by omega)
      have f3 := hFr.at0 (i := k) (by omega)
      go_wp2_with fail
      have b1 := hX.block_lt (by omega)
      have b2 := hY.block_lt (by omega)
      have i1 : (k : Int) < nx := by omega
      have i2 : (k : Int) < nx + 1 := by omega
      have i3 : (k : Int) < ny := by omega
      have i4 : (0 : Int) ≤ k := by omega
      have hx := dg_lt X k
      have hy := dg_lt Y k
      go_region_held3 (fun w' => w'.cell? ⟨bx, ox + k, none⟩ = some (.int .u32 (dg X k)) ∧ w'.cell? ⟨by_, oy + k, none⟩ = some (.int .u32 (dg Y k))) (first | exact ⟨c1, c2⟩ | exact ⟨cell_other c1 (Nat.ne_of_lt b1), cell_other c2 (Nat.ne_of_lt b2)⟩)
        (first | (go_at_call 145; refine (add32_any _ _ _ _ hx hy hcc).mono ?_; rintro e w' ⟨rfl, rfl⟩))
      go_wp2_with fail
      go_roundw
      case rel =>
        refine ⟨k + 1, addHi (dg X k) (dg Y k) cc, S + addLo (dg X k) (dg Y k) cc * B^k, by omega, addHi_lt hx hy hcc, add_lt_pow hSk (addLo_lt _ _ _), rfl, by go_num, ?_, ?_, ?_, ?_⟩
        · rw [mod_succ X, mod_succ Y, pow_succ]
          exact add_step heq (add_lo_hi _ _ _)
        · exact (hbr.setCell (Nat.le_refl _) _).drew
        · rw [← put_new hSk]; exact (hSr.set0 (by omega) (addLo_lt _ _ _)).drew
        · exact hFr.set _ _
      case measure => simp [intOf]; omega
    · obtain rfl : k = ny := by omega
      go_wp2_with fail
      have hYk : Y % B^k = Y := mod_of_lt hY.lt
      rw [hYk] at heq
      clear hYk
      go_loopw [6, 8] (fun c i wr => ∃ j cc S : Nat, k ≤ j ∧ j ≤ nx ∧ cc < 2 ∧ S < B^j ∧ c = .int .u32 cc ∧ i = .int .i64 j ∧ S + cc * B^j = X % B^j + Y ∧ Below w.heap.size w wr ∧ Num wr w.heap.size 0 (nx+1) S ∧ Free wr w.heap.size 0 (nx+1)) (fun _ i _ => nx - (intOf i).toNat)
      case atStart => exact ⟨k, cc, S, by omega, by omega, hcc, hSk, rfl, rfl, heq, hbr, hSr, hFr⟩
      case round =>
        clear hbr hSr hFr heq hSk hcc
        obtain ⟨j, cc, S, hkj, hj, hcc, hSk, rfl, rfl, heq, hbr, hSr, hFr⟩ := hrel
        by_cases hlt : j < nx
        · obtain rfl := HB.out (by omega)
          have c1 := (hX.kept hbr).cell (i := j) (by omega)
          have c3 := hSr.cell0 (i := j) (by omega)
          have f3 := hFr.at0 (i := j) (by omega)
          have b1 := hX.block_lt (by omega)
          have i1 : (j : Int) < nx := by omega
          have i2 : (j : Int) < nx + 1 := by omega
          have i4 : (0 : Int) ≤ j := by omega
          have hx := dg_lt X j
          go_wp2_with (go_at_call 145; refine (add32_zero _ _ _ hx hcc).mono ?_; rintro e w' ⟨rfl, rfl⟩)
          go_roundw
          case rel =>
            refine ⟨j + 1, addHi (dg X j) 0 cc, S + addLo (dg X j) 0 cc * B^j, by omega, by omega, addHi_lt hx (by decide) hcc, add_lt_pow hSk (addLo_lt _ _ _), rfl, by go_num, ?_, ?_, ?_, ?_⟩
            · rw [mod_succ X, pow_succ]
              have := add_step heq (add_lo_hi (dg X j) 0 cc)
              rwa [Nat.zero_mul, Nat.add_zero] at this
            · exact hbr.setCell (Nat.le_refl _) _
            · rw [← put_new hSk]; exact hSr.set0 (by omega) (addLo_lt _ _ _)
            · exact hFr.set _ _
          case measure => simp [intOf]; omega
        · obtain rfl : j = nx := by omega
          have c3 := hSr.cell0 (i := j) (by omega)
          have f3 := hFr.at0 (i := j) (by omega)
          have hlt2 := hSr.block_lt (by omega)
          have e : X + Y = put S j cc := by rw [put_new hSk, heq, mod_of_lt hX.lt]
          go_wp2_with fail
          go_ret
          rw [e]
          exact ⟨rfl, hbr.setCell (Nat.le_refl _) _, hSr.set0 (by omega) (Nat.lt_of_lt_of_le hcc (by decide)), hFr.set _ _, Nat.le_refl _, by simpa using hlt2⟩
/-- integer.plus, whichever is longer. -/
theorem plus_any (basex basey : Option Addr) (bx ox nx cx X by_ oy ny cy Y : Nat) (w : World) (hbx : nx ≠ 0 → basex = some ⟨bx, ox, none⟩) (hby : ny ≠ 0 → basey = some ⟨by_, oy, none⟩)
    (hX : Num w bx ox nx X) (hY : Num w by_ oy ny Y) (hc : nx ≤ 1099511627776) (hc' : ny ≤ 1099511627776) :
    Calls Try.prog 117 #[.slice basex nx cx, .slice basey ny cy] w fun e w' => e = .returned (.slice (some ⟨w.heap.size, 0, none⟩) (max nx ny + 1) (max nx ny + 1)) ∧ Fresh w w' w.heap.size (max nx ny + 1) (X+Y) := by
  rcases Nat.lt_or_ge nx ny with h | h
  · rw [Nat.max_eq_right (by omega), Nat.add_comm X Y]
    exact plus_lt basey basex by_ oy ny cy Y bx ox nx cx X w hby hbx hY hX h hc'
  · rw [Nat.max_eq_left h]
    exact plus_ge basex basey bx ox nx cx X by_ oy ny cy Y w hbx hby hX hY h hc
end Go.Proofs.Ytkokokgmhpkoiaa

namespace Go.Proofs.Ytkokokgmhpkoiaa
open Go.RowKit PB
theorem size51 : (Try.prog.info? 77).map (·.size) = some 1 := by kernel_rfl

set_option maxRecDepth 100000 in
theorem duplicate_any (base : Option Addr) (b off n c X : Nat) (w : World) (hb : n ≠ 0 → base = some ⟨b, off, none⟩) (hX : Num w b off n X) (hn : n ≤ c) (hc : n ≤ 1099511627776) :
    Calls Try.prog 78 #[.slice base n c] w fun e w' => e = .returned (.slice (some ⟨w.heap.size, 0, none⟩) (nl X) (nl X)) ∧ Fresh w w' w.heap.size (nl X) X := by
  have hnl : nl X ≤ n := nl_le hX.lt
  go_enter Try.func78, Try.ntmps78
  go_wp2_with (first | (go_at_call 75; refine (cut_any base b off n c X _ hb hX hn hc).mono ?_; rintro e w' ⟨rfl, rfl⟩) | (at_make; refine wpList_make_num _ rfl _ _ 22 rfl 77 info51 Try.underlying22 .i64 .i64 _ _ (nl X) rfl rfl (by omega) (by omega) (by omega) ?_))
  intro w1 hb1 hz1 hS1 hF1 hR1
  have HN := Lib.hid hz1
  clear hz1
  go_wp2_with (refine wpList_copy_num rfl (.tmp 9) (.tmp 10) 22 22 rfl 77 Try.underlying22 size51 _ _ _ _ _ _ rfl rfl w.heap.size 0 (nl X) b off X (nl X) (by omega) hR1 hS1 ((hX.fewer hnl (lt_nl X)).kept hb1) (fun h => hb (by omega)) (fun _ => rfl) (by omega) w.heap.size w hb1 (Nat.le_refl _) ?_)
  intro w2 hb2 hlt hS2 hF2
  go_wp2_with fail
  go_ret
  refine ⟨rfl, hb2, ?_, hF2, Nat.le_refl _, hlt⟩
  rwa [mod_of_lt (lt_nl X)] at hS2

/-- What number returns: 0 without limbs, or a sign and cut limbs. -/
def intv (neg : Bool) (base : Option Addr) (X : Nat) : Value := if X = 0 then .agg #[.bool false, .slice none 0 0] else .agg #[.bool neg, .slice base (nl X) (nl X)]
theorem intv_zero (neg : Bool) (base : Option Addr) : intv neg base 0 = .agg #[.bool false, .slice none 0 0] := if_pos rfl
theorem intv_pos (neg : Bool) (base : Option Addr) {X : Nat} (h : X ≠ 0) : intv neg base X = .agg #[.bool neg, .slice base (nl X) (nl X)] := if_neg h
set_option maxRecDepth 100000 in
theorem number_any (neg : Bool) (base : Option Addr) (b off n c X : Nat) (w : World) (hb : n ≠ 0 → base = some ⟨b, off, none⟩) (hX : Num w b off n X) (hn : n ≤ c) (hc : n ≤ 1099511627776) :
    Calls Try.prog 73 #[.bool neg, .slice base n c] w fun e w' => e = .returned (intv neg base X) ∧ Below w.heap.size w w' := by
  by_cases h0 : X = 0
  · have HX := Lib.hid h0
    have hz : ((nl X : Int) == 0) = true := by rw [h0, nl_zero]; rfl
    clear h0
    go_enter Try.func73, Try.ntmps73
    go_wp2_with (go_at_call 75; refine (cut_any base b off n c X _ hb (hX.alloc _) hn hc).mono ?_; rintro e w' ⟨rfl, rfl⟩)
    refine bodyPost_ret (v := .agg #[.bool false, .slice none 0 0]) (by simp [results, Try.results73, go_sem]) rfl ⟨by rw [HX.out, intv_zero], ?_⟩
    exact ((Below.refl _ _).alloc (Nat.le_refl _) _)
  · have HX := Lib.hid h0
    have hz : ((nl X : Int) == 0) = false := by have := mt nl_eq_zero.1 h0; simp; omega
    clear h0
    go_enter Try.func73, Try.ntmps73
    go_wp2_with (go_at_call 75; refine (cut_any base b off n c X _ hb (hX.alloc _) hn hc).mono ?_; rintro e w' ⟨rfl, rfl⟩)
    refine bodyPost_ret (v := .agg #[.bool neg, .slice base (nl X) (nl X)]) (by simp [results, Try.results73, go_sem]) rfl ⟨by rw [intv_pos _ _ HX.out], ?_⟩
    exact ((Below.refl _ _).alloc (Nat.le_refl _) _)

set_option maxRecDepth 100000 in
/-- The order of two cut rows. -/
theorem order_any (basex basey : Option Addr) (bx ox X cx by_ oy Y cy : Nat) (w : World) (hbx : nl X ≠ 0 → basex = some ⟨bx, ox, none⟩) (hby : nl Y ≠ 0 → basey = some ⟨by_, oy, none⟩)
    (hX : Num w bx ox (nl X) X) (hY : Num w by_ oy (nl Y) Y) (hc : nl X ≤ 1099511627776) (hc' : nl Y ≤ 1099511627776) :
    Calls Try.prog 93 #[.slice basex (nl X) cx, .slice basey (nl Y) cy] w fun e w' => e = .returned (.int .i64 (cmpi X Y)) ∧ ∃ m, w' = w.drewN m := by
  by_cases h : nl X = nl Y
  · have hne : ((nl X : Int) != (nl Y : Int)) = false := by simp [h]
    have HB := Lib.hid hbx
    have HB' := Lib.hid hby
    obtain ⟨n, hn⟩ : ∃ n, n = nl X := ⟨_, rfl⟩
    have hX' := lt_nl X
    have hY' := lt_nl Y
    rw [← h] at hY' hY HB' hne ⊢
    rw [← hn] at hX hY hX' hY' HB HB' hne hc ⊢
    clear h hn hbx hby hc'
    go_enter Try.func93, Try.ntmps93
    go_wp2_with fail
    go_loopw [5] (fun v wr => ∃ k q : Nat, k ≤ n ∧ v = .int .i64 ((k : Int) - 1) ∧ wr = w.drewN q ∧ X / B^k = Y / B^k) (fun v _ => (intOf v + 1).toNat)
    case atStart => exact ⟨n, 0, by omega, rfl, rfl, by rw [Nat.div_eq_of_lt hX', Nat.div_eq_of_lt hY']⟩
    case round =>
      obtain ⟨k, q, hk, rfl, rfl, heq⟩ := hrel
      have HE := Lib.hid heq
      clear heq
      by_cases h0 : k = 0
      · subst h0
        have hEq : X = Y := by simpa using HE.out
        subst hEq
        have hz : decide ((0 : Int) ≤ ((0 : Nat) : Int) - 1) = false := by decide
        go_wp2_with fail
        go_ret
        exact ⟨by rw [cmpi, if_neg (by omega), if_neg (by omega)]; rfl, q, rfl⟩
      · obtain ⟨j, rfl⟩ : ∃ j, k = j + 1 := ⟨k - 1, by omega⟩
        obtain rfl := HB.out (by omega)
        obtain rfl := HB'.out (by omega)
        have e1 : (((j + 1 : Nat) : Int) - 1) = j := by omega
        rw [e1]
        clear e1
        have c1 := hX.cell (i := j) (by omega)
        have c2 := hY.cell (i := j) (by omega)
        have i1 : (j : Int) < n := by omega
        have i2 : (0 : Int) ≤ j := by omega
        by_cases hd : dg X j = dg Y j
        · have ht : ((dg X j : Int) != dg Y j) = false := by simp [hd]
          have HD := Lib.hid hd
          clear hd
          go_wp2_with fail
          go_quiet (fail)
          go_wp2_with fail
          go_roundw
          case rel => exact ⟨j, _, by omega, rfl, rfl, div_eq_of_dg HE.out HD.out⟩
          case measure => simp [intOf]
        · have ht : ((dg X j : Int) != dg Y j) = true := by simp; omega
          have HC := Lib.hid (show cmpi (dg X j) (dg Y j) = cmpi X Y by
            unfold cmpi
            rcases Nat.lt_or_gt_of_ne hd with h1 | h1
            · have := lt_of_dg HE.out h1
              rw [if_pos (by omega), if_pos (by omega)]
            · have := lt_of_dg HE.out.symm h1
              rw [if_neg (by omega), if_pos (by omega), if_neg (by omega), if_pos (by omega)])
          clear hd
          go_wp2_with fail
          go_quiet (fail)
          go_wp2_with fail
          go_quiet ((go_at_call 132; exact quiet_on (compare_u32 _ _ _)))
          go_wp2_with fail
          go_ret
          exact ⟨by rw [← HC.out]; rfl, _, by rw [World.drewN_drewN, World.drewN_drewN]⟩
  · have hne : ((nl X : Int) != (nl Y : Int)) = true := by simp; omega
    have hcmp : cmpi (nl X) (nl Y) = cmpi X Y := by
      unfold cmpi
      rcases Nat.lt_or_gt_of_ne h with h1 | h1
      · have := lt_of_nl_lt h1
        rw [if_pos (by omega), if_pos (by omega)]
      · have := lt_of_nl_lt h1
        rw [if_neg (by omega), if_pos (by omega), if_neg (by omega), if_pos (by omega)]
    have HC := Lib.hid hcmp
    clear hcmp h
    go_enter Try.func93, Try.ntmps93
    go_wp2_with (go_at_call 131; refine (compare_int _ _ _).mono ?_; rintro e w' ⟨rfl, rfl⟩)
    go_ret
    exact ⟨by rw [← HC.out]; rfl, 0, rfl⟩
end Go.Proofs.Ytkokokgmhpkoiaa
