/-
  math/bits.Add32, Sub32, Div32 and cmp.Compare: what they return.
  integer.plus returns new limbs that hold the sum.
-/
import Derived.Test.YtdgfmkideghhaaaProg
import Derived.Deep.QuietTactic
import Derived.BigQuiet
import Derived.Deep.RegionHeld3
import Derived.Deep.DeepCutAuto
import Derived.Test.YtdgfmkideghhaaaM01
namespace PB
/-- The low limb and the carry of a sum of three. -/
def addLo (x y c : Nat) : Nat := (x + y + c) % 4294967296
def addHi (x y c : Nat) : Nat := (x + y + c) / 4294967296
theorem add_lo_hi (x y c : Nat) : addLo x y c + addHi x y c * B = x + y + c := by unfold addLo addHi B; omega
theorem addLo_lt (x y c : Nat) : addLo x y c < B := Nat.mod_lt _ (by decide)
theorem addHi_lt {x y c : Nat} (hx : x < B) (hy : y < B) (hc : c < 2) : addHi x y c < 2 := by unfold addHi B at *; omega
/-- The low limb and the borrow of a difference. -/
def subLo (x y c : Nat) : Nat := (x + 8589934592 - y - c) % 4294967296
def subHi (x y c : Nat) : Nat := if x < y + c then 1 else 0
theorem sub_lo_hi {x y c : Nat} (hx : x < B) (hy : y < B) (hc : c < 2) : subLo x y c + y + c = x + subHi x y c * B := by
  unfold subLo subHi B at *; split <;> omega
theorem subLo_lt (x y c : Nat) : subLo x y c < B := Nat.mod_lt _ (by decide)
theorem subHi_lt (x y c : Nat) : subHi x y c < 2 := by unfold subHi; split <;> omega
theorem top_bit {n : Nat} (h : n < 4294967296) : n / 2147483648 = if n.testBit 31 then 1 else 0 := by
  have := Nat.testBit_eq_decide_div_mod_eq (x := n) (i := 31)
  rw [this]
  simp only [decide_eq_true_eq]
  rw [show (2:Nat)^31 = 2147483648 by decide]
  split <;> omega
theorem bit31 {n : Nat} (h : n < 4294967296) : n.testBit 31 = decide (2147483648 ≤ n) := by
  rw [Nat.testBit_eq_decide_div_mod_eq, show (2:Nat)^31 = 2147483648 by decide]
  congr 1
  simp; omega
theorem borrow_bits {x y c : Nat} (hx : x < 4294967296) (hy : y < 4294967296) (hc : c < 2) :
    (((4294967295 ^^^ x) &&& y) ||| ((4294967295 ^^^ (x ^^^ y)) &&& subLo x y c)) / 2147483648 = subHi x y c := by
  have hd : subLo x y c = (x + 8589934592 - y - c) % 4294967296 := rfl
  generalize subLo x y c = d at *
  have hd' : d < 4294967296 := by omega
  have hlt : (((4294967295 ^^^ x) &&& y) ||| ((4294967295 ^^^ (x ^^^ y)) &&& d)) < 2^32 :=
    Nat.or_lt_two_pow (Nat.and_lt_two_pow _ (by omega)) (Nat.and_lt_two_pow _ (by omega))
  rw [top_bit (by omega)]
  have hm : Nat.testBit 4294967295 31 = true := by decide
  rw [Nat.testBit_or, Nat.testBit_and, Nat.testBit_and, Nat.testBit_xor, Nat.testBit_xor, Nat.testBit_xor, hm, bit31 hx, bit31 hy, bit31 hd']
  unfold subHi
  by_cases h1 : 2147483648 ≤ x <;> by_cases h2 : 2147483648 ≤ y <;> by_cases h3 : 2147483648 ≤ d <;> simp [h1, h2, h3] <;> omega
/-- cmp.Compare. -/
def cmpi (x y : Int) : Int := if x < y then -1 else if y < x then 1 else 0
end PB
namespace Go.Proofs.Ytdgfmkideghhaaa
open Go.RowKit PB

theorem tuple2 {k k' : IntKind} {a a' b b' : Int} (h : a = a') (h' : b = b') : Ending.returned (.tuple #[.int k a, .int k' b]) = Ending.returned (.tuple #[.int k a', .int k' b']) := by rw [h, h']
theorem ret1 {k : IntKind} {a a' : Int} (h : a = a') : Ending.returned (.int k a) = Ending.returned (.int k a') := by rw [h]

/-- A quiet call behind another quiet region. -/
theorem quiet_on {P : Program} {f : FuncId} {args : Array Value} {w : World} {p n : Nat} {v : Value} (h : Calls P f args (w.drewN (p + n)) fun e w' => e = .returned v ∧ w.drewN (p + n) = w') :
    Calls P f args (w.drewN (p + n)) fun e w' => e = .returned v ∧ ∃ m, w' = w.drewN (p + m) := h.mono fun _ _ r => ⟨r.1, n, r.2.symm⟩
theorem quiet_one {P : Program} {f : FuncId} {args : Array Value} {w : World} {n : Nat} {v : Value} (h : Calls P f args (w.drewN n) fun e w' => e = .returned v ∧ w.drewN n = w') :
    Calls P f args (w.drewN n) fun e w' => e = .returned v ∧ ∃ m, w' = w.drewN m := h.mono fun _ _ r => ⟨r.1, n, r.2.symm⟩
theorem add32_any (x y c : Nat) (w : World) (hx : x < B) (hy : y < B) (hc : c < 2) :
    Calls Try.prog 145 #[.int .u32 x, .int .u32 y, .int .u32 c] w fun e w' => e = .returned (.tuple #[.int .u32 (addLo x y c), .int .u32 (addHi x y c)]) ∧ w = w' := by
  unfold B at hx hy
  go_enter Try.func145, Try.ntmps145
  go_wp2
  go_ret2
  exact ⟨tuple2 (by simp [addLo]) (by simp [addHi]), rfl⟩
theorem add32_zero (x c : Nat) (w : World) (hx : x < B) (hc : c < 2) :
    Calls Try.prog 145 #[.int .u32 x, .int .u32 0, .int .u32 c] w fun e w' => e = .returned (.tuple #[.int .u32 (addLo x 0 c), .int .u32 (addHi x 0 c)]) ∧ w = w' := by
  unfold B at hx
  go_enter Try.func145, Try.ntmps145
  go_wp2
  go_ret2
  exact ⟨tuple2 (by simp [addLo]) (by simp [addHi]), rfl⟩
theorem sub32_any (x y c : Nat) (w : World) (hx : x < B) (hy : y < B) (hc : c < 2) :
    Calls Try.prog 146 #[.int .u32 x, .int .u32 y, .int .u32 c] w fun e w' => e = .returned (.tuple #[.int .u32 (subLo x y c), .int .u32 (subHi x y c)]) ∧ w = w' := by
  unfold B at hx hy
  go_enter Try.func146, Try.ntmps146
  go_wp2
  go_ret2
  have e1 : (((x : Int) - y - c) % 4294967296) = (subLo x y c : Nat) := by unfold subLo; omega
  have l1 := subLo_lt x y c
  unfold B at l1
  have hn : IntKind.u32.max = ((4294967295 : Nat) : Int) := rfl
  refine ⟨tuple2 e1 ?_, rfl⟩
  rw [e1, hn, u32_xor_nat _ _ (by omega) hx, u32_and_nat _ _ (Nat.xor_lt_two_pow (n := 32) (by omega) hx) hy, u32_xor_nat _ _ hx hy, u32_xor_nat _ _ (by omega) (Nat.xor_lt_two_pow (n := 32) hx hy),
    u32_and_nat _ _ (Nat.xor_lt_two_pow (n := 32) (by omega) (Nat.xor_lt_two_pow (n := 32) hx hy)) l1, u32_or_nat _ _ (Nat.and_lt_two_pow (n := 32) _ hy) (Nat.and_lt_two_pow (n := 32) _ l1)]
  rw [← borrow_bits hx hy hc]
  exact (Int.natCast_ediv _ _).symm
theorem sub32_zero (x c : Nat) (w : World) (hx : x < B) (hc : c < 2) :
    Calls Try.prog 146 #[.int .u32 x, .int .u32 0, .int .u32 c] w fun e w' => e = .returned (.tuple #[.int .u32 (subLo x 0 c), .int .u32 (subHi x 0 c)]) ∧ w = w' :=
  sub32_any x 0 c w hx (by decide) hc
theorem isNaN_int (x : Int) (w : World) : Calls Try.prog 150 #[.int .i64 x] w fun e w' => e = .returned (.bool false) ∧ w = w' := by
  go_enter Try.func150, Try.ntmps150
  go_wp2
  go_ret
  exact ⟨by simp, rfl⟩
theorem isNaN_u32 (x : Int) (w : World) : Calls Try.prog 151 #[.int .u32 x] w fun e w' => e = .returned (.bool false) ∧ w = w' := by
  go_enter Try.func151, Try.ntmps151
  go_wp2
  go_ret
  exact ⟨by simp, rfl⟩
theorem compare_int (x y : Int) (w : World) : Calls Try.prog 131 #[.int .i64 x, .int .i64 y] w fun e w' => e = .returned (.int .i64 (cmpi x y)) ∧ w = w' := by
  by_cases h1 : x < y
  · go_enter Try.func131, Try.ntmps131
    go_wp2_with (go_at_call 150; refine (isNaN_int _ _).mono ?_; rintro e w' ⟨rfl, rfl⟩)
    go_ret
    exact ⟨ret1 (by simp [cmpi, h1]), rfl⟩
  · by_cases h2 : y < x
    · go_enter Try.func131, Try.ntmps131
      go_wp2_with (go_at_call 150; refine (isNaN_int _ _).mono ?_; rintro e w' ⟨rfl, rfl⟩)
      go_ret
      exact ⟨ret1 (by rw [cmpi, if_neg (by omega), if_pos (by omega)]), rfl⟩
    · go_enter Try.func131, Try.ntmps131
      go_wp2_with (go_at_call 150; refine (isNaN_int _ _).mono ?_; rintro e w' ⟨rfl, rfl⟩)
      go_ret
      exact ⟨ret1 (by rw [cmpi, if_neg (by omega), if_neg (by omega)]), rfl⟩
theorem compare_u32 (x y : Int) (w : World) : Calls Try.prog 132 #[.int .u32 x, .int .u32 y] w fun e w' => e = .returned (.int .i64 (cmpi x y)) ∧ w = w' := by
  by_cases h1 : x < y
  · go_enter Try.func132, Try.ntmps132
    go_wp2_with (go_at_call 151; refine (isNaN_u32 _ _).mono ?_; rintro e w' ⟨rfl, rfl⟩)
    go_ret
    exact ⟨ret1 (by simp [cmpi, h1]), rfl⟩
  · by_cases h2 : y < x
    · go_enter Try.func132, Try.ntmps132
      go_wp2_with (go_at_call 151; refine (isNaN_u32 _ _).mono ?_; rintro e w' ⟨rfl, rfl⟩)
      go_ret
      exact ⟨ret1 (by rw [cmpi, if_neg (by omega), if_pos (by omega)]), rfl⟩
    · go_enter Try.func132, Try.ntmps132
      go_wp2_with (go_at_call 151; refine (isNaN_u32 _ _).mono ?_; rintro e w' ⟨rfl, rfl⟩)
      go_ret
      exact ⟨ret1 (by rw [cmpi, if_neg (by omega), if_neg (by omega)]), rfl⟩
/-- Div32: two limbs divided by one that is greater than the high one. -/
theorem div32_any (h l z : Nat) (w : World) (hh : h < z) (hl : l < B) (hz : z < B) :
    Calls Try.prog 136 #[.int .u32 h, .int .u32 l, .int .u32 z] w fun e w' => e = .returned (.tuple #[.int .u32 ((h * B + l) / z : Nat), .int .u32 ((h * B + l) % z : Nat)]) ∧ ∃ n, w' = w.drewN n := by
  unfold B at hz hl ⊢
  have h1 : ((z : Int) != 0) = true := by simp; omega
  have h2 : decide ((z : Int) ≤ h) = false := by simp; omega
  go_enter Try.func136, Try.ntmps136
  go_wp2
  go_quiet (fail)
  go_wp2
  go_ret2
  have e1 : bits BinOp.or IntKind.u64 ((h : Int) * 4294967296) l = ((h * 4294967296 + l : Nat) : Int) := by
    have := u64_or_nat (h * 4294967296) l (by omega) (by omega)
    rw [nat_join 32 _ _ (by omega) (by omega)] at this
    simpa using this
  have e2 : (h * 4294967296 + l) / z < 4294967296 := Nat.div_lt_of_lt_mul (by
    have : (h + 1) * 4294967296 ≤ z * 4294967296 := Nat.mul_le_mul_right _ hh
    omega)
  have e3 : (h * 4294967296 + l) % z < z := Nat.mod_lt _ (by omega)
  refine ⟨tuple2 ?_ ?_, nq, rfl⟩
  · rw [e1, show ((h * 4294967296 + l : Nat) : Int).tdiv z = ((h * 4294967296 + l) / z : Nat) from rfl, IntKind.wrap_u64]
    generalize (h * 4294967296 + l) / z = q at *
    omega
  · rw [e1, show ((h * 4294967296 + l : Nat) : Int).tmod z = ((h * 4294967296 + l) % z : Nat) from rfl]
    generalize (h * 4294967296 + l) % z = q at *
    omega
end Go.Proofs.Ytdgfmkideghhaaa

namespace Go.Proofs.Ytdgfmkideghhaaa
open Go.RowKit PB

theorem info51 : (Try.prog.info? 77).map (fun i => (i.zero, i.size, i.bytes)) = some (some (.int .u32 0), 1, 4) := by kernel_rfl

set_option maxRecDepth 100000 in
set_option maxHeartbeats 800000 in
theorem plus_ge (basex basey : Option Addr) (bx ox nx cx X by_ oy ny cy Y : Nat) (w : World) (hbx : nx ≠ 0 → basex = some ⟨bx, ox, none⟩) (hby : ny ≠ 0 → basey = some ⟨by_, oy, none⟩)
    (hX : Num w bx ox nx X) (hY : Num w by_ oy ny Y) (hn : ny ≤ nx) (hc : nx ≤ 1099511627776) :
    Calls Try.prog 117 #[.slice basex nx cx, .slice basey ny cy] w fun e w' => e = .returned (.slice (some ⟨w.heap.size, 0, none⟩) (nx+1) (nx+1)) ∧ Fresh w w' w.heap.size (nx+1) (X+Y) := by
  have HB := Lib.hid hbx
  have HB' := Lib.hid hby
  clear hbx hby
  go_enter Try.func117, Try.ntmps117
  go_wp2_with (at_make; refine wpList_make_num _ rfl _ _ 22 rfl 77 info51 Try.underlying22 .i64 .i64 _ _ (nx+1) rfl rfl (by omega) (by omega) (by omega) ?_)
  intro w1 hb1 hz1 hS1 hF1 _
  have HN := Lib.hid hz1
  clear hz1
  go_wp2_with fail
  go_loopw [6, 22] (fun c i wr => ∃ k cc S : Nat, k ≤ ny ∧ cc < 2 ∧ S < B^k ∧ c = .int .u32 cc ∧ i = .int .i64 k ∧ S + cc * B^k = X % B^k + Y % B^k ∧ Below w.heap.size w wr ∧ Num wr w.heap.size 0 (nx+1) S ∧ Free wr w.heap.size 0 (nx+1)) (fun _ i _ => ny - (intOf i).toNat)
  case atStart => exact ⟨0, 0, 0, by omega, by omega, Bp _, rfl, rfl, by simp [Nat.mod_one], hb1, hS1, hF1⟩
  case round =>
    obtain ⟨k, cc, S, hk, hcc, hSk, rfl, rfl, heq, hbr, hSr, hFr⟩ := hrel
    by_cases hlt : k < ny
    · obtain rfl := HB.out (by omega)
      obtain rfl := HB'.out (by omega)
      have c1 := (hX.kept hbr).cell (i := k) (by omega)
      have c2 := (hY.kept hbr).cell (i := k) (by omega)
      have c3 := hSr.cell0 (i := k) (by omega)
      have f3 := hFr.at0 (i := k) (by omega)
      go_wp2_with fail
      have b1 := hX.block_lt (by omega)
      have b2 := hY.block_lt (by omega)
      have i1 : (k : Int) < nx := by omega
      have i2 : (k : Int) < nx + 1 := by omega
      have i3 : (k : Int) < ny := by omega
      have i4 : (0 : Int) ≤ k := by omega
      have hx := dg_lt X k
      have hy := dg_lt Y k
      go_region_held3 (fun w' => w'.cell? ⟨bx, ox + k, none⟩ = some (.int .u32 (dg X k)) ∧ w'.cell? ⟨by_, oy + k, none⟩ = some (.int .u32 (dg Y k))) (first | exact ⟨c1, c2⟩ | exact ⟨cell_other c1 (Nat.ne_of_lt b1), cell_other c2 (Nat.ne_of_lt b2)⟩)
        (first | (go_at_call 145; refine (add32_any _ _ _ _ hx hy hcc).mono ?_; rintro e w' ⟨rfl, rfl⟩))
      go_wp2_with fail
      go_roundw
      case rel =>
        refine ⟨k + 1, addHi (dg X k) (dg Y k) cc, S + addLo (dg X k) (dg Y k) cc * B^k, by omega, addHi_lt hx hy hcc, add_lt_pow hSk (addLo_lt _ _ _), rfl, by go_num, ?_, ?_, ?_, ?_⟩
        · rw [mod_succ X, mod_succ Y, pow_succ]
          exact add_step heq (add_lo_hi _ _ _)
        · exact (hbr.setCell (Nat.le_refl _) _).drew
        · rw [← put_new hSk]; exact (hSr.set0 (by omega) (addLo_lt _ _ _)).drew
        · exact hFr.set _ _
      case measure => simp [intOf]; omega
    · obtain rfl : k = ny := by omega
      go_wp2_with fail
      have hYk : Y % B^k = Y := mod_of_lt hY.lt
      rw [hYk] at heq
      clear hYk
      go_loopw [6, 8] (fun c i wr => ∃ j cc S : Nat, k ≤ j ∧ j ≤ nx ∧ cc < 2 ∧ S < B^j ∧ c = .int .u32 cc ∧ i = .int .i64 j ∧ S + cc * B^j = X % B^j + Y ∧ Below w.heap.size w wr ∧ Num wr w.heap.size 0 (nx+1) S ∧ Free wr w.heap.size 0 (nx+1)) (fun _ i _ => nx - (intOf i).toNat)
      case atStart => exact ⟨k, cc, S, by omega, by omega, hcc, hSk, rfl, rfl, heq, hbr, hSr, hFr⟩
      case round =>
        clear hbr hSr hFr heq hSk hcc
        obtain ⟨j, cc, S, hkj, hj, hcc, hSk, rfl, rfl, heq, hbr, hSr, hFr⟩ := hrel
        by_cases hlt : j < nx
        · obtain rfl := HB.out (by omega)
          have c1 := (hX.kept hbr).cell (i := j) (by omega)
          have c3 := hSr.cell0 (i := j) (by omega)
          have f3 := hFr.at0 (i := j) (by omega)
          have b1 := hX.block_lt (by omega)
          have i1 : (j : Int) < nx := by omega
          have i2 : (j : Int) < nx + 1 := by omega
          have i4 : (0 : Int) ≤ j := by omega
          have hx := dg_lt X j
          go_wp2_with (go_at_call 145; refine (add32_zero _ _ _ hx hcc).mono ?_; rintro e w' ⟨rfl, rfl⟩)
          go_roundw
          case rel =>
            refine ⟨j + 1, addHi (dg X j) 0 cc, S + addLo (dg X j) 0 cc * B^j, by omega, by omega, addHi_lt hx (by decide) hcc, add_lt_pow hSk (addLo_lt _ _ _), rfl, by go_num, ?_, ?_, ?_, ?_⟩
            · rw [mod_succ X, pow_succ]
              have := add_step heq (add_lo_hi (dg X j) 0 cc)
              rwa [Nat.zero_mul, Nat.add_zero] at this
            · exact hbr.setCell (Nat.le_refl _) _
            · rw [← put_new hSk]; exact hSr.set0 (by omega) (addLo_lt _ _ _)
            · exact hFr.set _ _
          case measure => simp [intOf]; omega
        · obtain rfl : j = nx := by omega
          have c3 := hSr.cell0 (i := j) (by omega)
          have f3 := hFr.at0 (i := j) (by omega)
          have hlt2 := hSr.block_lt (by omega)
          have e : X + Y = put S j cc := by rw [put_new hSk, heq, mod_of_lt hX.lt]
          go_wp2_with fail
          go_ret
          rw [e]
          exact ⟨rfl, hbr.setCell (Nat.le_refl _) _, hSr.set0 (by omega) (Nat.lt_of_lt_of_le hcc (by decide)), hFr.set _ _, Nat.le_refl _, by simpa using hlt2⟩
set_option maxRecDepth 100000 in
set_option maxHeartbeats 800000 in
theorem plus_lt (basex basey : Option Addr) (bx ox nx cx X by_ oy ny cy Y : Nat) (w : World) (hbx : nx ≠ 0 → basex = some ⟨bx, ox, none⟩) (hby : ny ≠ 0 → basey = some ⟨by_, oy, none⟩)
    (hX : Num w bx ox nx X) (hY : Num w by_ oy ny Y) (hn : ny < nx) (hc : nx ≤ 1099511627776) :
    Calls Try.prog 117 #[.slice basey ny cy, .slice basex nx cx] w fun e w' => e = .returned (.slice (some ⟨w.heap.size, 0, none⟩) (nx+1) (nx+1)) ∧ Fresh w w' w.heap.size (nx+1) (X+Y) := by
  have HB := Lib.hid hbx
  have HB' := Lib.hid hby
  clear hbx hby
  go_enter Try.func117, Try.ntmps117
  go_wp2_with (at_make; refine wpList_make_num _ rfl _ _ 22 rfl 77 info51 Try.underlying22 .i64 .i64 _ _ (nx+1) rfl rfl (by omega) (by omega) (by omega) ?_)
  intro w1 hb1 hz1 hS1 hF1 _
  have HN := Lib.hid hz1
  clear hz1
  go_wp2_with fail
  go_loopw [6, 22] (fun c i wr => ∃ k cc S : Nat, k ≤ ny ∧ cc < 2 ∧ S < B^k ∧ c = .int .u32 cc ∧ i = .int .i64 k ∧ S + cc * B^k = X % B^k + Y % B^k ∧ Below w.heap.size w wr ∧ Num wr w.heap.size 0 (nx+1) S ∧ Free wr w.heap.size 0 (nx+1)) (fun _ i _ => ny - (intOf i).toNat)
  case atStart => exact ⟨0, 0, 0, by omega, by omega, Bp _, rfl, rfl, by simp [Nat.mod_one], hb1, hS1, hF1⟩
  case round =>
    obtain ⟨k, cc, S, hk, hcc, hSk, rfl, rfl, heq, hbr, hSr, hFr⟩ := hrel
    by_cases hlt : k < ny
    · obtain rfl := HB.out (by omega)
      obtain rfl := HB'.out (by omega)
      have c1 := (hX.kept hbr).cell (i := k) (by omega)
      have c2 := (hY.kept hbr).cell (i := k) (by omega)
      have c3 := hSr.cell0 (i := k) (by omega)
      have f3 := hFr.at0 (i := k) (by omega)
      go_wp2_with fail
      have b1 := hX.block_lt (by omega)
      have b2 := hY.block_lt (by omega)
      have i1 : (k : Int) < nx := by omega
      have i2 : (k : Int) < nx + 1 := by omega
      have i3 : (k : Int) < ny := by omega
      have i4 : (0 : Int) ≤ k := by omega
      have hx := dg_lt X k
      have hy := dg_lt Y k
      go_region_held3 (fun w' => w'.cell? ⟨bx, ox + k, none⟩ = some (.int .u32 (dg X k)) ∧ w'.cell? ⟨by_, oy + k, none⟩ = some (.int .u32 (dg Y k))) (first | exact ⟨c1, c2⟩ | exact ⟨cell_other c1 (Nat.ne_of_lt b1), cell_other c2 (Nat.ne_of_lt b2)⟩)
        (first | (go_at_call 145; refine (add32_any _ _ _ _ hx hy hcc).mono ?_; rintro e w' ⟨rfl, rfl⟩))
      go_wp2_with fail
      go_roundw
      case rel =>
        refine ⟨k + 1, addHi (dg X k) (dg Y k) cc, S + addLo (dg X k) (dg Y k) cc * B^k, by omega, addHi_lt hx hy hcc, add_lt_pow hSk (addLo_lt _ _ _), rfl, by go_num, ?_, ?_, ?_, ?_⟩
        · rw [mod_succ X, mod_succ Y, pow_succ]
          exact add_step heq (add_lo_hi _ _ _)
        · exact (hbr.setCell (Nat.le_refl _) _).drew
        · rw [← put_new hSk]; exact (hSr.set0 (by omega) (addLo_lt _ _ _)).drew
        · exact hFr.set _ _
      case measure => simp [intOf]; omega
    · obtain rfl : k = ny := by omega
      go_wp2_with fail
      have hYk : Y % B^k = Y := mod_of_lt hY.lt
      rw [hYk] at heq
      clear hYk
      go_loopw [6, 8] (fun c i wr => ∃ j cc S : Nat, k ≤ j ∧ j ≤ nx ∧ cc < 2 ∧ S < B^j ∧ c = .int .u32 cc ∧ i = .int .i64 j ∧ S + cc * B^j = X % B^j + Y ∧ Below w.heap.size w wr ∧ Num wr w.heap.size 0 (nx+1) S ∧ Free wr w.heap.size 0 (nx+1)) (fun _ i _ => nx - (intOf i).toNat)
      case atStart => exact ⟨k, cc, S, by omega, by omega, hcc, hSk, rfl, rfl, heq, hbr, hSr, hFr⟩
      case round =>
        clear hbr hSr hFr heq hSk hcc
        obtain ⟨j, cc, S, hkj, hj, hcc, hSk, rfl, rfl, heq, hbr, hSr, hFr⟩ := hrel
        by_cases hlt : j < nx
        · obtain rfl := HB.out (by omega)
          have c1 := (hX.kept hbr).cell (i := j) (by omega)
          have c3 := hSr.cell0 (i := j) (by omega)
          have f3 := hFr.at0 (i := j) (by omega)
          have b1 := hX.block_lt (by omega)
          have i1 : (j : Int) < nx := by omega
          have i2 : (j : Int) < nx + 1 := by omega
          have i4 : (0 : Int) ≤ j := by omega
          have hx := dg_lt X j
          go_wp2_with (go_at_call 145; refine (add32_zero _ _ _ hx hcc).mono ?_; rintro e w' ⟨rfl, rfl⟩)
          go_roundw
          case rel =>
            refine ⟨j + 1, addHi (dg X j) 0 cc, S + addLo (dg X j) 0 cc * B^j, by omega, by omega, addHi_lt hx (by decide) hcc, add_lt_pow hSk (addLo_lt _ _ _), rfl, by go_num, ?_, ?_, ?_, ?_⟩
            · rw [mod_succ X, pow_succ]
              have := add_step heq (add_lo_hi (dg X j) 0 cc)
              rwa [Nat.zero_mul, Nat.add_zero] at this
            · exact hbr.setCell (Nat.le_refl _) _
            · rw [← put_new hSk]; exact hSr.set0 (by omega) (addLo_lt _ _ _)
            · exact hFr.set _ _
          case measure => simp [intOf]; omega
        · obtain rfl : j = nx := by omega
          have c3 := hSr.cell0 (i := j) (by omega)
          have f3 := hFr.at0 (i := j) (by omega)
          have hlt2 := hSr.block_lt (by omega)
          have e : X + Y = put S j cc := by rw [put_new hSk, heq, mod_of_lt hX.lt]
          go_wp2_with fail
          go_ret
          rw [e]
          exact ⟨rfl, hbr.setCell (Nat.le_refl _) _, hSr.set0 (by omega) (Nat.lt_of_lt_of_le hcc (by decide)), hFr.set _ _, Nat.le_refl _, by simpa using hlt2⟩
/-- integer.plus, whichever is longer. -/
theorem plus_any (basex basey : Option Addr) (bx ox nx cx X by_ oy ny cy Y : Nat) (w : World) (hbx : nx ≠ 0 → basex = some ⟨bx, ox, none⟩) (hby : ny ≠ 0 → basey = some ⟨by_, oy, none⟩)
    (hX : Num w bx ox nx X) (hY : Num w by_ oy ny Y) (hc : nx ≤ 1099511627776) (hc' : ny ≤ 1099511627776) :
    Calls Try.prog 117 #[.slice basex nx cx, .slice basey ny cy] w fun e w' => e = .returned (.slice (some ⟨w.heap.size, 0, none⟩) (max nx ny + 1) (max nx ny + 1)) ∧ Fresh w w' w.heap.size (max nx ny + 1) (X+Y) := by
  rcases Nat.lt_or_ge nx ny with h | h
  · rw [Nat.max_eq_right (by omega), Nat.add_comm X Y]
    exact plus_lt basey basex by_ oy ny cy Y bx ox nx cx X w hby hbx hY hX h hc'
  · rw [Nat.max_eq_left h]
    exact plus_ge basex basey bx ox nx cx X by_ oy ny cy Y w hbx hby hX hY h hc
end Go.Proofs.Ytdgfmkideghhaaa
