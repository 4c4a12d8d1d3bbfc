/-
  Vectors that came in as arguments.
  integer.cut returns the slice without the zeros at its high end.
  math/bits.Add32, Sub32, Div32 and cmp.Compare: what they return.
-/
import Derived.Test.YtkokokgmhpkoiaaRows
import Derived.ProofKit
import Derived.OpenShut
import Derived.Lib.SmallJoins
import Derived.Test.YtkokokgmhpkoiaaProg
import Derived.Deep.QuietTactic
import Derived.BigQuiet
import Derived.Test.YtkokokgmhpkoiaaM01
import Derived.Test.YtkokokgmhpkoiaaM04
namespace Go.Proofs.Ytkokokgmhpkoiaa
open Go.ChangeShapes Go.WideShapes Go.ChangeAt Go.RowKit PB VB
set_option maxRecDepth 100000 in
theorem own0 : ownKnob Try.prog.godebug = none := by kernel_rfl
set_option maxRecDepth 100000 in
theorem laidOut0 : laidOutB Try.prog = true := by kernel_rfl
set_option maxRecDepth 100000 in
theorem wf_i64 {n : Int} (h : (Lit.int .i64 n).wf = true) : I64 n := by
  unfold Lit.wf at h
  simp only [Bool.and_eq_true, decide_eq_true_eq] at h
  exact ⟨h.1, h.2⟩
set_option maxRecDepth 100000 in
theorem open_vec {H : Type} {enc : TypeId × Value → H} {W : World} {base : Nat} {v : Value} {d : DataW H} {p : List MemPlace}
    (hv : Value.okWide Try.prog W .any base 41 v) (h : DataW.Trod enc Try.prog W 0 (fun _ => true) true 41 v d p) :
    ∃ x y : Int, v = vec x y ∧ I64 x ∧ I64 y := by
  obtain ⟨v0, v1, y0, y1, k, rfl, _, _, h0, h1⟩ := Go.Joins.open_agg2 Try.underlying41 (by kernel_rfl) (by kernel_rfl) hv h
  obtain ⟨x, hx, _, wx⟩ := DataW.trod_int Try.underlying3 h0
  obtain ⟨y, hy, _, wy⟩ := DataW.trod_int Try.underlying3 h1
  obtain rfl : v0 = .int .i64 x := by simpa using hx
  obtain rfl : v1 = .int .i64 y := by simpa using hy
  exact ⟨x, y, rfl, wf_i64 wx, wf_i64 wy⟩
end Go.Proofs.Ytkokokgmhpkoiaa

namespace Go.Proofs.Ytkokokgmhpkoiaa
open Go.RowKit PB

theorem cut_any (base : Option Addr) (b off n c X : Nat) (w : World) (hb : n ≠ 0 → base = some ⟨b, off, none⟩) (hX : Num w b off n X) (hn : n ≤ c) (hc : n ≤ 1099511627776) :
    Calls Try.prog 75 #[.slice base n c] w fun e w' => e = .returned (.slice base (nl X) (nl X)) ∧ w = w' := by
  have hnl : nl X ≤ n := nl_le hX.lt
  have HB := Lib.hid hb
  clear hb
  go_enter Try.func75, Try.ntmps75
  go_wp2
  go_loop [3] (fun v => ∃ k : Nat, nl X ≤ k ∧ k ≤ n ∧ v = .int .i64 k) (fun v => (intOf v).toNat)
  case atStart => exact ⟨n, hnl, Nat.le_refl _, rfl⟩
  case round =>
    obtain ⟨k, hk1, hk2, rfl⟩ := hrel
    by_cases h0 : k = 0
    · subst h0
      have HX := Lib.hid (show nl X = 0 by omega)
      go_wp2
      go_ret
      exact ⟨by rw [HX.out]; rfl, rfl⟩
    · have hk0 : (0:Int) < k := by omega
      have hcell := hX.cell (i := k - 1) (by omega)
      have hI : ((k : Int) - 1).toNat = k - 1 := by omega
      have HD : nl X = k ∨ nl X < k := by omega
      obtain rfl := HB.out (by omega)
      rcases HD with HD | HD
      · have hd : ((dg X (k-1) : Int) == 0) = false := by
          have := nl_top (X := X) (by rintro rfl; rw [nl_zero] at HD; omega)
          rw [HD] at this
          simp; omega
        subst HD
        go_wp2
        go_ret
        exact ⟨rfl, rfl⟩
      · have hd : ((dg X (k-1) : Int) == 0) = true := by
          rw [dg_of_lt (lt_nl X) (by omega)]; rfl
        go_wp2
        go_round
        case rel => exact ⟨k - 1, by omega, by omega, by go_num⟩
        case measure => simp [intOf]; omega
end Go.Proofs.Ytkokokgmhpkoiaa

namespace PB
/-- The low limb and the carry of a sum of three. -/
def addLo (x y c : Nat) : Nat := (x + y + c) % 4294967296
def addHi (x y c : Nat) : Nat := (x + y + c) / 4294967296
theorem add_lo_hi (x y c : Nat) : addLo x y c + addHi x y c * B = x + y + c := by unfold addLo addHi B; omega
theorem addLo_lt (x y c : Nat) : addLo x y c < B := Nat.mod_lt _ (by decide)
theorem addHi_lt {x y c : Nat} (hx : x < B) (hy : y < B) (hc : c < 2) : addHi x y c < 2 := by unfold addHi B at *; omega
/-- The low limb and the borrow of a difference. -/
def subLo (x y c : Nat) : Nat := (x + 8589934592 - y - c) % 4294967296
def subHi (x y c : Nat) : Nat := if x < y + c then 1 else 0
theorem sub_lo_hi {x y c : Nat} (hx : x < B) (hy : y < B) (hc : c < 2) : subLo x y c + y + c = x + subHi x y c * B := by
  unfold subLo subHi B at *; split <;> omega
theorem subLo_lt (x y c : Nat) : subLo x y c < B := Nat.mod_lt _ (by decide)
theorem subHi_lt (x y c : Nat) : subHi x y c < 2 := by unfold subHi; split <;> omega
theorem top_bit {n : Nat} (h : n < 4294967296) : n / 2147483648 = if n.testBit 31 then 1 else 0 := by
  have := Nat.testBit_eq_decide_div_mod_eq (x := n) (i := 31)
  rw [this]
  simp only [decide_eq_true_eq]
  rw [show (2:Nat)^31 = 2147483648 by decide]
  split <;> omega
theorem bit31 {n : Nat} (h : n < 4294967296) : n.testBit 31 = decide (2147483648 ≤ n) := by
  rw [Nat.testBit_eq_decide_div_mod_eq, show (2:Nat)^31 = 2147483648 by decide]
  congr 1
  simp; omega
theorem borrow_bits {x y c : Nat} (hx : x < 4294967296) (hy : y < 4294967296) (hc : c < 2) :
    (((4294967295 ^^^ x) &&& y) ||| ((4294967295 ^^^ (x ^^^ y)) &&& subLo x y c)) / 2147483648 = subHi x y c := by
  have hd : subLo x y c = (x + 8589934592 - y - c) % 4294967296 := rfl
  generalize subLo x y c = d at *
  have hd' : d < 4294967296 := by omega
  have hlt : (((4294967295 ^^^ x) &&& y) ||| ((4294967295 ^^^ (x ^^^ y)) &&& d)) < 2^32 :=
    Nat.or_lt_two_pow (Nat.and_lt_two_pow _ (by omega)) (Nat.and_lt_two_pow _ (by omega))
  rw [top_bit (by omega)]
  have hm : Nat.testBit 4294967295 31 = true := by decide
  rw [Nat.testBit_or, Nat.testBit_and, Nat.testBit_and, Nat.testBit_xor, Nat.testBit_xor, Nat.testBit_xor, hm, bit31 hx, bit31 hy, bit31 hd']
  unfold subHi
  by_cases h1 : 2147483648 ≤ x <;> by_cases h2 : 2147483648 ≤ y <;> by_cases h3 : 2147483648 ≤ d <;> simp [h1, h2, h3] <;> omega
/-- cmp.Compare. -/
def cmpi (x y : Int) : Int := if x < y then -1 else if y < x then 1 else 0
end PB
namespace Go.Proofs.Ytkokokgmhpkoiaa
open Go.RowKit PB

theorem tuple2 {k k' : IntKind} {a a' b b' : Int} (h : a = a') (h' : b = b') : Ending.returned (.tuple #[.int k a, .int k' b]) = Ending.returned (.tuple #[.int k a', .int k' b']) := by rw [h, h']
theorem ret1 {k : IntKind} {a a' : Int} (h : a = a') : Ending.returned (.int k a) = Ending.returned (.int k a') := by rw [h]

/-- A quiet call behind another quiet region. -/
theorem quiet_on {P : Program} {f : FuncId} {args : Array Value} {w : World} {p n : Nat} {v : Value} (h : Calls P f args (w.drewN (p + n)) fun e w' => e = .returned v ∧ w.drewN (p + n) = w') :
    Calls P f args (w.drewN (p + n)) fun e w' => e = .returned v ∧ ∃ m, w' = w.drewN (p + m) := h.mono fun _ _ r => ⟨r.1, n, r.2.symm⟩
theorem quiet_one {P : Program} {f : FuncId} {args : Array Value} {w : World} {n : Nat} {v : Value} (h : Calls P f args (w.drewN n) fun e w' => e = .returned v ∧ w.drewN n = w') :
    Calls P f args (w.drewN n) fun e w' => e = .returned v ∧ ∃ m, w' = w.drewN m := h.mono fun _ _ r => ⟨r.1, n, r.2.symm⟩
theorem add32_any (x y c : Nat) (w : World) (hx : x < B) (hy : y < B) (hc : c < 2) :
    Calls Try.prog 145 #[.int .u32 x, .int .u32 y, .int .u32 c] w fun e w' => e = .returned (.tuple #[.int .u32 (addLo x y c), .int .u32 (addHi x y c)]) ∧ w = w' := by
  unfold B at hx hy
  go_enter Try.func145, Try.ntmps145
  go_wp2
  go_ret2
  exact ⟨tuple2 (by simp [addLo]) (by simp [addHi]), rfl⟩
theorem add32_zero (x c : Nat) (w : World) (hx : x < B) (hc : c < 2) :
    Calls Try.prog 145 #[.int .u32 x, .int .u32 0, .int .u32 c] w fun e w' => e = .returned (.tuple #[.int .u32 (addLo x 0 c), .int .u32 (addHi x 0 c)]) ∧ w = w' := by
  unfold B at hx
  go_enter Try.func145, Try.ntmps145
  go_wp2
  go_ret2
  exact ⟨tuple2 (by simp [addLo]) (by simp [addHi]), rfl⟩
theorem sub32_any (x y c : Nat) (w : World) (hx : x < B) (hy : y < B) (hc : c < 2) :
    Calls Try.prog 146 #[.int .u32 x, .int .u32 y, .int .u32 c] w fun e w' => e = .returned (.tuple #[.int .u32 (subLo x y c), .int .u32 (subHi x y c)]) ∧ w = w' := by
  unfold B at hx hy
  go_enter Try.func146, Try.ntmps146
  go_wp2
  go_ret2
  have e1 : (((x : Int) - y - c) % 4294967296) = (subLo x y c : Nat) := by unfold subLo; omega
  have l1 := subLo_lt x y c
  unfold B at l1
  have hn : IntKind.u32.max = ((4294967295 : Nat) : Int) := rfl
  refine ⟨tuple2 e1 ?_, rfl⟩
  rw [e1, hn, u32_xor_nat _ _ (by omega) hx, u32_and_nat _ _ (Nat.xor_lt_two_pow (n := 32) (by omega) hx) hy, u32_xor_nat _ _ hx hy, u32_xor_nat _ _ (by omega) (Nat.xor_lt_two_pow (n := 32) hx hy),
    u32_and_nat _ _ (Nat.xor_lt_two_pow (n := 32) (by omega) (Nat.xor_lt_two_pow (n := 32) hx hy)) l1, u32_or_nat _ _ (Nat.and_lt_two_pow (n := 32) _ hy) (Nat.and_lt_two_pow (n := 32) _ l1)]
  rw [← borrow_bits hx hy hc]
  exact (Int.natCast_ediv _ _).symm
theorem sub32_zero (x c : Nat) (w : World) (hx : x < B) (hc : c < 2) :
    Calls Try.prog 146 #[.int .u32 x, .int .u32 0, .int .u32 c] w fun e w' => e = .returned (.tuple #[.int .u32 (subLo x 0 c), .int .u32 (subHi x 0 c)]) ∧ w = w' :=
  sub32_any x 0 c w hx (by decide) hc
theorem isNaN_int (x : Int) (w : World) : Calls Try.prog 150 #[.int .i64 x] w fun e w' => e = .returned (.bool false) ∧ w = w' := by
  go_enter Try.func150, Try.ntmps150
  go_wp2
  go_ret
  exact ⟨by simp, rfl⟩
theorem isNaN_u32 (x : Int) (w : World) : Calls Try.prog 151 #[.int .u32 x] w fun e w' => e = .returned (.bool false) ∧ w = w' := by
  go_enter Try.func151, Try.ntmps151
  go_wp2
  go_ret
  exact ⟨by simp, rfl⟩
theorem compare_int (x y : Int) (w : World) : Calls Try.prog 131 #[.int .i64 x, .int .i64 y] w fun e w' => e = .returned (.int .i64 (cmpi x y)) ∧ w = w' := by
  by_cases h1 : x < y
  · go_enter Try.func131, Try.ntmps131
    go_wp2_with (go_at_call 150; refine (isNaN_int _ _).mono ?_; rintro e w' ⟨rfl, rfl⟩)
    go_ret
    exact ⟨ret1 (by simp [cmpi, h1]), rfl⟩
  · by_cases h2 : y < x
    · go_enter Try.func131, Try.ntmps131
      go_wp2_with (go_at_call 150; refine (isNaN_int _ _).mono ?_; rintro e w' ⟨rfl, rfl⟩)
      go_ret
      exact ⟨ret1 (by rw [cmpi, if_neg (by omega), if_pos (by omega)]), rfl⟩
    · go_enter Try.func131, Try.ntmps131
      go_wp2_with (go_at_call 150; refine (isNaN_int _ _).mono ?_; rintro e w' ⟨rfl, rfl⟩)
      go_ret
      exact ⟨ret1 (by rw [cmpi, if_neg (by omega), if_neg (by omega)]), rfl⟩
theorem compare_u32 (x y : Int) (w : World) : Calls Try.prog 132 #[.int .u32 x, .int .u32 y] w fun e w' => e = .returned (.int .i64 (cmpi x y)) ∧ w = w' := by
  by_cases h1 : x < y
  · go_enter Try.func132, Try.ntmps132
    go_wp2_with (go_at_call 151; refine (isNaN_u32 _ _).mono ?_; rintro e w' ⟨rfl, rfl⟩)
    go_ret
    exact ⟨ret1 (by simp [cmpi, h1]), rfl⟩
  · by_cases h2 : y < x
    · go_enter Try.func132, Try.ntmps132
      go_wp2_with (go_at_call 151; refine (isNaN_u32 _ _).mono ?_; rintro e w' ⟨rfl, rfl⟩)
      go_ret
      exact ⟨ret1 (by rw [cmpi, if_neg (by omega), if_pos (by omega)]), rfl⟩
    · go_enter Try.func132, Try.ntmps132
      go_wp2_with (go_at_call 151; refine (isNaN_u32 _ _).mono ?_; rintro e w' ⟨rfl, rfl⟩)
      go_ret
      exact ⟨ret1 (by rw [cmpi, if_neg (by omega), if_neg (by omega)]), rfl⟩
/-- Div32: two limbs divided by one that is greater than the high one. -/
theorem div32_any (h l z : Nat) (w : World) (hh : h < z) (hl : l < B) (hz : z < B) :
    Calls Try.prog 136 #[.int .u32 h, .int .u32 l, .int .u32 z] w fun e w' => e = .returned (.tuple #[.int .u32 ((h * B + l) / z : Nat), .int .u32 ((h * B + l) % z : Nat)]) ∧ ∃ n, w' = w.drewN n := by
  unfold B at hz hl ⊢
  have h1 : ((z : Int) != 0) = true := by simp; omega
  have h2 : decide ((z : Int) ≤ h) = false := by simp; omega
  go_enter Try.func136, Try.ntmps136
  go_wp2
  go_quiet (fail)
  go_wp2
  go_ret2
  have e1 : bits BinOp.or IntKind.u64 ((h : Int) * 4294967296) l = ((h * 4294967296 + l : Nat) : Int) := by
    have := u64_or_nat (h * 4294967296) l (by omega) (by omega)
    rw [nat_join 32 _ _ (by omega) (by omega)] at this
    simpa using this
  have e2 : (h * 4294967296 + l) / z < 4294967296 := Nat.div_lt_of_lt_mul (by
    have : (h + 1) * 4294967296 ≤ z * 4294967296 := Nat.mul_le_mul_right _ hh
    omega)
  have e3 : (h * 4294967296 + l) % z < z := Nat.mod_lt _ (by omega)
  refine ⟨tuple2 ?_ ?_, nq, rfl⟩
  · rw [e1, show ((h * 4294967296 + l : Nat) : Int).tdiv z = ((h * 4294967296 + l) / z : Nat) from rfl, IntKind.wrap_u64]
    generalize (h * 4294967296 + l) / z = q at *
    omega
  · rw [e1, show ((h * 4294967296 + l : Nat) : Int).tmod z = ((h * 4294967296 + l) % z : Nat) from rfl]
    generalize (h * 4294967296 + l) % z = q at *
    omega
end Go.Proofs.Ytkokokgmhpkoiaa
