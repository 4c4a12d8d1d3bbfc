/-
  What the verifier's Common speaks of: canonical numbers between two blocks; the state of its loop.
  How many limbs the numbers of the reference have.
  Number and MulDiv of the reference.
  Plain arithmetic of a long division by two half words.
-/
import Derived.Laws.BitsAllLaws
import Derived.Test.YtdgfmkideghhaaaM03
import Derived.Test.YtdgfmkideghhaaaM13
import Derived.Test.YtdgfmkideghhaaaM34
import Derived.Test.YtdgfmkideghhaaaM36
import Derived.Test.YtdgfmkideghhaaaM38
import Derived.Test.YtdgfmkideghhaaaM46
namespace PB
open Go Go.RowKit
/-- v is a canonical api.Int for z, its limbs in a block from lo to hi. -/
def CanR (lo hi : Nat) (w : World) (v : Value) (z : Int) : Prop :=
  ∃ (s : Bool) (base : Option Addr) (b off X c : Nat), v = .agg #[.bool s, .slice base (nl X) c] ∧ (nl X ≠ 0 → base = some ⟨b, off, none⟩) ∧ Num w b off (nl X) X ∧ nl X ≤ c ∧ nl X ≤ 1000000000 ∧ z = sg s X ∧ (X = 0 → s = false) ∧ (nl X ≠ 0 → lo ≤ b ∧ b < hi)
theorem canr_of {N : Nat} {w : World} {v : Value} {z : Int} (h : IsCan N w v z) : CanR N w.heap.size w v z := by
  obtain ⟨s, base, b, off, X, c, h1, h2, h3, h4, h5, h6, h7, h8⟩ := h
  exact ⟨s, base, b, off, X, c, h1, h2, h3, h4, h5, h6, h7, fun h => ⟨h8 h, h3.block_lt h⟩⟩
theorem CanR.can {N lo hi : Nat} {w : World} {v : Value} {z : Int} (h : CanR lo hi w v z) (hN : N ≤ lo) : IsCan N w v z := by
  obtain ⟨s, base, b, off, X, c, h1, h2, h3, h4, h5, h6, h7, h8⟩ := h
  exact ⟨s, base, b, off, X, c, h1, h2, h3, h4, h5, h6, h7, fun h => Nat.le_trans hN (h8 h).1⟩
theorem CanR.int {lo hi : Nat} {w : World} {v : Value} {z : Int} (h : CanR lo hi w v z) : IsInt w v z := (h.can (Nat.zero_le _)).int
theorem CanR.kept {lo hi : Nat} {w w' : World} {v : Value} {z : Int} (h : CanR lo hi w v z) (hb : Below w.heap.size w w') : CanR lo hi w' v z := by
  obtain ⟨s, base, b, off, X, c, h1, h2, h3, h4, h5, h6, h7⟩ := h
  exact ⟨s, base, b, off, X, c, h1, h2, h3.kept hb, h4, h5, h6, h7⟩
theorem CanR.alloc {lo hi : Nat} {w : World} {v : Value} {z : Int} (h : CanR lo hi w v z) (o : Obj) : CanR lo hi (w.alloc o) v z := h.kept (bs_alloc (Below.refl _ _) _)
theorem CanR.drew {lo hi : Nat} {w : World} {v : Value} {z : Int} (h : CanR lo hi w v z) : CanR lo hi w.drew v z := h
theorem CanR.set {lo hi g j : Nat} {w : World} {v : Value} {z : Int} (h : CanR lo hi w v z) (hp : g < lo ∨ hi ≤ g) (u : Value) : CanR lo hi (w.setCell ⟨g, j, none⟩ u) v z := by
  obtain ⟨s, base, b, off, X, c, h1, h2, h3, h4, h5, h6, h7, h8⟩ := h
  exact ⟨s, base, b, off, X, c, h1, h2, h3.other u (fun hn e => by have := h8 hn; simp only at e; omega), h4, h5, h6, h7, h8⟩
theorem CanR.form {lo hi : Nat} {w : World} {v : Value} {z : Int} (h : CanR lo hi w v z) : ∃ (s : Bool) (base : Option Addr) (n c : Nat), v = .agg #[.bool s, .slice base n c] ∧ CanR lo hi w (.agg #[.bool s, .slice base n c]) z := by
  have h' := h
  obtain ⟨s, base, b, off, X, c, rfl, _⟩ := h
  exact ⟨s, base, nl X, c, rfl, h'⟩
/-- The state of Euclid's loop: two variables at P and Q. -/
def CSt (N P Q G : Nat) (w : World) (X Y : Nat) : Prop :=
  ∃ (s1 : Bool) (q1 : Option Addr) (n1 c1 l1 h1 : Nat) (s2 : Bool) (q2 : Option Addr) (n2 c2 l2 h2 : Nat),
    Blk w P #[.bool s1, .slice q1 n1 c1] ∧ CanR l1 h1 w (.agg #[.bool s1, .slice q1 n1 c1]) (sg false X) ∧ Blk w Q #[.bool s2, .slice q2 n2 c2] ∧ CanR l2 h2 w (.agg #[.bool s2, .slice q2 n2 c2]) (sg false Y) ∧
    (P < l1 ∨ h1 ≤ P) ∧ (Q < l1 ∨ h1 ≤ Q) ∧ (P < l2 ∨ h2 ≤ P) ∧ (Q < l2 ∨ h2 ≤ Q) ∧ N + 3 ≤ l1 ∧ N + 3 ≤ l2 ∧ nl X ≤ 90000 ∧ nl Y ≤ 90000 ∧ Nat.gcd X Y = G ∧
    Blk w (N + 1 + 1) #[.bool false, .slice none 0 0] ∧ N + 3 ≤ P ∧ N + 3 ≤ Q ∧ P ≠ Q
theorem cst_mk {N P Q G : Nat} {w : World} {X Y : Nat} {s1 : Bool} {q1 : Option Addr} {n1 c1 l1 e1 : Nat} {s2 : Bool} {q2 : Option Addr} {n2 c2 l2 e2 : Nat}
    (h1 : Blk w P #[.bool s1, .slice q1 n1 c1]) (h2 : CanR l1 e1 w (.agg #[.bool s1, .slice q1 n1 c1]) (sg false X)) (h3 : Blk w Q #[.bool s2, .slice q2 n2 c2]) (h4 : CanR l2 e2 w (.agg #[.bool s2, .slice q2 n2 c2]) (sg false Y))
    (h5 : (P < l1 ∨ e1 ≤ P) ∧ (Q < l1 ∨ e1 ≤ Q) ∧ (P < l2 ∨ e2 ≤ P) ∧ (Q < l2 ∨ e2 ≤ Q) ∧ N + 3 ≤ l1 ∧ N + 3 ≤ l2 ∧ N + 3 ≤ P ∧ N + 3 ≤ Q ∧ P ≠ Q) (h6 : nl X ≤ 90000 ∧ nl Y ≤ 90000 ∧ Nat.gcd X Y = G)
    (h7 : Blk w (N + 1 + 1) #[.bool false, .slice none 0 0]) : CSt N P Q G w X Y := by
  obtain ⟨a1, a2, a3, a4, a5, a6, a7, a8, a9⟩ := h5
  exact ⟨s1, q1, n1, c1, l1, _, s2, q2, n2, c2, l2, _, h1, h2, h3, h4, a1, a2, a3, a4, a5, a6, h6.1, h6.2.1, h6.2.2, h7, a7, a8, a9⟩
end PB

namespace VB
open PB
theorem sq_few {a : Int} (h1 : -2147483648 ≤ a) (h2 : a ≤ 2147483648) : nl (a * a).natAbs ≤ 3 := by
  have h : (a * a).natAbs ≤ 4611686018427387904 := by
    rw [Int.natAbs_mul]
    exact Nat.mul_le_mul (show a.natAbs ≤ 2147483648 by omega) (show a.natAbs ≤ 2147483648 by omega)
  exact nl_le (Nat.lt_of_le_of_lt h (by decide))
theorem nl_few {z : Int} (h1 : -(79228162514264337593543950335 : Int) ≤ z) (h2 : z ≤ 79228162514264337593543950335) : nl z.natAbs ≤ 3 := nl_le (by unfold B; omega)
theorem mul_few {a b : Int} (h1 : -1073741824 ≤ a) (h2 : a ≤ 1073741824) (h3 : -4611686018427387904 ≤ b) (h4 : b ≤ 4611686018427387904) : nl (a * b).natAbs ≤ 4 := by
  have h : (a * b).natAbs ≤ 1073741824 * 4611686018427387904 := by
    rw [Int.natAbs_mul]
    exact Nat.mul_le_mul (show a.natAbs ≤ 1073741824 by omega) (show b.natAbs ≤ 4611686018427387904 by omega)
  exact nl_le (Nat.lt_of_le_of_lt h (by decide))
end VB

namespace VB
open Go Go.RowKit PB
theorem nl_i64 {n : Int} (h : I64 n) : nl n.natAbs ≤ 2 := nl_le (by show n.natAbs < 18446744073709551616; unfold I64 at h; omega)
/-- One limb more of a word that wraps around. -/
theorem limb_word (u x : Nat) (hx : x < 4294967296) : bits BinOp.or IntKind.u64 (IntKind.u64.wrap ((u : Int) * 4294967296)) (x : Int) = ((u * 4294967296 % 18446744073709551616 + x : Nat) : Int) := by
  have e : IntKind.u64.wrap ((u : Int) * 4294967296) = ((u * 4294967296 % 18446744073709551616 : Nat) : Int) := by rw [IntKind.wrap_u64]; omega
  rw [e, u64_or_nat _ _ (by omega) (by omega), nat_join 32 _ _ (by omega) hx]
theorem limb_next (X j : Nat) : X / B^(j+1) % 18446744073709551616 * 4294967296 % 18446744073709551616 + dg X j = X / B^j % 18446744073709551616 := by
  have h := div_succ X j
  have hd := dg_lt' X j
  unfold B at h
  have hB : B^(j+1) = 4294967296^(j+1) := rfl
  have hB' : B^j = 4294967296^j := rfl
  rw [hB, hB', h]
  generalize X / 4294967296^(j+1) = A at *
  omega
def numOk (z : Int) : Prop := -9223372036854775808 ≤ z ∧ z ≤ 9223372036854775807
instance (z : Int) : Decidable (numOk z) := by unfold numOk; exact inferInstance
def numV (z : Int) : Int := if numOk z then z else 0
end VB
namespace Go.Proofs.Ytdgfmkideghhaaa
open Go.RowKit PB VB
set_option maxHeartbeats 4000000 in
set_option maxRecDepth 100000 in
theorem number_can (s0 : Bool) (q0 : Option Addr) (n0 c0 : Nat) (z : Int) (w : World) (h : IsInt w (.agg #[.bool s0, .slice q0 n0 c0]) z) :
    Calls Try.prog 102 #[.agg #[.bool s0, .slice q0 n0 c0]] w fun e w' => e = .returned (.tuple #[.int .i64 (numV z), .bool (decide (numOk z))]) ∧ Below w.heap.size w w' := by
  have HT := Lib.hid (fun W (hW : Below w.heap.size w W) => trim_ref _ z W (h.kept hW))
  clear h
  go_enter Try.func102, Try.ntmps102
  go_wp2_with fail
  refine (HT.out _ ((Below.refl _ _).alloc (Nat.le_refl _) _)).mono ?_
  rintro e w1 ⟨v1, rfl, hc, hb⟩
  obtain ⟨s, base, b, off, X, c, rfl, hp, hX, hcap, hl9, hz, hs0, hge⟩ := hc
  have q1 := in1 hb
  have hX2 := hX.kept ((Below.refl _ _).alloc (Nat.le_refl w1.heap.size) (.cells #[.bool s, .slice base (nl X) c] 24))
  have T2 : Blk (w1.alloc (.cells #[.bool s, .slice base (nl X) c] 24)) w1.heap.size #[.bool s, .slice base (nl X) c] := blk_new rfl
  have q2 : Below w.heap.size w (w1.alloc (.cells #[.bool s, .slice base (nl X) c] 24)) := next q1 ((Below.refl _ _).alloc (Nat.le_refl _) _)
  have HX := Lib.hid hX2
  have HP := Lib.hid hp
  have HZ := Lib.hid hz
  have HQ := Lib.hid q2
  have HS0 := Lib.hid hs0
  clear hb hp hX hX2 hz q1 q2 HT hge hs0
  go_wp2_with fail
  generalize World.alloc w1 _ = W at *
  obtain ⟨t, ht⟩ : ∃ t, w1.heap.size = t := ⟨_, rfl⟩
  rw [ht] at T2 ⊢
  clear ht
  obtain ⟨c0', c1'⟩ := Blk2 T2
  have HN := Lib.hid (show nl X = nl X from rfl)
  obtain ⟨n, hn⟩ : ∃ n, nl X = n := ⟨_, rfl⟩
  rw [hn] at c1' HX HP hcap hl9 ⊢
  have HNN := Lib.hid hn
  clear hn HN T2
  go_loop [5, 6] (fun u i => ∃ k : Nat, k ≤ n ∧ i = .int .i64 ((k : Int) - 1) ∧ u = .int .u64 ((X / B^k % 18446744073709551616 : Nat) : Int)) (fun _ i => (intOf i + 1).toNat)
  case atStart => exact ⟨n, Nat.le_refl _, rfl, congrArg (Value.int .u64) (by
      have h1 : X < B^n := by rw [← HNN.out]; exact lt_nl X
      rw [Nat.div_eq_of_lt h1]; rfl)⟩
  case round =>
    obtain ⟨k, hk, rfl, rfl⟩ := hrel
    cases k with
    | zero =>
      have hu : ((X / B^0 % 18446744073709551616 : Nat) : Int) = ((X % 18446744073709551616 : Nat) : Int) := by rw [Nat.pow_zero, Nat.div_one]
      rw [hu]
      clear hu
      have e0 : ((0 : Nat) : Int) - 1 = -1 := by decide
      rw [e0]
      clear e0
      by_cases h2 : 2 < n
      · have hbig : 18446744073709551616 ≤ X := by
          have : 2 < nl X := by rw [HNN.out]; exact h2
          apply Nat.le_of_not_lt; intro hlt
          have : nl X ≤ 2 := nl_le (show X < B^2 from hlt)
          omega
        have E : Hid (numV z = 0 ∧ decide (numOk z) = false) := by
          have hno : ¬ numOk z := by
            rw [HZ.out]; unfold numOk sg; cases s <;> simp <;> omega
          unfold numV; rw [if_neg hno]; exact Lib.hid ⟨rfl, decide_eq_false hno⟩
        clear hbig
        generalize X % 18446744073709551616 = u at *
        go_wp2_with fail
        go_ret2
        exact nbret E.out.1.symm E.out.2.symm HQ.out
      · have hsm : X < 18446744073709551616 := by
          have h3 := lt_nl X
          rw [HNN.out] at h3
          exact Nat.lt_of_lt_of_le h3 (pow_le (show n ≤ 2 by omega))
        rw [Nat.mod_eq_of_lt hsm]
        have hx1 : (X : Int) ≤ 18446744073709551615 := by omega
        cases s with
        | true =>
          have hz : z = -(X : Int) := by rw [HZ.out]; rfl
          by_cases h3 : X ≤ 9223372036854775808
          · have hok : numOk z := by unfold numOk; omega
            have E1 := Lib.hid (show wrap64 (IntKind.u64.wrap (-(X : Int))) = numV z by
              unfold numV; rw [if_pos hok, hz, IntKind.wrap_u64]; unfold wrap64; omega)
            have E2 := Lib.hid (decide_eq_true hok)
            have i1 : (X : Int) ≤ 9223372036854775808 := by omega
            clear hok hz h3 hsm
            go_wp2_with fail
            go_ret2
            exact nbret E1.out E2.out.symm HQ.out
          · have hno : ¬ numOk z := by unfold numOk; omega
            have E1 := Lib.hid (show (0 : Int) = numV z by unfold numV; rw [if_neg hno])
            have E2 := Lib.hid (decide_eq_false hno)
            have i1 : ¬ (X : Int) ≤ 9223372036854775808 := by omega
            clear hno hz h3 hsm
            go_wp2_with fail
            go_ret2
            exact nbret E1.out E2.out.symm HQ.out
        | false =>
          have hz : z = (X : Int) := by rw [HZ.out]; rfl
          by_cases h3 : X < 9223372036854775808
          · have hok : numOk z := by unfold numOk; omega
            have E1 := Lib.hid (show (X : Int) = numV z by unfold numV; rw [if_pos hok, hz])
            have E2 := Lib.hid (decide_eq_true hok)
            have i1 : (X : Int) < 9223372036854775808 := by omega
            have i0 : (0 : Int) ≤ (X : Int) := by omega
            clear hok hz h3 hsm
            clear HNN HX HP HZ HS0
            generalize (X : Int) = x at *
            go_wp2_with fail
            go_ret2
            exact nbret E1.out E2.out.symm HQ.out
          · have hno : ¬ numOk z := by unfold numOk; omega
            have E1 := Lib.hid (show (0 : Int) = numV z by unfold numV; rw [if_neg hno])
            have E2 := Lib.hid (decide_eq_false hno)
            have i1 : ¬ (X : Int) < 9223372036854775808 := by omega
            have i0 : (0 : Int) ≤ (X : Int) := by omega
            clear hno hz h3 hsm
            clear HNN HX HP HZ HS0
            generalize (X : Int) = x at *
            go_wp2_with fail
            go_ret2
            exact nbret E1.out E2.out.symm HQ.out
    | succ j =>
      obtain rfl := HP.out (by omega)
      have e0 : (((j + 1 : Nat) : Int) - 1) = (j : Int) := by omega
      rw [e0]
      clear e0
      have hcell := HX.out.cell (i := j) (by omega)
      have hd := dg_lt' X j
      have hnx := limb_next X j
      have hlw := limb_word (X / B^(j+1) % 18446744073709551616) (dg X j) hd
      rw [hnx] at hlw
      have g1 : ((X / B^(j+1) % 18446744073709551616 : Nat) : Int) ≤ 18446744073709551615 := by have := Nat.mod_lt (X / B^(j+1)) (show 0 < 18446744073709551616 by decide); omega
      have HNX := Lib.hid (show ((X / B^j % 18446744073709551616 : Nat) : Int) = ((X / B^j % 18446744073709551616 : Nat) : Int) from rfl)
      obtain ⟨u', hu'⟩ : ∃ u', X / B^j % 18446744073709551616 = u' := ⟨_, rfl⟩
      rw [hu'] at hlw
      have HU := Lib.hid hu'
      clear hu' hnx HNX
      generalize X / B^(j+1) % 18446744073709551616 = u at *
      have g2 : (dg X j : Int) ≤ 4294967295 := by omega
      have hk2 : j < n := by omega
      have HJ := Lib.hid (show j ≤ n by omega)
      generalize dg X j = d at *
      clear hd hk
      go_wp2_with fail
      go_round
      case rel => exact ⟨j, HJ.out, rfl, by rw [HU.out]⟩
      case measure => simp [intOf]
end Go.Proofs.Ytdgfmkideghhaaa

namespace VB
/-- The numbers of one step: Y the divisor, U the head, u the next half word. -/
structure Sd (U Y y1 y0 u : Nat) : Prop where
  hY : Y = y1 * 4294967296 + y0
  hy0 : y0 < 4294967296
  hy1 : 2147483648 ≤ y1
  hy2 : y1 < 4294967296
  hu : u < 4294967296
  hU : U < Y
theorem Sd.pos {U Y y1 y0 u : Nat} (h : Sd U Y y1 y0 u) : 0 < Y := by have := h.hU; omega
/-- The estimate q with the rest r. -/
structure Es (U Y y1 y0 u q r : Nat) : Prop where
  e : q * y1 + r = U
  le : (U * 4294967296 + u) / Y ≤ q
  hr : r < 4294967296
  hq : q ≤ 4294967297
theorem dig_lt {U Y y1 y0 u : Nat} (h : Sd U Y y1 y0 u) : (U * 4294967296 + u) / Y < 4294967296 := by
  apply Nat.div_lt_of_lt_mul
  have h1 := h.hU
  have h2 := h.hu
  have h3 : (U + 1) * 4294967296 ≤ Y * 4294967296 := Nat.mul_le_mul_right _ h1
  omega
theorem es_init {U Y y1 y0 u : Nat} (h : Sd U Y y1 y0 u) : Es U Y y1 y0 u (U / y1) (U % y1) := by
  have h1 := h.hy1; have h2 := h.hy2; have hU := h.hU; have hY := h.hY; have h0 := h.hy0; have hu := h.hu
  have e := Nat.div_add_mod U y1
  have hr := Nat.mod_lt U (show 0 < y1 by omega)
  refine ⟨by rw [Nat.mul_comm]; exact e, ?_, by omega, ?_⟩
  · rw [Nat.div_le_iff_le_mul_add_pred h.pos]
    have e2 : Y * (U / y1) = (y1 * (U / y1)) * 4294967296 + y0 * (U / y1) := by rw [hY]; grind
    omega
  · have h3 : U / y1 < 4294967298 := by
      apply Nat.div_lt_of_lt_mul
      omega
    omega
theorem es_dec {U Y y1 y0 u q r : Nat} (h : Sd U Y y1 y0 u) (s : Es U Y y1 y0 u q r) (ht : 4294967296 ≤ q ∨ 4294967296 * r + u < q * y0) :
    1 ≤ q ∧ (q - 1) * y1 + (r + y1) = U ∧ (U * 4294967296 + u) / Y ≤ q - 1 ∧ q - 1 ≤ 4294967296 := by
  have hY := h.hY
  have hlt : (U * 4294967296 + u) / Y < q := by
    rcases ht with ht | ht
    · exact Nat.lt_of_lt_of_le (dig_lt h) ht
    · apply Nat.div_lt_of_lt_mul
      have e := s.e
      have e2 : Y * q = q * y1 * 4294967296 + q * y0 := by rw [hY]; grind
      have e3 : (q * y1 + r) * 4294967296 = q * y1 * 4294967296 + 4294967296 * r := by grind
      rw [← e]
      omega
  have hq := s.hq
  generalize (U * 4294967296 + u) / Y = D at *
  refine ⟨by omega, ?_, by omega, by omega⟩
  obtain ⟨p, rfl⟩ : ∃ p, q = p + 1 := ⟨q - 1, by omega⟩
  have e := s.e
  have e2 : (p + 1) * y1 = p * y1 + y1 := by grind
  rw [Nat.add_sub_cancel]
  omega
theorem es_done {U Y y1 y0 u q r : Nat} (h : Sd U Y y1 y0 u) (e : q * y1 + r = U) (le : (U * 4294967296 + u) / Y ≤ q) (ht : q * y0 ≤ 4294967296 * r + u) : q = (U * 4294967296 + u) / Y := by
  have hY := h.hY
  apply Nat.le_antisymm _ le
  rw [Nat.le_div_iff_mul_le h.pos]
  have e2 : q * Y = q * y1 * 4294967296 + q * y0 := by rw [hY]; grind
  have e3 : (q * y1 + r) * 4294967296 = q * y1 * 4294967296 + 4294967296 * r := by grind
  rw [← e]
  omega
theorem es_break {U Y y1 y0 u q r : Nat} (h : Sd U Y y1 y0 u) (e : q * y1 + r = U) (le : (U * 4294967296 + u) / Y ≤ q) (hq : q ≤ 4294967296) (hr : 4294967296 ≤ r) : q = (U * 4294967296 + u) / Y := by
  refine es_done h e le ?_
  have h0 := h.hy0
  have h1 : q * y0 ≤ 4294967296 * 4294967295 := Nat.mul_le_mul hq (by omega)
  omega
/-- The rest of one step is less than the divisor. -/
theorem step_rest {U Y y1 y0 u : Nat} (h : Sd U Y y1 y0 u) : U * 4294967296 + u - (U * 4294967296 + u) / Y * Y < Y ∧ (U * 4294967296 + u) / Y * Y ≤ U * 4294967296 + u := by
  have e := Nat.div_add_mod (U * 4294967296 + u) Y
  have hl := Nat.mod_lt (U * 4294967296 + u) h.pos
  rw [Nat.mul_comm] at e
  omega
/-- Both steps together. -/
theorem two_steps {N U Y u1 u0 K : Nat} (hY : 0 < Y) (hN : N = (U * K + u1) * K + u0) (V : Nat) (hV : V = U * K + u1 - (U * K + u1) / Y * Y) :
    N / Y = (U * K + u1) / Y * K + (V * K + u0) / Y ∧ N % Y = V * K + u0 - (V * K + u0) / Y * Y := by
  generalize U * K + u1 = M at *
  have e1 := Nat.div_add_mod M Y
  have hV2 : V = M % Y := by rw [Nat.mul_comm] at e1; omega
  rw [← hV2] at e1
  have e2 := Nat.div_add_mod (V * K + u0) Y
  have l2 := Nat.mod_lt (V * K + u0) hY
  generalize M / Y = q1 at *
  have hr : V * K + u0 - (V * K + u0) / Y * Y = (V * K + u0) % Y := by rw [Nat.mul_comm] at e2; omega
  rw [hr]
  have e3 : N = Y * (q1 * K + (V * K + u0) / Y) + (V * K + u0) % Y := by
    have e4 : Y * (q1 * K + (V * K + u0) / Y) = Y * q1 * K + Y * ((V * K + u0) / Y) := by grind
    have e5 : (Y * q1 + V) * K = Y * q1 * K + V * K := Nat.add_mul ..
    rw [hN, ← e1]
    omega
  constructor
  · rw [e3, Nat.mul_add_div hY, Nat.div_eq_of_lt l2, Nat.add_zero]
  · rw [e3, Nat.mul_add_mod, Nat.mod_eq_of_lt l2]
end VB
