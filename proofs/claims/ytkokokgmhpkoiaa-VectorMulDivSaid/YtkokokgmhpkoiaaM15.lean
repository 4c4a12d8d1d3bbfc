/-
  integer.raise multiplies limbs by a power of 2, into new memory.
  integer.length and Bits.
-/
import Derived.Test.YtkokokgmhpkoiaaM09
import Derived.Test.YtkokokgmhpkoiaaM14
namespace PB
open Go
theorem raise_puts {Z j v p : Nat} (hZ : Z < B^j * 2^p) (hp : p < 32) (hv : v % 2^p = 0) (hvB : v < B * 2^p) :
    put (put Z j (dg Z j + v % B)) (j+1) (v / B) = Z + v * B^j ∧ dg Z j + v % B < B ∧ v / B < B ∧ dg Z j ||| v % B = dg Z j + v % B ∧ dg Z j < B := by
  have h2 := two_split hp
  have hpB : 2^p ≤ B := by rw [← h2]; exact Nat.le_mul_of_pos_right _ (Nat.pow_pos (by decide))
  have hZ1 : Z < B^(j+1) := by rw [pow_succ]; exact Nat.lt_of_lt_of_le hZ (Nat.mul_le_mul_left _ hpB)
  have hd : dg Z j < 2^p := by
    unfold dg
    exact Nat.lt_of_le_of_lt (Nat.mod_le _ _) (Nat.div_lt_of_lt_mul hZ)
  have hm : (v % B) % 2^p = 0 := by rw [← h2, Nat.mod_mul_right_mod, hv]
  have hmB : v % B < B := Nat.mod_lt _ (by decide)
  have hs : dg Z j + v % B < B := by
    have e : v % B = v % B / 2^p * 2^p := by have := Nat.div_add_mod' (v % B) (2^p); omega
    have h3 : v % B / 2^p < 2^(32-p) := Nat.div_lt_of_lt_mul (by rw [h2]; exact hmB)
    have h4 : (v % B / 2^p + 1) * 2^p ≤ 2^(32-p) * 2^p := Nat.mul_le_mul_right _ h3
    rw [Nat.mul_comm (2^(32-p)), h2, Nat.add_mul] at h4
    omega
  have hh : v / B < B := Nat.lt_of_lt_of_le (Nat.div_lt_of_lt_mul hvB) hpB
  refine ⟨?_, hs, hh, ?_, Nat.lt_of_lt_of_le hd hpB⟩
  · have p1 := put_eq Z j (dg Z j + v % B)
    have p2 := put_eq (put Z j (dg Z j + v % B)) (j+1) (v / B)
    rw [dg_put_other hs (by omega), dg_of_lt hZ1 (Nat.le_refl _), Nat.zero_mul, Nat.add_zero] at p2
    rw [p2]
    rw [Nat.add_mul] at p1
    have e : v * B^j = v % B * B^j + v / B * B^(j+1) := by
      rw [pow_succ, ← Nat.mul_assoc, Nat.mul_right_comm, ← Nat.add_mul]
      have := Nat.mod_add_div' v B
      rw [this]
    omega
  · rw [Nat.or_comm, nat_join p _ _ hm hd, Nat.add_comm]
theorem raise_bits {z v : Nat} (hz : z < B) : bits BinOp.or IntKind.u32 (z : Int) ((v : Int) % 4294967296) = ((z ||| v % B : Nat) : Int) := by
  have e2 : (v : Int) % 4294967296 = ((v % 4294967296 : Nat) : Int) := by rw [Int.natCast_emod]; rfl
  rw [e2, u32_or_nat _ _ hz (Nat.mod_lt _ (by decide))]
  rfl
theorem raise_wrap {d p : Nat} (hd : d < B) (hp : p < 32) : IntKind.u64.wrap (IntKind.u64.wrap (d : Int) * 2^p) = ((d * 2^p : Nat) : Int) := by
  have e1 : IntKind.u64.wrap (d : Int) = d := by rw [IntKind.wrap_u64]; unfold B at *; omega
  rw [e1]
  have h1 : (2:Nat)^p ≤ 2^31 := Nat.pow_le_pow_right (by decide) (by omega)
  have h2 : d * 2^p < B * 2^32 := by
    refine Nat.lt_of_lt_of_le (Nat.mul_lt_mul_of_pos_right hd (Nat.pow_pos (by decide))) (Nat.mul_le_mul_left _ (Nat.le_trans h1 (by decide)))
  have e2 : (d : Int) * 2^p = ((d * 2^p : Nat) : Int) := by rw [Int.natCast_mul]; rfl
  rw [e2, IntKind.wrap_u64]
  generalize d * 2^p = v at *
  unfold B at h2
  omega
theorem raise_hi {v : Nat} (h : v / B < B) : (v : Int) / 4294967296 % 4294967296 = ((v / B : Nat) : Int) := by unfold B at *; omega
end PB
namespace Go.Proofs.Ytkokokgmhpkoiaa
open Go.RowKit PB

set_option maxHeartbeats 1600000 in
set_option maxRecDepth 100000 in
theorem raise_any (base : Option Addr) (b off n c X k q p : Nat) (w : World) (hb : n ≠ 0 → base = some ⟨b, off, none⟩) (hX : Num w b off n X) (hc : n ≤ 1000000000) (hk : k = 32 * q + p) (hp : p < 32) (hk2 : k ≤ 100000) :
    Calls Try.prog 79 #[.slice base n c, .int .i64 k] w fun e w' => e = .returned (.slice (some ⟨w.heap.size, 0, none⟩) (q + n + 1) (q + n + 1)) ∧ Fresh w w' w.heap.size (q + n + 1) (X * 2^k) := by
  have HB := Lib.hid hb
  have e1 : (k : Int) / 32 = q := by omega
  have e2 : (k : Int) % 32 = p := by omega
  have HKK := Lib.hid hk
  clear hb hk
  go_enter Try.func79, Try.ntmps79
  go_wp2_with (at_make; refine wpList_make_num _ rfl _ _ 22 rfl 77 info51 Try.underlying22 .i64 .i64 _ _ (q + n + 1) rfl rfl (by omega) (by omega) (by omega) ?_)
  intro w1 hb1 hz1 hS1 hF1 _
  have HN := Lib.hid hz1
  clear hz1
  go_wp2_with fail
  go_loopw [23] (fun i wr => ∃ k' : Nat, k' ≤ n ∧ i = .int .i64 k' ∧ Below w.heap.size w wr ∧ Num wr w.heap.size 0 (q + n + 1) ((X % B^k') * 2^p * B^q) ∧ Free wr w.heap.size 0 (q + n + 1) ∧ Hid (w1.heap.size ≤ wr.heap.size)) (fun i _ => n - (intOf i).toNat)
  case atStart => exact ⟨0, by omega, rfl, hb1, hS1.val (by simp [Nat.mod_one]), hF1, show _ from Nat.le_refl _⟩
  case round =>
    obtain ⟨i, hi, rfl, hbr, hSr, hFr, hzr⟩ := hrel
    by_cases hlt : i < n
    · obtain rfl := HB.out (by omega)
      have c1 := (hX.kept hbr).cell (i := i) (by omega)
      have hdB := dg_lt X i
      have hZ : X % B^i * 2^p * B^q < B^(q+i) * 2^p := by
        rw [pow_add, Nat.mul_comm (B^q), Nat.mul_right_comm]
        refine Nat.mul_lt_mul_of_pos_right ?_ (Nat.pow_pos (by decide))
        exact Nat.mul_lt_mul_of_pos_right (mod_lt_pow _ _) (Bp q)
      have hstep : X % B^i * 2^p * B^q + dg X i * 2^p * B^(q+i) = X % B^(i+1) * 2^p * B^q := by
        rw [mod_succ, Nat.add_mul, Nat.add_mul, pow_add]
        congr 1
        rw [Nat.mul_right_comm (dg X i) (B^i), Nat.mul_assoc (dg X i * 2^p), Nat.mul_comm (B^i)]
      obtain ⟨d, hd⟩ : ∃ d, dg X i = d := ⟨_, rfl⟩
      rw [hd] at hdB c1 hstep
      obtain ⟨Z, hZe⟩ : ∃ Z, X % B^i * 2^p * B^q = Z := ⟨_, rfl⟩
      rw [hZe] at hSr hZ hstep
      have HST := Lib.hid hstep
      have hvB : d * 2^p < B * 2^p := Nat.mul_lt_mul_of_pos_right hdB (Nat.pow_pos (by decide))
      obtain ⟨r1, r2, r3, r4, r5⟩ := raise_puts hZ hp (Nat.mul_mod_left d (2^p)) hvB
      have c2 := hSr.cell0 (i := q + i) (by omega)
      have c3 := hSr.cell0 (i := q + i + 1) (by omega)
      have f2 := hFr.at0 (i := q + i) (by omega)
      have f3 := hFr.at0 (i := q + i + 1) (by omega)
      have R1 := Lib.hid r1
      have R4 := Lib.hid r4
      have i1 : (i : Int) < n := by omega
      have i2 : (0 : Int) ≤ i := by omega
      have i3 : (p : Int) < 64 := by omega
      have i4 : (0 : Int) ≤ p := by omega
      clear hd hZe hstep r1 r4 hZ
      go_wp2_with fail
      rw [raise_wrap hdB hp, raise_bits r5, R4.out, raise_hi r3]
      have hnew := (hSr.set0 (k := q + i) (by omega) r2).set0 (k := q + i + 1) (by omega) r3
      rw [R1.out, HST.out] at hnew
      have hz := hzr
      go_roundw
      case rel =>
        refine ⟨i + 1, by omega, by go_num, (hbr.setCell (Nat.le_refl _) _).setCell (Nat.le_refl _) _, hnew, (hFr.set _ _).set _ _, ?_⟩
        have h1 := hzr.out
        exact Lib.hid (by simp; exact h1)
      case measure => simp [intOf]; omega
    · have hin : i = n := by omega
      subst hin
      have i1 : ¬ ((i : Int) < i) := by omega
      have hfin : X % B^i * 2^p * B^q = X * 2^k := by
        rw [mod_of_lt hX.lt, HKK.out, Nat.pow_add, Nat.pow_mul, Nat.mul_assoc, Nat.mul_comm (2^p)]
        rfl
      rw [hfin] at hSr
      clear hfin hlt
      go_wp2_with fail
      go_ret
      exact ⟨rfl, hbr, hSr, hFr, Nat.le_refl _, by have h1 := hzr.out; have h2 := HN.out; omega⟩
end Go.Proofs.Ytkokokgmhpkoiaa

namespace PB
open Go Go.RowKit
/-- The number of bits of X, by its limbs. -/
def bl (X : Nat) : Nat := if X = 0 then 0 else 32 * (nl X - 1) + Lib.bitLen (dg X (nl X - 1))
end PB
namespace Go.Proofs.Ytkokokgmhpkoiaa
open Go.RowKit PB

set_option maxRecDepth 100000 in
theorem length_any (base : Option Addr) (b off c X : Nat) (w : World) (hb : nl X ≠ 0 → base = some ⟨b, off, none⟩) (hX : Num w b off (nl X) X) (hl : nl X ≤ 1000000000) :
    Calls Try.prog 92 #[.slice base (nl X) c] w fun e w' => e = .returned (.int .i64 (bl X)) ∧ w = w' := by
  by_cases h0 : X = 0
  · have hbl : bl X = 0 := if_pos h0
    rw [hbl]
    have ht : ((nl X : Int) == 0) = true := by rw [h0, nl_zero]; rfl
    clear hbl h0 hb
    go_enter Try.func92, Try.ntmps92
    go_wp2
    go_ret
    exact ⟨rfl, rfl⟩
  · have hnl : nl X ≠ 0 := mt nl_eq_zero.1 h0
    have hbl := Lib.hid (show bl X = 32 * (nl X - 1) + Lib.bitLen (dg X (nl X - 1)) from if_neg h0)
    obtain rfl := hb hnl
    obtain ⟨k, hk⟩ : ∃ k, nl X = k + 1 := ⟨nl X - 1, by omega⟩
    have hc := hX.cell (show k < nl X by omega)
    rw [hk] at hl ⊢
    have HK := Lib.hid hk
    have hd := dg_lt X k
    have h32 := Lib.bitLen_le (dg X k) 32 (by omega) hd
    clear hb h0 hnl hk hX
    go_enter Try.func92, Try.ntmps92
    go_wp2_with (go_at_call 130; refine (len32_any (dg X k) _ hd).mono ?_; rintro e w' ⟨rfl, rfl⟩)
    go_ret
    exact iret (by rw [hbl.out, HK.out, Nat.add_sub_cancel]; omega) _

set_option maxRecDepth 100000 in
theorem bits_any (v : Value) (z : Int) (w : World) (h : IsInt w v z) :
    Calls Try.prog 34 #[v] w fun e w' => e = .returned (.int .i64 (bl z.natAbs)) ∧ Below w.heap.size w w' := by
  obtain ⟨s, base, b, off, n, c, X, rfl, hb, hX, hn, hl, rfl⟩ := h
  rw [sg_natAbs]
  have hnX := nl_le hX.lt
  have HB := Lib.hid hb
  clear hb
  go_enter Try.func34, Try.ntmps34
  go_wp2_with (first | (go_at_call 75; refine (cut_any base b off n c X _ HB.out (by exact hX.alloc _) hn (by omega)).mono ?_; rintro e w' ⟨rfl, rfl⟩) | (go_at_call 92; refine (length_any base b off (nl X) X _ (fun h => HB.out (by omega)) ((hX.alloc _).fewer hnX (lt_nl X)) (by omega)).mono ?_; rintro e w' ⟨rfl, rfl⟩))
  go_ret
  exact ⟨rfl, (Below.refl _ _).alloc (Nat.le_refl _) _⟩
end Go.Proofs.Ytkokokgmhpkoiaa
