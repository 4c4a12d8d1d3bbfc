/-
  integer.raise multiplies limbs by a power of 2, into new memory.
  integer.Shift to the left; of 0; of a large number.
  integer.Shift of 0 and of a large number; on small numbers.
-/
import Derived.Test.YtmfimkndonlheaaM09
import Derived.Test.YtmfimkndonlheaaM14
import Derived.Test.YtmfimkndonlheaaM15
import Derived.Test.YtmfimkndonlheaaM18
namespace PB
open Go
theorem raise_puts {Z j v p : Nat} (hZ : Z < B^j * 2^p) (hp : p < 32) (hv : v % 2^p = 0) (hvB : v < B * 2^p) :
    put (put Z j (dg Z j + v % B)) (j+1) (v / B) = Z + v * B^j ∧ dg Z j + v % B < B ∧ v / B < B ∧ dg Z j ||| v % B = dg Z j + v % B ∧ dg Z j < B := by
  have h2 := two_split hp
  have hpB : 2^p ≤ B := by rw [← h2]; exact Nat.le_mul_of_pos_right _ (Nat.pow_pos (by decide))
  have hZ1 : Z < B^(j+1) := by rw [pow_succ]; exact Nat.lt_of_lt_of_le hZ (Nat.mul_le_mul_left _ hpB)
  have hd : dg Z j < 2^p := by
    unfold dg
    exact Nat.lt_of_le_of_lt (Nat.mod_le _ _) (Nat.div_lt_of_lt_mul hZ)
  have hm : (v % B) % 2^p = 0 := by rw [← h2, Nat.mod_mul_right_mod, hv]
  have hmB : v % B < B := Nat.mod_lt _ (by decide)
  have hs : dg Z j + v % B < B := by
    have e : v % B = v % B / 2^p * 2^p := by have := Nat.div_add_mod' (v % B) (2^p); omega
    have h3 : v % B / 2^p < 2^(32-p) := Nat.div_lt_of_lt_mul (by rw [h2]; exact hmB)
    have h4 : (v % B / 2^p + 1) * 2^p ≤ 2^(32-p) * 2^p := Nat.mul_le_mul_right _ h3
    rw [Nat.mul_comm (2^(32-p)), h2, Nat.add_mul] at h4
    omega
  have hh : v / B < B := Nat.lt_of_lt_of_le (Nat.div_lt_of_lt_mul hvB) hpB
  refine ⟨?_, hs, hh, ?_, Nat.lt_of_lt_of_le hd hpB⟩
  · have p1 := put_eq Z j (dg Z j + v % B)
    have p2 := put_eq (put Z j (dg Z j + v % B)) (j+1) (v / B)
    rw [dg_put_other hs (by omega), dg_of_lt hZ1 (Nat.le_refl _), Nat.zero_mul, Nat.add_zero] at p2
    rw [p2]
    rw [Nat.add_mul] at p1
    have e : v * B^j = v % B * B^j + v / B * B^(j+1) := by
      rw [pow_succ, ← Nat.mul_assoc, Nat.mul_right_comm, ← Nat.add_mul]
      have := Nat.mod_add_div' v B
      rw [this]
    omega
  · rw [Nat.or_comm, nat_join p _ _ hm hd, Nat.add_comm]
theorem raise_bits {z v : Nat} (hz : z < B) : bits BinOp.or IntKind.u32 (z : Int) ((v : Int) % 4294967296) = ((z ||| v % B : Nat) : Int) := by
  have e2 : (v : Int) % 4294967296 = ((v % 4294967296 : Nat) : Int) := by rw [Int.natCast_emod]; rfl
  rw [e2, u32_or_nat _ _ hz (Nat.mod_lt _ (by decide))]
  rfl
theorem raise_wrap {d p : Nat} (hd : d < B) (hp : p < 32) : IntKind.u64.wrap (IntKind.u64.wrap (d : Int) * 2^p) = ((d * 2^p : Nat) : Int) := by
  have e1 : IntKind.u64.wrap (d : Int) = d := by rw [IntKind.wrap_u64]; unfold B at *; omega
  rw [e1]
  have h1 : (2:Nat)^p ≤ 2^31 := Nat.pow_le_pow_right (by decide) (by omega)
  have h2 : d * 2^p < B * 2^32 := by
    refine Nat.lt_of_lt_of_le (Nat.mul_lt_mul_of_pos_right hd (Nat.pow_pos (by decide))) (Nat.mul_le_mul_left _ (Nat.le_trans h1 (by decide)))
  have e2 : (d : Int) * 2^p = ((d * 2^p : Nat) : Int) := by rw [Int.natCast_mul]; rfl
  rw [e2, IntKind.wrap_u64]
  generalize d * 2^p = v at *
  unfold B at h2
  omega
theorem raise_hi {v : Nat} (h : v / B < B) : (v : Int) / 4294967296 % 4294967296 = ((v / B : Nat) : Int) := by unfold B at *; omega
end PB
namespace Go.Proofs.Ytmfimkndonlheaa
open Go.RowKit PB

set_option maxHeartbeats 1600000 in
set_option maxRecDepth 100000 in
theorem raise_any (base : Option Addr) (b off n c X k q p : Nat) (w : World) (hb : n ≠ 0 → base = some ⟨b, off, none⟩) (hX : Num w b off n X) (hc : n ≤ 1000000000) (hk : k = 32 * q + p) (hp : p < 32) (hk2 : k ≤ 100000) :
    Calls Try.prog 55 #[.slice base n c, .int .i64 k] w fun e w' => e = .returned (.slice (some ⟨w.heap.size, 0, none⟩) (q + n + 1) (q + n + 1)) ∧ Fresh w w' w.heap.size (q + n + 1) (X * 2^k) := by
  have HB := Lib.hid hb
  have e1 : (k : Int) / 32 = q := by omega
  have e2 : (k : Int) % 32 = p := by omega
  have HKK := Lib.hid hk
  clear hb hk
  go_enter Try.func55, Try.ntmps55
  go_wp2_with (at_make; refine wpList_make_num _ rfl _ _ 22 rfl 51 info51 Try.underlying22 .i64 .i64 _ _ (q + n + 1) rfl rfl (by omega) (by omega) (by omega) ?_)
  intro w1 hb1 hz1 hS1 hF1 _
  have HN := Lib.hid hz1
  clear hz1
  go_wp2_with fail
  go_loopw [23] (fun i wr => ∃ k' : Nat, k' ≤ n ∧ i = .int .i64 k' ∧ Below w.heap.size w wr ∧ Num wr w.heap.size 0 (q + n + 1) ((X % B^k') * 2^p * B^q) ∧ Free wr w.heap.size 0 (q + n + 1) ∧ Hid (w1.heap.size ≤ wr.heap.size)) (fun i _ => n - (intOf i).toNat)
  case atStart => exact ⟨0, by omega, rfl, hb1, hS1.val (by simp [Nat.mod_one]), hF1, show _ from Nat.le_refl _⟩
  case round =>
    obtain ⟨i, hi, rfl, hbr, hSr, hFr, hzr⟩ := hrel
    by_cases hlt : i < n
    · obtain rfl := HB.out (by omega)
      have c1 := (hX.kept hbr).cell (i := i) (by omega)
      have hdB := dg_lt X i
      have hZ : X % B^i * 2^p * B^q < B^(q+i) * 2^p := by
        rw [pow_add, Nat.mul_comm (B^q), Nat.mul_right_comm]
        refine Nat.mul_lt_mul_of_pos_right ?_ (Nat.pow_pos (by decide))
        exact Nat.mul_lt_mul_of_pos_right (mod_lt_pow _ _) (Bp q)
      have hstep : X % B^i * 2^p * B^q + dg X i * 2^p * B^(q+i) = X % B^(i+1) * 2^p * B^q := by
        rw [mod_succ, Nat.add_mul, Nat.add_mul, pow_add]
        congr 1
        rw [Nat.mul_right_comm (dg X i) (B^i), Nat.mul_assoc (dg X i * 2^p), Nat.mul_comm (B^i)]
      obtain ⟨d, hd⟩ : ∃ d, dg X i = d := ⟨_, rfl⟩
      rw [hd] at hdB c1 hstep
      obtain ⟨Z, hZe⟩ : ∃ Z, X % B^i * 2^p * B^q = Z := ⟨_, rfl⟩
      rw [hZe] at hSr hZ hstep
      have HST := Lib.hid hstep
      have hvB : d * 2^p < B * 2^p := Nat.mul_lt_mul_of_pos_right hdB (Nat.pow_pos (by decide))
      obtain ⟨r1, r2, r3, r4, r5⟩ := raise_puts hZ hp (Nat.mul_mod_left d (2^p)) hvB
      have c2 := hSr.cell0 (i := q + i) (by omega)
      have c3 := hSr.cell0 (i := q + i + 1) (by omega)
      have f2 := hFr.at0 (i := q + i) (by omega)
      have f3 := hFr.at0 (i := q + i + 1) (by omega)
      have R1 := Lib.hid r1
      have R4 := Lib.hid r4
      have i1 : (i : Int) < n := by omega
      have i2 : (0 : Int) ≤ i := by omega
      have i3 : (p : Int) < 64 := by omega
      have i4 : (0 : Int) ≤ p := by omega
      clear hd hZe hstep r1 r4 hZ
      go_wp2_with fail
      rw [raise_wrap hdB hp, raise_bits r5, R4.out, raise_hi r3]
      have hnew := (hSr.set0 (k := q + i) (by omega) r2).set0 (k := q + i + 1) (by omega) r3
      rw [R1.out, HST.out] at hnew
      have hz := hzr
      go_roundw
      case rel =>
        refine ⟨i + 1, by omega, by go_num, (hbr.setCell (Nat.le_refl _) _).setCell (Nat.le_refl _) _, hnew, (hFr.set _ _).set _ _, ?_⟩
        have h1 := hzr.out
        exact Lib.hid (by simp; exact h1)
      case measure => simp [intOf]; omega
    · have hin : i = n := by omega
      subst hin
      have i1 : ¬ ((i : Int) < i) := by omega
      have hfin : X % B^i * 2^p * B^q = X * 2^k := by
        rw [mod_of_lt hX.lt, HKK.out, Nat.pow_add, Nat.pow_mul, Nat.mul_assoc, Nat.mul_comm (2^p)]
        rfl
      rw [hfin] at hSr
      clear hfin hlt
      go_wp2_with fail
      go_ret
      exact ⟨rfl, hbr, hSr, hFr, Nat.le_refl _, by have h1 := hzr.out; have h2 := HN.out; omega⟩
end Go.Proofs.Ytmfimkndonlheaa

namespace PB
theorem sg_pow (s : Bool) (X k : Nat) : sg s (X * 2^k) = sg s X * 2^k := by
  unfold sg
  cases s <;> simp [Int.neg_mul]
end PB
namespace Go.Proofs.Ytmfimkndonlheaa
open Go.RowKit PB

set_option maxHeartbeats 3200000 in
set_option maxRecDepth 100000 in
theorem shift_up (s : Bool) (base : Option Addr) (b off n c X : Nat) (k : Nat) (w : World) (hb : n ≠ 0 → base = some ⟨b, off, none⟩) (hX : Num w b off n X) (hn : n ≤ c) (hl : n ≤ 1000000000)
    (hs : ¬ 256 < nl X) (h0 : X ≠ 0) (hk2 : k ≤ 8192) (er : Int) (z : Int)
    (hbz : (256 < nl (X * 2^k) ∧ er = 2 ∧ z = 0) ∨ (¬ 256 < nl (X * 2^k) ∧ er = 0 ∧ z = sg s (X * 2^k))) :
    Calls Try.prog 17 #[.agg #[.bool s, .slice base n c], .int .i64 k] w (RetIntE w z er) := by
  have hnX := nl_le hX.lt
  have hz : ((nl X : Int) == 0) = false := by have := mt nl_eq_zero.1 h0; simp; omega
  have HB := Lib.hid hb
  have HZ := Lib.hid hbz
  clear hbz hb h0
  have i1 : ¬ ((8192 : Int) < k) := by omega
  have i2 : (0 : Int) ≤ k := by omega
  go_enter Try.func17, Try.ntmps17
  go_wp2_with fail
  generalize hW : World.alloc _ _ = W
  have B0 : Blk W w.heap.size #[.bool s, .slice base n c] := by rw [← hW]; exact (blk_new rfl).alloc _
  have B1 : Blk W (w.heap.size + 1) #[.bool false, .slice none 0 0] := by rw [← hW]; exact blk_new (by simp)
  have hbW : Below w.heap.size w W := by rw [← hW]; exact ((Below.refl _ _).alloc (Nat.le_refl _) _).alloc (by simp) _
  have HS := Lib.hid (show W.heap.size = w.heap.size + 2 by rw [← hW]; simp)
  clear hW
  obtain ⟨a0, a1⟩ := Blk2 B0
  have hXW := hX.kept hbW
  go_wp2_with (go_at_call 51; refine (cut_any base b off n c X _ HB.out (by exact hXW) hn (by omega)).mono ?_; rintro e w' ⟨rfl, rfl⟩)
  generalize hV : World.alloc _ _ = V
  have hbV : Below W.heap.size W V := by rw [← hV]; exact (Below.refl _ _).alloc (Nat.le_refl _) _
  have B2 : Blk V W.heap.size #[.bool s, .slice base n c] := by rw [← hV]; exact blk_new rfl
  clear hV
  have call := large_one W.heap.size s base b off n c X V (B2.cell 0 _ rfl) (B2.cell 1 _ rfl) HB.out (hXW.kept hbV) hn (by omega)
  rw [decide_eq_false hs] at call
  refine call.mono ?_
  clear call
  rintro e w1 ⟨rfl, hb1⟩
  have hbw1 : Below w.heap.size w w1 := hbW.trans ((hbV.trans (hb1.mono hbV.size)).mono (by have := HS.out; omega))
  have B0' := (B0.kept hbV).kept hb1
  have B1' := (B1.kept hbV).kept hb1
  have HS' := Lib.hid (show w.heap.size + 2 ≤ w1.heap.size by have := HS.out; have := hbV.size; have := hb1.size; omega)
  have HK := Lib.hid (show ∀ w2, Below w1.heap.size w1 w2 → w2.cell? ⟨w.heap.size, 0, none⟩ = some (.bool s) ∧ w2.cell? ⟨w.heap.size, 1, none⟩ = some (.slice base n c) from fun w2 h => Blk2 (B0'.kept h))
  have HL := Lib.hid (show ∀ w2, Below w1.heap.size w1 w2 → Blk w2 (w.heap.size + 1) #[.bool false, .slice none 0 0] from fun w2 h => B1'.kept h)
  have HST := Lib.hid (show ∀ (w4 : World) (u0 u1 : Value), (w4.cell? ⟨w.heap.size, 0, none⟩ = some (.bool s) ∧ w4.cell? ⟨w.heap.size, 1, none⟩ = some (.slice base n c)) →
      (((w4.setCell ⟨w.heap.size + 1, 0, none⟩ u0).setCell ⟨w.heap.size + 1, 1, none⟩ u1).cell? ⟨w.heap.size, 0, none⟩ = some (.bool s) ∧ ((w4.setCell ⟨w.heap.size + 1, 0, none⟩ u0).setCell ⟨w.heap.size + 1, 1, none⟩ u1).cell? ⟨w.heap.size, 1, none⟩ = some (.slice base n c)) from
    fun w4 u0 u1 h => ⟨cell_other (cell_other h.1 (show w.heap.size ≠ w.heap.size + 1 by omega)) (show w.heap.size ≠ w.heap.size + 1 by omega), cell_other (cell_other h.2 (show w.heap.size ≠ w.heap.size + 1 by omega)) (show w.heap.size ≠ w.heap.size + 1 by omega)⟩)
  have hX1 := (hX.kept hbw1).fewer hnX (lt_nl X)
  clear B0 B1 B2 B0' B1' hb1 hbV hbW hXW HS a0 a1
  obtain ⟨a0, a1⟩ := HK.out _ (Below.refl _ _)
  obtain ⟨q, hq⟩ : ∃ q, q = k / 32 := ⟨_, rfl⟩
  obtain ⟨p, hp⟩ : ∃ p, p = k % 32 := ⟨_, rfl⟩
  have hkqp : Hid (k = 32 * q + p ∧ p < 32 ∧ q ≤ 256) := Lib.hid (by omega)
  clear hq hp
  go_wp2_with fail
  go_region_held3 (fun w' => w'.cell? ⟨w.heap.size, 0, none⟩ = some (.bool s) ∧ w'.cell? ⟨w.heap.size, 1, none⟩ = some (.slice base n c))
    (first | exact ⟨a0, a1⟩ | exact HK.out _ hq3 | exact HK.out _ hq2 | exact HK.out _ hq1 | exact HST.out _ _ _ (HK.out _ hq3))
    (first
      | (go_at_call 55; refine (raise_any base b off (nl X) (nl X) X k q p _ (fun h => HB.out (by omega)) (by exact hX1) (by omega) hkqp.out.1 hkqp.out.2.1 (by omega)).mono ?_; rintro e w2 ⟨rfl, hF⟩; have hq1 : Below w1.heap.size w1 w2 := (by first | exact hF.below | exact below_undrew hF.below); have hnum0 : Num w2 w1.heap.size 0 (q + nl X + 1) (X * 2^k) := (by exact hF.num))
      | (go_at_call 49; refine (number_any s _ _ 0 _ _ (X * 2^k) _ (fun _ => rfl) (by exact hnum0) (Nat.le_refl _) (by have := hkqp.out; omega)).mono ?_; rintro e w3 ⟨rfl, hb3⟩
         have hq2 : Below w1.heap.size w1 w3 := hq1.trans (hb3.mono hq1.size)
         have hnum := hnum0.kept hb3
         have hcan : IsCan w1.heap.size w3 (intv s (some ⟨w1.heap.size, 0, none⟩) (X * 2^k)) (sg s (X * 2^k)) := can_intv (n := q + nl X + 1) (fun _ => rfl) hnum (by have := nl_le hnum.lt; have := hkqp.out; omega) (fun _ => by omega)
         obtain ⟨s', q', g, o, Z, m, hv, hq, hZ, hm, hml, hzz, hsz, hgN⟩ := hcan
         rw [hv]
         have HV := Lib.hid hv
         have HZZ := Lib.hid hzz
         clear hv hzz)
      | (go_at_call 47; refine (bounded_any s' q' g o (nl Z) m Z _ hq (by exact hZ) hm (by omega)).mono ?_; rintro e w4 ⟨rfl, hb4⟩
         have hq3 : Below w1.heap.size w1 w4 := hq2.trans (hb4.mono hq2.size)
         obtain ⟨c0, c1⟩ := Blk2 (HL.out _ hq3)
         obtain ⟨f0, f1⟩ := Blk2f (HL.out _ hq3)
         obtain ⟨r', p', k', l', er', hbn⟩ := bnd_form s' q' (nl Z) m Z
         rw [hbn]
         have HBN := Lib.hid hbn
         clear hbn))
  go_wp2_with fail
  have hsize := HS'.out
  have hZX : X * 2^k = Z := by have h := congrArg Int.natAbs HZZ.out; rwa [sg_natAbs, sg_natAbs] at h
  have hbw4 : Below w.heap.size w w4 := hbw1.trans (hq3.mono (by omega))
  refine bodyPost_ret (v := .tuple #[.agg #[.bool r', .slice p' k' l'], .int .i64 er']) (by simp [results, Try.results17, go_sem, c0, c1]) rfl ?_
  rcases HZ.out with ⟨h1, h2, h3⟩ | ⟨h1, h2, h3⟩
  · have h4 := HBN.out
    rw [bnd_big _ (by rw [← hZX]; exact h1)] at h4
    simp only [Value.tuple.injEq, Array.mk.injEq, List.cons.injEq, Value.int.injEq, true_and, and_true] at h4
    rw [← h4.1, ← h4.2, h2, h3]
    exact ⟨_, rfl, can_zero _ _, (hbw4.setCell (by show w.heap.size ≤ w.heap.size + 1; omega) _).setCell (by show w.heap.size ≤ w.heap.size + 1; omega) _⟩
  · have h4 := HBN.out
    rw [bnd_ok _ (by rw [← hZX]; exact h1)] at h4
    simp only [Value.tuple.injEq, Array.mk.injEq, List.cons.injEq, Value.int.injEq, true_and, and_true] at h4
    rw [← h4.1, ← h4.2, h2, h3, HZZ.out]
    have hcan : IsCan w1.heap.size w4 (.agg #[.bool s', .slice q' (nl Z) m]) (sg s' Z) := ⟨s', q', g, o, Z, m, rfl, hq, hZ.kept hb4, hm, hml, rfl, hsz, hgN⟩
    exact ⟨_, rfl, ((hcan.set (by show w.heap.size + 1 < _; omega) _).set (by show w.heap.size + 1 < _; omega) _).mono (by omega), (hbw4.setCell (by show w.heap.size ≤ w.heap.size + 1; omega) _).setCell (by show w.heap.size ≤ w.heap.size + 1; omega) _⟩
end Go.Proofs.Ytmfimkndonlheaa

namespace PB
open Go Go.RowKit
theorem sm_shift {j m k : Nat} {z : Int} (h : sm j z) (hk : k ≤ 32 * m) : sm (j+m) (z * 2^k) := by
  unfold sm at *
  have e : (z * 2^k).natAbs = z.natAbs * 2^k := by
    rw [Int.natAbs_mul, Int.natAbs_pow]; rfl
  rw [e, pow_add]
  have h1 : 2^k ≤ B^m := by
    have e2 : B = 2^32 := rfl
    rw [e2, ← Nat.pow_mul]
    exact Nat.pow_le_pow_right (by decide) hk
  exact Nat.lt_of_lt_of_le (Nat.mul_lt_mul_of_pos_right h (Nat.pow_pos (by decide))) (Nat.mul_le_mul_left _ h1)
end PB
namespace Go.Proofs.Ytmfimkndonlheaa
open Go.RowKit PB

set_option maxHeartbeats 1600000 in
set_option maxRecDepth 100000 in
theorem shift_zero (s : Bool) (base : Option Addr) (b off n c : Nat) (k : Int) (w : World) (hb : n ≠ 0 → base = some ⟨b, off, none⟩) (hX : Num w b off n 0) (hn : n ≤ c) (hl : n ≤ 1000000000) :
    Calls Try.prog 17 #[.agg #[.bool s, .slice base n c], .int .i64 k] w (RetIntE w 0 0) := by
  have hs : ¬ 256 < nl 0 := by rw [nl_zero]; omega
  have HB := Lib.hid hb
  clear hb
  go_enter Try.func17, Try.ntmps17
  go_wp2_with fail
  generalize hW : World.alloc _ _ = W
  have B0 : Blk W w.heap.size #[.bool s, .slice base n c] := by rw [← hW]; exact (blk_new rfl).alloc _
  have B1 : Blk W (w.heap.size + 1) #[.bool false, .slice none 0 0] := by rw [← hW]; exact blk_new (by simp)
  have hbW : Below w.heap.size w W := by rw [← hW]; exact ((Below.refl _ _).alloc (Nat.le_refl _) _).alloc (by simp) _
  have HS := Lib.hid (show W.heap.size = w.heap.size + 2 by rw [← hW]; simp)
  clear hW
  obtain ⟨a0, a1⟩ := Blk2 B0
  have hXW := hX.kept hbW
  have cut0 := cut_any base b off n c 0 W HB.out hXW hn (by omega)
  rw [nl_zero] at cut0
  go_wp2_with (go_at_call 51; refine cut0.mono ?_; rintro e w' ⟨rfl, rfl⟩)
  generalize hV : World.alloc _ _ = V
  have hbV : Below W.heap.size W V := by rw [← hV]; exact (Below.refl _ _).alloc (Nat.le_refl _) _
  have B2 : Blk V W.heap.size #[.bool s, .slice base n c] := by rw [← hV]; exact blk_new rfl
  clear hV cut0
  have call := large_one W.heap.size s base b off n c 0 V (B2.cell 0 _ rfl) (B2.cell 1 _ rfl) HB.out (hXW.kept hbV) hn (by omega)
  rw [decide_eq_false hs] at call
  refine call.mono ?_
  clear call
  rintro e w1 ⟨rfl, hb1⟩
  have hbw1 : Below w.heap.size w w1 := hbW.trans ((hbV.trans (hb1.mono hbV.size)).mono (by have := HS.out; omega))
  obtain ⟨c0, c1⟩ := Blk2 ((B1.kept hbV).kept hb1)
  obtain ⟨f0, f1⟩ := Blk2f ((B1.kept hbV).kept hb1)
  clear B0 B1 B2 hb1 hbV hbW hXW a0 a1
  go_wp2_with fail
  refine bodyPost_ret (v := .tuple #[.agg #[.bool false, .slice none 0 0], .int .i64 0]) (by simp [results, Try.results17, go_sem, c0, c1]) rfl ⟨_, rfl, can_zero _ _, ?_⟩
  exact (hbw1.setCell (by show w.heap.size ≤ w.heap.size + 1; omega) _).setCell (by show w.heap.size ≤ w.heap.size + 1; omega) _

/-- Shift to the left of a small number. -/
theorem shift_up_sm {v : Value} {z : Int} {j m k : Nat} (w : World) (h : IsInt w v z) (hz : sm j z) (hk : k ≤ 32 * m) (hjm : j + m ≤ 256) (hk2 : k ≤ 8192) :
    Calls Try.prog 17 #[v, .int .i64 k] w (RetIntE w (z * 2^k) 0) := by
  obtain ⟨s, base, b, off, n, c, X, rfl, hb, hX, hn, hl, rfl⟩ := h
  have hs : ¬ 256 < nl X := by rw [← big_sg s]; exact not_big hz (by omega)
  have hs2 : ¬ 256 < nl (X * 2^k) := by rw [← big_sg s, sg_pow]; exact not_big (sm_shift hz hk) hjm
  by_cases h0 : X = 0
  · subst h0
    rw [show sg s 0 = 0 from sg_zero.2 rfl, Int.zero_mul]
    exact shift_zero s base b off n c k w hb hX hn hl
  · rw [← sg_pow]
    exact shift_up s base b off n c X k w hb hX hn hl hs h0 hk2 0 _ (Or.inr ⟨hs2, rfl, rfl⟩)
/-- Shift to the right of a small number. -/
theorem shift_down_sm {v : Value} {z : Int} {j k : Nat} (w : World) (h : IsInt w v z) (hz : sm j z) (hj : j ≤ 256) (hk2 : k ≤ 8192) :
    Calls Try.prog 17 #[v, .int .i64 (-(k : Int))] w (RetIntE w (z / (2^k : Nat)) 0) := by
  by_cases hk : k = 0
  · subst hk
    have := shift_up_sm (k := 0) (m := 0) w h hz (by omega) (by omega) (by omega)
    simpa using this
  · obtain ⟨s, base, b, off, n, c, X, rfl, hb, hX, hn, hl, rfl⟩ := h
    have hs : ¬ 256 < nl X := by rw [← big_sg s]; exact not_big hz hj
    by_cases h0 : X = 0
    · subst h0
      rw [show sg s 0 = 0 from sg_zero.2 rfl, Int.zero_ediv]
      exact shift_zero s base b off n c _ w hb hX hn hl
    · exact shift_down s base b off n c X k w hb hX hn hl hs h0 (by omega) hk2
end Go.Proofs.Ytmfimkndonlheaa
