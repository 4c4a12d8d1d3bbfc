/-
  integer.Gcd, where one of the numbers has at most one limb: the call itself.
  integer.Of: the number of an int.
  Single calls with given numbers.
  integer.Sign and Cmp.
-/
import Derived.Test.YtkokokgmhpkoiaaM09
import Derived.Test.YtkokokgmhpkoiaaM12
import Derived.Test.YtkokokgmhpkoiaaM15
import Derived.Test.YtkokokgmhpkoiaaM18
import Derived.Test.YtkokokgmhpkoiaaM19
import Derived.Test.YtkokokgmhpkoiaaM21
import Derived.Test.YtkokokgmhpkoiaaM22
namespace Go.Proofs.Ytkokokgmhpkoiaa
open Go.RowKit PB
/-- integer.common, where one of the numbers has at most one limb. -/
theorem common_any (gx gy X Y : Nat) (w : World) (hX : Num w gx 0 (nl X) X) (hY : Num w gy 0 (nl Y) Y) (hc : nl X ≤ 1000000000) (hc' : nl Y ≤ 1000000000) (hs : nl X ≤ 1 ∨ nl Y ≤ 1) :
    Calls Try.prog 77 #[.slice (some ⟨gx, 0, none⟩) (nl X) (nl X), .slice (some ⟨gy, 0, none⟩) (nl Y) (nl Y)] w (fun e w' => ∃ base c b off n, e = .returned (.slice base n c) ∧ (n ≠ 0 → base = some ⟨b, off, none⟩) ∧ Num w' b off n (Nat.gcd X Y) ∧ n ≤ c ∧ n ≤ 1000000000 ∧ (n ≠ 0 → b = gx ∨ b = gy ∨ w.heap.size ≤ b) ∧ Below w.heap.size w w') := by
  by_cases h : Y ≤ X
  · have hY1 : nl Y ≤ 1 := by have := nl_mono h; omega
    refine (common_ge _ _ gx 0 X _ gy 0 Y _ w (fun _ => rfl) (fun _ => rfl) hX hY hc (Nat.le_refl _) hY1 h).mono ?_
    rintro e w' ⟨base, c, b, off, n, h1, h2, h3, h4, h5, h6, h7⟩
    exact ⟨base, c, b, off, n, h1, h2, h3, h4, h5, fun hn => (h6 hn).elim Or.inl fun h => Or.inr (Or.inr h), h7⟩
  · have hX1 : nl X ≤ 1 := by have := nl_mono (Nat.le_of_not_le h); omega
    refine (common_lt _ _ gy 0 Y _ gx 0 X _ w (fun _ => rfl) (fun _ => rfl) hY hX hc' (Nat.le_refl _) hX1 (by omega)).mono ?_
    rintro e w' ⟨base, c, b, off, n, h1, h2, h3, h4, h5, h6, h7⟩
    exact ⟨base, c, b, off, n, h1, h2, h3.val (Nat.gcd_comm _ _), h4, h5, fun hn => (h6 hn).elim (fun h => Or.inr (Or.inl h)) fun h => Or.inr (Or.inr h), h7⟩

set_option maxHeartbeats 3200000 in
set_option maxRecDepth 100000 in
/-- Gcd, at numbers that are not large, by what common does. -/
theorem gcd_ok (s t : Bool) (base : Option Addr) (b off n c X : Nat) (base' : Option Addr) (b' off' n' c' Y : Nat) (w : World)
    (hb : n ≠ 0 → base = some ⟨b, off, none⟩) (hX : Num w b off n X) (hn : n ≤ c) (hl : n ≤ 1000000000)
    (hb' : n' ≠ 0 → base' = some ⟨b', off', none⟩) (hY : Num w b' off' n' Y) (hn' : n' ≤ c') (hl' : n' ≤ 1000000000) (hsX : ¬ (256 < nl X ∨ 256 < nl Y))
    (hcom : ∀ (gx gy : Nat) (W : World), w.heap.size ≤ gx → w.heap.size ≤ gy → Num W gx 0 (nl X) X → Num W gy 0 (nl Y) Y → Free W gx 0 (nl X) → Free W gy 0 (nl Y) → Below w.heap.size w W → gx ≠ gy → gx < W.heap.size →
      Calls Try.prog 77 #[.slice (some ⟨gx, 0, none⟩) (nl X) (nl X), .slice (some ⟨gy, 0, none⟩) (nl Y) (nl Y)] W (fun e w' => ∃ base c b off n, e = .returned (.slice base n c) ∧ (n ≠ 0 → base = some ⟨b, off, none⟩) ∧ Num w' b off n (Nat.gcd X Y) ∧ n ≤ c ∧ n ≤ 1000000000 ∧ (n ≠ 0 → min gx gy ≤ b) ∧ Below (min gx gy) W w')) :
    Calls Try.prog 16 #[.agg #[.bool s, .slice base n c], .agg #[.bool t, .slice base' n' c']] w (RetIntE w (Nat.gcd X Y) 0) := by
  have hnX := nl_le hX.lt
  have hnY := nl_le hY.lt
  have HC := Lib.hid hcom
  have HB := Lib.hid hb
  have HB' := Lib.hid hb'
  clear hcom hb hb'
  go_enter Try.func16, Try.ntmps16
  go_wp2_with fail
  generalize hW : World.alloc _ _ = W
  have B0 : Blk W w.heap.size #[.bool s, .slice base n c] := by rw [← hW]; exact (((blk_new rfl).alloc _).alloc _).alloc _
  have B1 : Blk W (w.heap.size + 1) #[.bool t, .slice base' n' c'] := by rw [← hW]; exact ((blk_new (by simp)).alloc _).alloc _
  have B2 : Blk W (w.heap.size + 1 + 1) #[.bool false, .slice none 0 0] := by rw [← hW]; exact (blk_new (by simp)).alloc _
  have B3 : Blk W (w.heap.size + 1 + 1 + 1) #[.bool s, .slice base n c, .bool t, .slice base' n' c'] := by rw [← hW]; exact blk_new (by simp)
  have hbW : Below w.heap.size w W := by rw [← hW]; exact ((((Below.refl _ _).alloc (Nat.le_refl _) _).alloc (by simp) _).alloc (by simp; omega) _).alloc (by simp; omega) _
  have HS := Lib.hid (show W.heap.size = w.heap.size + 4 by rw [← hW]; simp)
  clear hW
  have call := large_two (w.heap.size + 1 + 1 + 1) s t base base' b off n c X b' off' n' c' Y W (B3.cell 0 _ rfl) (B3.cell 1 _ rfl) (B3.cell 2 _ rfl) (B3.cell 3 _ rfl) HB.out (hX.kept hbW) hn (by omega) HB'.out (hY.kept hbW) hn' (by omega)
  rw [decide_eq_false hsX] at call
  refine call.mono ?_
  clear call
  rintro e w1 ⟨rfl, hb1⟩
  have hbw1 : Below w.heap.size w w1 := hbW.trans (hb1.mono (by have := HS.out; omega))
  have HS' := Lib.hid (show w.heap.size + 4 ≤ w1.heap.size by have := HS.out; have := hb1.size; omega)
  have B0' := B0.kept hb1
  have B1' := B1.kept hb1
  have B2' := B2.kept hb1
  have HK := Lib.hid (show ∀ w2, Below w1.heap.size w1 w2 → w2.cell? ⟨w.heap.size, 1, none⟩ = some (.slice base n c) ∧ w2.cell? ⟨w.heap.size + 1, 1, none⟩ = some (.slice base' n' c') from fun w2 h => ⟨(Blk2 (B0'.kept h)).2, (Blk2 (B1'.kept h)).2⟩)
  have HL := Lib.hid (show ∀ w2, Below w1.heap.size w1 w2 → Blk w2 (w.heap.size + 1 + 1) #[.bool false, .slice none 0 0] from fun w2 h => B2'.kept h)
  obtain ⟨a1, b1⟩ := HK.out _ (Below.refl _ _)
  have hX1 := hX.kept hbw1
  have hY1 := hY.kept hbw1
  clear B0 B1 B2 B3 hbW HS hb1 B0' B1' B2'
  have HST := Lib.hid (show ∀ (w4 : World) (u0 u1 : Value), (w4.cell? ⟨w.heap.size, 1, none⟩ = some (.slice base n c) ∧ w4.cell? ⟨w.heap.size + 1, 1, none⟩ = some (.slice base' n' c')) →
      (((w4.setCell ⟨w.heap.size + 1 + 1, 0, none⟩ u0).setCell ⟨w.heap.size + 1 + 1, 1, none⟩ u1).cell? ⟨w.heap.size, 1, none⟩ = some (.slice base n c) ∧ ((w4.setCell ⟨w.heap.size + 1 + 1, 0, none⟩ u0).setCell ⟨w.heap.size + 1 + 1, 1, none⟩ u1).cell? ⟨w.heap.size + 1, 1, none⟩ = some (.slice base' n' c')) from
    fun w4 u0 u1 h => ⟨cell_other (cell_other h.1 (show w.heap.size ≠ w.heap.size + 1 + 1 by omega)) (show w.heap.size ≠ w.heap.size + 1 + 1 by omega), cell_other (cell_other h.2 (show w.heap.size + 1 ≠ w.heap.size + 1 + 1 by omega)) (show w.heap.size + 1 ≠ w.heap.size + 1 + 1 by omega)⟩)
  go_wp2_with fail
  go_region_held3 (fun w' => w'.cell? ⟨w.heap.size, 1, none⟩ = some (.slice base n c) ∧ w'.cell? ⟨w.heap.size + 1, 1, none⟩ = some (.slice base' n' c'))
    (first | exact ⟨a1, b1⟩ | exact HK.out _ hk5 | exact HK.out _ hk4 | exact HK.out _ hk3 | exact HK.out _ hk2 | exact HST.out _ _ _ (HK.out _ hk5))
    (first
      | (go_at_call_of 78 (Value.slice base n c); refine (duplicate_any base b off n c X _ HB.out (by exact hX1) hn (by omega)).mono ?_; rintro e w2 ⟨rfl, hF2⟩
         have hk2 : Below w1.heap.size w1 w2 := (by first | exact hF2.below | exact below_undrew hF2.below)
         have hfx : Num w2 w1.heap.size 0 (nl X) X := hF2.num
         have hffx : Free w2 w1.heap.size 0 (nl X) := hF2.free
         have hlx : w1.heap.size < w2.heap.size := hF2.lt)
      | (go_at_call_of 78 (Value.slice base' n' c'); refine (duplicate_any base' b' off' n' c' Y _ HB'.out (by exact hY1.kept hk2) hn' (by omega)).mono ?_; rintro e w3 ⟨rfl, hF3⟩
         have hk3 : Below w1.heap.size w1 w3 := hk2.trans (hF3.below.mono hk2.size)
         have hfx3 : Num w3 w1.heap.size 0 (nl X) X := hfx.kept hF3.below
         have hffx3 : Free w3 w1.heap.size 0 (nl X) := hffx.below hF3.below (fun _ => hlx)
         have hfy3 : Num w3 w2.heap.size 0 (nl Y) Y := hF3.num
         have hffy3 : Free w3 w2.heap.size 0 (nl Y) := hF3.free
         have hly3 : w2.heap.size < w3.heap.size := hF3.lt)
      | (go_at_call 77; refine (HC.out w1.heap.size w2.heap.size _ hbw1.size (Nat.le_trans hbw1.size hk2.size) (by exact hfx3) (by exact hfy3) (by exact hffx3) (by exact hffy3) (by exact hbw1.trans (hk3.mono hbw1.size)) (Nat.ne_of_lt hlx) (by exact Nat.lt_trans hlx hly3)).mono ?_
         rintro e w4 ⟨qb, qc, qg, qo, qn, rfl, hq1, hq2, hq3, hq4, hq5, hb4⟩
         have hk4 : Below w1.heap.size w1 w4 := hk3.trans (hb4.mono (by omega))
         have HQ1 := Lib.hid hq1
         have HQ5 := Lib.hid (show qn ≠ 0 → w1.heap.size ≤ qg from fun h => by have := hq5 h; have := hk3.size; omega)
         clear hq1 hq5)
      | (go_at_call 73; refine (number_any false qb qg qo qn qc (Nat.gcd X Y) _ HQ1.out (by exact hq2) hq3 (by omega)).mono ?_; rintro e w5 ⟨rfl, hb5⟩
         have hk5 : Below w1.heap.size w1 w5 := hk4.trans (hb5.mono hk4.size)
         have hq6 : Num w5 qg qo qn (Nat.gcd X Y) := hq2.kept hb5
         obtain ⟨s1, p1, m1, hv1⟩ := intv_form false qb (Nat.gcd X Y)
         rw [hv1]
         have HV1 := Lib.hid hv1
         clear hv1
         obtain ⟨c0, c1⟩ := Blk2 (HL.out _ hk5)
         obtain ⟨f0, f1⟩ := Blk2f (HL.out _ hk5)))
  go_wp2_with fail
  have h1 := HS'.out
  refine bodyPost_ret (v := .tuple #[.agg #[.bool s1, .slice p1 m1 m1], .int .i64 0]) (by simp [results, Try.results16, go_sem, c0, c1]) rfl ⟨_, rfl, ?_, ?_⟩
  · rw [← HV1.out]
    refine can_intv (s := false) (n := qn) HQ1.out ((hq6.other _ ?_).other _ ?_) (by have := nl_le hq6.lt; omega) (fun h => by have := HQ5.out h; omega)
    all_goals (intro h; have := HQ5.out h; simp only []; omega)
  · exact ((hbw1.trans (hk5.mono (by omega))).setCell (by show w.heap.size ≤ w.heap.size + 1 + 1; omega) _).setCell (by show w.heap.size ≤ w.heap.size + 1 + 1; omega) _
end Go.Proofs.Ytkokokgmhpkoiaa

namespace PB
open Go
theorem of_dg0 (X : Nat) : dg X 0 = X % 4294967296 := by simp [dg, B]
theorem of_dg1 {X : Nat} (h : X < 18446744073709551616) : dg X 1 = X / 4294967296 := by unfold dg B; rw [Nat.pow_one]; omega
end PB
namespace Go.Proofs.Ytkokokgmhpkoiaa
open Go.RowKit PB
set_option maxHeartbeats 1600000 in
set_option maxRecDepth 100000 in
theorem of_nonneg (n : Nat) (w : World) (hn : Hid (n < 9223372036854775808)) :
    Calls Try.prog 30 #[.int .i64 n] w (RetInt w n) := by
  have h0 : ¬ ((n : Int) < 0) := by omega
  go_enter Try.func30, Try.ntmps30
  go_wp2_with fail
  have e0 : IntKind.u64.wrap (n : Int) % 4294967296 = (dg n 0 : Nat) := by
    have := hn.out; rw [of_dg0, IntKind.wrap_u64]; omega
  have e1 : IntKind.u64.wrap (n : Int) / 4294967296 % 4294967296 = (dg n 1 : Nat) := by
    have := hn.out; rw [of_dg1 (by omega), IntKind.wrap_u64]; omega
  rw [e0, e1]
  clear e0 e1
  generalize hW : World.alloc _ _ = W
  have B0 : Blk W w.heap.size #[.bool false, .slice none 0 0] := by rw [← hW]; exact (blk_new rfl).alloc _
  have B1 : Blk W (w.heap.size + 1) #[.int .u32 (dg n 0), .int .u32 (dg n 1)] := by rw [← hW]; exact blk_new (by simp)
  have hbW : Below w.heap.size w W := by rw [← hW]; exact ((Below.refl _ _).alloc (Nat.le_refl _) _).alloc (by simp) _
  have HS := Lib.hid (show W.heap.size = w.heap.size + 2 by rw [← hW]; simp)
  have hN : Num W (w.heap.size + 1) 0 2 n := ⟨by have := hn.out; show n < 18446744073709551616; omega, fun i hi => by
    have : i = 0 ∨ i = 1 := by omega
    rcases this with rfl | rfl
    · exact B1.cell 0 _ rfl
    · exact B1.cell 1 _ rfl⟩
  clear hW B1
  refine (number_any false _ (w.heap.size + 1) 0 2 2 n W (fun _ => rfl) hN (Nat.le_refl _) (by omega)).mono ?_
  rintro e w2 ⟨rfl, hb2⟩
  have hbw2 : Below w.heap.size w w2 := hbW.trans (hb2.mono (by have := HS.out; omega))
  obtain ⟨c0, c1⟩ := Blk2 (B0.kept hb2)
  obtain ⟨f0, f1⟩ := Blk2f (B0.kept hb2)
  have hN2 := hN.kept hb2
  obtain ⟨s', q, m, hv⟩ := intv_form false (some ⟨w.heap.size + 1, 0, none⟩) n
  rw [hv]
  have HV := Lib.hid hv
  clear hv B0
  go_wp2_with fail
  refine bodyPost_ret (v := .agg #[.bool s', .slice q m m]) (by simp [results, Try.results30, go_sem, c0, c1]) rfl ⟨_, rfl, ?_, (hbw2.setCell (Nat.le_refl _) _).setCell (Nat.le_refl _) _⟩
  rw [← HV.out]
  exact can_intv (n := 2) (fun _ => rfl) ((hN2.other _ (fun _ => by show w.heap.size + 1 ≠ w.heap.size; omega)).other _ (fun _ => by show w.heap.size + 1 ≠ w.heap.size; omega)) (by have := nl_le hN2.lt; omega) (fun _ => by omega)
set_option maxHeartbeats 1600000 in
set_option maxRecDepth 100000 in
theorem of_neg (n : Nat) (w : World) (h1 : 0 < n) (hn : Hid (n ≤ 9223372036854775808)) :
    Calls Try.prog 30 #[.int .i64 (-(n : Int))] w (RetInt w (-(n : Int))) := by
  have h0 : -(n : Int) < 0 := by omega
  go_enter Try.func30, Try.ntmps30
  go_wp2_with fail
  have e0 : IntKind.u64.wrap (-IntKind.u64.wrap (-(n : Int))) % 4294967296 = (dg n 0 : Nat) := by
    have := hn.out; rw [of_dg0, IntKind.wrap_u64, IntKind.wrap_u64]; omega
  have e1 : IntKind.u64.wrap (-IntKind.u64.wrap (-(n : Int))) / 4294967296 % 4294967296 = (dg n 1 : Nat) := by
    have := hn.out; rw [of_dg1 (by omega), IntKind.wrap_u64, IntKind.wrap_u64]; omega
  rw [e0, e1]
  clear e0 e1
  generalize hW : World.alloc _ _ = W
  have B0 : Blk W w.heap.size #[.bool false, .slice none 0 0] := by rw [← hW]; exact (blk_new rfl).alloc _
  have B1 : Blk W (w.heap.size + 1) #[.int .u32 (dg n 0), .int .u32 (dg n 1)] := by rw [← hW]; exact blk_new (by simp)
  have hbW : Below w.heap.size w W := by rw [← hW]; exact ((Below.refl _ _).alloc (Nat.le_refl _) _).alloc (by simp) _
  have HS := Lib.hid (show W.heap.size = w.heap.size + 2 by rw [← hW]; simp)
  have hN : Num W (w.heap.size + 1) 0 2 n := ⟨by have := hn.out; show n < 18446744073709551616; omega, fun i hi => by
    have : i = 0 ∨ i = 1 := by omega
    rcases this with rfl | rfl
    · exact B1.cell 0 _ rfl
    · exact B1.cell 1 _ rfl⟩
  clear hW B1
  refine (number_any true _ (w.heap.size + 1) 0 2 2 n W (fun _ => rfl) hN (Nat.le_refl _) (by omega)).mono ?_
  rintro e w2 ⟨rfl, hb2⟩
  have hbw2 : Below w.heap.size w w2 := hbW.trans (hb2.mono (by have := HS.out; omega))
  obtain ⟨c0, c1⟩ := Blk2 (B0.kept hb2)
  obtain ⟨f0, f1⟩ := Blk2f (B0.kept hb2)
  have hN2 := hN.kept hb2
  obtain ⟨s', q, m, hv⟩ := intv_form true (some ⟨w.heap.size + 1, 0, none⟩) n
  rw [hv]
  have HV := Lib.hid hv
  clear hv B0
  go_wp2_with fail
  refine bodyPost_ret (v := .agg #[.bool s', .slice q m m]) (by simp [results, Try.results30, go_sem, c0, c1]) rfl ⟨_, rfl, ?_, (hbw2.setCell (Nat.le_refl _) _).setCell (Nat.le_refl _) _⟩
  rw [← HV.out]
  exact can_intv (n := 2) (fun _ => rfl) ((hN2.other _ (fun _ => by show w.heap.size + 1 ≠ w.heap.size; omega)).other _ (fun _ => by show w.heap.size + 1 ≠ w.heap.size; omega)) (by have := nl_le hN2.lt; omega) (fun _ => by omega)
theorem of_any (n : Int) (w : World) (h1 : -9223372036854775808 ≤ n) (h2 : n ≤ 9223372036854775807) :
    Calls Try.prog 30 #[.int .i64 n] w (RetInt w n) := by
  by_cases h : 0 ≤ n
  · obtain ⟨k, rfl⟩ := Int.eq_ofNat_of_zero_le h
    exact of_nonneg k w (Lib.hid (by omega))
  · obtain ⟨k, hk⟩ := Int.eq_ofNat_of_zero_le (show 0 ≤ -n by omega)
    obtain rfl : n = -(k : Int) := by omega
    exact of_neg k w (by omega) (Lib.hid (by omega))
end Go.Proofs.Ytkokokgmhpkoiaa

namespace PB
open Go Go.RowKit
theorem nl_small {X : Nat} (h0 : X ≠ 0) (h : X < B) : nl X = 1 := by
  have h1 : nl X ≤ 1 := nl_le (by rw [Nat.pow_one]; exact h)
  have h2 : nl X ≠ 0 := mt nl_eq_zero.1 h0
  omega
theorem nl_lit : nl 18446744073709551616 = 3 := nl_eq (by decide) (Or.inr (by decide))
theorem sg_eq {s : Bool} {X : Nat} {z : Int} (h : sg s X = z) (hz : z ≠ 0) : X = z.natAbs ∧ s = decide (z < 0) := by
  subst h
  refine ⟨(sg_natAbs s X).symm, ?_⟩
  have h0 := mt sg_zero.2 hz
  unfold sg at hz ⊢
  cases s
  · symm; simp
  · symm; simp; simp at hz; omega
def lit64 : ByteArray := ⟨#[49, 56, 52, 52, 54, 55, 52, 52, 48, 55, 51, 55, 48, 57, 53, 53, 49, 54, 49, 54]⟩
theorem lit64_digits : AllDigits lit64 := by
  have h : ∀ k : Fin 20, 48 ≤ byte lit64 k.val ∧ byte lit64 k.val ≤ 57 := by decide
  intro k hk
  exact h ⟨k, hk⟩
theorem lit64_val : dv lit64 20 = 18446744073709551616 := by decide
theorem lit64_nd : IsND 18446744073709551616 20 := ⟨by decide, Or.inr (by decide)⟩
theorem lit64_text : lit64 = strOfNums ((txt false 18446744073709551616 20).map Int.ofNat) := by decide
end PB
namespace Go.Proofs.Ytkokokgmhpkoiaa
open Go.RowKit PB

theorem aw_quo (v1 v2 : Value) (w : World) (h1 : IsInt w v1 (-7)) (h2 : IsInt w v2 2) :
    Calls Try.prog 15 #[v1, v2] w (RetIntIntE w (-3) (-1) 0) := by
  obtain ⟨s, base, b, off, n, c, X, rfl, hb, hX, hn, hl, hz⟩ := h1
  obtain ⟨t, base', b', off', n', c', Y, rfl, hb', hY, hn', hl', hz'⟩ := h2
  obtain ⟨rfl, rfl⟩ := sg_eq hz.symm (by decide)
  obtain ⟨rfl, rfl⟩ := sg_eq hz'.symm (by decide)
  have e1 : nl 7 = 1 := nl_small (by decide) (by decide)
  have e2 : nl 2 = 1 := nl_small (by decide) (by decide)
  have hn1 := nl_le hX.lt
  have hn2 := nl_le hY.lt
  have k1 : nl (Int.natAbs (-7)) = 1 := e1
  have k2 : nl (Int.natAbs 2) = 1 := e2
  obtain rfl := hb' (by omega)
  refine quo_ok _ _ base b off n c _ _ b' off' n' c' _ w hb hX hn hl (fun _ => rfl) hY hn' hl' (by omega) (by decide) true (by decide) fun W hW => ?_
  exact divide_one base b off _ _ b' off' _ _ W (fun h => hb (by omega)) ((hX.kept hW).fewer hn1 (lt_nl _)) ((hY.kept hW).fewer hn2 (lt_nl _)) (by omega) k2 (by decide)

theorem aw_shift (v1 : Value) (w : World) (h1 : IsInt w v1 (-5)) :
    Calls Try.prog 17 #[v1, .int .i64 (-1)] w (RetIntE w (-3) 0) := by
  obtain ⟨s, base, b, off, n, c, X, rfl, hb, hX, hn, hl, hz⟩ := h1
  obtain ⟨rfl, rfl⟩ := sg_eq hz.symm (by decide)
  have k1 : nl (Int.natAbs (-5)) = 1 := nl_small (by decide) (by decide)
  exact shift_down _ base b off n c _ 1 w hb hX hn hl (by omega) (by decide) (by decide) (by decide)

theorem aw_gcd (v1 v2 : Value) (w : World) (h1 : IsInt w v1 12) (h2 : IsInt w v2 18) :
    Calls Try.prog 16 #[v1, v2] w (RetIntE w 6 0) := by
  obtain ⟨s, base, b, off, n, c, X, rfl, hb, hX, hn, hl, hz⟩ := h1
  obtain ⟨t, base', b', off', n', c', Y, rfl, hb', hY, hn', hl', hz'⟩ := h2
  obtain ⟨rfl, rfl⟩ := sg_eq hz.symm (by decide)
  obtain ⟨rfl, rfl⟩ := sg_eq hz'.symm (by decide)
  have k1 : nl (Int.natAbs 12) = 1 := nl_small (by decide) (by decide)
  have k2 : nl (Int.natAbs 18) = 1 := nl_small (by decide) (by decide)
  refine gcd_ok _ _ base b off n c _ base' b' off' n' c' _ w hb hX hn hl hb' hY hn' hl' (by omega) fun gx gy W _ _ hx hy _ _ _ _ _ => ?_
  refine (common_any gx gy _ _ W hx hy (by omega) (by omega) (by omega)).mono ?_
  rintro e w' ⟨base, c, b, off, n, h1, h2, h3, h4, h5, h6, h7⟩
  exact ⟨base, c, b, off, n, h1, h2, h3, h4, h5, fun hn => by have := h6 hn; have := hx.block_lt (by omega); omega, h7.mono (by have := hx.block_lt (by omega); omega)⟩

theorem aw_parse (w : World) : Calls Try.prog 68 #[.string lit64] w (RetIntE w 18446744073709551616 0) := by
  have h := parse_digits lit64 lit64 false w (fun W => cut_none lit64 W (by decide) (by decide)) lit64_digits (by decide) (by decide) (Nat.le_refl _)
  have e : dv lit64 lit64.size = 18446744073709551616 := lit64_val
  rw [e, nl_lit] at h
  exact h

theorem aw_text (v1 : Value) (w : World) (h1 : IsInt w v1 18446744073709551616) :
    Calls Try.prog 69 #[v1] w fun e w' => e = .returned (.tuple #[.string lit64, .int .i64 0]) ∧ Below w.heap.size w w' := by
  obtain ⟨s, base, b, off, n, c, X, rfl, hb, hX, hn, hl, hz⟩ := h1
  obtain ⟨rfl, rfl⟩ := sg_eq hz.symm (by decide)
  exact text_any _ base b off n c _ 20 w hb hX hn hl (by have := nl_lit; show ¬ 256 < nl 18446744073709551616; omega) (by decide) lit64_nd (by decide) lit64 lit64_text
theorem bl_255 : bl (Int.natAbs 255) = 8 := by
  have k1 : nl (Int.natAbs 255) = 1 := nl_small (by decide) (by decide)
  unfold bl
  rw [k1]
  decide
theorem bl_64 : bl (Int.natAbs 18446744073709551616) = 65 := by
  have k1 : nl (Int.natAbs 18446744073709551616) = 3 := nl_lit
  unfold bl
  rw [k1]
  decide
end Go.Proofs.Ytkokokgmhpkoiaa

namespace PB
theorem sg_sign {s : Bool} {X : Nat} (h : X ≠ 0) : (sg s X).sign = if s then -1 else 1 := by
  unfold sg
  cases s
  · simp; omega
  · simp; omega
end PB
namespace Go.Proofs.Ytkokokgmhpkoiaa
open Go.RowKit PB

set_option maxRecDepth 100000 in
theorem sign_any (v : Value) (z : Int) (w : World) (h : IsInt w v z) :
    Calls Try.prog 32 #[v] w fun e w' => e = .returned (.int .i64 z.sign) ∧ Below w.heap.size w w' := by
  obtain ⟨s, base, b, off, n, c, X, rfl, hb, hX, hn, hl, hz⟩ := h
  by_cases h0 : X = 0
  · have hz0 : z.sign = 0 := by subst hz h0; cases s <;> rfl
    rw [hz0]
    have ht : ((nl X : Int) == 0) = true := by rw [h0, nl_zero]; rfl
    clear hz hz0 h0
    go_enter Try.func32, Try.ntmps32
    go_wp2_with (go_at_call 75; refine (cut_any base b off n c X _ hb (by exact hX.alloc _) hn (by omega)).mono ?_; rintro e w' ⟨rfl, rfl⟩)
    go_ret
    exact ⟨rfl, (Below.refl _ _).alloc (Nat.le_refl _) _⟩
  · have hz0 := sg_sign (s := s) h0
    rw [← hz] at hz0
    rw [hz0]
    have ht : ((nl X : Int) == 0) = false := by have := mt nl_eq_zero.1 h0; simp; omega
    clear hz hz0 h0
    cases s
    · go_enter Try.func32, Try.ntmps32
      go_wp2_with (go_at_call 75; refine (cut_any base b off n c X _ hb (by exact hX.alloc _) hn (by omega)).mono ?_; rintro e w' ⟨rfl, rfl⟩)
      go_ret
      exact ⟨rfl, (Below.refl _ _).alloc (Nat.le_refl _) _⟩
    · go_enter Try.func32, Try.ntmps32
      go_wp2_with (go_at_call 75; refine (cut_any base b off n c X _ hb (by exact hX.alloc _) hn (by omega)).mono ?_; rintro e w' ⟨rfl, rfl⟩)
      go_ret
      exact ⟨rfl, (Below.refl _ _).alloc (Nat.le_refl _) _⟩
end Go.Proofs.Ytkokokgmhpkoiaa
