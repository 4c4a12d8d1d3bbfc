/-
  integer.Gcd, where one of the numbers has at most one limb: the call itself.
  integer.sink divides limbs by a power of 2, in place.
-/
import Derived.Test.YtmfimkndonlheaaM07
import Derived.Test.YtmfimkndonlheaaM10
namespace Go.Proofs.Ytmfimkndonlheaa
open Go.RowKit PB
/-- integer.common, where one of the numbers has at most one limb. -/
theorem common_any (gx gy X Y : Nat) (w : World) (hX : Num w gx 0 (nl X) X) (hY : Num w gy 0 (nl Y) Y) (hc : nl X ≤ 1000000000) (hc' : nl Y ≤ 1000000000) (hs : nl X ≤ 1 ∨ nl Y ≤ 1) :
    Calls Try.prog 53 #[.slice (some ⟨gx, 0, none⟩) (nl X) (nl X), .slice (some ⟨gy, 0, none⟩) (nl Y) (nl Y)] w (fun e w' => ∃ base c b off n, e = .returned (.slice base n c) ∧ (n ≠ 0 → base = some ⟨b, off, none⟩) ∧ Num w' b off n (Nat.gcd X Y) ∧ n ≤ c ∧ n ≤ 1000000000 ∧ (n ≠ 0 → b = gx ∨ b = gy ∨ w.heap.size ≤ b) ∧ Below w.heap.size w w') := by
  by_cases h : Y ≤ X
  · have hY1 : nl Y ≤ 1 := by have := nl_mono h; omega
    refine (common_ge _ _ gx 0 X _ gy 0 Y _ w (fun _ => rfl) (fun _ => rfl) hX hY hc (Nat.le_refl _) hY1 h).mono ?_
    rintro e w' ⟨base, c, b, off, n, h1, h2, h3, h4, h5, h6, h7⟩
    exact ⟨base, c, b, off, n, h1, h2, h3, h4, h5, fun hn => (h6 hn).elim Or.inl fun h => Or.inr (Or.inr h), h7⟩
  · have hX1 : nl X ≤ 1 := by have := nl_mono (Nat.le_of_not_le h); omega
    refine (common_lt _ _ gy 0 Y _ gx 0 X _ w (fun _ => rfl) (fun _ => rfl) hY hX hc' (Nat.le_refl _) hX1 (by omega)).mono ?_
    rintro e w' ⟨base, c, b, off, n, h1, h2, h3, h4, h5, h6, h7⟩
    exact ⟨base, c, b, off, n, h1, h2, h3.val (Nat.gcd_comm _ _), h4, h5, fun hn => (h6 hn).elim (fun h => Or.inr (Or.inl h)) fun h => Or.inr (Or.inr h), h7⟩

set_option maxHeartbeats 3200000 in
set_option maxRecDepth 100000 in
/-- Gcd, at numbers that are not large, by what common does. -/
theorem gcd_ok (s t : Bool) (base : Option Addr) (b off n c X : Nat) (base' : Option Addr) (b' off' n' c' Y : Nat) (w : World)
    (hb : n ≠ 0 → base = some ⟨b, off, none⟩) (hX : Num w b off n X) (hn : n ≤ c) (hl : n ≤ 1000000000)
    (hb' : n' ≠ 0 → base' = some ⟨b', off', none⟩) (hY : Num w b' off' n' Y) (hn' : n' ≤ c') (hl' : n' ≤ 1000000000) (hsX : ¬ (256 < nl X ∨ 256 < nl Y))
    (hcom : ∀ (gx gy : Nat) (W : World), w.heap.size ≤ gx → w.heap.size ≤ gy → Num W gx 0 (nl X) X → Num W gy 0 (nl Y) Y → Free W gx 0 (nl X) → Free W gy 0 (nl Y) → Below w.heap.size w W → gx ≠ gy → gx < W.heap.size →
      Calls Try.prog 53 #[.slice (some ⟨gx, 0, none⟩) (nl X) (nl X), .slice (some ⟨gy, 0, none⟩) (nl Y) (nl Y)] W (fun e w' => ∃ base c b off n, e = .returned (.slice base n c) ∧ (n ≠ 0 → base = some ⟨b, off, none⟩) ∧ Num w' b off n (Nat.gcd X Y) ∧ n ≤ c ∧ n ≤ 1000000000 ∧ (n ≠ 0 → min gx gy ≤ b) ∧ Below (min gx gy) W w')) :
    Calls Try.prog 16 #[.agg #[.bool s, .slice base n c], .agg #[.bool t, .slice base' n' c']] w (RetIntE w (Nat.gcd X Y) 0) := by
  have hnX := nl_le hX.lt
  have hnY := nl_le hY.lt
  have HC := Lib.hid hcom
  have HB := Lib.hid hb
  have HB' := Lib.hid hb'
  clear hcom hb hb'
  go_enter Try.func16, Try.ntmps16
  go_wp2_with fail
  generalize hW : World.alloc _ _ = W
  have B0 : Blk W w.heap.size #[.bool s, .slice base n c] := by rw [← hW]; exact (((blk_new rfl).alloc _).alloc _).alloc _
  have B1 : Blk W (w.heap.size + 1) #[.bool t, .slice base' n' c'] := by rw [← hW]; exact ((blk_new (by simp)).alloc _).alloc _
  have B2 : Blk W (w.heap.size + 1 + 1) #[.bool false, .slice none 0 0] := by rw [← hW]; exact (blk_new (by simp)).alloc _
  have B3 : Blk W (w.heap.size + 1 + 1 + 1) #[.bool s, .slice base n c, .bool t, .slice base' n' c'] := by rw [← hW]; exact blk_new (by simp)
  have hbW : Below w.heap.size w W := by rw [← hW]; exact ((((Below.refl _ _).alloc (Nat.le_refl _) _).alloc (by simp) _).alloc (by simp; omega) _).alloc (by simp; omega) _
  have HS := Lib.hid (show W.heap.size = w.heap.size + 4 by rw [← hW]; simp)
  clear hW
  have call := large_two (w.heap.size + 1 + 1 + 1) s t base base' b off n c X b' off' n' c' Y W (B3.cell 0 _ rfl) (B3.cell 1 _ rfl) (B3.cell 2 _ rfl) (B3.cell 3 _ rfl) HB.out (hX.kept hbW) hn (by omega) HB'.out (hY.kept hbW) hn' (by omega)
  rw [decide_eq_false hsX] at call
  refine call.mono ?_
  clear call
  rintro e w1 ⟨rfl, hb1⟩
  have hbw1 : Below w.heap.size w w1 := hbW.trans (hb1.mono (by have := HS.out; omega))
  have HS' := Lib.hid (show w.heap.size + 4 ≤ w1.heap.size by have := HS.out; have := hb1.size; omega)
  have B0' := B0.kept hb1
  have B1' := B1.kept hb1
  have B2' := B2.kept hb1
  have HK := Lib.hid (show ∀ w2, Below w1.heap.size w1 w2 → w2.cell? ⟨w.heap.size, 1, none⟩ = some (.slice base n c) ∧ w2.cell? ⟨w.heap.size + 1, 1, none⟩ = some (.slice base' n' c') from fun w2 h => ⟨(Blk2 (B0'.kept h)).2, (Blk2 (B1'.kept h)).2⟩)
  have HL := Lib.hid (show ∀ w2, Below w1.heap.size w1 w2 → Blk w2 (w.heap.size + 1 + 1) #[.bool false, .slice none 0 0] from fun w2 h => B2'.kept h)
  obtain ⟨a1, b1⟩ := HK.out _ (Below.refl _ _)
  have hX1 := hX.kept hbw1
  have hY1 := hY.kept hbw1
  clear B0 B1 B2 B3 hbW HS hb1 B0' B1' B2'
  have HST := Lib.hid (show ∀ (w4 : World) (u0 u1 : Value), (w4.cell? ⟨w.heap.size, 1, none⟩ = some (.slice base n c) ∧ w4.cell? ⟨w.heap.size + 1, 1, none⟩ = some (.slice base' n' c')) →
      (((w4.setCell ⟨w.heap.size + 1 + 1, 0, none⟩ u0).setCell ⟨w.heap.size + 1 + 1, 1, none⟩ u1).cell? ⟨w.heap.size, 1, none⟩ = some (.slice base n c) ∧ ((w4.setCell ⟨w.heap.size + 1 + 1, 0, none⟩ u0).setCell ⟨w.heap.size + 1 + 1, 1, none⟩ u1).cell? ⟨w.heap.size + 1, 1, none⟩ = some (.slice base' n' c')) from
    fun w4 u0 u1 h => ⟨cell_other (cell_other h.1 (show w.heap.size ≠ w.heap.size + 1 + 1 by omega)) (show w.heap.size ≠ w.heap.size + 1 + 1 by omega), cell_other (cell_other h.2 (show w.heap.size + 1 ≠ w.heap.size + 1 + 1 by omega)) (show w.heap.size + 1 ≠ w.heap.size + 1 + 1 by omega)⟩)
  go_wp2_with fail
  go_region_held3 (fun w' => w'.cell? ⟨w.heap.size, 1, none⟩ = some (.slice base n c) ∧ w'.cell? ⟨w.heap.size + 1, 1, none⟩ = some (.slice base' n' c'))
    (first | exact ⟨a1, b1⟩ | exact HK.out _ hk5 | exact HK.out _ hk4 | exact HK.out _ hk3 | exact HK.out _ hk2 | exact HST.out _ _ _ (HK.out _ hk5))
    (first
      | (go_at_call_of 54 (Value.slice base n c); refine (duplicate_any base b off n c X _ HB.out (by exact hX1) hn (by omega)).mono ?_; rintro e w2 ⟨rfl, hF2⟩
         have hk2 : Below w1.heap.size w1 w2 := (by first | exact hF2.below | exact below_undrew hF2.below)
         have hfx : Num w2 w1.heap.size 0 (nl X) X := hF2.num
         have hffx : Free w2 w1.heap.size 0 (nl X) := hF2.free
         have hlx : w1.heap.size < w2.heap.size := hF2.lt)
      | (go_at_call_of 54 (Value.slice base' n' c'); refine (duplicate_any base' b' off' n' c' Y _ HB'.out (by exact hY1.kept hk2) hn' (by omega)).mono ?_; rintro e w3 ⟨rfl, hF3⟩
         have hk3 : Below w1.heap.size w1 w3 := hk2.trans (hF3.below.mono hk2.size)
         have hfx3 : Num w3 w1.heap.size 0 (nl X) X := hfx.kept hF3.below
         have hffx3 : Free w3 w1.heap.size 0 (nl X) := hffx.below hF3.below (fun _ => hlx)
         have hfy3 : Num w3 w2.heap.size 0 (nl Y) Y := hF3.num
         have hffy3 : Free w3 w2.heap.size 0 (nl Y) := hF3.free
         have hly3 : w2.heap.size < w3.heap.size := hF3.lt)
      | (go_at_call 53; refine (HC.out w1.heap.size w2.heap.size _ hbw1.size (Nat.le_trans hbw1.size hk2.size) (by exact hfx3) (by exact hfy3) (by exact hffx3) (by exact hffy3) (by exact hbw1.trans (hk3.mono hbw1.size)) (Nat.ne_of_lt hlx) (by exact Nat.lt_trans hlx hly3)).mono ?_
         rintro e w4 ⟨qb, qc, qg, qo, qn, rfl, hq1, hq2, hq3, hq4, hq5, hb4⟩
         have hk4 : Below w1.heap.size w1 w4 := hk3.trans (hb4.mono (by omega))
         have HQ1 := Lib.hid hq1
         have HQ5 := Lib.hid (show qn ≠ 0 → w1.heap.size ≤ qg from fun h => by have := hq5 h; have := hk3.size; omega)
         clear hq1 hq5)
      | (go_at_call 49; refine (number_any false qb qg qo qn qc (Nat.gcd X Y) _ HQ1.out (by exact hq2) hq3 (by omega)).mono ?_; rintro e w5 ⟨rfl, hb5⟩
         have hk5 : Below w1.heap.size w1 w5 := hk4.trans (hb5.mono hk4.size)
         have hq6 : Num w5 qg qo qn (Nat.gcd X Y) := hq2.kept hb5
         obtain ⟨s1, p1, m1, hv1⟩ := intv_form false qb (Nat.gcd X Y)
         rw [hv1]
         have HV1 := Lib.hid hv1
         clear hv1
         obtain ⟨c0, c1⟩ := Blk2 (HL.out _ hk5)
         obtain ⟨f0, f1⟩ := Blk2f (HL.out _ hk5)))
  go_wp2_with fail
  have h1 := HS'.out
  refine bodyPost_ret (v := .tuple #[.agg #[.bool s1, .slice p1 m1 m1], .int .i64 0]) (by simp [results, Try.results16, go_sem, c0, c1]) rfl ⟨_, rfl, ?_, ?_⟩
  · rw [← HV1.out]
    refine can_intv (s := false) (n := qn) HQ1.out ((hq6.other _ ?_).other _ ?_) (by have := nl_le hq6.lt; omega) (fun h => by have := HQ5.out h; omega)
    all_goals (intro h; have := HQ5.out h; simp only []; omega)
  · exact ((hbw1.trans (hk5.mono (by omega))).setCell (by show w.heap.size ≤ w.heap.size + 1 + 1; omega) _).setCell (by show w.heap.size ≤ w.heap.size + 1 + 1; omega) _
end Go.Proofs.Ytmfimkndonlheaa

namespace PB
open Go
/-- The limb that a shift to the right by p lays: of a limb and the one above it. -/
def sinkLimb (x d p : Nat) : Nat := x / 2^p + (d % 2^p) * 2^(32-p)
theorem two_split {p : Nat} (hp : p < 32) : 2^p * 2^(32-p) = B := by rw [← Nat.pow_add, show p + (32 - p) = 32 by omega]; rfl
theorem sinkLimb_lt {x d p : Nat} (hx : x < B) (hp : p < 32) : sinkLimb x d p < B := by
  unfold sinkLimb
  have h2 := two_split hp
  have h1 : x / 2^p < 2^(32-p) := Nat.div_lt_of_lt_mul (by rw [h2]; exact hx)
  have h3 : d % 2^p < 2^p := Nat.mod_lt _ (Nat.pow_pos (by decide))
  have h4 : (d % 2^p + 1) * 2^(32-p) ≤ 2^p * 2^(32-p) := Nat.mul_le_mul_right _ h3
  rw [h2, Nat.add_mul] at h4
  omega
theorem sink_step {X j p : Nat} (hp : p < 32) : X / B^j / 2^p = X / B^(j+1) / 2^p * B + sinkLimb (dg X j) (dg X (j+1)) p := by
  have h2 := two_split hp
  rw [div_succ X j]
  have hd : dg X (j+1) % 2^p = (X / B^(j+1)) % 2^p := by unfold dg; exact Nat.mod_mod_of_dvd _ ⟨2^(32-p), h2.symm⟩
  unfold sinkLimb
  rw [hd]
  generalize X / B^(j+1) = H
  have e : H * B + dg X j = dg X j + (H * 2^(32-p)) * 2^p := by rw [Nat.mul_assoc, Nat.mul_comm (2^(32-p)), h2]; omega
  rw [e, Nat.add_mul_div_right _ _ (Nat.pow_pos (by decide))]
  have e2 : H * 2^(32-p) = H / 2^p * B + H % 2^p * 2^(32-p) := by
    rw [← h2, ← Nat.mul_assoc, ← Nat.add_mul, Nat.div_add_mod']
  omega
theorem sink_bits {x d p : Nat} (hx : x < B) (hp : p < 32) :
    bits BinOp.or IntKind.u32 ((x : Int) / 2^p) ((d : Int) * 2^(32-p) % 4294967296) = (sinkLimb x d p : Nat) := by
  have h2 := two_split hp
  have e1 : (x : Int) / 2^p = ((x / 2^p : Nat) : Int) := by rw [Int.natCast_ediv]; rfl
  have e2 : (d : Int) * 2^(32-p) % 4294967296 = ((d * 2^(32-p) % 4294967296 : Nat) : Int) := by rw [Int.natCast_emod, Int.natCast_mul]; rfl
  have h1 : x / 2^p < 2^(32-p) := Nat.div_lt_of_lt_mul (by rw [h2]; exact hx)
  have hA : x / 2^p < 4294967296 := Nat.lt_of_le_of_lt (Nat.div_le_self _ _) hx
  have h3 : d * 2^(32-p) % 4294967296 = (d % 2^p) * 2^(32-p) := by rw [show 4294967296 = 2^p * 2^(32-p) from h2.symm, Nat.mul_mod_mul_right]
  rw [e1, e2, u32_or_nat _ _ hA (Nat.mod_lt _ (by decide)), Nat.or_comm, h3, nat_join (32-p) _ _ (Nat.mul_mod_left _ _) h1]
  unfold sinkLimb
  rw [Nat.add_comm]
end PB
namespace Go.Proofs.Ytmfimkndonlheaa
open Go.RowKit PB

set_option maxHeartbeats 1600000 in
set_option maxRecDepth 100000 in
theorem sink_any (base : Option Addr) (b off n c X p : Nat) (w : World) (hb : n ≠ 0 → base = some ⟨b, off, none⟩) (hX : Num w b off n X) (hF : Free w b off n) (hp : p < 32) (hc : n ≤ 1099511627776) :
    Calls Try.prog 81 #[.slice base n c, .int .i64 p] w fun e w' => e = .returned (.tuple #[]) ∧ Num w' b off n (X / 2^p) ∧ Wr w w' b off (off + n) := by
  have HB := Lib.hid hb
  clear hb
  go_enter Try.func81, Try.ntmps81
  go_wp2_with fail
  go_loopw [4, 5] (fun v i wr => ∃ k d : Nat, k ≤ n ∧ d < B ∧ v = .int .u32 d ∧ i = .int .i64 ((k : Int) - 1) ∧ Hid (d = dg X k) ∧ Num wr b off n (X % B^k + (X / B^k / 2^p) * B^k) ∧ Wr w wr b off (off + n)) (fun _ i _ => (intOf i + 1).toNat)
  case atStart => exact ⟨n, 0, by omega, by decide, rfl, rfl, Lib.hid (by rw [dg_of_lt hX.lt (Nat.le_refl _)]), hX.val (by rw [mod_of_lt hX.lt, Nat.div_eq_of_lt hX.lt, Nat.zero_div]; omega), Wr.refl _ _ _ _⟩
  case round =>
    obtain ⟨k, d, hk, hd, rfl, rfl, hE, hN, hw⟩ := hrel
    by_cases h0 : k = 0
    · subst h0
      have hz : decide ((0 : Int) ≤ ((0 : Nat) : Int) - 1) = false := by decide
      go_wp2_with fail
      go_end0
      exact ⟨rfl, hN.val (by simp [Nat.mod_one]), hw⟩
    · obtain ⟨j, rfl⟩ : ∃ j, k = j + 1 := ⟨k - 1, by omega⟩
      obtain rfl := HB.out (by omega)
      have e1 : (((j + 1 : Nat) : Int) - 1) = j := by omega
      rw [e1]
      clear e1
      have c1 := hN.cell (i := j) (by omega)
      have hdg : dg (X % B^(j+1) + X / B^(j+1) / 2^p * B^(j+1)) j = dg X j := by rw [dg_add_lo (by omega), dg_mod (by omega)]
      rw [hdg] at c1
      have f1 := (hw.free hF).at (i := j) (by omega)
      have hx := dg_lt X j
      have i1 : (j : Int) < n := by omega
      have i2 : (0 : Int) ≤ j := by omega
      have i3 : (p : Int) < 32 := by omega
      have i4 : (0 : Int) ≤ p := by omega
      clear hdg
      go_wp2_with fail
      go_region
      rw [sink_bits hx hp]
      have hv := sinkLimb_lt (d := d) hx hp
      go_wp2_with fail
      go_roundw
      case rel =>
        refine ⟨j, dg X j, by omega, hx, rfl, rfl, Lib.hid rfl, ?_, ?_⟩
        · rw [sink_step hp, ← hE.out, ← short_put]
          exact (hN.set (by omega) hv).drew
        · exact (hw.set _ _ (by omega) (by omega)).drew
      case measure => simp [intOf]
end Go.Proofs.Ytmfimkndonlheaa
