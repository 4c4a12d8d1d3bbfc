/-
  The verifier's Of (written by wip/genrefl.py, out of XOf).
  The verifier's Cmp (written by wip/genrefm.py, out of XCmp).
  The verifier's Bits (written by wip/genrefm.py).
-/
import Derived.Lib.BitFns
import Derived.Test.YtdgfmkideghhaaaM22
import Derived.Test.YtdgfmkideghhaaaM37
namespace Go.Proofs.Ytdgfmkideghhaaa
open Go.RowKit PB
set_option maxHeartbeats 1600000 in
set_option maxRecDepth 100000 in
theorem ofr_nonneg (n : Nat) (w : World) (hn : Hid (n < 9223372036854775808)) :
    Calls Try.prog 31 #[.int .i64 n] w (RetInt w n) := by
  have h0 : ¬ ((n : Int) < 0) := by omega
  go_enter Try.func31, Try.ntmps31
  go_wp2_with fail
  have e0 : IntKind.u64.wrap (n : Int) % 4294967296 = (dg n 0 : Nat) := by
    have := hn.out; rw [of_dg0, IntKind.wrap_u64]; omega
  have e1 : IntKind.u64.wrap (n : Int) / 4294967296 % 4294967296 = (dg n 1 : Nat) := by
    have := hn.out; rw [of_dg1 (by omega), IntKind.wrap_u64]; omega
  rw [e0, e1]
  clear e0 e1
  generalize hW : World.alloc _ _ = W
  have B0 : Blk W w.heap.size #[.bool false, .slice none 0 0] := by rw [← hW]; exact (blk_new rfl).alloc _
  have B1 : Blk W (w.heap.size + 1) #[.int .u32 (dg n 0), .int .u32 (dg n 1)] := by rw [← hW]; exact blk_new (by simp)
  have hbW : Below w.heap.size w W := by rw [← hW]; exact ((Below.refl _ _).alloc (Nat.le_refl _) _).alloc (by simp) _
  have HS := Lib.hid (show W.heap.size = w.heap.size + 2 by rw [← hW]; simp)
  have hN : Num W (w.heap.size + 1) 0 2 n := ⟨by have := hn.out; show n < 18446744073709551616; omega, fun i hi => by
    have : i = 0 ∨ i = 1 := by omega
    rcases this with rfl | rfl
    · exact B1.cell 0 _ rfl
    · exact B1.cell 1 _ rfl⟩
  clear hW B1
  refine (make1_any false _ (w.heap.size + 1) 0 2 2 n W (fun _ => rfl) hN (Nat.le_refl _) (by omega)).mono ?_
  rintro e w2 ⟨u, rfl, hcan, hb2⟩
  have hbw2 : Below w.heap.size w w2 := hbW.trans (hb2.mono (by have := HS.out; omega))
  obtain ⟨r0, r1⟩ := Blk2 (B0.kept hb2)
  obtain ⟨f0, f1⟩ := Blk2f (B0.kept hb2)
  obtain ⟨s1, q1, c1, rfl⟩ := can_agg hcan
  have HC := Lib.hid hcan
  clear hcan B0
  go_wp2_with fail
  have h1 := HS.out
  exact bodyPost_ret (v := .agg #[.bool s1, .slice q1 _ c1]) (by simp [results, Try.results31, go_sem, r0, r1]) rfl ⟨_, rfl, ((HC.out.set (by show w.heap.size < W.heap.size; omega) _).set (by show w.heap.size < W.heap.size; omega) _).mono (by omega), (hbw2.setCell (Nat.le_refl _) _).setCell (Nat.le_refl _) _⟩
set_option maxHeartbeats 1600000 in
set_option maxRecDepth 100000 in
theorem ofr_neg (n : Nat) (w : World) (h1 : 0 < n) (hn : Hid (n ≤ 9223372036854775808)) :
    Calls Try.prog 31 #[.int .i64 (-(n : Int))] w (RetInt w (-(n : Int))) := by
  have h0 : -(n : Int) < 0 := by omega
  go_enter Try.func31, Try.ntmps31
  go_wp2_with fail
  have e0 : IntKind.u64.wrap (-IntKind.u64.wrap (-(n : Int))) % 4294967296 = (dg n 0 : Nat) := by
    have := hn.out; rw [of_dg0, IntKind.wrap_u64, IntKind.wrap_u64]; omega
  have e1 : IntKind.u64.wrap (-IntKind.u64.wrap (-(n : Int))) / 4294967296 % 4294967296 = (dg n 1 : Nat) := by
    have := hn.out; rw [of_dg1 (by omega), IntKind.wrap_u64, IntKind.wrap_u64]; omega
  rw [e0, e1]
  clear e0 e1
  generalize hW : World.alloc _ _ = W
  have B0 : Blk W w.heap.size #[.bool false, .slice none 0 0] := by rw [← hW]; exact (blk_new rfl).alloc _
  have B1 : Blk W (w.heap.size + 1) #[.int .u32 (dg n 0), .int .u32 (dg n 1)] := by rw [← hW]; exact blk_new (by simp)
  have hbW : Below w.heap.size w W := by rw [← hW]; exact ((Below.refl _ _).alloc (Nat.le_refl _) _).alloc (by simp) _
  have HS := Lib.hid (show W.heap.size = w.heap.size + 2 by rw [← hW]; simp)
  have hN : Num W (w.heap.size + 1) 0 2 n := ⟨by have := hn.out; show n < 18446744073709551616; omega, fun i hi => by
    have : i = 0 ∨ i = 1 := by omega
    rcases this with rfl | rfl
    · exact B1.cell 0 _ rfl
    · exact B1.cell 1 _ rfl⟩
  clear hW B1
  refine (make1_any true _ (w.heap.size + 1) 0 2 2 n W (fun _ => rfl) hN (Nat.le_refl _) (by omega)).mono ?_
  rintro e w2 ⟨u, rfl, hcan, hb2⟩
  have hbw2 : Below w.heap.size w w2 := hbW.trans (hb2.mono (by have := HS.out; omega))
  obtain ⟨r0, r1⟩ := Blk2 (B0.kept hb2)
  obtain ⟨f0, f1⟩ := Blk2f (B0.kept hb2)
  obtain ⟨s1, q1, c1, rfl⟩ := can_agg hcan
  have HC := Lib.hid hcan
  clear hcan B0
  go_wp2_with fail
  have h1 := HS.out
  exact bodyPost_ret (v := .agg #[.bool s1, .slice q1 _ c1]) (by simp [results, Try.results31, go_sem, r0, r1]) rfl ⟨_, rfl, ((HC.out.set (by show w.heap.size < W.heap.size; omega) _).set (by show w.heap.size < W.heap.size; omega) _).mono (by omega), (hbw2.setCell (Nat.le_refl _) _).setCell (Nat.le_refl _) _⟩
theorem of_ref (n : Int) (w : World) (h1 : -9223372036854775808 ≤ n) (h2 : n ≤ 9223372036854775807) :
    Calls Try.prog 31 #[.int .i64 n] w (RetInt w n) := by
  by_cases h : 0 ≤ n
  · obtain ⟨k, rfl⟩ := Int.eq_ofNat_of_zero_le h
    exact ofr_nonneg k w (Lib.hid (by omega))
  · obtain ⟨k, hk⟩ := Int.eq_ofNat_of_zero_le (show 0 ≤ -n by omega)
    obtain rfl : n = -(k : Int) := by omega
    exact ofr_neg k w (by omega) (Lib.hid (by omega))
end Go.Proofs.Ytdgfmkideghhaaa

namespace PB
open Go Go.RowKit
theorem neg_cmpi (x y : Int) : -cmpi x y = cmpi y x := by
  unfold cmpi
  by_cases h : x < y
  · rw [if_pos h, if_neg (by omega), if_pos h]
    rfl
  · by_cases h' : y < x
    · rw [if_neg h, if_pos h', if_pos h']
    · rw [if_neg h, if_neg h', if_neg h', if_neg h]; rfl
theorem wrap_cmpi (x y : Int) : wrap64 (cmpi x y) = cmpi x y := by
  unfold cmpi wrap64
  split
  · omega
  · split <;> omega
end PB
namespace Go.Proofs.Ytdgfmkideghhaaa
open Go.RowKit PB

set_option maxHeartbeats 1600000 in
set_option maxRecDepth 100000 in
/-- Both signs are the same, and negative or not. -/
theorem cmpr_same (s t : Bool) (base : Option Addr) (b off n c X : Nat) (base' : Option Addr) (b' off' n' c' Y : Nat) (w : World)
    (hb : n ≠ 0 → base = some ⟨b, off, none⟩) (hX : Num w b off n X) (hn : n ≤ c) (hl : n ≤ 1000000000)
    (hb' : n' ≠ 0 → base' = some ⟨b', off', none⟩) (hY : Num w b' off' n' Y) (hn' : n' ≤ c') (hl' : n' ≤ 1000000000) (hsg : (sg s X).sign = (sg t Y).sign) (neg : Bool) (hneg : decide ((sg s X).sign < 0) = neg) :
    Calls Try.prog 37 #[.agg #[.bool s, .slice base n c], .agg #[.bool t, .slice base' n' c']] w fun e w' => e = .returned (.int .i64 (if neg then cmpi Y X else cmpi X Y)) ∧ Below w.heap.size w w' := by
  have hnX := nl_le hX.lt
  have hnY := nl_le hY.lt
  have I1 : IsInt w (.agg #[.bool s, .slice base n c]) (sg s X) := ⟨s, base, b, off, n, c, X, rfl, hb, hX, hn, hl, rfl⟩
  have I2 : IsInt w (.agg #[.bool t, .slice base' n' c']) (sg t Y) := ⟨t, base', b', off', n', c', Y, rfl, hb', hY, hn', hl', rfl⟩
  generalize sg s X = z1 at *
  generalize sg t Y = z2 at *
  have S1 := Lib.hid (fun W (h : Below w.heap.size w W) => sign_ref _ _ W (I1.kept h))
  have S2 := Lib.hid (fun W (h : Below w.heap.size w W) => sign_ref _ _ W (I2.kept h))
  rw [← hsg] at S2
  generalize z1.sign = sn at *
  clear I1 I2 hsg
  cases neg
  · have hlt : ¬ sn < 0 := of_decide_eq_false hneg
    clear hneg
    go_enter Try.func37, Try.ntmps37
    go_wp2_with fail
    generalize hW : World.alloc _ _ = W
    have B0 : Blk W w.heap.size #[.bool s, .slice base n c] := by rw [← hW]; exact (blk_new rfl).alloc _
    have B1 : Blk W (w.heap.size + 1) #[.bool t, .slice base' n' c'] := by rw [← hW]; exact blk_new (by simp)
    have hbW : Below w.heap.size w W := by rw [← hW]; exact ((Below.refl _ _).alloc (Nat.le_refl _) _).alloc (by simp) _
    have HS := Lib.hid (show W.heap.size = w.heap.size + 2 by rw [← hW]; simp)
    clear hW
    have HK := Lib.hid (show ∀ w1, Below W.heap.size W w1 → (w1.cell? ⟨w.heap.size, 0, none⟩ = some (.bool s) ∧ w1.cell? ⟨w.heap.size, 1, none⟩ = some (.slice base n c)) ∧ (w1.cell? ⟨w.heap.size + 1, 0, none⟩ = some (.bool t) ∧ w1.cell? ⟨w.heap.size + 1, 1, none⟩ = some (.slice base' n' c')) from
      fun w1 h => ⟨Blk2 (B0.kept h), Blk2 (B1.kept h)⟩)
    obtain ⟨⟨a0, a1⟩, b0, b1⟩ := HK.out _ (Below.refl _ _)
    clear B0 B1
    have HM := Lib.hid (show w.heap.size ≤ W.heap.size by have := HS.out; omega)
    go_region_held3 (fun w' => (w'.cell? ⟨w.heap.size, 0, none⟩ = some (.bool s) ∧ w'.cell? ⟨w.heap.size, 1, none⟩ = some (.slice base n c)) ∧ (w'.cell? ⟨w.heap.size + 1, 0, none⟩ = some (.bool t) ∧ w'.cell? ⟨w.heap.size + 1, 1, none⟩ = some (.slice base' n' c')))
      (first | exact ⟨⟨a0, a1⟩, b0, b1⟩ | exact HK.out _ hq2 | exact HK.out _ hq1)
      (first
        | (go_at_call_of 33 (Value.agg #[Value.bool s, Value.slice base n c]); refine (S1.out _ (by first | exact hbW | exact hbW.drew)).mono ?_; rintro e w1 ⟨rfl, hb1⟩; have hq1 : Below W.heap.size W w1 := (by first | exact hb1 | exact below_undrew hb1))
        | (go_at_call_of 33 (Value.agg #[Value.bool t, Value.slice base' n' c']); refine (S2.out _ (by exact hbW.trans (hq1.mono HM.out))).mono ?_; rintro e w2 ⟨rfl, hb2⟩; have hq2 : Below W.heap.size W w2 := hq1.trans (hb2.mono hq1.size)))
    obtain ⟨⟨a0, a1⟩, b0, b1⟩ := HK.out _ hq2
    have hbw2 : Below w.heap.size w w2 := hbW.trans (hq2.mono HM.out)
    clear hq1 hb1 hb2
    go_wp2_with fail
    have hX2 := hX.kept hbw2
    have HY2 := Lib.hid (fun W3 (h : Below w2.heap.size w2 W3) => (hY.kept hbw2).kept h)
    have HK2 := Lib.hid (fun w3 (h : Below w2.heap.size w2 w3) => HK.out w3 (hq2.trans (h.mono hq2.size)))
    have HHB := Lib.hid hb
    have HHB' := Lib.hid hb'
    clear hq2 HK hb hb'
    go_region_held3 (fun w' => (w'.cell? ⟨w.heap.size, 0, none⟩ = some (.bool s) ∧ w'.cell? ⟨w.heap.size, 1, none⟩ = some (.slice base n c)) ∧ (w'.cell? ⟨w.heap.size + 1, 0, none⟩ = some (.bool t) ∧ w'.cell? ⟨w.heap.size + 1, 1, none⟩ = some (.slice base' n' c')))
      (first | exact ⟨⟨a0, a1⟩, b0, b1⟩ | exact HK2.out _ hr3 | exact HK2.out _ hr2 | exact HK2.out _ hr1)
      (first
        | (go_at_call_of 91 (Value.slice base n c); refine (mag_any base b off n c X _ HHB.out (by exact hX2) hn hl).mono ?_; rintro e w3 ⟨v1, rfl, hown1, hc1⟩
           have hr1 : Below w2.heap.size w2 w3 := (by first | exact hc1 | exact below_undrew hc1)
           obtain ⟨m1, g1, d1, rfl, hm1, hd1, hN1, hF1, hG1⟩ := own_slice hown1
           clear hown1)
        | (go_at_call_of 91 (Value.slice base' n' c'); refine (mag_any base' b' off' n' c' Y _ HHB'.out (HY2.out _ (by exact hr1)) hn' hl').mono ?_; rintro e w4 ⟨v2, rfl, hown2, hc2⟩
           have hr2 : Below w2.heap.size w2 w4 := hr1.trans (hc2.mono hr1.size)
           have hN1' := hN1.kept hc2
           obtain ⟨m2, g2, d2, rfl, hm2, hd2, hN2, hF2, hG2⟩ := own_slice hown2
           clear hown2)
        | (go_at_call 94; refine (cmpmag_any m1 m2 g1 0 X d1 g2 0 Y d2 _ hm1 hm2 (by exact hN1') (by exact hN2) (by omega) (by omega)).mono ?_; rintro e w5 ⟨rfl, nq, hnq⟩
           have hr3 : Below w2.heap.size w2 w5 := (by rw [hnq]; first | exact below_drewN hr2 _ | exact below_drewN hr2.drew _)
           clear hnq))
    have hbw3 := hbw2.trans (hr3.mono hbw2.size)
    go_wp2_with fail
    go_ret
    exact ⟨rfl, hbw3⟩
  · have hlt : sn < 0 := of_decide_eq_true hneg
    clear hneg
    go_enter Try.func37, Try.ntmps37
    go_wp2_with fail
    generalize hW : World.alloc _ _ = W
    have B0 : Blk W w.heap.size #[.bool s, .slice base n c] := by rw [← hW]; exact (blk_new rfl).alloc _
    have B1 : Blk W (w.heap.size + 1) #[.bool t, .slice base' n' c'] := by rw [← hW]; exact blk_new (by simp)
    have hbW : Below w.heap.size w W := by rw [← hW]; exact ((Below.refl _ _).alloc (Nat.le_refl _) _).alloc (by simp) _
    have HS := Lib.hid (show W.heap.size = w.heap.size + 2 by rw [← hW]; simp)
    clear hW
    have HK := Lib.hid (show ∀ w1, Below W.heap.size W w1 → (w1.cell? ⟨w.heap.size, 0, none⟩ = some (.bool s) ∧ w1.cell? ⟨w.heap.size, 1, none⟩ = some (.slice base n c)) ∧ (w1.cell? ⟨w.heap.size + 1, 0, none⟩ = some (.bool t) ∧ w1.cell? ⟨w.heap.size + 1, 1, none⟩ = some (.slice base' n' c')) from
      fun w1 h => ⟨Blk2 (B0.kept h), Blk2 (B1.kept h)⟩)
    obtain ⟨⟨a0, a1⟩, b0, b1⟩ := HK.out _ (Below.refl _ _)
    clear B0 B1
    have HM := Lib.hid (show w.heap.size ≤ W.heap.size by have := HS.out; omega)
    go_region_held3 (fun w' => (w'.cell? ⟨w.heap.size, 0, none⟩ = some (.bool s) ∧ w'.cell? ⟨w.heap.size, 1, none⟩ = some (.slice base n c)) ∧ (w'.cell? ⟨w.heap.size + 1, 0, none⟩ = some (.bool t) ∧ w'.cell? ⟨w.heap.size + 1, 1, none⟩ = some (.slice base' n' c')))
      (first | exact ⟨⟨a0, a1⟩, b0, b1⟩ | exact HK.out _ hq2 | exact HK.out _ hq1)
      (first
        | (go_at_call_of 33 (Value.agg #[Value.bool s, Value.slice base n c]); refine (S1.out _ (by first | exact hbW | exact hbW.drew)).mono ?_; rintro e w1 ⟨rfl, hb1⟩; have hq1 : Below W.heap.size W w1 := (by first | exact hb1 | exact below_undrew hb1))
        | (go_at_call_of 33 (Value.agg #[Value.bool t, Value.slice base' n' c']); refine (S2.out _ (by exact hbW.trans (hq1.mono HM.out))).mono ?_; rintro e w2 ⟨rfl, hb2⟩; have hq2 : Below W.heap.size W w2 := hq1.trans (hb2.mono hq1.size)))
    obtain ⟨⟨a0, a1⟩, b0, b1⟩ := HK.out _ hq2
    have hbw2 : Below w.heap.size w w2 := hbW.trans (hq2.mono HM.out)
    clear hq1 hb1 hb2
    go_wp2_with fail
    have hX2 := hX.kept hbw2
    have HY2 := Lib.hid (fun W3 (h : Below w2.heap.size w2 W3) => (hY.kept hbw2).kept h)
    have HK2 := Lib.hid (fun w3 (h : Below w2.heap.size w2 w3) => HK.out w3 (hq2.trans (h.mono hq2.size)))
    have HHB := Lib.hid hb
    have HHB' := Lib.hid hb'
    clear hq2 HK hb hb'
    go_region_held3 (fun w' => (w'.cell? ⟨w.heap.size, 0, none⟩ = some (.bool s) ∧ w'.cell? ⟨w.heap.size, 1, none⟩ = some (.slice base n c)) ∧ (w'.cell? ⟨w.heap.size + 1, 0, none⟩ = some (.bool t) ∧ w'.cell? ⟨w.heap.size + 1, 1, none⟩ = some (.slice base' n' c')))
      (first | exact ⟨⟨a0, a1⟩, b0, b1⟩ | exact HK2.out _ hr3 | exact HK2.out _ hr2 | exact HK2.out _ hr1)
      (first
        | (go_at_call_of 91 (Value.slice base n c); refine (mag_any base b off n c X _ HHB.out (by exact hX2) hn hl).mono ?_; rintro e w3 ⟨v1, rfl, hown1, hc1⟩
           have hr1 : Below w2.heap.size w2 w3 := (by first | exact hc1 | exact below_undrew hc1)
           obtain ⟨m1, g1, d1, rfl, hm1, hd1, hN1, hF1, hG1⟩ := own_slice hown1
           clear hown1)
        | (go_at_call_of 91 (Value.slice base' n' c'); refine (mag_any base' b' off' n' c' Y _ HHB'.out (HY2.out _ (by exact hr1)) hn' hl').mono ?_; rintro e w4 ⟨v2, rfl, hown2, hc2⟩
           have hr2 : Below w2.heap.size w2 w4 := hr1.trans (hc2.mono hr1.size)
           have hN1' := hN1.kept hc2
           obtain ⟨m2, g2, d2, rfl, hm2, hd2, hN2, hF2, hG2⟩ := own_slice hown2
           clear hown2)
        | (go_at_call 94; refine (cmpmag_any m1 m2 g1 0 X d1 g2 0 Y d2 _ hm1 hm2 (by exact hN1') (by exact hN2) (by omega) (by omega)).mono ?_; rintro e w5 ⟨rfl, nq, hnq⟩
           have hr3 : Below w2.heap.size w2 w5 := (by rw [hnq]; first | exact below_drewN hr2 _ | exact below_drewN hr2.drew _)
           clear hnq))
    have hbw3 := hbw2.trans (hr3.mono hbw2.size)
    go_wp2_with fail
    go_ret
    exact ⟨by rw [neg_cmpi, wrap_cmpi]; rfl, hbw3⟩
set_option maxHeartbeats 1600000 in
set_option maxRecDepth 100000 in
/-- Different signs. -/
theorem cmpr_lt (s t : Bool) (base : Option Addr) (b off n c X : Nat) (base' : Option Addr) (b' off' n' c' Y : Nat) (w : World)
    (hb : n ≠ 0 → base = some ⟨b, off, none⟩) (hX : Num w b off n X) (hn : n ≤ c) (hl : n ≤ 1000000000)
    (hb' : n' ≠ 0 → base' = some ⟨b', off', none⟩) (hY : Num w b' off' n' Y) (hn' : n' ≤ c') (hl' : n' ≤ 1000000000) (hsg : (sg s X).sign < (sg t Y).sign) :
    Calls Try.prog 37 #[.agg #[.bool s, .slice base n c], .agg #[.bool t, .slice base' n' c']] w fun e w' => e = .returned (.int .i64 (-1)) ∧ Below w.heap.size w w' := by
  have hnX := nl_le hX.lt
  have hnY := nl_le hY.lt
  have I1 : IsInt w (.agg #[.bool s, .slice base n c]) (sg s X) := ⟨s, base, b, off, n, c, X, rfl, hb, hX, hn, hl, rfl⟩
  have I2 : IsInt w (.agg #[.bool t, .slice base' n' c']) (sg t Y) := ⟨t, base', b', off', n', c', Y, rfl, hb', hY, hn', hl', rfl⟩
  generalize sg s X = z1 at *
  generalize sg t Y = z2 at *
  have S1 := Lib.hid (fun W (h : Below w.heap.size w W) => sign_ref _ _ W (I1.kept h))
  have S2 := Lib.hid (fun W (h : Below w.heap.size w W) => sign_ref _ _ W (I2.kept h))
  generalize z1.sign = sn at *
  generalize z2.sign = sm at *
  clear I1 I2 hnX hnY
  go_enter Try.func37, Try.ntmps37
  go_wp2_with fail
  generalize hW : World.alloc _ _ = W
  have B0 : Blk W w.heap.size #[.bool s, .slice base n c] := by rw [← hW]; exact (blk_new rfl).alloc _
  have B1 : Blk W (w.heap.size + 1) #[.bool t, .slice base' n' c'] := by rw [← hW]; exact blk_new (by simp)
  have hbW : Below w.heap.size w W := by rw [← hW]; exact ((Below.refl _ _).alloc (Nat.le_refl _) _).alloc (by simp) _
  have HS := Lib.hid (show W.heap.size = w.heap.size + 2 by rw [← hW]; simp)
  clear hW
  have HK := Lib.hid (show ∀ w1, Below W.heap.size W w1 → (w1.cell? ⟨w.heap.size, 0, none⟩ = some (.bool s) ∧ w1.cell? ⟨w.heap.size, 1, none⟩ = some (.slice base n c)) ∧ (w1.cell? ⟨w.heap.size + 1, 0, none⟩ = some (.bool t) ∧ w1.cell? ⟨w.heap.size + 1, 1, none⟩ = some (.slice base' n' c')) from
    fun w1 h => ⟨Blk2 (B0.kept h), Blk2 (B1.kept h)⟩)
  obtain ⟨⟨a0, a1⟩, b0, b1⟩ := HK.out _ (Below.refl _ _)
  clear B0 B1
  have HM := Lib.hid (show w.heap.size ≤ W.heap.size by have := HS.out; omega)
  go_region_held3 (fun w' => (w'.cell? ⟨w.heap.size, 0, none⟩ = some (.bool s) ∧ w'.cell? ⟨w.heap.size, 1, none⟩ = some (.slice base n c)) ∧ (w'.cell? ⟨w.heap.size + 1, 0, none⟩ = some (.bool t) ∧ w'.cell? ⟨w.heap.size + 1, 1, none⟩ = some (.slice base' n' c')))
    (first | exact ⟨⟨a0, a1⟩, b0, b1⟩ | exact HK.out _ hq2 | exact HK.out _ hq1)
    (first
      | (go_at_call_of 33 (Value.agg #[Value.bool s, Value.slice base n c]); refine (S1.out _ (by first | exact hbW | exact hbW.drew)).mono ?_; rintro e w1 ⟨rfl, hb1⟩; have hq1 : Below W.heap.size W w1 := (by first | exact hb1 | exact below_undrew hb1))
      | (go_at_call_of 33 (Value.agg #[Value.bool t, Value.slice base' n' c']); refine (S2.out _ (by exact hbW.trans (hq1.mono HM.out))).mono ?_; rintro e w2 ⟨rfl, hb2⟩; have hq2 : Below W.heap.size W w2 := hq1.trans (hb2.mono hq1.size)))
  obtain ⟨⟨a0, a1⟩, b0, b1⟩ := HK.out _ hq2
  have hbw2 : Below w.heap.size w w2 := hbW.trans (hq2.mono HM.out)
  clear hq1 hq2 hb1 hb2
  go_wp2_with fail
  go_ret
  exact ⟨rfl, hbw2⟩
set_option maxHeartbeats 1600000 in
set_option maxRecDepth 100000 in
/-- Different signs. -/
theorem cmpr_gt (s t : Bool) (base : Option Addr) (b off n c X : Nat) (base' : Option Addr) (b' off' n' c' Y : Nat) (w : World)
    (hb : n ≠ 0 → base = some ⟨b, off, none⟩) (hX : Num w b off n X) (hn : n ≤ c) (hl : n ≤ 1000000000)
    (hb' : n' ≠ 0 → base' = some ⟨b', off', none⟩) (hY : Num w b' off' n' Y) (hn' : n' ≤ c') (hl' : n' ≤ 1000000000) (hsg : (sg t Y).sign < (sg s X).sign) :
    Calls Try.prog 37 #[.agg #[.bool s, .slice base n c], .agg #[.bool t, .slice base' n' c']] w fun e w' => e = .returned (.int .i64 1) ∧ Below w.heap.size w w' := by
  have hnX := nl_le hX.lt
  have hnY := nl_le hY.lt
  have I1 : IsInt w (.agg #[.bool s, .slice base n c]) (sg s X) := ⟨s, base, b, off, n, c, X, rfl, hb, hX, hn, hl, rfl⟩
  have I2 : IsInt w (.agg #[.bool t, .slice base' n' c']) (sg t Y) := ⟨t, base', b', off', n', c', Y, rfl, hb', hY, hn', hl', rfl⟩
  generalize sg s X = z1 at *
  generalize sg t Y = z2 at *
  have S1 := Lib.hid (fun W (h : Below w.heap.size w W) => sign_ref _ _ W (I1.kept h))
  have S2 := Lib.hid (fun W (h : Below w.heap.size w W) => sign_ref _ _ W (I2.kept h))
  generalize z1.sign = sn at *
  generalize z2.sign = sm at *
  clear I1 I2 hnX hnY
  have hng : ¬ sn < sm := by omega
  go_enter Try.func37, Try.ntmps37
  go_wp2_with fail
  generalize hW : World.alloc _ _ = W
  have B0 : Blk W w.heap.size #[.bool s, .slice base n c] := by rw [← hW]; exact (blk_new rfl).alloc _
  have B1 : Blk W (w.heap.size + 1) #[.bool t, .slice base' n' c'] := by rw [← hW]; exact blk_new (by simp)
  have hbW : Below w.heap.size w W := by rw [← hW]; exact ((Below.refl _ _).alloc (Nat.le_refl _) _).alloc (by simp) _
  have HS := Lib.hid (show W.heap.size = w.heap.size + 2 by rw [← hW]; simp)
  clear hW
  have HK := Lib.hid (show ∀ w1, Below W.heap.size W w1 → (w1.cell? ⟨w.heap.size, 0, none⟩ = some (.bool s) ∧ w1.cell? ⟨w.heap.size, 1, none⟩ = some (.slice base n c)) ∧ (w1.cell? ⟨w.heap.size + 1, 0, none⟩ = some (.bool t) ∧ w1.cell? ⟨w.heap.size + 1, 1, none⟩ = some (.slice base' n' c')) from
    fun w1 h => ⟨Blk2 (B0.kept h), Blk2 (B1.kept h)⟩)
  obtain ⟨⟨a0, a1⟩, b0, b1⟩ := HK.out _ (Below.refl _ _)
  clear B0 B1
  have HM := Lib.hid (show w.heap.size ≤ W.heap.size by have := HS.out; omega)
  go_region_held3 (fun w' => (w'.cell? ⟨w.heap.size, 0, none⟩ = some (.bool s) ∧ w'.cell? ⟨w.heap.size, 1, none⟩ = some (.slice base n c)) ∧ (w'.cell? ⟨w.heap.size + 1, 0, none⟩ = some (.bool t) ∧ w'.cell? ⟨w.heap.size + 1, 1, none⟩ = some (.slice base' n' c')))
    (first | exact ⟨⟨a0, a1⟩, b0, b1⟩ | exact HK.out _ hq2 | exact HK.out _ hq1)
    (first
      | (go_at_call_of 33 (Value.agg #[Value.bool s, Value.slice base n c]); refine (S1.out _ (by first | exact hbW | exact hbW.drew)).mono ?_; rintro e w1 ⟨rfl, hb1⟩; have hq1 : Below W.heap.size W w1 := (by first | exact hb1 | exact below_undrew hb1))
      | (go_at_call_of 33 (Value.agg #[Value.bool t, Value.slice base' n' c']); refine (S2.out _ (by exact hbW.trans (hq1.mono HM.out))).mono ?_; rintro e w2 ⟨rfl, hb2⟩; have hq2 : Below W.heap.size W w2 := hq1.trans (hb2.mono hq1.size)))
  obtain ⟨⟨a0, a1⟩, b0, b1⟩ := HK.out _ hq2
  have hbw2 : Below w.heap.size w w2 := hbW.trans (hq2.mono HM.out)
  clear hq1 hq2 hb1 hb2
  go_wp2_with fail
  go_ret
  exact ⟨rfl, hbw2⟩
/-- integer.Cmp. -/
theorem cmp_ref (v1 v2 : Value) (z1 z2 : Int) (w : World) (h1 : IsInt w v1 z1) (h2 : IsInt w v2 z2) :
    Calls Try.prog 37 #[v1, v2] w fun e w' => e = .returned (.int .i64 (cmpi z1 z2)) ∧ Below w.heap.size w w' := by
  obtain ⟨s, base, b, off, n, c, X, rfl, hb, hX, hn, hl, rfl⟩ := h1
  obtain ⟨t, base', b', off', n', c', Y, rfl, hb', hY, hn', hl', rfl⟩ := h2
  have k1 := sign_vals (sg s X)
  have k2 := sign_vals (sg t Y)
  rcases Int.lt_trichotomy (sg s X).sign (sg t Y).sign with h | h | h
  · rw [show cmpi (sg s X) (sg t Y) = -1 by unfold cmpi; rw [if_pos (by omega)]]
    exact cmpr_lt s t base b off n c X base' b' off' n' c' Y w hb hX hn hl hb' hY hn' hl' h
  · have key : cmpi (sg s X) (sg t Y) = if decide ((sg s X).sign < 0) then cmpi Y X else cmpi X Y := by
      by_cases hneg : (sg s X).sign < 0
      · rw [if_pos (by simpa using hneg)]
        have e1 : sg s X = -(X : Int) := sg_of_neg (by omega)
        have e2 : sg t Y = -(Y : Int) := sg_of_neg (by omega)
        rw [e1, e2, cmpi_neg]
      · rw [if_neg (by simpa using hneg)]
        have e1 : sg s X = (X : Int) := sg_of_nonneg (by omega)
        have e2 : sg t Y = (Y : Int) := sg_of_nonneg (by omega)
        rw [e1, e2]
    rw [key]
    exact cmpr_same s t base b off n c X base' b' off' n' c' Y w hb hX hn hl hb' hY hn' hl' h _ rfl
  · rw [show cmpi (sg s X) (sg t Y) = 1 by unfold cmpi; rw [if_neg (by omega), if_pos (by omega)]]
    exact cmpr_gt s t base b off n c X base' b' off' n' c' Y w hb hX hn hl hb' hY hn' hl' h
end Go.Proofs.Ytdgfmkideghhaaa

namespace Go.Proofs.Ytdgfmkideghhaaa
open Go.RowKit PB

set_option maxHeartbeats 1600000 in
set_option maxRecDepth 100000 in
theorem bits_ref (v : Value) (z : Int) (w : World) (h : IsInt w v z) :
    Calls Try.prog 35 #[v] w fun e w' => e = .returned (.int .i64 (bl z.natAbs)) ∧ Below w.heap.size w w' := by
  obtain ⟨s, base, b, off, n, c, X, rfl, hb, hX, hn, hl, rfl⟩ := h
  rw [sg_natAbs]
  have hnl := nl_le hX.lt
  have HM := Lib.hid (fun W (h : Below w.heap.size w W) => mag_any base b off n c X W hb (hX.kept h) hn hl)
  have hbW : Below w.heap.size w (w.alloc (Obj.cells #[.bool s, .slice base n c] 24)) := bs_alloc (Below.refl _ _) _
  clear hb
  by_cases h0 : X = 0
  · have hbl : bl X = 0 := if_pos h0
    rw [hbl]
    have ht : ((nl X : Int) == 0) = true := by rw [h0, nl_zero]; rfl
    clear hbl h0
    go_enter Try.func35, Try.ntmps35
    go_wp2_with fail
    refine (HM.out _ hbW).mono ?_
    rintro e w1 ⟨v, rfl, hown, hb1⟩
    obtain ⟨mb, mg, mc, rfl, _⟩ := own_slice hown
    have HB1 := bs_trans hbW hb1
    clear hown hb1 hbW HM
    go_wp2_with fail
    go_ret
    exact ⟨rfl, HB1⟩
  · have hz : nl X ≠ 0 := mt nl_eq_zero.1 h0
    obtain ⟨k, hk⟩ : ∃ k, nl X = k + 1 := ⟨nl X - 1, by omega⟩
    have HBL := Lib.hid (show bl X = 32 * k + Lib.bitLen (dg X k) by rw [show bl X = 32 * (nl X - 1) + Lib.bitLen (dg X (nl X - 1)) from if_neg h0, hk, Nat.add_sub_cancel])
    have hd := dg_lt X k
    go_enter Try.func35, Try.ntmps35
    go_wp2_with fail
    refine (HM.out _ hbW).mono ?_
    rintro e w1 ⟨v, rfl, hown, hb1⟩
    obtain ⟨mb, mg, mc, rfl, hm1, hm2, hm3, hm4, hm5⟩ := own_slice hown
    obtain rfl := hm1 hz
    have HB1 := Lib.hid (bs_trans hbW hb1)
    have cX := hm3.cell0 (i := k) (by omega)
    rw [hk] at hm2 ⊢
    have ht : ((k : Int) + 1 == 0) = false := by simp; omega
    have i1 : (0 : Int) ≤ k := by omega
    have i2 : (k : Int) ≤ 1000000000 := by omega
    have HK := Lib.hid hk
    clear hown hb1 hbW HM hm1 hm3 hm4 hm5 h0 hz hk
    go_wp2_with fail
    go_loopw [4, 5] (fun m x wr => ∃ q y : Nat, m = .int .i64 q ∧ x = .int .u32 y ∧ wr = w1 ∧ y < 4294967296 ∧ Hid (q + Lib.bitLen y = 32 * k + Lib.bitLen (dg X k))) (fun _ x _ => (intOf x).toNat)
    case atStart => exact ⟨32 * k, dg X k, by simp, rfl, rfl, hd, Lib.hid rfl⟩
    case round =>
      obtain ⟨q, y, rfl, rfl, rfl, hy, hE⟩ := hrel
      have hble := Lib.bitLen_le (dg X k) 32 (by omega) hd
      have HQ := Lib.hid (show q ≤ 32 * k + 32 by have := hE.out; omega)
      by_cases hz : y = 0
      · have hE2 := Lib.hid (show q = bl X by
          have := hE.out
          rw [HBL.out, ← this, hz]
          simp [Lib.bitLen, Lib.bitLenAux])
        have j1 : ¬ (0 : Int) < y := by omega
        have j2 : ¬ 0 < y := by omega
        clear hz
        go_wp2_with fail
        go_ret
        exact ⟨by rw [← hE2.out]; rfl, HB1.out⟩
      · have j1 : (0 : Int) < y := by omega
        have j2 : 0 < y := by omega
        have j3 : (q : Int) ≤ 32000000032 := by have := HQ.out; omega
        have HH := Lib.hid (Lib.bitLen_half y hz (by omega))
        clear hz
        go_wp2_with fail
        go_roundw
        case rel =>
          refine ⟨q + 1, y / 2, by go_num, ?_, by first | rfl | trivial, by omega, Lib.hid ?_⟩
          · rw [show (y : Int) / 2 = ((y / 2 : Nat) : Int) from (Int.natCast_ediv _ _).symm]
          · have := hE.out; have := HH.out; omega
        case measure => simp [intOf]; omega
end Go.Proofs.Ytdgfmkideghhaaa
