/-
  integer.Cmp: the order of two numbers.
-/
import Derived.Test.YtdgfmkideghhaaaM28
namespace PB
theorem cmpi_neg (x y : Int) : cmpi (-x) (-y) = cmpi y x := by
  unfold cmpi
  by_cases h : x < y
  · rw [if_neg (by omega), if_pos (by omega), if_neg (by omega), if_pos (by omega)]
  · by_cases h' : y < x
    · rw [if_pos (by omega), if_pos (by omega)]
    · rw [if_neg (by omega), if_neg (by omega), if_neg (by omega), if_neg (by omega)]
theorem sg_of_neg {s : Bool} {X : Nat} (h : sg s X < 0) : sg s X = -(X : Int) := by
  cases s
  · have : (X : Int) < 0 := h
    omega
  · rfl
theorem sg_of_nonneg {s : Bool} {X : Nat} (h : ¬ sg s X < 0) : sg s X = (X : Int) := by
  cases s
  · rfl
  · have h2 : ¬ (-(X : Int) < 0) := h
    have : sg true X = -(X : Int) := rfl
    omega
theorem sign_vals (z : Int) : (z.sign = -1 ∧ z < 0) ∨ (z.sign = 0 ∧ z = 0) ∨ (z.sign = 1 ∧ 0 < z) := by
  rcases Int.lt_trichotomy z 0 with h | h | h
  · exact Or.inl ⟨Int.sign_eq_neg_one_of_neg h, h⟩
  · subst h; exact Or.inr (Or.inl ⟨rfl, rfl⟩)
  · exact Or.inr (Or.inr ⟨Int.sign_eq_one_of_pos h, h⟩)
end PB
namespace Go.Proofs.Ytdgfmkideghhaaa
open Go.RowKit PB

set_option maxHeartbeats 1600000 in
set_option maxRecDepth 100000 in
/-- Both signs are the same, and negative or not. -/
theorem cmp_same (s t : Bool) (base : Option Addr) (b off n c X : Nat) (base' : Option Addr) (b' off' n' c' Y : Nat) (w : World)
    (hb : n ≠ 0 → base = some ⟨b, off, none⟩) (hX : Num w b off n X) (hn : n ≤ c) (hl : n ≤ 1000000000)
    (hb' : n' ≠ 0 → base' = some ⟨b', off', none⟩) (hY : Num w b' off' n' Y) (hn' : n' ≤ c') (hl' : n' ≤ 1000000000) (hsg : (sg s X).sign = (sg t Y).sign) (neg : Bool) (hneg : decide ((sg s X).sign < 0) = neg) :
    Calls Try.prog 36 #[.agg #[.bool s, .slice base n c], .agg #[.bool t, .slice base' n' c']] w fun e w' => e = .returned (.int .i64 (if neg then cmpi Y X else cmpi X Y)) ∧ Below w.heap.size w w' := by
  have hnX := nl_le hX.lt
  have hnY := nl_le hY.lt
  have I1 : IsInt w (.agg #[.bool s, .slice base n c]) (sg s X) := ⟨s, base, b, off, n, c, X, rfl, hb, hX, hn, hl, rfl⟩
  have I2 : IsInt w (.agg #[.bool t, .slice base' n' c']) (sg t Y) := ⟨t, base', b', off', n', c', Y, rfl, hb', hY, hn', hl', rfl⟩
  generalize sg s X = z1 at *
  generalize sg t Y = z2 at *
  have S1 := Lib.hid (fun W (h : Below w.heap.size w W) => sign_any _ _ W (I1.kept h))
  have S2 := Lib.hid (fun W (h : Below w.heap.size w W) => sign_any _ _ W (I2.kept h))
  rw [← hsg] at S2
  generalize z1.sign = sn at *
  clear I1 I2 hsg
  cases neg
  · have hlt : ¬ sn < 0 := of_decide_eq_false hneg
    clear hneg
    go_enter Try.func36, Try.ntmps36
    go_wp2_with fail
    generalize hW : World.alloc _ _ = W
    have B0 : Blk W w.heap.size #[.bool s, .slice base n c] := by rw [← hW]; exact (blk_new rfl).alloc _
    have B1 : Blk W (w.heap.size + 1) #[.bool t, .slice base' n' c'] := by rw [← hW]; exact blk_new (by simp)
    have hbW : Below w.heap.size w W := by rw [← hW]; exact ((Below.refl _ _).alloc (Nat.le_refl _) _).alloc (by simp) _
    have HS := Lib.hid (show W.heap.size = w.heap.size + 2 by rw [← hW]; simp)
    clear hW
    have HK := Lib.hid (show ∀ w1, Below W.heap.size W w1 → (w1.cell? ⟨w.heap.size, 0, none⟩ = some (.bool s) ∧ w1.cell? ⟨w.heap.size, 1, none⟩ = some (.slice base n c)) ∧ (w1.cell? ⟨w.heap.size + 1, 0, none⟩ = some (.bool t) ∧ w1.cell? ⟨w.heap.size + 1, 1, none⟩ = some (.slice base' n' c')) from
      fun w1 h => ⟨Blk2 (B0.kept h), Blk2 (B1.kept h)⟩)
    obtain ⟨⟨a0, a1⟩, b0, b1⟩ := HK.out _ (Below.refl _ _)
    clear B0 B1
    have HM := Lib.hid (show w.heap.size ≤ W.heap.size by have := HS.out; omega)
    go_region_held3 (fun w' => (w'.cell? ⟨w.heap.size, 0, none⟩ = some (.bool s) ∧ w'.cell? ⟨w.heap.size, 1, none⟩ = some (.slice base n c)) ∧ (w'.cell? ⟨w.heap.size + 1, 0, none⟩ = some (.bool t) ∧ w'.cell? ⟨w.heap.size + 1, 1, none⟩ = some (.slice base' n' c')))
      (first | exact ⟨⟨a0, a1⟩, b0, b1⟩ | exact HK.out _ hq2 | exact HK.out _ hq1)
      (first
        | (go_at_call_of 32 (Value.agg #[Value.bool s, Value.slice base n c]); refine (S1.out _ (by first | exact hbW | exact hbW.drew)).mono ?_; rintro e w1 ⟨rfl, hb1⟩; have hq1 : Below W.heap.size W w1 := (by first | exact hb1 | exact below_undrew hb1))
        | (go_at_call_of 32 (Value.agg #[Value.bool t, Value.slice base' n' c']); refine (S2.out _ (by exact hbW.trans (hq1.mono HM.out))).mono ?_; rintro e w2 ⟨rfl, hb2⟩; have hq2 : Below W.heap.size W w2 := hq1.trans (hb2.mono hq1.size)))
    obtain ⟨⟨a0, a1⟩, b0, b1⟩ := HK.out _ hq2
    have hbw2 : Below w.heap.size w w2 := hbW.trans (hq2.mono HM.out)
    clear hq1 hq2 hb1 hb2
    go_wp2_with fail
    go_quiet ((first
      | (go_at_call_of 75 (Value.slice base n c); exact quiet_one (cut_any base b off n c X _ hb (hX.kept hbw2).drewN hn (by omega)))
      | (go_at_call_of 75 (Value.slice base' n' c'); exact quiet_one (cut_any base' b' off' n' c' Y _ hb' (hY.kept hbw2).drewN hn' (by omega)))
      | (go_at_call 93; exact Calls.quiet_of (order_any base base' b off X _ b' off' Y _ _ (fun h => hb (by omega)) (fun h => hb' (by omega)) (((hX.fewer hnX (lt_nl _)).kept hbw2).drewN) (((hY.fewer hnY (lt_nl _)).kept hbw2).drewN) (by omega) (by omega)))))
    go_wp2_with fail
    go_ret
    exact ⟨rfl, below_drewN hbw2 _⟩
  · have hlt : sn < 0 := of_decide_eq_true hneg
    clear hneg
    go_enter Try.func36, Try.ntmps36
    go_wp2_with fail
    generalize hW : World.alloc _ _ = W
    have B0 : Blk W w.heap.size #[.bool s, .slice base n c] := by rw [← hW]; exact (blk_new rfl).alloc _
    have B1 : Blk W (w.heap.size + 1) #[.bool t, .slice base' n' c'] := by rw [← hW]; exact blk_new (by simp)
    have hbW : Below w.heap.size w W := by rw [← hW]; exact ((Below.refl _ _).alloc (Nat.le_refl _) _).alloc (by simp) _
    have HS := Lib.hid (show W.heap.size = w.heap.size + 2 by rw [← hW]; simp)
    clear hW
    have HK := Lib.hid (show ∀ w1, Below W.heap.size W w1 → (w1.cell? ⟨w.heap.size, 0, none⟩ = some (.bool s) ∧ w1.cell? ⟨w.heap.size, 1, none⟩ = some (.slice base n c)) ∧ (w1.cell? ⟨w.heap.size + 1, 0, none⟩ = some (.bool t) ∧ w1.cell? ⟨w.heap.size + 1, 1, none⟩ = some (.slice base' n' c')) from
      fun w1 h => ⟨Blk2 (B0.kept h), Blk2 (B1.kept h)⟩)
    obtain ⟨⟨a0, a1⟩, b0, b1⟩ := HK.out _ (Below.refl _ _)
    clear B0 B1
    have HM := Lib.hid (show w.heap.size ≤ W.heap.size by have := HS.out; omega)
    go_region_held3 (fun w' => (w'.cell? ⟨w.heap.size, 0, none⟩ = some (.bool s) ∧ w'.cell? ⟨w.heap.size, 1, none⟩ = some (.slice base n c)) ∧ (w'.cell? ⟨w.heap.size + 1, 0, none⟩ = some (.bool t) ∧ w'.cell? ⟨w.heap.size + 1, 1, none⟩ = some (.slice base' n' c')))
      (first | exact ⟨⟨a0, a1⟩, b0, b1⟩ | exact HK.out _ hq2 | exact HK.out _ hq1)
      (first
        | (go_at_call_of 32 (Value.agg #[Value.bool s, Value.slice base n c]); refine (S1.out _ (by first | exact hbW | exact hbW.drew)).mono ?_; rintro e w1 ⟨rfl, hb1⟩; have hq1 : Below W.heap.size W w1 := (by first | exact hb1 | exact below_undrew hb1))
        | (go_at_call_of 32 (Value.agg #[Value.bool t, Value.slice base' n' c']); refine (S2.out _ (by exact hbW.trans (hq1.mono HM.out))).mono ?_; rintro e w2 ⟨rfl, hb2⟩; have hq2 : Below W.heap.size W w2 := hq1.trans (hb2.mono hq1.size)))
    obtain ⟨⟨a0, a1⟩, b0, b1⟩ := HK.out _ hq2
    have hbw2 : Below w.heap.size w w2 := hbW.trans (hq2.mono HM.out)
    clear hq1 hq2 hb1 hb2
    go_wp2_with fail
    go_quiet ((first
      | (go_at_call_of 75 (Value.slice base' n' c'); exact quiet_one (cut_any base' b' off' n' c' Y _ hb' (hY.kept hbw2).drewN hn' (by omega)))
      | (go_at_call_of 75 (Value.slice base n c); exact quiet_one (cut_any base b off n c X _ hb (hX.kept hbw2).drewN hn (by omega)))
      | (go_at_call 93; exact Calls.quiet_of (order_any base' base b' off' Y _ b off X _ _ (fun h => hb' (by omega)) (fun h => hb (by omega)) (((hY.fewer hnY (lt_nl _)).kept hbw2).drewN) (((hX.fewer hnX (lt_nl _)).kept hbw2).drewN) (by omega) (by omega)))))
    go_wp2_with fail
    go_ret
    exact ⟨rfl, below_drewN hbw2 _⟩
set_option maxHeartbeats 1600000 in
set_option maxRecDepth 100000 in
/-- Different signs. -/
theorem cmp_lt (s t : Bool) (base : Option Addr) (b off n c X : Nat) (base' : Option Addr) (b' off' n' c' Y : Nat) (w : World)
    (hb : n ≠ 0 → base = some ⟨b, off, none⟩) (hX : Num w b off n X) (hn : n ≤ c) (hl : n ≤ 1000000000)
    (hb' : n' ≠ 0 → base' = some ⟨b', off', none⟩) (hY : Num w b' off' n' Y) (hn' : n' ≤ c') (hl' : n' ≤ 1000000000) (hsg : (sg s X).sign < (sg t Y).sign) :
    Calls Try.prog 36 #[.agg #[.bool s, .slice base n c], .agg #[.bool t, .slice base' n' c']] w fun e w' => e = .returned (.int .i64 (-1)) ∧ Below w.heap.size w w' := by
  have hnX := nl_le hX.lt
  have hnY := nl_le hY.lt
  have I1 : IsInt w (.agg #[.bool s, .slice base n c]) (sg s X) := ⟨s, base, b, off, n, c, X, rfl, hb, hX, hn, hl, rfl⟩
  have I2 : IsInt w (.agg #[.bool t, .slice base' n' c']) (sg t Y) := ⟨t, base', b', off', n', c', Y, rfl, hb', hY, hn', hl', rfl⟩
  generalize sg s X = z1 at *
  generalize sg t Y = z2 at *
  have S1 := Lib.hid (fun W (h : Below w.heap.size w W) => sign_any _ _ W (I1.kept h))
  have S2 := Lib.hid (fun W (h : Below w.heap.size w W) => sign_any _ _ W (I2.kept h))
  generalize z1.sign = sn at *
  generalize z2.sign = sm at *
  clear I1 I2 hnX hnY
  go_enter Try.func36, Try.ntmps36
  go_wp2_with fail
  generalize hW : World.alloc _ _ = W
  have B0 : Blk W w.heap.size #[.bool s, .slice base n c] := by rw [← hW]; exact (blk_new rfl).alloc _
  have B1 : Blk W (w.heap.size + 1) #[.bool t, .slice base' n' c'] := by rw [← hW]; exact blk_new (by simp)
  have hbW : Below w.heap.size w W := by rw [← hW]; exact ((Below.refl _ _).alloc (Nat.le_refl _) _).alloc (by simp) _
  have HS := Lib.hid (show W.heap.size = w.heap.size + 2 by rw [← hW]; simp)
  clear hW
  have HK := Lib.hid (show ∀ w1, Below W.heap.size W w1 → (w1.cell? ⟨w.heap.size, 0, none⟩ = some (.bool s) ∧ w1.cell? ⟨w.heap.size, 1, none⟩ = some (.slice base n c)) ∧ (w1.cell? ⟨w.heap.size + 1, 0, none⟩ = some (.bool t) ∧ w1.cell? ⟨w.heap.size + 1, 1, none⟩ = some (.slice base' n' c')) from
    fun w1 h => ⟨Blk2 (B0.kept h), Blk2 (B1.kept h)⟩)
  obtain ⟨⟨a0, a1⟩, b0, b1⟩ := HK.out _ (Below.refl _ _)
  clear B0 B1
  have HM := Lib.hid (show w.heap.size ≤ W.heap.size by have := HS.out; omega)
  go_region_held3 (fun w' => (w'.cell? ⟨w.heap.size, 0, none⟩ = some (.bool s) ∧ w'.cell? ⟨w.heap.size, 1, none⟩ = some (.slice base n c)) ∧ (w'.cell? ⟨w.heap.size + 1, 0, none⟩ = some (.bool t) ∧ w'.cell? ⟨w.heap.size + 1, 1, none⟩ = some (.slice base' n' c')))
    (first | exact ⟨⟨a0, a1⟩, b0, b1⟩ | exact HK.out _ hq2 | exact HK.out _ hq1)
    (first
      | (go_at_call_of 32 (Value.agg #[Value.bool s, Value.slice base n c]); refine (S1.out _ (by first | exact hbW | exact hbW.drew)).mono ?_; rintro e w1 ⟨rfl, hb1⟩; have hq1 : Below W.heap.size W w1 := (by first | exact hb1 | exact below_undrew hb1))
      | (go_at_call_of 32 (Value.agg #[Value.bool t, Value.slice base' n' c']); refine (S2.out _ (by exact hbW.trans (hq1.mono HM.out))).mono ?_; rintro e w2 ⟨rfl, hb2⟩; have hq2 : Below W.heap.size W w2 := hq1.trans (hb2.mono hq1.size)))
  obtain ⟨⟨a0, a1⟩, b0, b1⟩ := HK.out _ hq2
  have hbw2 : Below w.heap.size w w2 := hbW.trans (hq2.mono HM.out)
  clear hq1 hq2 hb1 hb2
  go_wp2_with fail
  go_ret
  exact ⟨rfl, hbw2⟩
set_option maxHeartbeats 1600000 in
set_option maxRecDepth 100000 in
/-- Different signs. -/
theorem cmp_gt (s t : Bool) (base : Option Addr) (b off n c X : Nat) (base' : Option Addr) (b' off' n' c' Y : Nat) (w : World)
    (hb : n ≠ 0 → base = some ⟨b, off, none⟩) (hX : Num w b off n X) (hn : n ≤ c) (hl : n ≤ 1000000000)
    (hb' : n' ≠ 0 → base' = some ⟨b', off', none⟩) (hY : Num w b' off' n' Y) (hn' : n' ≤ c') (hl' : n' ≤ 1000000000) (hsg : (sg t Y).sign < (sg s X).sign) :
    Calls Try.prog 36 #[.agg #[.bool s, .slice base n c], .agg #[.bool t, .slice base' n' c']] w fun e w' => e = .returned (.int .i64 1) ∧ Below w.heap.size w w' := by
  have hnX := nl_le hX.lt
  have hnY := nl_le hY.lt
  have I1 : IsInt w (.agg #[.bool s, .slice base n c]) (sg s X) := ⟨s, base, b, off, n, c, X, rfl, hb, hX, hn, hl, rfl⟩
  have I2 : IsInt w (.agg #[.bool t, .slice base' n' c']) (sg t Y) := ⟨t, base', b', off', n', c', Y, rfl, hb', hY, hn', hl', rfl⟩
  generalize sg s X = z1 at *
  generalize sg t Y = z2 at *
  have S1 := Lib.hid (fun W (h : Below w.heap.size w W) => sign_any _ _ W (I1.kept h))
  have S2 := Lib.hid (fun W (h : Below w.heap.size w W) => sign_any _ _ W (I2.kept h))
  generalize z1.sign = sn at *
  generalize z2.sign = sm at *
  clear I1 I2 hnX hnY
  have hng : ¬ sn < sm := by omega
  go_enter Try.func36, Try.ntmps36
  go_wp2_with fail
  generalize hW : World.alloc _ _ = W
  have B0 : Blk W w.heap.size #[.bool s, .slice base n c] := by rw [← hW]; exact (blk_new rfl).alloc _
  have B1 : Blk W (w.heap.size + 1) #[.bool t, .slice base' n' c'] := by rw [← hW]; exact blk_new (by simp)
  have hbW : Below w.heap.size w W := by rw [← hW]; exact ((Below.refl _ _).alloc (Nat.le_refl _) _).alloc (by simp) _
  have HS := Lib.hid (show W.heap.size = w.heap.size + 2 by rw [← hW]; simp)
  clear hW
  have HK := Lib.hid (show ∀ w1, Below W.heap.size W w1 → (w1.cell? ⟨w.heap.size, 0, none⟩ = some (.bool s) ∧ w1.cell? ⟨w.heap.size, 1, none⟩ = some (.slice base n c)) ∧ (w1.cell? ⟨w.heap.size + 1, 0, none⟩ = some (.bool t) ∧ w1.cell? ⟨w.heap.size + 1, 1, none⟩ = some (.slice base' n' c')) from
    fun w1 h => ⟨Blk2 (B0.kept h), Blk2 (B1.kept h)⟩)
  obtain ⟨⟨a0, a1⟩, b0, b1⟩ := HK.out _ (Below.refl _ _)
  clear B0 B1
  have HM := Lib.hid (show w.heap.size ≤ W.heap.size by have := HS.out; omega)
  go_region_held3 (fun w' => (w'.cell? ⟨w.heap.size, 0, none⟩ = some (.bool s) ∧ w'.cell? ⟨w.heap.size, 1, none⟩ = some (.slice base n c)) ∧ (w'.cell? ⟨w.heap.size + 1, 0, none⟩ = some (.bool t) ∧ w'.cell? ⟨w.heap.size + 1, 1, none⟩ = some (.slice base' n' c')))
    (first | exact ⟨⟨a0, a1⟩, b0, b1⟩ | exact HK.out _ hq2 | exact HK.out _ hq1)
    (first
      | (go_at_call_of 32 (Value.agg #[Value.bool s, Value.slice base n c]); refine (S1.out _ (by first | exact hbW | exact hbW.drew)).mono ?_; rintro e w1 ⟨rfl, hb1⟩; have hq1 : Below W.heap.size W w1 := (by first | exact hb1 | exact below_undrew hb1))
      | (go_at_call_of 32 (Value.agg #[Value.bool t, Value.slice base' n' c']); refine (S2.out _ (by exact hbW.trans (hq1.mono HM.out))).mono ?_; rintro e w2 ⟨rfl, hb2⟩; have hq2 : Below W.heap.size W w2 := hq1.trans (hb2.mono hq1.size)))
  obtain ⟨⟨a0, a1⟩, b0, b1⟩ := HK.out _ hq2
  have hbw2 : Below w.heap.size w w2 := hbW.trans (hq2.mono HM.out)
  clear hq1 hq2 hb1 hb2
  go_wp2_with fail
  go_ret
  exact ⟨rfl, hbw2⟩
/-- integer.Cmp. -/
theorem cmp_any (v1 v2 : Value) (z1 z2 : Int) (w : World) (h1 : IsInt w v1 z1) (h2 : IsInt w v2 z2) :
    Calls Try.prog 36 #[v1, v2] w fun e w' => e = .returned (.int .i64 (cmpi z1 z2)) ∧ Below w.heap.size w w' := by
  obtain ⟨s, base, b, off, n, c, X, rfl, hb, hX, hn, hl, rfl⟩ := h1
  obtain ⟨t, base', b', off', n', c', Y, rfl, hb', hY, hn', hl', rfl⟩ := h2
  have k1 := sign_vals (sg s X)
  have k2 := sign_vals (sg t Y)
  rcases Int.lt_trichotomy (sg s X).sign (sg t Y).sign with h | h | h
  · rw [show cmpi (sg s X) (sg t Y) = -1 by unfold cmpi; rw [if_pos (by omega)]]
    exact cmp_lt s t base b off n c X base' b' off' n' c' Y w hb hX hn hl hb' hY hn' hl' h
  · have key : cmpi (sg s X) (sg t Y) = if decide ((sg s X).sign < 0) then cmpi Y X else cmpi X Y := by
      by_cases hneg : (sg s X).sign < 0
      · rw [if_pos (by simpa using hneg)]
        have e1 : sg s X = -(X : Int) := sg_of_neg (by omega)
        have e2 : sg t Y = -(Y : Int) := sg_of_neg (by omega)
        rw [e1, e2, cmpi_neg]
      · rw [if_neg (by simpa using hneg)]
        have e1 : sg s X = (X : Int) := sg_of_nonneg (by omega)
        have e2 : sg t Y = (Y : Int) := sg_of_nonneg (by omega)
        rw [e1, e2]
    rw [key]
    exact cmp_same s t base b off n c X base' b' off' n' c' Y w hb hX hn hl hb' hY hn' hl' h _ rfl
  · rw [show cmpi (sg s X) (sg t Y) = 1 by unfold cmpi; rw [if_neg (by omega), if_pos (by omega)]]
    exact cmp_gt s t base b off n c X base' b' off' n' c' Y w hb hX hn hl hb' hY hn' hl' h
end Go.Proofs.Ytdgfmkideghhaaa
