/-
  integer.Mul.
  integer.Quo.
-/
import Derived.Test.YtkokokgmhpkoiaaM10
import Derived.Test.YtkokokgmhpkoiaaM11
namespace PB
theorem sg_mul (s t : Bool) (X Y : Nat) : sg s X * sg t Y = sg (s != t) (X * Y) := by
  unfold sg
  cases s <;> cases t <;> simp [Int.neg_mul, Int.mul_neg]
end PB
namespace Go.Proofs.Ytkokokgmhpkoiaa
open Go.RowKit PB

theorem bnd_form (s : Bool) (q : Option Addr) (n m Z : Nat) : ∃ r p k l er, bnd (.agg #[.bool s, .slice q n m]) Z = .tuple #[.agg #[.bool r, .slice p k l], .int .i64 er] := by
  by_cases h : 256 < nl Z
  · exact ⟨_, _, _, _, _, bnd_big _ h⟩
  · exact ⟨_, _, _, _, _, bnd_ok _ h⟩
set_option maxHeartbeats 1600000 in
set_option maxRecDepth 100000 in
/-- Mul refuses a number that is large. -/
theorem mul_large (v1 v2 : Value) (z1 z2 : Int) (w : World) (h1 : IsInt w v1 z1) (h2 : IsInt w v2 z2) (hbig : big z1 ∨ big z2) :
    Calls Try.prog 14 #[v1, v2] w (RetIntE w 0 2) := by
  obtain ⟨s, base, b, off, n, c, X, rfl, hb, hX, hn, hl, rfl⟩ := h1
  obtain ⟨t, base', b', off', n', c', Y, rfl, hb', hY, hn', hl', rfl⟩ := h2
  rw [big_sg, big_sg] at hbig
  go_enter Try.func14, Try.ntmps14
  go_wp2_with fail
  generalize hW : World.alloc _ _ = W
  have B2 : Blk W (w.heap.size + 1 + 1) #[.bool false, .slice none 0 0] := by rw [← hW]; exact (blk_new (by simp)).alloc _
  have B3 : Blk W (w.heap.size + 1 + 1 + 1) #[.bool s, .slice base n c, .bool t, .slice base' n' c'] := by rw [← hW]; exact blk_new (by simp)
  have hbW : Below w.heap.size w W := by rw [← hW]; exact ((((Below.refl _ _).alloc (Nat.le_refl _) _).alloc (by simp) _).alloc (by simp; omega) _).alloc (by simp; omega) _
  have HS := Lib.hid (show W.heap.size = w.heap.size + 4 by rw [← hW]; simp)
  clear hW
  have call := large_two (w.heap.size + 1 + 1 + 1) s t base base' b off n c X b' off' n' c' Y W (B3.cell 0 _ rfl) (B3.cell 1 _ rfl) (B3.cell 2 _ rfl) (B3.cell 3 _ rfl) hb (hX.kept hbW) hn (by omega) hb' (hY.kept hbW) hn' (by omega)
  rw [decide_eq_true hbig] at call
  refine call.mono ?_
  clear call
  rintro e w1 ⟨rfl, hb1⟩
  obtain ⟨c0, c1⟩ := Blk2 (B2.kept hb1)
  obtain ⟨f0, f1⟩ := Blk2f (B2.kept hb1)
  go_wp2_with fail
  have hsz := HS.out
  refine bodyPost_ret (v := .tuple #[.agg #[.bool false, .slice none 0 0], .int .i64 2]) (by simp [results, Try.results14, go_sem, c0, c1]) rfl ⟨_, rfl, can_zero _ _, ?_⟩
  exact ((hbW.trans (hb1.mono (by omega))).setCell (by show w.heap.size ≤ w.heap.size + 1 + 1; omega) _).setCell (by show w.heap.size ≤ w.heap.size + 1 + 1; omega) _

set_option maxHeartbeats 3200000 in
set_option maxRecDepth 100000 in
/-- Mul, at two numbers that are not large. -/
theorem mul_small (s t : Bool) (base : Option Addr) (b off n c X : Nat) (base' : Option Addr) (b' off' n' c' Y : Nat) (w : World)
    (hb : n ≠ 0 → base = some ⟨b, off, none⟩) (hX : Num w b off n X) (hn : n ≤ c) (hl : n ≤ 1000000000)
    (hb' : n' ≠ 0 → base' = some ⟨b', off', none⟩) (hY : Num w b' off' n' Y) (hn' : n' ≤ c') (hl' : n' ≤ 1000000000) (hsX : ¬ (256 < nl X ∨ 256 < nl Y)) (er : Int) (z : Int) (sm : Bool) (hsm : (!(s == t)) = sm)
    (hbz : (256 < nl (X * Y) ∧ er = 2 ∧ z = 0) ∨ (¬ 256 < nl (X * Y) ∧ er = 0 ∧ z = sg sm (X * Y))) :
    Calls Try.prog 14 #[.agg #[.bool s, .slice base n c], .agg #[.bool t, .slice base' n' c']] w (RetIntE w z er) := by
  have hnX := nl_le hX.lt
  have hnY := nl_le hY.lt
  have HZ := Lib.hid hbz
  clear hbz
  go_enter Try.func14, Try.ntmps14
  go_wp2_with fail
  generalize hW : World.alloc _ _ = W
  have B0 : Blk W w.heap.size #[.bool s, .slice base n c] := by rw [← hW]; exact (((blk_new rfl).alloc _).alloc _).alloc _
  have B1 : Blk W (w.heap.size + 1) #[.bool t, .slice base' n' c'] := by rw [← hW]; exact ((blk_new (by simp)).alloc _).alloc _
  have B2 : Blk W (w.heap.size + 1 + 1) #[.bool false, .slice none 0 0] := by rw [← hW]; exact (blk_new (by simp)).alloc _
  have B3 : Blk W (w.heap.size + 1 + 1 + 1) #[.bool s, .slice base n c, .bool t, .slice base' n' c'] := by rw [← hW]; exact blk_new (by simp)
  have hbW : Below w.heap.size w W := by rw [← hW]; exact ((((Below.refl _ _).alloc (Nat.le_refl _) _).alloc (by simp) _).alloc (by simp; omega) _).alloc (by simp; omega) _
  have HS := Lib.hid (show W.heap.size = w.heap.size + 4 by rw [← hW]; simp)
  clear hW
  have call := large_two (w.heap.size + 1 + 1 + 1) s t base base' b off n c X b' off' n' c' Y W (B3.cell 0 _ rfl) (B3.cell 1 _ rfl) (B3.cell 2 _ rfl) (B3.cell 3 _ rfl) hb (hX.kept hbW) hn (by omega) hb' (hY.kept hbW) hn' (by omega)
  rw [decide_eq_false hsX] at call
  refine call.mono ?_
  clear call
  rintro e w1 ⟨rfl, hb1⟩
  have hbw1 : Below w.heap.size w w1 := hbW.trans (hb1.mono (by have := HS.out; omega))
  have B0' := B0.kept hb1
  have B1' := B1.kept hb1
  have B2' := B2.kept hb1
  have HS' := Lib.hid (show w.heap.size + 4 ≤ w1.heap.size by have := HS.out; have := hb1.size; omega)
  clear B0 B1 B2 B3 hbW HS hb1
  have HK := Lib.hid (show ∀ w2, Below w1.heap.size w1 w2 → (w2.cell? ⟨w.heap.size, 0, none⟩ = some (.bool s) ∧ w2.cell? ⟨w.heap.size, 1, none⟩ = some (.slice base n c)) ∧ (w2.cell? ⟨w.heap.size + 1, 0, none⟩ = some (.bool t) ∧ w2.cell? ⟨w.heap.size + 1, 1, none⟩ = some (.slice base' n' c')) from
    fun w2 h => ⟨Blk2 (B0'.kept h), Blk2 (B1'.kept h)⟩)
  have HL := Lib.hid (show ∀ w2, Below w1.heap.size w1 w2 → Blk w2 (w.heap.size + 1 + 1) #[.bool false, .slice none 0 0] from fun w2 h => B2'.kept h)
  obtain ⟨⟨a0, a1⟩, b0, b1⟩ := HK.out _ (Below.refl _ _)
  clear B0' B1' B2'
  have hX1 := hX.kept hbw1
  have hY1 := hY.kept hbw1
  have HK4 := Lib.hid (show ∀ (w4 : World) (u0 u1 : Value), ((w4.cell? ⟨w.heap.size, 0, none⟩ = some (.bool s) ∧ w4.cell? ⟨w.heap.size, 1, none⟩ = some (.slice base n c)) ∧ (w4.cell? ⟨w.heap.size + 1, 0, none⟩ = some (.bool t) ∧ w4.cell? ⟨w.heap.size + 1, 1, none⟩ = some (.slice base' n' c'))) → ((((w4.setCell ⟨w.heap.size + 1 + 1, 0, none⟩ u0).setCell ⟨w.heap.size + 1 + 1, 1, none⟩ u1).cell? ⟨w.heap.size, 0, none⟩ = some (.bool s) ∧ ((w4.setCell ⟨w.heap.size + 1 + 1, 0, none⟩ u0).setCell ⟨w.heap.size + 1 + 1, 1, none⟩ u1).cell? ⟨w.heap.size, 1, none⟩ = some (.slice base n c)) ∧ (((w4.setCell ⟨w.heap.size + 1 + 1, 0, none⟩ u0).setCell ⟨w.heap.size + 1 + 1, 1, none⟩ u1).cell? ⟨w.heap.size + 1, 0, none⟩ = some (.bool t) ∧ ((w4.setCell ⟨w.heap.size + 1 + 1, 0, none⟩ u0).setCell ⟨w.heap.size + 1 + 1, 1, none⟩ u1).cell? ⟨w.heap.size + 1, 1, none⟩ = some (.slice base' n' c'))) from fun w4 u0 u1 h =>
    ⟨⟨cell_other (cell_other h.1.1 (show w.heap.size ≠ w.heap.size + 1 + 1 by omega)) (show w.heap.size ≠ w.heap.size + 1 + 1 by omega), cell_other (cell_other h.1.2 (show w.heap.size ≠ w.heap.size + 1 + 1 by omega)) (show w.heap.size ≠ w.heap.size + 1 + 1 by omega)⟩,
      cell_other (cell_other h.2.1 (show w.heap.size + 1 ≠ w.heap.size + 1 + 1 by omega)) (show w.heap.size + 1 ≠ w.heap.size + 1 + 1 by omega), cell_other (cell_other h.2.2 (show w.heap.size + 1 ≠ w.heap.size + 1 + 1 by omega)) (show w.heap.size + 1 ≠ w.heap.size + 1 + 1 by omega)⟩)
  go_wp2_with fail
  go_region_held3 (fun w' => (w'.cell? ⟨w.heap.size, 0, none⟩ = some (.bool s) ∧ w'.cell? ⟨w.heap.size, 1, none⟩ = some (.slice base n c)) ∧ (w'.cell? ⟨w.heap.size + 1, 0, none⟩ = some (.bool t) ∧ w'.cell? ⟨w.heap.size + 1, 1, none⟩ = some (.slice base' n' c')))
    (first | exact ⟨⟨a0, a1⟩, b0, b1⟩ | exact HK.out _ hq3 | exact HK.out _ hq2 | exact HK.out _ hq1 | exact HK4.out _ _ _ (HK.out _ hq3))
    (first
      | (go_at_call_of 75 (Value.slice base n c); refine (cut_any base b off n c X _ hb (by exact hX1) hn (by omega)).mono ?_; rintro e w' ⟨rfl, rfl⟩)
      | (go_at_call_of 75 (Value.slice base' n' c'); refine (cut_any base' b' off' n' c' Y _ hb' (by exact hY1) hn' (by omega)).mono ?_; rintro e w' ⟨rfl, rfl⟩)
      | (go_at_call 74; refine (times_any base base' b off (nl X) (nl X) X b' off' (nl Y) (nl Y) Y _ (fun h => hb (by omega)) (fun h => hb' (by omega)) (by exact hX1.fewer hnX (lt_nl X)) (by exact hY1.fewer hnY (lt_nl Y)) (by omega) (by omega)).mono ?_; rintro e w2 ⟨rfl, hF⟩; have hq1 : Below w1.heap.size w1 w2 := (by first | exact hF.below | exact below_undrew hF.below); have hnum0 : Num w2 w1.heap.size 0 (nl X + nl Y) (X * Y) := (by exact hF.num))
      | (go_at_call 73; refine (number_any sm _ _ 0 _ _ (X * Y) _ (fun _ => rfl) (by exact hnum0) (Nat.le_refl _) (by omega)).mono ?_; rintro e w3 ⟨rfl, hb3⟩
         have hq2 : Below w1.heap.size w1 w3 := hq1.trans (hb3.mono hq1.size)
         have hnum := hnum0.kept hb3
         have hcan : IsCan w1.heap.size w3 (intv sm (some ⟨w1.heap.size, 0, none⟩) (X * Y)) (sg sm (X * Y)) := can_intv (n := nl X + nl Y) (fun _ => rfl) hnum (by have := nl_le hnum.lt; omega) (fun _ => by omega)
         obtain ⟨s', q, g, o, Z, m, hv, hq, hZ, hm, hml, hzz, hsz, hgN⟩ := hcan
         rw [hv]
         have HV := Lib.hid hv
         have HZZ := Lib.hid hzz
         clear hv hzz)
      | (go_at_call 71; refine (bounded_any s' q g o (nl Z) m Z _ hq (by exact hZ) hm (by omega)).mono ?_; rintro e w4 ⟨rfl, hb4⟩
         have hq3 : Below w1.heap.size w1 w4 := hq2.trans (hb4.mono hq2.size)
         obtain ⟨c0, c1⟩ := Blk2 (HL.out _ hq3)
         obtain ⟨f0, f1⟩ := Blk2f (HL.out _ hq3)
         obtain ⟨r', p', k', l', er', hbn⟩ := bnd_form s' q (nl Z) m Z
         rw [hbn]
         have HBN := Lib.hid hbn
         clear hbn))
  go_wp2_with fail
  have hsize := HS'.out
  have hZX : X * Y = Z := by have h := congrArg Int.natAbs HZZ.out; rwa [sg_natAbs, sg_natAbs] at h
  have hbw4 : Below w.heap.size w w4 := hbw1.trans (hq3.mono (by omega))
  refine bodyPost_ret (v := .tuple #[.agg #[.bool r', .slice p' k' l'], .int .i64 er']) (by simp [results, Try.results14, go_sem, c0, c1]) rfl ?_
  rcases HZ.out with ⟨h1, h2, h3⟩ | ⟨h1, h2, h3⟩
  · have h4 := HBN.out
    rw [bnd_big _ (by rw [← hZX]; exact h1)] at h4
    simp only [Value.tuple.injEq, Array.mk.injEq, List.cons.injEq, Value.int.injEq, true_and, and_true] at h4
    rw [← h4.1, ← h4.2, h2, h3]
    exact ⟨_, rfl, can_zero _ _, (hbw4.setCell (by show w.heap.size ≤ w.heap.size + 1 + 1; omega) _).setCell (by show w.heap.size ≤ w.heap.size + 1 + 1; omega) _⟩
  · have h4 := HBN.out
    rw [bnd_ok _ (by rw [← hZX]; exact h1)] at h4
    simp only [Value.tuple.injEq, Array.mk.injEq, List.cons.injEq, Value.int.injEq, true_and, and_true] at h4
    rw [← h4.1, ← h4.2, h2, h3, HZZ.out]
    have hcan : IsCan w1.heap.size w4 (.agg #[.bool s', .slice q (nl Z) m]) (sg s' Z) := ⟨s', q, g, o, Z, m, rfl, hq, hZ.kept hb4, hm, hml, rfl, hsz, hgN⟩
    exact ⟨_, rfl, ((hcan.set (by show w.heap.size + 1 + 1 < _; omega) _).set (by show w.heap.size + 1 + 1 < _; omega) _).mono (by omega), (hbw4.setCell (by show w.heap.size ≤ w.heap.size + 1 + 1; omega) _).setCell (by show w.heap.size ≤ w.heap.size + 1 + 1; omega) _⟩
/-- integer.Mul: the product, or ErrSize. -/
theorem mul_any (v1 v2 : Value) (z1 z2 : Int) (w : World) (h1 : IsInt w v1 z1) (h2 : IsInt w v2 z2) :
    Calls Try.prog 14 #[v1, v2] w (RetIntE w (if big z1 ∨ big z2 ∨ big (z1 * z2) then 0 else z1 * z2) (if big z1 ∨ big z2 ∨ big (z1 * z2) then 2 else 0)) := by
  by_cases h : big z1 ∨ big z2
  · have h' : big z1 ∨ big z2 ∨ big (z1 * z2) := by rcases h with h | h; exact Or.inl h; exact Or.inr (Or.inl h)
    rw [if_pos h', if_pos h']
    exact mul_large v1 v2 z1 z2 w h1 h2 h
  · obtain ⟨s, base, b, off, n, c, X, rfl, hb, hX, hn, hl, rfl⟩ := h1
    obtain ⟨t, base', b', off', n', c', Y, rfl, hb', hY, hn', hl', rfl⟩ := h2
    have e : (big (sg s X) ∨ big (sg t Y) ∨ big (sg s X * sg t Y)) = (256 < nl (X * Y)) := by
      rw [sg_mul, big_sg (s != t)]
      refine propext ⟨fun h' => ?_, fun h' => Or.inr (Or.inr h')⟩
      rcases h' with h' | h' | h'
      · exact absurd (Or.inl h') h
      · exact absurd (Or.inr h') h
      · exact h'
    simp only [e]
    rw [big_sg, big_sg] at h
    refine mul_small s t base b off n c X base' b' off' n' c' Y w hb hX hn hl hb' hY hn' hl' h _ _ (s != t) rfl ?_
    by_cases hz : 256 < nl (X * Y)
    · exact Or.inl ⟨hz, if_pos hz, if_pos hz⟩
    · exact Or.inr ⟨hz, if_neg hz, by rw [if_neg hz, sg_mul]⟩
end Go.Proofs.Ytkokokgmhpkoiaa

namespace PB
open Go Go.RowKit
/-- The call returns two canonical Ints and an error number. -/
def RetIntIntE (w : World) (z1 z2 err : Int) (e : Ending) (w' : World) : Prop :=
  ∃ v1 v2, e = .returned (.tuple #[v1, v2, .int .i64 err]) ∧ IsCan w.heap.size w' v1 z1 ∧ IsCan w.heap.size w' v2 z2 ∧ Below w.heap.size w w'
end PB
namespace Go.Proofs.Ytkokokgmhpkoiaa
open Go.RowKit PB

set_option maxHeartbeats 3200000 in
set_option maxRecDepth 100000 in
/-- Quo, where the numbers are not large and the divisor is not 0, by what divide does. -/
theorem quo_ok (s t : Bool) (base : Option Addr) (b off n c X : Nat) (base' : Option Addr) (b' off' n' c' Y : Nat) (w : World)
    (hb : n ≠ 0 → base = some ⟨b, off, none⟩) (hX : Num w b off n X) (hn : n ≤ c) (hl : n ≤ 1000000000)
    (hb' : n' ≠ 0 → base' = some ⟨b', off', none⟩) (hY : Num w b' off' n' Y) (hn' : n' ≤ c') (hl' : n' ≤ 1000000000) (hsX : ¬ (256 < nl X ∨ 256 < nl Y)) (hY0 : Y ≠ 0) (sm : Bool) (hsm : (!(s == t)) = sm)
    (hdiv : ∀ W, Below w.heap.size w W → Calls Try.prog 76 #[.slice base (nl X) (nl X), .slice base' (nl Y) (nl Y)] W (RetDiv W X Y)) :
    Calls Try.prog 15 #[.agg #[.bool s, .slice base n c], .agg #[.bool t, .slice base' n' c']] w (RetIntIntE w (sg sm (X / Y)) (sg s (X % Y)) 0) := by
  have hnX := nl_le hX.lt
  have hnY := nl_le hY.lt
  have HD := Lib.hid hdiv
  have HB := Lib.hid hb
  have HB' := Lib.hid hb'
  have hz : ((nl Y : Int) == 0) = false := by have := mt nl_eq_zero.1 hY0; simp; omega
  clear hdiv hb hb'
  go_enter Try.func15, Try.ntmps15
  go_wp2_with fail
  generalize hW : World.alloc _ _ = W
  have B0 : Blk W w.heap.size #[.bool s, .slice base n c] := by rw [← hW]; exact ((((blk_new rfl).alloc _).alloc _).alloc _).alloc _
  have B1 : Blk W (w.heap.size + 1) #[.bool t, .slice base' n' c'] := by rw [← hW]; exact (((blk_new (by simp)).alloc _).alloc _).alloc _
  have B2 : Blk W (w.heap.size + 1 + 1) #[.bool false, .slice none 0 0] := by rw [← hW]; exact ((blk_new (by simp)).alloc _).alloc _
  have B3 : Blk W (w.heap.size + 1 + 1 + 1) #[.bool false, .slice none 0 0] := by rw [← hW]; exact (blk_new (by simp)).alloc _
  have B4 : Blk W (w.heap.size + 1 + 1 + 1 + 1) #[.bool s, .slice base n c, .bool t, .slice base' n' c'] := by rw [← hW]; exact blk_new (by simp)
  have hbW : Below w.heap.size w W := by rw [← hW]; exact (((((Below.refl _ _).alloc (Nat.le_refl _) _).alloc (by simp) _).alloc (by simp; omega) _).alloc (by simp; omega) _).alloc (by simp; omega) _
  have HS := Lib.hid (show W.heap.size = w.heap.size + 5 by rw [← hW]; simp)
  clear hW
  have call := large_two (w.heap.size + 1 + 1 + 1 + 1) s t base base' b off n c X b' off' n' c' Y W (B4.cell 0 _ rfl) (B4.cell 1 _ rfl) (B4.cell 2 _ rfl) (B4.cell 3 _ rfl) HB.out (hX.kept hbW) hn (by omega) HB'.out (hY.kept hbW) hn' (by omega)
  rw [decide_eq_false hsX] at call
  refine call.mono ?_
  clear call
  rintro e w1 ⟨rfl, hb1⟩
  have hbw1 : Below w.heap.size w w1 := hbW.trans (hb1.mono (by have := HS.out; omega))
  obtain ⟨a0, a1⟩ := Blk2 (B0.kept hb1)
  obtain ⟨b0, b1⟩ := Blk2 (B1.kept hb1)
  have B0' := B0.kept hb1
  have B1' := B1.kept hb1
  have B2' := B2.kept hb1
  have B3' := B3.kept hb1
  have HS' := Lib.hid (show w.heap.size + 5 ≤ w1.heap.size by have := HS.out; have := hb1.size; omega)
  clear B0 B1 B2 B3 B4 hbW HS hb1
  have hX1 := hX.kept hbw1
  have hY1 := hY.kept hbw1
  go_wp2_with (first
      | (go_at_call_of 75 (Value.slice base n c); refine (cut_any base b off n c X _ HB.out (by exact hX1) hn (by omega)).mono ?_; rintro e w' ⟨rfl, rfl⟩)
      | (go_at_call_of 75 (Value.slice base' n' c'); refine (cut_any base' b' off' n' c' Y _ HB'.out (by exact hY1) hn' (by omega)).mono ?_; rintro e w' ⟨rfl, rfl⟩))
  refine (HD.out _ hbw1).mono ?_
  rintro e w2 ⟨vq, vr, rfl, ⟨qb, qg, qo, qn, qc, rfl, hq1, hq2, hq3, hq4, hq5⟩, ⟨rb, rg, ro, rn, rc, rfl, hr1, hr2, hr3, hr4, hr5, _⟩, hb2⟩
  have hbw2 : Below w.heap.size w w2 := hbw1.trans (hb2.mono (by have := HS'.out; omega))
  have HQ1 := Lib.hid hq1
  have HR1 := Lib.hid hr1
  have HQ5 := Lib.hid hq5
  have HR5 := Lib.hid hr5
  have B0'' := B0'.kept hb2
  have B1'' := B1'.kept hb2
  obtain ⟨a0, a1⟩ := Blk2 B0''
  obtain ⟨b0, b1⟩ := Blk2 B1''
  have HM := Lib.hid (show w.heap.size + 5 ≤ w2.heap.size by have := HS'.out; have := hb2.size; omega)
  have HK := Lib.hid (show ∀ w3, Below w2.heap.size w2 w3 → w3.cell? ⟨w.heap.size, 0, none⟩ = some (.bool s) ∧ w3.cell? ⟨w.heap.size + 1, 0, none⟩ = some (.bool t) from fun w3 h => ⟨(Blk2 (B0''.kept h)).1, (Blk2 (B1''.kept h)).1⟩)
  have HL := Lib.hid (show ∀ w3, Below w2.heap.size w2 w3 → Blk w3 (w.heap.size + 1 + 1) #[.bool false, .slice none 0 0] ∧ Blk w3 (w.heap.size + 1 + 1 + 1) #[.bool false, .slice none 0 0] from fun w3 h => ⟨(B2'.kept hb2).kept h, (B3'.kept hb2).kept h⟩)
  clear hq1 hr1 hq5 hr5 a1 b1 B0' B1' B2' B3' B0'' B1''
  have HST := Lib.hid (show ∀ (w4 : World) (g j : Nat) (u : Value), (w4.cell? ⟨w.heap.size, 0, none⟩ = some (.bool s) ∧ w4.cell? ⟨w.heap.size + 1, 0, none⟩ = some (.bool t)) → w.heap.size + 1 < g → ((w4.setCell ⟨g, j, none⟩ u).cell? ⟨w.heap.size, 0, none⟩ = some (.bool s) ∧ (w4.setCell ⟨g, j, none⟩ u).cell? ⟨w.heap.size + 1, 0, none⟩ = some (.bool t)) from
    fun w4 g j u h hg => ⟨cell_other h.1 (show w.heap.size ≠ g by omega), cell_other h.2 (show w.heap.size + 1 ≠ g by omega)⟩)
  go_wp2_with fail
  go_region_held3 (fun w' => w'.cell? ⟨w.heap.size, 0, none⟩ = some (.bool s) ∧ w'.cell? ⟨w.heap.size + 1, 0, none⟩ = some (.bool t))
    (first | exact ⟨a0, b0⟩ | exact HK.out _ hk4 | exact HK.out _ hk3 | exact HST.out _ _ _ _ (HST.out _ _ _ _ (HK.out _ hk4) (by omega)) (by omega) | exact HST.out _ _ _ _ (HST.out _ _ _ _ (HST.out _ _ _ _ (HST.out _ _ _ _ (HK.out _ hk4) (by omega)) (by omega)) (by omega)) (by omega))
    (first
      | (go_at_call_of 73 (Value.slice qb qn qc); refine (number_any sm qb qg qo qn qc (X / Y) _ HQ1.out (by exact hq2) hq3 (by omega)).mono ?_; rintro e w3 ⟨rfl, hb3⟩
         have hk3 : Below w2.heap.size w2 w3 := (by first | exact hb3 | exact below_undrew hb3)
         obtain ⟨s1, p1, m1, hv1⟩ := intv_form sm qb (X / Y)
         rw [hv1]
         have HV1 := Lib.hid hv1
         clear hv1)
      | (go_at_call_of 73 (Value.slice rb rn rc); refine (number_any s rb rg ro rn rc (X % Y) _ HR1.out (by exact hr2.kept hk3) hr3 (by omega)).mono ?_; rintro e w4 ⟨rfl, hb4⟩
         have hk4 : Below w2.heap.size w2 w4 := hk3.trans (hb4.mono hk3.size)
         obtain ⟨s2, p2, m2, hv2⟩ := intv_form s rb (X % Y)
         rw [hv2]
         have HV2 := Lib.hid hv2
         clear hv2
         obtain ⟨c0, c1⟩ := Blk2 (HL.out _ hk4).1
         obtain ⟨f0, f1⟩ := Blk2f (HL.out _ hk4).1
         obtain ⟨d0, d1⟩ := Blk2 (HL.out _ hk4).2
         obtain ⟨g0, g1⟩ := Blk2f (HL.out _ hk4).2))
  go_wp2_with fail
  have h1 := HS'.out
  have h2 := HM.out
  refine bodyPost_ret (v := .tuple #[.agg #[.bool s1, .slice p1 m1 m1], .agg #[.bool s2, .slice p2 m2 m2], .int .i64 0]) (by simp [results, Try.results15, go_sem, c0, c1, d0, d1]) rfl ⟨_, _, rfl, ?_, ?_, ?_⟩
  · rw [← HV1.out]
    refine can_intv (n := qn) HQ1.out (((((hq2.kept hk4).other _ ?_).other _ ?_).other _ ?_).other _ ?_) (by have := nl_le hq2.lt; omega) (fun h => by have := HQ5.out h; omega)
    all_goals (intro h; have := HQ5.out h; simp only []; omega)
  · rw [← HV2.out]
    refine can_intv (n := rn) HR1.out (((((hr2.kept hk4).other _ ?_).other _ ?_).other _ ?_).other _ ?_) (by have := nl_le hr2.lt; omega) (fun h => by have := HR5.out h; omega)
    all_goals (intro h; have := HR5.out h; simp only []; omega)
  · exact ((((hbw2.trans (hk4.mono (by omega))).setCell (by show w.heap.size ≤ w.heap.size + 1 + 1; omega) _).setCell (by show w.heap.size ≤ w.heap.size + 1 + 1; omega) _).setCell (by show w.heap.size ≤ w.heap.size + 1 + 1 + 1; omega) _).setCell (by show w.heap.size ≤ w.heap.size + 1 + 1 + 1; omega) _
end Go.Proofs.Ytkokokgmhpkoiaa
