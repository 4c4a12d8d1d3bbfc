/-
  integer.Add, Sub and Mul.
  integer.Mul.
-/
import Derived.Test.YtdgfmkideghhaaaM17
import Derived.Test.YtdgfmkideghhaaaM18
namespace Go.Proofs.Ytdgfmkideghhaaa
open Go.RowKit PB

theorem big_iff {s : Bool} {X : Nat} : big (sg s X) ↔ 256 < nl X := big_sg s X

set_option maxHeartbeats 1600000 in
set_option maxRecDepth 100000 in
/-- Add refuses a number that is large. -/
theorem add_large (v1 v2 : Value) (z1 z2 : Int) (w : World) (h1 : IsInt w v1 z1) (h2 : IsInt w v2 z2) (hbig : big z1 ∨ big z2) :
    Calls Try.prog 12 #[v1, v2] w (RetIntE w 0 2) := by
  obtain ⟨s, base, b, off, n, c, X, rfl, hb, hX, hn, hl, rfl⟩ := h1
  obtain ⟨t, base', b', off', n', c', Y, rfl, hb', hY, hn', hl', rfl⟩ := h2
  rw [big_sg, big_sg] at hbig
  go_enter Try.func12, Try.ntmps12
  go_wp2_with fail
  generalize hW : World.alloc _ _ = W
  have B2 : Blk W (w.heap.size + 1 + 1) #[.bool false, .slice none 0 0] := by rw [← hW]; exact (blk_new (by simp)).alloc _
  have B3 : Blk W (w.heap.size + 1 + 1 + 1) #[.bool s, .slice base n c, .bool t, .slice base' n' c'] := by rw [← hW]; exact blk_new (by simp)
  have hbW : Below w.heap.size w W := by rw [← hW]; exact ((((Below.refl _ _).alloc (Nat.le_refl _) _).alloc (by simp) _).alloc (by simp; omega) _).alloc (by simp; omega) _
  have HS := Lib.hid (show W.heap.size = w.heap.size + 4 by rw [← hW]; simp)
  clear hW
  have call := large_two (w.heap.size + 1 + 1 + 1) s t base base' b off n c X b' off' n' c' Y W (B3.cell 0 _ rfl) (B3.cell 1 _ rfl) (B3.cell 2 _ rfl) (B3.cell 3 _ rfl) hb (hX.kept hbW) hn (by omega) hb' (hY.kept hbW) hn' (by omega)
  rw [decide_eq_true hbig] at call
  refine call.mono ?_
  clear call
  rintro e w1 ⟨rfl, hb1⟩
  obtain ⟨c0, c1⟩ := Blk2 (B2.kept hb1)
  obtain ⟨f0, f1⟩ := Blk2f (B2.kept hb1)
  go_wp2_with fail
  have hsz := HS.out
  refine bodyPost_ret (v := .tuple #[.agg #[.bool false, .slice none 0 0], .int .i64 2]) (by simp [results, Try.results12, go_sem, c0, c1]) rfl ⟨_, rfl, can_zero _ _, ?_⟩
  exact ((hbW.trans (hb1.mono (by omega))).setCell (by show w.heap.size ≤ w.heap.size + 1 + 1; omega) _).setCell (by show w.heap.size ≤ w.heap.size + 1 + 1; omega) _

set_option maxHeartbeats 1600000 in
set_option maxRecDepth 100000 in
/-- Add, at two numbers that are not large. -/
theorem add_small (v1 v2 : Value) (z1 z2 : Int) (w : World) (h1 : IsInt w v1 z1) (h2 : IsInt w v2 z2) (hs1 : ¬ big z1) (hs2 : ¬ big z2) :
    Calls Try.prog 12 #[v1, v2] w (if big (z1 + z2) then RetIntE w 0 2 else RetIntE w (z1 + z2) 0) := by
  have h1' := h1
  have h2' := h2
  obtain ⟨s, base, b, off, n, c, X, rfl, hb, hX, hn, hl, hz1⟩ := h1
  obtain ⟨t, base', b', off', n', c', Y, rfl, hb', hY, hn', hl', hz2⟩ := h2
  have hsX : ¬ (256 < nl X ∨ 256 < nl Y) := by subst hz1 hz2; rw [big_sg] at hs1 hs2; omega
  have SUM := Lib.hid (fun W (hbW : Below w.heap.size w W) => sum_any _ _ _ _ W (h1'.kept hbW) (h2'.kept hbW) hs1 hs2)
  clear hz1 hz2 h1' h2'
  generalize z1 + z2 = z at *
  have HQ : ∃ Q, Q = (if big z then RetIntE w 0 2 else RetIntE w z 0) := ⟨_, rfl⟩
  obtain ⟨Q, HQ⟩ := HQ
  rw [← HQ]
  have HQ' := Lib.hid HQ
  clear HQ
  go_enter Try.func12, Try.ntmps12
  go_wp2_with fail
  generalize hW : World.alloc _ _ = W
  have B0 : Blk W w.heap.size #[.bool s, .slice base n c] := by rw [← hW]; exact (((blk_new rfl).alloc _).alloc _).alloc _
  have B1 : Blk W (w.heap.size + 1) #[.bool t, .slice base' n' c'] := by rw [← hW]; exact ((blk_new (by simp)).alloc _).alloc _
  have B2 : Blk W (w.heap.size + 1 + 1) #[.bool false, .slice none 0 0] := by rw [← hW]; exact (blk_new (by simp)).alloc _
  have B3 : Blk W (w.heap.size + 1 + 1 + 1) #[.bool s, .slice base n c, .bool t, .slice base' n' c'] := by rw [← hW]; exact blk_new (by simp)
  have hbW : Below w.heap.size w W := by rw [← hW]; exact ((((Below.refl _ _).alloc (Nat.le_refl _) _).alloc (by simp) _).alloc (by simp; omega) _).alloc (by simp; omega) _
  have HS := Lib.hid (show W.heap.size = w.heap.size + 4 by rw [← hW]; simp)
  clear hW
  have call := large_two (w.heap.size + 1 + 1 + 1) s t base base' b off n c X b' off' n' c' Y W (B3.cell 0 _ rfl) (B3.cell 1 _ rfl) (B3.cell 2 _ rfl) (B3.cell 3 _ rfl) hb (hX.kept hbW) hn (by omega) hb' (hY.kept hbW) hn' (by omega)
  rw [decide_eq_false hsX] at call
  refine call.mono ?_
  clear call
  rintro e w1 ⟨rfl, hb1⟩
  have hbw1 : Below w.heap.size w w1 := hbW.trans (hb1.mono (by have := HS.out; omega))
  obtain ⟨a0, a1⟩ := Blk2 (B0.kept hb1)
  obtain ⟨b0, b1⟩ := Blk2 (B1.kept hb1)
  have B2' := B2.kept hb1
  have HS' := Lib.hid (show w.heap.size + 4 ≤ w1.heap.size by have := HS.out; have := hb1.size; omega)
  clear B0 B1 B2 B3 hbW HS hb1
  go_wp2_with fail
  refine (SUM.out _ hbw1).mono ?_
  rintro e w2 ⟨v, rfl, hcan, hb2⟩
  obtain ⟨r, q, g, o, Z, m, rfl, hq, hZ, hm, hml, rfl, hsz, hgN⟩ := hcan
  have hbw2 : Below w.heap.size w w2 := hbw1.trans (hb2.mono (by have := HS'.out; omega))
  have B2'' := B2'.kept hb2
  have HS'' := Lib.hid (show w.heap.size + 4 ≤ w2.heap.size by have := HS'.out; have := hb2.size; omega)
  clear a0 a1 b0 b1 B2'
  go_wp2_with fail
  refine (bounded_any r q g o (nl Z) m Z w2 hq hZ hm (by omega)).mono ?_
  rintro e w3 ⟨rfl, hb3⟩
  have hbw3 : Below w.heap.size w w3 := hbw2.trans (hb3.mono (by have := HS''.out; omega))
  obtain ⟨c0, c1⟩ := Blk2 (B2''.kept hb3)
  obtain ⟨f0, f1⟩ := Blk2f (B2''.kept hb3)
  by_cases hbz : 256 < nl Z
  · rw [bnd_big _ hbz]
    have HB := Lib.hid hbz
    clear hbz
    go_wp2_with fail
    refine bodyPost_ret (v := .tuple #[.agg #[.bool false, .slice none 0 0], .int .i64 2]) (by simp [results, Try.results12, go_sem, c0, c1]) rfl ?_
    rw [HQ'.out, if_pos ((big_sg r Z).2 HB.out)]
    exact ⟨_, rfl, can_zero _ _, (hbw3.setCell (by show w.heap.size ≤ w.heap.size + 1 + 1; omega) _).setCell (by show w.heap.size ≤ w.heap.size + 1 + 1; omega) _⟩
  · rw [bnd_ok _ hbz]
    have HB := Lib.hid hbz
    clear hbz
    go_wp2_with fail
    refine bodyPost_ret (v := .tuple #[.agg #[.bool r, .slice q (nl Z) m], .int .i64 0]) (by simp [results, Try.results12, go_sem, c0, c1]) rfl ?_
    rw [HQ'.out, if_neg (fun h => HB.out ((big_sg r Z).1 h))]
    have hsize := HS'.out
    have hcan : IsCan w1.heap.size w3 (.agg #[.bool r, .slice q (nl Z) m]) (sg r Z) := ⟨r, q, g, o, Z, m, rfl, hq, hZ.kept hb3, hm, hml, rfl, hsz, hgN⟩
    exact ⟨_, rfl, ((hcan.set (by show w.heap.size + 1 + 1 < _; omega) _).set (by show w.heap.size + 1 + 1 < _; omega) _).mono (by omega), (hbw3.setCell (by show w.heap.size ≤ w.heap.size + 1 + 1; omega) _).setCell (by show w.heap.size ≤ w.heap.size + 1 + 1; omega) _⟩

theorem ret_if {w : World} {z : Int} {c : Prop} [Decidable c] : (if c then RetIntE w 0 2 else RetIntE w z 0) = RetIntE w (if c then 0 else z) (if c then 2 else 0) := by split <;> rfl
/-- integer.Add: the sum, or ErrSize. -/
theorem add_any (v1 v2 : Value) (z1 z2 : Int) (w : World) (h1 : IsInt w v1 z1) (h2 : IsInt w v2 z2) :
    Calls Try.prog 12 #[v1, v2] w (RetIntE w (if big z1 ∨ big z2 ∨ big (z1 + z2) then 0 else z1 + z2) (if big z1 ∨ big z2 ∨ big (z1 + z2) then 2 else 0)) := by
  by_cases h : big z1 ∨ big z2
  · have h' : big z1 ∨ big z2 ∨ big (z1 + z2) := by rcases h with h | h; exact Or.inl h; exact Or.inr (Or.inl h)
    rw [if_pos h', if_pos h']
    exact add_large v1 v2 z1 z2 w h1 h2 h
  · have h3 : ¬ big z1 := fun e => h (Or.inl e)
    have h4 : ¬ big z2 := fun e => h (Or.inr e)
    have := add_small v1 v2 z1 z2 w h1 h2 h3 h4
    rw [ret_if] at this
    simpa only [h3, h4, false_or] using this

set_option maxHeartbeats 1600000 in
set_option maxRecDepth 100000 in
/-- integer.Sub: the difference, or ErrSize. -/
theorem sub_any (v1 v2 : Value) (z1 z2 : Int) (w : World) (h1 : IsInt w v1 z1) (h2 : IsInt w v2 z2) :
    Calls Try.prog 13 #[v1, v2] w (RetIntE w (if big z1 ∨ big z2 ∨ big (z1 - z2) then 0 else z1 - z2) (if big z1 ∨ big z2 ∨ big (z1 - z2) then 2 else 0)) := by
  have h1' := h1
  obtain ⟨s, base, b, off, n, c, X, rfl, hb, hX, hn, hl, hz1⟩ := h1
  obtain ⟨t, base', b', off', n', c', Y, rfl, hb', hY, hn', hl', hz2⟩ := h2
  have h2' : IsInt w (.agg #[.bool (!t), .slice base' n' c']) (-z2) := ⟨!t, base', b', off', n', c', Y, rfl, hb', hY, hn', hl', by subst hz2; unfold sg; cases t <;> simp⟩
  have hbg : big (-z2) ↔ big z2 := by unfold big; rw [Int.natAbs_neg]
  have ADD := Lib.hid (fun W (hbW : Below w.heap.size w W) => add_any _ _ _ _ W (h1'.kept hbW) (h2'.kept hbW))
  simp only [hbg, ← Int.sub_eq_add_neg] at ADD
  clear hz1 hz2 h1' h2' hbg
  generalize (if big z1 ∨ big z2 ∨ big (z1 - z2) then 0 else z1 - z2) = z at *
  generalize (if big z1 ∨ big z2 ∨ big (z1 - z2) then 2 else 0 : Int) = er at *
  go_enter Try.func13, Try.ntmps13
  go_wp2_with fail
  generalize hW : World.alloc _ _ = W
  have B2 : Blk W (w.heap.size + 1 + 1) #[.bool false, .slice none 0 0] := by rw [← hW]; exact blk_new (by simp)
  have hbW : Below w.heap.size w W := by rw [← hW]; exact (((Below.refl _ _).alloc (Nat.le_refl _) _).alloc (by simp) _).alloc (by simp; omega) _
  have HS := Lib.hid (show W.heap.size = w.heap.size + 3 by rw [← hW]; simp)
  clear hW
  refine (ADD.out _ hbW).mono ?_
  rintro e w2 ⟨v, rfl, hcan, hb2⟩
  obtain ⟨r, q, g, o, Z, m, rfl, hq, hZ, hm, hml, hzz, hsz, hgN⟩ := hcan
  have hbw2 : Below w.heap.size w w2 := hbW.trans (hb2.mono (by have := HS.out; omega))
  obtain ⟨c0, c1⟩ := Blk2 (B2.kept hb2)
  obtain ⟨f0, f1⟩ := Blk2f (B2.kept hb2)
  have HZ := Lib.hid hzz
  clear B2 hzz
  go_wp2_with fail
  have hsize := HS.out
  refine bodyPost_ret (v := .tuple #[.agg #[.bool r, .slice q (nl Z) m], .int .i64 er]) (by simp [results, Try.results13, go_sem, c0, c1]) rfl ?_
  have hcan : IsCan W.heap.size w2 (.agg #[.bool r, .slice q (nl Z) m]) z := ⟨r, q, g, o, Z, m, rfl, hq, hZ, hm, hml, HZ.out, hsz, hgN⟩
  exact ⟨_, rfl, ((hcan.set (by show w.heap.size + 1 + 1 < _; omega) _).set (by show w.heap.size + 1 + 1 < _; omega) _).mono (by omega), (hbw2.setCell (by show w.heap.size ≤ w.heap.size + 1 + 1; omega) _).setCell (by show w.heap.size ≤ w.heap.size + 1 + 1; omega) _⟩
end Go.Proofs.Ytdgfmkideghhaaa

namespace PB
theorem sg_mul (s t : Bool) (X Y : Nat) : sg s X * sg t Y = sg (s != t) (X * Y) := by
  unfold sg
  cases s <;> cases t <;> simp [Int.neg_mul, Int.mul_neg]
end PB
namespace Go.Proofs.Ytdgfmkideghhaaa
open Go.RowKit PB

theorem bnd_form (s : Bool) (q : Option Addr) (n m Z : Nat) : ∃ r p k l er, bnd (.agg #[.bool s, .slice q n m]) Z = .tuple #[.agg #[.bool r, .slice p k l], .int .i64 er] := by
  by_cases h : 256 < nl Z
  · exact ⟨_, _, _, _, _, bnd_big _ h⟩
  · exact ⟨_, _, _, _, _, bnd_ok _ h⟩
set_option maxHeartbeats 1600000 in
set_option maxRecDepth 100000 in
/-- Mul refuses a number that is large. -/
theorem mul_large (v1 v2 : Value) (z1 z2 : Int) (w : World) (h1 : IsInt w v1 z1) (h2 : IsInt w v2 z2) (hbig : big z1 ∨ big z2) :
    Calls Try.prog 14 #[v1, v2] w (RetIntE w 0 2) := by
  obtain ⟨s, base, b, off, n, c, X, rfl, hb, hX, hn, hl, rfl⟩ := h1
  obtain ⟨t, base', b', off', n', c', Y, rfl, hb', hY, hn', hl', rfl⟩ := h2
  rw [big_sg, big_sg] at hbig
  go_enter Try.func14, Try.ntmps14
  go_wp2_with fail
  generalize hW : World.alloc _ _ = W
  have B2 : Blk W (w.heap.size + 1 + 1) #[.bool false, .slice none 0 0] := by rw [← hW]; exact (blk_new (by simp)).alloc _
  have B3 : Blk W (w.heap.size + 1 + 1 + 1) #[.bool s, .slice base n c, .bool t, .slice base' n' c'] := by rw [← hW]; exact blk_new (by simp)
  have hbW : Below w.heap.size w W := by rw [← hW]; exact ((((Below.refl _ _).alloc (Nat.le_refl _) _).alloc (by simp) _).alloc (by simp; omega) _).alloc (by simp; omega) _
  have HS := Lib.hid (show W.heap.size = w.heap.size + 4 by rw [← hW]; simp)
  clear hW
  have call := large_two (w.heap.size + 1 + 1 + 1) s t base base' b off n c X b' off' n' c' Y W (B3.cell 0 _ rfl) (B3.cell 1 _ rfl) (B3.cell 2 _ rfl) (B3.cell 3 _ rfl) hb (hX.kept hbW) hn (by omega) hb' (hY.kept hbW) hn' (by omega)
  rw [decide_eq_true hbig] at call
  refine call.mono ?_
  clear call
  rintro e w1 ⟨rfl, hb1⟩
  obtain ⟨c0, c1⟩ := Blk2 (B2.kept hb1)
  obtain ⟨f0, f1⟩ := Blk2f (B2.kept hb1)
  go_wp2_with fail
  have hsz := HS.out
  refine bodyPost_ret (v := .tuple #[.agg #[.bool false, .slice none 0 0], .int .i64 2]) (by simp [results, Try.results14, go_sem, c0, c1]) rfl ⟨_, rfl, can_zero _ _, ?_⟩
  exact ((hbW.trans (hb1.mono (by omega))).setCell (by show w.heap.size ≤ w.heap.size + 1 + 1; omega) _).setCell (by show w.heap.size ≤ w.heap.size + 1 + 1; omega) _

set_option maxHeartbeats 3200000 in
set_option maxRecDepth 100000 in
/-- Mul, at two numbers that are not large. -/
theorem mul_small (s t : Bool) (base : Option Addr) (b off n c X : Nat) (base' : Option Addr) (b' off' n' c' Y : Nat) (w : World)
    (hb : n ≠ 0 → base = some ⟨b, off, none⟩) (hX : Num w b off n X) (hn : n ≤ c) (hl : n ≤ 1000000000)
    (hb' : n' ≠ 0 → base' = some ⟨b', off', none⟩) (hY : Num w b' off' n' Y) (hn' : n' ≤ c') (hl' : n' ≤ 1000000000) (hsX : ¬ (256 < nl X ∨ 256 < nl Y)) (er : Int) (z : Int) (sm : Bool) (hsm : (!(s == t)) = sm)
    (hbz : (256 < nl (X * Y) ∧ er = 2 ∧ z = 0) ∨ (¬ 256 < nl (X * Y) ∧ er = 0 ∧ z = sg sm (X * Y))) :
    Calls Try.prog 14 #[.agg #[.bool s, .slice base n c], .agg #[.bool t, .slice base' n' c']] w (RetIntE w z er) := by
  have hnX := nl_le hX.lt
  have hnY := nl_le hY.lt
  have HZ := Lib.hid hbz
  clear hbz
  go_enter Try.func14, Try.ntmps14
  go_wp2_with fail
  generalize hW : World.alloc _ _ = W
  have B0 : Blk W w.heap.size #[.bool s, .slice base n c] := by rw [← hW]; exact (((blk_new rfl).alloc _).alloc _).alloc _
  have B1 : Blk W (w.heap.size + 1) #[.bool t, .slice base' n' c'] := by rw [← hW]; exact ((blk_new (by simp)).alloc _).alloc _
  have B2 : Blk W (w.heap.size + 1 + 1) #[.bool false, .slice none 0 0] := by rw [← hW]; exact (blk_new (by simp)).alloc _
  have B3 : Blk W (w.heap.size + 1 + 1 + 1) #[.bool s, .slice base n c, .bool t, .slice base' n' c'] := by rw [← hW]; exact blk_new (by simp)
  have hbW : Below w.heap.size w W := by rw [← hW]; exact ((((Below.refl _ _).alloc (Nat.le_refl _) _).alloc (by simp) _).alloc (by simp; omega) _).alloc (by simp; omega) _
  have HS := Lib.hid (show W.heap.size = w.heap.size + 4 by rw [← hW]; simp)
  clear hW
  have call := large_two (w.heap.size + 1 + 1 + 1) s t base base' b off n c X b' off' n' c' Y W (B3.cell 0 _ rfl) (B3.cell 1 _ rfl) (B3.cell 2 _ rfl) (B3.cell 3 _ rfl) hb (hX.kept hbW) hn (by omega) hb' (hY.kept hbW) hn' (by omega)
  rw [decide_eq_false hsX] at call
  refine call.mono ?_
  clear call
  rintro e w1 ⟨rfl, hb1⟩
  have hbw1 : Below w.heap.size w w1 := hbW.trans (hb1.mono (by have := HS.out; omega))
  have B0' := B0.kept hb1
  have B1' := B1.kept hb1
  have B2' := B2.kept hb1
  have HS' := Lib.hid (show w.heap.size + 4 ≤ w1.heap.size by have := HS.out; have := hb1.size; omega)
  clear B0 B1 B2 B3 hbW HS hb1
  have HK := Lib.hid (show ∀ w2, Below w1.heap.size w1 w2 → (w2.cell? ⟨w.heap.size, 0, none⟩ = some (.bool s) ∧ w2.cell? ⟨w.heap.size, 1, none⟩ = some (.slice base n c)) ∧ (w2.cell? ⟨w.heap.size + 1, 0, none⟩ = some (.bool t) ∧ w2.cell? ⟨w.heap.size + 1, 1, none⟩ = some (.slice base' n' c')) from
    fun w2 h => ⟨Blk2 (B0'.kept h), Blk2 (B1'.kept h)⟩)
  have HL := Lib.hid (show ∀ w2, Below w1.heap.size w1 w2 → Blk w2 (w.heap.size + 1 + 1) #[.bool false, .slice none 0 0] from fun w2 h => B2'.kept h)
  obtain ⟨⟨a0, a1⟩, b0, b1⟩ := HK.out _ (Below.refl _ _)
  clear B0' B1' B2'
  have hX1 := hX.kept hbw1
  have hY1 := hY.kept hbw1
  have HK4 := Lib.hid (show ∀ (w4 : World) (u0 u1 : Value), ((w4.cell? ⟨w.heap.size, 0, none⟩ = some (.bool s) ∧ w4.cell? ⟨w.heap.size, 1, none⟩ = some (.slice base n c)) ∧ (w4.cell? ⟨w.heap.size + 1, 0, none⟩ = some (.bool t) ∧ w4.cell? ⟨w.heap.size + 1, 1, none⟩ = some (.slice base' n' c'))) → ((((w4.setCell ⟨w.heap.size + 1 + 1, 0, none⟩ u0).setCell ⟨w.heap.size + 1 + 1, 1, none⟩ u1).cell? ⟨w.heap.size, 0, none⟩ = some (.bool s) ∧ ((w4.setCell ⟨w.heap.size + 1 + 1, 0, none⟩ u0).setCell ⟨w.heap.size + 1 + 1, 1, none⟩ u1).cell? ⟨w.heap.size, 1, none⟩ = some (.slice base n c)) ∧ (((w4.setCell ⟨w.heap.size + 1 + 1, 0, none⟩ u0).setCell ⟨w.heap.size + 1 + 1, 1, none⟩ u1).cell? ⟨w.heap.size + 1, 0, none⟩ = some (.bool t) ∧ ((w4.setCell ⟨w.heap.size + 1 + 1, 0, none⟩ u0).setCell ⟨w.heap.size + 1 + 1, 1, none⟩ u1).cell? ⟨w.heap.size + 1, 1, none⟩ = some (.slice base' n' c'))) from fun w4 u0 u1 h =>
    ⟨⟨cell_other (cell_other h.1.1 (show w.heap.size ≠ w.heap.size + 1 + 1 by omega)) (show w.heap.size ≠ w.heap.size + 1 + 1 by omega), cell_other (cell_other h.1.2 (show w.heap.size ≠ w.heap.size + 1 + 1 by omega)) (show w.heap.size ≠ w.heap.size + 1 + 1 by omega)⟩,
      cell_other (cell_other h.2.1 (show w.heap.size + 1 ≠ w.heap.size + 1 + 1 by omega)) (show w.heap.size + 1 ≠ w.heap.size + 1 + 1 by omega), cell_other (cell_other h.2.2 (show w.heap.size + 1 ≠ w.heap.size + 1 + 1 by omega)) (show w.heap.size + 1 ≠ w.heap.size + 1 + 1 by omega)⟩)
  go_wp2_with fail
  go_region_held3 (fun w' => (w'.cell? ⟨w.heap.size, 0, none⟩ = some (.bool s) ∧ w'.cell? ⟨w.heap.size, 1, none⟩ = some (.slice base n c)) ∧ (w'.cell? ⟨w.heap.size + 1, 0, none⟩ = some (.bool t) ∧ w'.cell? ⟨w.heap.size + 1, 1, none⟩ = some (.slice base' n' c')))
    (first | exact ⟨⟨a0, a1⟩, b0, b1⟩ | exact HK.out _ hq3 | exact HK.out _ hq2 | exact HK.out _ hq1 | exact HK4.out _ _ _ (HK.out _ hq3))
    (first
      | (go_at_call_of 75 (Value.slice base n c); refine (cut_any base b off n c X _ hb (by exact hX1) hn (by omega)).mono ?_; rintro e w' ⟨rfl, rfl⟩)
      | (go_at_call_of 75 (Value.slice base' n' c'); refine (cut_any base' b' off' n' c' Y _ hb' (by exact hY1) hn' (by omega)).mono ?_; rintro e w' ⟨rfl, rfl⟩)
      | (go_at_call 74; refine (times_any base base' b off (nl X) (nl X) X b' off' (nl Y) (nl Y) Y _ (fun h => hb (by omega)) (fun h => hb' (by omega)) (by exact hX1.fewer hnX (lt_nl X)) (by exact hY1.fewer hnY (lt_nl Y)) (by omega) (by omega)).mono ?_; rintro e w2 ⟨rfl, hF⟩; have hq1 : Below w1.heap.size w1 w2 := (by first | exact hF.below | exact below_undrew hF.below); have hnum0 : Num w2 w1.heap.size 0 (nl X + nl Y) (X * Y) := (by exact hF.num))
      | (go_at_call 73; refine (number_any sm _ _ 0 _ _ (X * Y) _ (fun _ => rfl) (by exact hnum0) (Nat.le_refl _) (by omega)).mono ?_; rintro e w3 ⟨rfl, hb3⟩
         have hq2 : Below w1.heap.size w1 w3 := hq1.trans (hb3.mono hq1.size)
         have hnum := hnum0.kept hb3
         have hcan : IsCan w1.heap.size w3 (intv sm (some ⟨w1.heap.size, 0, none⟩) (X * Y)) (sg sm (X * Y)) := can_intv (n := nl X + nl Y) (fun _ => rfl) hnum (by have := nl_le hnum.lt; omega) (fun _ => by omega)
         obtain ⟨s', q, g, o, Z, m, hv, hq, hZ, hm, hml, hzz, hsz, hgN⟩ := hcan
         rw [hv]
         have HV := Lib.hid hv
         have HZZ := Lib.hid hzz
         clear hv hzz)
      | (go_at_call 71; refine (bounded_any s' q g o (nl Z) m Z _ hq (by exact hZ) hm (by omega)).mono ?_; rintro e w4 ⟨rfl, hb4⟩
         have hq3 : Below w1.heap.size w1 w4 := hq2.trans (hb4.mono hq2.size)
         obtain ⟨c0, c1⟩ := Blk2 (HL.out _ hq3)
         obtain ⟨f0, f1⟩ := Blk2f (HL.out _ hq3)
         obtain ⟨r', p', k', l', er', hbn⟩ := bnd_form s' q (nl Z) m Z
         rw [hbn]
         have HBN := Lib.hid hbn
         clear hbn))
  go_wp2_with fail
  have hsize := HS'.out
  have hZX : X * Y = Z := by have h := congrArg Int.natAbs HZZ.out; rwa [sg_natAbs, sg_natAbs] at h
  have hbw4 : Below w.heap.size w w4 := hbw1.trans (hq3.mono (by omega))
  refine bodyPost_ret (v := .tuple #[.agg #[.bool r', .slice p' k' l'], .int .i64 er']) (by simp [results, Try.results14, go_sem, c0, c1]) rfl ?_
  rcases HZ.out with ⟨h1, h2, h3⟩ | ⟨h1, h2, h3⟩
  · have h4 := HBN.out
    rw [bnd_big _ (by rw [← hZX]; exact h1)] at h4
    simp only [Value.tuple.injEq, Array.mk.injEq, List.cons.injEq, Value.int.injEq, true_and, and_true] at h4
    rw [← h4.1, ← h4.2, h2, h3]
    exact ⟨_, rfl, can_zero _ _, (hbw4.setCell (by show w.heap.size ≤ w.heap.size + 1 + 1; omega) _).setCell (by show w.heap.size ≤ w.heap.size + 1 + 1; omega) _⟩
  · have h4 := HBN.out
    rw [bnd_ok _ (by rw [← hZX]; exact h1)] at h4
    simp only [Value.tuple.injEq, Array.mk.injEq, List.cons.injEq, Value.int.injEq, true_and, and_true] at h4
    rw [← h4.1, ← h4.2, h2, h3, HZZ.out]
    have hcan : IsCan w1.heap.size w4 (.agg #[.bool s', .slice q (nl Z) m]) (sg s' Z) := ⟨s', q, g, o, Z, m, rfl, hq, hZ.kept hb4, hm, hml, rfl, hsz, hgN⟩
    exact ⟨_, rfl, ((hcan.set (by show w.heap.size + 1 + 1 < _; omega) _).set (by show w.heap.size + 1 + 1 < _; omega) _).mono (by omega), (hbw4.setCell (by show w.heap.size ≤ w.heap.size + 1 + 1; omega) _).setCell (by show w.heap.size ≤ w.heap.size + 1 + 1; omega) _⟩
/-- integer.Mul: the product, or ErrSize. -/
theorem mul_any (v1 v2 : Value) (z1 z2 : Int) (w : World) (h1 : IsInt w v1 z1) (h2 : IsInt w v2 z2) :
    Calls Try.prog 14 #[v1, v2] w (RetIntE w (if big z1 ∨ big z2 ∨ big (z1 * z2) then 0 else z1 * z2) (if big z1 ∨ big z2 ∨ big (z1 * z2) then 2 else 0)) := by
  by_cases h : big z1 ∨ big z2
  · have h' : big z1 ∨ big z2 ∨ big (z1 * z2) := by rcases h with h | h; exact Or.inl h; exact Or.inr (Or.inl h)
    rw [if_pos h', if_pos h']
    exact mul_large v1 v2 z1 z2 w h1 h2 h
  · obtain ⟨s, base, b, off, n, c, X, rfl, hb, hX, hn, hl, rfl⟩ := h1
    obtain ⟨t, base', b', off', n', c', Y, rfl, hb', hY, hn', hl', rfl⟩ := h2
    have e : (big (sg s X) ∨ big (sg t Y) ∨ big (sg s X * sg t Y)) = (256 < nl (X * Y)) := by
      rw [sg_mul, big_sg (s != t)]
      refine propext ⟨fun h' => ?_, fun h' => Or.inr (Or.inr h')⟩
      rcases h' with h' | h' | h'
      · exact absurd (Or.inl h') h
      · exact absurd (Or.inr h') h
      · exact h'
    simp only [e]
    rw [big_sg, big_sg] at h
    refine mul_small s t base b off n c X base' b' off' n' c' Y w hb hX hn hl hb' hY hn' hl' h _ _ (s != t) rfl ?_
    by_cases hz : 256 < nl (X * Y)
    · exact Or.inl ⟨hz, if_pos hz, if_pos hz⟩
    · exact Or.inr ⟨hz, if_neg hz, by rw [if_neg hz, sg_mul]⟩
end Go.Proofs.Ytdgfmkideghhaaa
