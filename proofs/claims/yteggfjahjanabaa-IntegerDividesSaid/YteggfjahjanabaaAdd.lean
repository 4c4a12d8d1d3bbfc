/-
  integer.Add, Sub and Mul.
-/
import Derived.Test.YteggfjahjanabaaSum
import Derived.Test.YteggfjahjanabaaTimes
namespace Go.Proofs.Yteggfjahjanabaa
open Go.RowKit PB

theorem big_iff {s : Bool} {X : Nat} : big (sg s X) ↔ 256 < nl X := big_sg s X

set_option maxHeartbeats 1600000 in
set_option maxRecDepth 100000 in
/-- Add refuses a number that is large. -/
theorem add_large (v1 v2 : Value) (z1 z2 : Int) (w : World) (h1 : IsInt w v1 z1) (h2 : IsInt w v2 z2) (hbig : big z1 ∨ big z2) :
    Calls Try.prog 12 #[v1, v2] w (RetIntE w 0 2) := by
  obtain ⟨s, base, b, off, n, c, X, rfl, hb, hX, hn, hl, rfl⟩ := h1
  obtain ⟨t, base', b', off', n', c', Y, rfl, hb', hY, hn', hl', rfl⟩ := h2
  rw [big_sg, big_sg] at hbig
  go_enter Try.func12, Try.ntmps12
  go_wp2_with fail
  generalize hW : World.alloc _ _ = W
  have B2 : Blk W (w.heap.size + 1 + 1) #[.bool false, .slice none 0 0] := by rw [← hW]; exact (blk_new (by simp)).alloc _
  have B3 : Blk W (w.heap.size + 1 + 1 + 1) #[.bool s, .slice base n c, .bool t, .slice base' n' c'] := by rw [← hW]; exact blk_new (by simp)
  have hbW : Below w.heap.size w W := by rw [← hW]; exact ((((Below.refl _ _).alloc (Nat.le_refl _) _).alloc (by simp) _).alloc (by simp; omega) _).alloc (by simp; omega) _
  have HS := Lib.hid (show W.heap.size = w.heap.size + 4 by rw [← hW]; simp)
  clear hW
  have call := large_two (w.heap.size + 1 + 1 + 1) s t base base' b off n c X b' off' n' c' Y W (B3.cell 0 _ rfl) (B3.cell 1 _ rfl) (B3.cell 2 _ rfl) (B3.cell 3 _ rfl) hb (hX.kept hbW) hn (by omega) hb' (hY.kept hbW) hn' (by omega)
  rw [decide_eq_true hbig] at call
  refine call.mono ?_
  clear call
  rintro e w1 ⟨rfl, hb1⟩
  obtain ⟨c0, c1⟩ := Blk2 (B2.kept hb1)
  obtain ⟨f0, f1⟩ := Blk2f (B2.kept hb1)
  go_wp2_with fail
  have hsz := HS.out
  refine bodyPost_ret (v := .tuple #[.agg #[.bool false, .slice none 0 0], .int .i64 2]) (by simp [results, Try.results12, go_sem, c0, c1]) rfl ⟨_, rfl, can_zero _ _, ?_⟩
  exact ((hbW.trans (hb1.mono (by omega))).setCell (by show w.heap.size ≤ w.heap.size + 1 + 1; omega) _).setCell (by show w.heap.size ≤ w.heap.size + 1 + 1; omega) _

set_option maxHeartbeats 1600000 in
set_option maxRecDepth 100000 in
/-- Add, at two numbers that are not large. -/
theorem add_small (v1 v2 : Value) (z1 z2 : Int) (w : World) (h1 : IsInt w v1 z1) (h2 : IsInt w v2 z2) (hs1 : ¬ big z1) (hs2 : ¬ big z2) :
    Calls Try.prog 12 #[v1, v2] w (if big (z1 + z2) then RetIntE w 0 2 else RetIntE w (z1 + z2) 0) := by
  have h1' := h1
  have h2' := h2
  obtain ⟨s, base, b, off, n, c, X, rfl, hb, hX, hn, hl, hz1⟩ := h1
  obtain ⟨t, base', b', off', n', c', Y, rfl, hb', hY, hn', hl', hz2⟩ := h2
  have hsX : ¬ (256 < nl X ∨ 256 < nl Y) := by subst hz1 hz2; rw [big_sg] at hs1 hs2; omega
  have SUM := Lib.hid (fun W (hbW : Below w.heap.size w W) => sum_any _ _ _ _ W (h1'.kept hbW) (h2'.kept hbW) hs1 hs2)
  clear hz1 hz2 h1' h2'
  generalize z1 + z2 = z at *
  have HQ : ∃ Q, Q = (if big z then RetIntE w 0 2 else RetIntE w z 0) := ⟨_, rfl⟩
  obtain ⟨Q, HQ⟩ := HQ
  rw [← HQ]
  have HQ' := Lib.hid HQ
  clear HQ
  go_enter Try.func12, Try.ntmps12
  go_wp2_with fail
  generalize hW : World.alloc _ _ = W
  have B0 : Blk W w.heap.size #[.bool s, .slice base n c] := by rw [← hW]; exact (((blk_new rfl).alloc _).alloc _).alloc _
  have B1 : Blk W (w.heap.size + 1) #[.bool t, .slice base' n' c'] := by rw [← hW]; exact ((blk_new (by simp)).alloc _).alloc _
  have B2 : Blk W (w.heap.size + 1 + 1) #[.bool false, .slice none 0 0] := by rw [← hW]; exact (blk_new (by simp)).alloc _
  have B3 : Blk W (w.heap.size + 1 + 1 + 1) #[.bool s, .slice base n c, .bool t, .slice base' n' c'] := by rw [← hW]; exact blk_new (by simp)
  have hbW : Below w.heap.size w W := by rw [← hW]; exact ((((Below.refl _ _).alloc (Nat.le_refl _) _).alloc (by simp) _).alloc (by simp; omega) _).alloc (by simp; omega) _
  have HS := Lib.hid (show W.heap.size = w.heap.size + 4 by rw [← hW]; simp)
  clear hW
  have call := large_two (w.heap.size + 1 + 1 + 1) s t base base' b off n c X b' off' n' c' Y W (B3.cell 0 _ rfl) (B3.cell 1 _ rfl) (B3.cell 2 _ rfl) (B3.cell 3 _ rfl) hb (hX.kept hbW) hn (by omega) hb' (hY.kept hbW) hn' (by omega)
  rw [decide_eq_false hsX] at call
  refine call.mono ?_
  clear call
  rintro e w1 ⟨rfl, hb1⟩
  have hbw1 : Below w.heap.size w w1 := hbW.trans (hb1.mono (by have := HS.out; omega))
  obtain ⟨a0, a1⟩ := Blk2 (B0.kept hb1)
  obtain ⟨b0, b1⟩ := Blk2 (B1.kept hb1)
  have B2' := B2.kept hb1
  have HS' := Lib.hid (show w.heap.size + 4 ≤ w1.heap.size by have := HS.out; have := hb1.size; omega)
  clear B0 B1 B2 B3 hbW HS hb1
  go_wp2_with fail
  refine (SUM.out _ hbw1).mono ?_
  rintro e w2 ⟨v, rfl, hcan, hb2⟩
  obtain ⟨r, q, g, o, Z, m, rfl, hq, hZ, hm, hml, rfl, hsz, hgN⟩ := hcan
  have hbw2 : Below w.heap.size w w2 := hbw1.trans (hb2.mono (by have := HS'.out; omega))
  have B2'' := B2'.kept hb2
  have HS'' := Lib.hid (show w.heap.size + 4 ≤ w2.heap.size by have := HS'.out; have := hb2.size; omega)
  clear a0 a1 b0 b1 B2'
  go_wp2_with fail
  refine (bounded_any r q g o (nl Z) m Z w2 hq hZ hm (by omega)).mono ?_
  rintro e w3 ⟨rfl, hb3⟩
  have hbw3 : Below w.heap.size w w3 := hbw2.trans (hb3.mono (by have := HS''.out; omega))
  obtain ⟨c0, c1⟩ := Blk2 (B2''.kept hb3)
  obtain ⟨f0, f1⟩ := Blk2f (B2''.kept hb3)
  by_cases hbz : 256 < nl Z
  · rw [bnd_big _ hbz]
    have HB := Lib.hid hbz
    clear hbz
    go_wp2_with fail
    refine bodyPost_ret (v := .tuple #[.agg #[.bool false, .slice none 0 0], .int .i64 2]) (by simp [results, Try.results12, go_sem, c0, c1]) rfl ?_
    rw [HQ'.out, if_pos ((big_sg r Z).2 HB.out)]
    exact ⟨_, rfl, can_zero _ _, (hbw3.setCell (by show w.heap.size ≤ w.heap.size + 1 + 1; omega) _).setCell (by show w.heap.size ≤ w.heap.size + 1 + 1; omega) _⟩
  · rw [bnd_ok _ hbz]
    have HB := Lib.hid hbz
    clear hbz
    go_wp2_with fail
    refine bodyPost_ret (v := .tuple #[.agg #[.bool r, .slice q (nl Z) m], .int .i64 0]) (by simp [results, Try.results12, go_sem, c0, c1]) rfl ?_
    rw [HQ'.out, if_neg (fun h => HB.out ((big_sg r Z).1 h))]
    have hsize := HS'.out
    have hcan : IsCan w1.heap.size w3 (.agg #[.bool r, .slice q (nl Z) m]) (sg r Z) := ⟨r, q, g, o, Z, m, rfl, hq, hZ.kept hb3, hm, hml, rfl, hsz, hgN⟩
    exact ⟨_, rfl, ((hcan.set (by show w.heap.size + 1 + 1 < _; omega) _).set (by show w.heap.size + 1 + 1 < _; omega) _).mono (by omega), (hbw3.setCell (by show w.heap.size ≤ w.heap.size + 1 + 1; omega) _).setCell (by show w.heap.size ≤ w.heap.size + 1 + 1; omega) _⟩

theorem ret_if {w : World} {z : Int} {c : Prop} [Decidable c] : (if c then RetIntE w 0 2 else RetIntE w z 0) = RetIntE w (if c then 0 else z) (if c then 2 else 0) := by split <;> rfl
/-- integer.Add: the sum, or ErrSize. -/
theorem add_any (v1 v2 : Value) (z1 z2 : Int) (w : World) (h1 : IsInt w v1 z1) (h2 : IsInt w v2 z2) :
    Calls Try.prog 12 #[v1, v2] w (RetIntE w (if big z1 ∨ big z2 ∨ big (z1 + z2) then 0 else z1 + z2) (if big z1 ∨ big z2 ∨ big (z1 + z2) then 2 else 0)) := by
  by_cases h : big z1 ∨ big z2
  · have h' : big z1 ∨ big z2 ∨ big (z1 + z2) := by rcases h with h | h; exact Or.inl h; exact Or.inr (Or.inl h)
    rw [if_pos h', if_pos h']
    exact add_large v1 v2 z1 z2 w h1 h2 h
  · have h3 : ¬ big z1 := fun e => h (Or.inl e)
    have h4 : ¬ big z2 := fun e => h (Or.inr e)
    have := add_small v1 v2 z1 z2 w h1 h2 h3 h4
    rw [ret_if] at this
    simpa only [h3, h4, false_or] using this

set_option maxHeartbeats 1600000 in
set_option maxRecDepth 100000 in
/-- integer.Sub: the difference, or ErrSize. -/
theorem sub_any (v1 v2 : Value) (z1 z2 : Int) (w : World) (h1 : IsInt w v1 z1) (h2 : IsInt w v2 z2) :
    Calls Try.prog 13 #[v1, v2] w (RetIntE w (if big z1 ∨ big z2 ∨ big (z1 - z2) then 0 else z1 - z2) (if big z1 ∨ big z2 ∨ big (z1 - z2) then 2 else 0)) := by
  have h1' := h1
  obtain ⟨s, base, b, off, n, c, X, rfl, hb, hX, hn, hl, hz1⟩ := h1
  obtain ⟨t, base', b', off', n', c', Y, rfl, hb', hY, hn', hl', hz2⟩ := h2
  have h2' : IsInt w (.agg #[.bool (!t), .slice base' n' c']) (-z2) := ⟨!t, base', b', off', n', c', Y, rfl, hb', hY, hn', hl', by subst hz2; unfold sg; cases t <;> simp⟩
  have hbg : big (-z2) ↔ big z2 := by unfold big; rw [Int.natAbs_neg]
  have ADD := Lib.hid (fun W (hbW : Below w.heap.size w W) => add_any _ _ _ _ W (h1'.kept hbW) (h2'.kept hbW))
  simp only [hbg, ← Int.sub_eq_add_neg] at ADD
  clear hz1 hz2 h1' h2' hbg
  generalize (if big z1 ∨ big z2 ∨ big (z1 - z2) then 0 else z1 - z2) = z at *
  generalize (if big z1 ∨ big z2 ∨ big (z1 - z2) then 2 else 0 : Int) = er at *
  go_enter Try.func13, Try.ntmps13
  go_wp2_with fail
  generalize hW : World.alloc _ _ = W
  have B2 : Blk W (w.heap.size + 1 + 1) #[.bool false, .slice none 0 0] := by rw [← hW]; exact blk_new (by simp)
  have hbW : Below w.heap.size w W := by rw [← hW]; exact (((Below.refl _ _).alloc (Nat.le_refl _) _).alloc (by simp) _).alloc (by simp; omega) _
  have HS := Lib.hid (show W.heap.size = w.heap.size + 3 by rw [← hW]; simp)
  clear hW
  refine (ADD.out _ hbW).mono ?_
  rintro e w2 ⟨v, rfl, hcan, hb2⟩
  obtain ⟨r, q, g, o, Z, m, rfl, hq, hZ, hm, hml, hzz, hsz, hgN⟩ := hcan
  have hbw2 : Below w.heap.size w w2 := hbW.trans (hb2.mono (by have := HS.out; omega))
  obtain ⟨c0, c1⟩ := Blk2 (B2.kept hb2)
  obtain ⟨f0, f1⟩ := Blk2f (B2.kept hb2)
  have HZ := Lib.hid hzz
  clear B2 hzz
  go_wp2_with fail
  have hsize := HS.out
  refine bodyPost_ret (v := .tuple #[.agg #[.bool r, .slice q (nl Z) m], .int .i64 er]) (by simp [results, Try.results13, go_sem, c0, c1]) rfl ?_
  have hcan : IsCan W.heap.size w2 (.agg #[.bool r, .slice q (nl Z) m]) z := ⟨r, q, g, o, Z, m, rfl, hq, hZ, hm, hml, HZ.out, hsz, hgN⟩
  exact ⟨_, rfl, ((hcan.set (by show w.heap.size + 1 + 1 < _; omega) _).set (by show w.heap.size + 1 + 1 < _; omega) _).mono (by omega), (hbw2.setCell (by show w.heap.size ≤ w.heap.size + 1 + 1; omega) _).setCell (by show w.heap.size ≤ w.heap.size + 1 + 1; omega) _⟩
end Go.Proofs.Yteggfjahjanabaa
