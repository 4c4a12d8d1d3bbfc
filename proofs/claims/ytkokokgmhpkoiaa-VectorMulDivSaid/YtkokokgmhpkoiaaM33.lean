/-
  The verifier's sized (written by wip/genrefi.py).
-/
import Derived.Test.YtkokokgmhpkoiaaM32
namespace PB
open Go Go.RowKit
/-- A number that is canonical from N on, and an error. -/
def RetCanE (N : Nat) (w : World) (z er : Int) (e : Ending) (w' : World) : Prop := ∃ u, e = .returned (.tuple #[u, .int .i64 er]) ∧ IsCan N w' u z ∧ Below w.heap.size w w'
end PB
namespace Go.Proofs.Ytkokokgmhpkoiaa
open Go.RowKit PB

set_option maxHeartbeats 3200000 in
set_option maxRecDepth 100000 in
theorem sized_1 (N : Nat) (v1 v2 v3 : Value) (z1 z2 z3 : Int) (w : World) (h1 : IsInt w v1 z1) (h2 : IsInt w v2 z2) (h3 : IsCan N w v3 z3) (g1 : 256 < nl z1.natAbs) :
    Calls Try.prog 81 #[v1, v2, v3] w (RetCanE N w 0 2) := by
  obtain ⟨s, base, n, c, rfl, h1⟩ := int_form h1
  obtain ⟨t, base', n', c', rfl, h2⟩ := int_form h2
  obtain ⟨r, base3, c3, rfl⟩ := can_agg h3
  have H3 := Lib.hid h3
  have h3 := h3.int
  obtain ⟨n3, hn3⟩ : ∃ n3, nl z3.natAbs = n3 := ⟨_, rfl⟩
  rw [hn3] at h3 H3
  try rw [hn3]
  have L1 : Hid (∀ W, Below w.heap.size w W → Calls Try.prog 84 #[.agg #[.bool s, .slice base n c]] W (fun e w' => e = .returned (.bool true) ∧ Below W.heap.size W w')) := Lib.hid (fun W h => by
    have := large_ref _ z1 W (h1.kept h)
    rwa [decide_eq_true g1] at this)
  clear h1 h2 h3
  go_enter Try.func81, Try.ntmps81
  go_wp2_with fail
  generalize hW : World.alloc _ _ = W
  have B0 : Blk W w.heap.size #[.bool s, .slice base n c] := by rw [← hW]; exact (((blk_new rfl).alloc _).alloc _).alloc _
  have B1 : Blk W (w.heap.size + 1) #[.bool t, .slice base' n' c'] := by rw [← hW]; exact ((blk_new (by simp)).alloc _).alloc _
  have B2 : Blk W (w.heap.size + 1 + 1) #[.bool r, .slice base3 n3 c3] := by rw [← hW]; exact (blk_new (by simp)).alloc _
  have B3 : Blk W (w.heap.size + 1 + 1 + 1) #[.bool false, .slice none 0 0] := by rw [← hW]; exact blk_new (by simp)
  have hbW : Below w.heap.size w W := by rw [← hW]; exact ((((Below.refl _ _).alloc (Nat.le_refl _) _).alloc (by simp) _).alloc (by simp; omega) _).alloc (by simp; omega) _
  have HS := Lib.hid (show W.heap.size = w.heap.size + 4 by rw [← hW]; simp)
  clear hW
  obtain ⟨a0, a1⟩ := Blk2 B0
  obtain ⟨b0, b1⟩ := Blk2 B1
  obtain ⟨d0, d1⟩ := Blk2 B2
  go_wp2_with fail
  refine (L1.out W hbW).mono ?_
  rintro e w1 ⟨rfl, hb1⟩
  have Bel1 : Below w.heap.size w w1 := bs_trans hbW hb1
  replace B0 := B0.kept hb1
  replace B1 := B1.kept hb1
  replace B2 := B2.kept hb1
  replace B3 := B3.kept hb1
  obtain ⟨a0, a1⟩ := Blk2 B0
  obtain ⟨b0, b1⟩ := Blk2 B1
  obtain ⟨d0, d1⟩ := Blk2 B2
  obtain ⟨r0, r1⟩ := Blk2 B3
  obtain ⟨f0, f1⟩ := Blk2f B3
  clear hb1 hbW
  go_wp2_with fail
  exact bodyPost_ret (v := .tuple #[.agg #[.bool false, .slice none 0 0], .int .i64 2]) (by simp [results, Try.results81, go_sem, r0, r1]) rfl
    ⟨_, rfl, can_zero _ _, (Bel1.setCell (by show w.heap.size ≤ w.heap.size + 1 + 1 + 1; omega) _).setCell (by show w.heap.size ≤ w.heap.size + 1 + 1 + 1; omega) _⟩

set_option maxHeartbeats 3200000 in
set_option maxRecDepth 100000 in
theorem sized_2 (N : Nat) (v1 v2 v3 : Value) (z1 z2 z3 : Int) (w : World) (h1 : IsInt w v1 z1) (h2 : IsInt w v2 z2) (h3 : IsCan N w v3 z3) (g1 : ¬ 256 < nl z1.natAbs) (g2 : 256 < nl z2.natAbs) :
    Calls Try.prog 81 #[v1, v2, v3] w (RetCanE N w 0 2) := by
  obtain ⟨s, base, n, c, rfl, h1⟩ := int_form h1
  obtain ⟨t, base', n', c', rfl, h2⟩ := int_form h2
  obtain ⟨r, base3, c3, rfl⟩ := can_agg h3
  have H3 := Lib.hid h3
  have h3 := h3.int
  obtain ⟨n3, hn3⟩ : ∃ n3, nl z3.natAbs = n3 := ⟨_, rfl⟩
  rw [hn3] at h3 H3
  try rw [hn3]
  have L1 : Hid (∀ W, Below w.heap.size w W → Calls Try.prog 84 #[.agg #[.bool s, .slice base n c]] W (fun e w' => e = .returned (.bool false) ∧ Below W.heap.size W w')) := Lib.hid (fun W h => by
    have := large_ref _ z1 W (h1.kept h)
    rwa [decide_eq_false g1] at this)
  have L2 : Hid (∀ W, Below w.heap.size w W → Calls Try.prog 84 #[.agg #[.bool t, .slice base' n' c']] W (fun e w' => e = .returned (.bool true) ∧ Below W.heap.size W w')) := Lib.hid (fun W h => by
    have := large_ref _ z2 W (h2.kept h)
    rwa [decide_eq_true g2] at this)
  clear h1 h2 h3
  go_enter Try.func81, Try.ntmps81
  go_wp2_with fail
  generalize hW : World.alloc _ _ = W
  have B0 : Blk W w.heap.size #[.bool s, .slice base n c] := by rw [← hW]; exact (((blk_new rfl).alloc _).alloc _).alloc _
  have B1 : Blk W (w.heap.size + 1) #[.bool t, .slice base' n' c'] := by rw [← hW]; exact ((blk_new (by simp)).alloc _).alloc _
  have B2 : Blk W (w.heap.size + 1 + 1) #[.bool r, .slice base3 n3 c3] := by rw [← hW]; exact (blk_new (by simp)).alloc _
  have B3 : Blk W (w.heap.size + 1 + 1 + 1) #[.bool false, .slice none 0 0] := by rw [← hW]; exact blk_new (by simp)
  have hbW : Below w.heap.size w W := by rw [← hW]; exact ((((Below.refl _ _).alloc (Nat.le_refl _) _).alloc (by simp) _).alloc (by simp; omega) _).alloc (by simp; omega) _
  have HS := Lib.hid (show W.heap.size = w.heap.size + 4 by rw [← hW]; simp)
  clear hW
  obtain ⟨a0, a1⟩ := Blk2 B0
  obtain ⟨b0, b1⟩ := Blk2 B1
  obtain ⟨d0, d1⟩ := Blk2 B2
  go_wp2_with fail
  refine (L1.out W hbW).mono ?_
  rintro e w1 ⟨rfl, hb1⟩
  have Bel1 : Below w.heap.size w w1 := bs_trans hbW hb1
  replace B0 := B0.kept hb1
  replace B1 := B1.kept hb1
  replace B2 := B2.kept hb1
  replace B3 := B3.kept hb1
  obtain ⟨a0, a1⟩ := Blk2 B0
  obtain ⟨b0, b1⟩ := Blk2 B1
  obtain ⟨d0, d1⟩ := Blk2 B2
  obtain ⟨r0, r1⟩ := Blk2 B3
  obtain ⟨f0, f1⟩ := Blk2f B3
  clear hb1 hbW
  go_wp2_with fail
  refine (L2.out w1 Bel1).mono ?_
  rintro e w2 ⟨rfl, hb2⟩
  have Bel2 : Below w.heap.size w w2 := bs_trans Bel1 hb2
  replace B0 := B0.kept hb2
  replace B1 := B1.kept hb2
  replace B2 := B2.kept hb2
  replace B3 := B3.kept hb2
  obtain ⟨a0, a1⟩ := Blk2 B0
  obtain ⟨b0, b1⟩ := Blk2 B1
  obtain ⟨d0, d1⟩ := Blk2 B2
  obtain ⟨r0, r1⟩ := Blk2 B3
  obtain ⟨f0, f1⟩ := Blk2f B3
  clear hb2 Bel1
  go_wp2_with fail
  exact bodyPost_ret (v := .tuple #[.agg #[.bool false, .slice none 0 0], .int .i64 2]) (by simp [results, Try.results81, go_sem, r0, r1]) rfl
    ⟨_, rfl, can_zero _ _, (Bel2.setCell (by show w.heap.size ≤ w.heap.size + 1 + 1 + 1; omega) _).setCell (by show w.heap.size ≤ w.heap.size + 1 + 1 + 1; omega) _⟩

set_option maxHeartbeats 3200000 in
set_option maxRecDepth 100000 in
theorem sized_3 (N : Nat) (v1 v2 v3 : Value) (z1 z2 z3 : Int) (w : World) (h1 : IsInt w v1 z1) (h2 : IsInt w v2 z2) (h3 : IsCan N w v3 z3) (g1 : ¬ 256 < nl z1.natAbs) (g2 : ¬ 256 < nl z2.natAbs) (g3 : 256 < nl z3.natAbs) :
    Calls Try.prog 81 #[v1, v2, v3] w (RetCanE N w 0 2) := by
  obtain ⟨s, base, n, c, rfl, h1⟩ := int_form h1
  obtain ⟨t, base', n', c', rfl, h2⟩ := int_form h2
  obtain ⟨r, base3, c3, rfl⟩ := can_agg h3
  have H3 := Lib.hid h3
  have h3 := h3.int
  obtain ⟨n3, hn3⟩ : ∃ n3, nl z3.natAbs = n3 := ⟨_, rfl⟩
  rw [hn3] at h3 H3
  try rw [hn3]
  have L1 : Hid (∀ W, Below w.heap.size w W → Calls Try.prog 84 #[.agg #[.bool s, .slice base n c]] W (fun e w' => e = .returned (.bool false) ∧ Below W.heap.size W w')) := Lib.hid (fun W h => by
    have := large_ref _ z1 W (h1.kept h)
    rwa [decide_eq_false g1] at this)
  have L2 : Hid (∀ W, Below w.heap.size w W → Calls Try.prog 84 #[.agg #[.bool t, .slice base' n' c']] W (fun e w' => e = .returned (.bool false) ∧ Below W.heap.size W w')) := Lib.hid (fun W h => by
    have := large_ref _ z2 W (h2.kept h)
    rwa [decide_eq_false g2] at this)
  have L3 : Hid (∀ W, Below w.heap.size w W → Calls Try.prog 84 #[.agg #[.bool r, .slice base3 n3 c3]] W (fun e w' => e = .returned (.bool true) ∧ Below W.heap.size W w')) := Lib.hid (fun W h => by
    have := large_ref _ z3 W (h3.kept h)
    rwa [decide_eq_true g3] at this)
  clear h1 h2 h3
  go_enter Try.func81, Try.ntmps81
  go_wp2_with fail
  generalize hW : World.alloc _ _ = W
  have B0 : Blk W w.heap.size #[.bool s, .slice base n c] := by rw [← hW]; exact (((blk_new rfl).alloc _).alloc _).alloc _
  have B1 : Blk W (w.heap.size + 1) #[.bool t, .slice base' n' c'] := by rw [← hW]; exact ((blk_new (by simp)).alloc _).alloc _
  have B2 : Blk W (w.heap.size + 1 + 1) #[.bool r, .slice base3 n3 c3] := by rw [← hW]; exact (blk_new (by simp)).alloc _
  have B3 : Blk W (w.heap.size + 1 + 1 + 1) #[.bool false, .slice none 0 0] := by rw [← hW]; exact blk_new (by simp)
  have hbW : Below w.heap.size w W := by rw [← hW]; exact ((((Below.refl _ _).alloc (Nat.le_refl _) _).alloc (by simp) _).alloc (by simp; omega) _).alloc (by simp; omega) _
  have HS := Lib.hid (show W.heap.size = w.heap.size + 4 by rw [← hW]; simp)
  clear hW
  obtain ⟨a0, a1⟩ := Blk2 B0
  obtain ⟨b0, b1⟩ := Blk2 B1
  obtain ⟨d0, d1⟩ := Blk2 B2
  go_wp2_with fail
  refine (L1.out W hbW).mono ?_
  rintro e w1 ⟨rfl, hb1⟩
  have Bel1 : Below w.heap.size w w1 := bs_trans hbW hb1
  replace B0 := B0.kept hb1
  replace B1 := B1.kept hb1
  replace B2 := B2.kept hb1
  replace B3 := B3.kept hb1
  obtain ⟨a0, a1⟩ := Blk2 B0
  obtain ⟨b0, b1⟩ := Blk2 B1
  obtain ⟨d0, d1⟩ := Blk2 B2
  obtain ⟨r0, r1⟩ := Blk2 B3
  obtain ⟨f0, f1⟩ := Blk2f B3
  clear hb1 hbW
  go_wp2_with fail
  refine (L2.out w1 Bel1).mono ?_
  rintro e w2 ⟨rfl, hb2⟩
  have Bel2 : Below w.heap.size w w2 := bs_trans Bel1 hb2
  replace B0 := B0.kept hb2
  replace B1 := B1.kept hb2
  replace B2 := B2.kept hb2
  replace B3 := B3.kept hb2
  obtain ⟨a0, a1⟩ := Blk2 B0
  obtain ⟨b0, b1⟩ := Blk2 B1
  obtain ⟨d0, d1⟩ := Blk2 B2
  obtain ⟨r0, r1⟩ := Blk2 B3
  obtain ⟨f0, f1⟩ := Blk2f B3
  clear hb2 Bel1
  go_wp2_with fail
  refine (L3.out w2 Bel2).mono ?_
  rintro e w3 ⟨rfl, hb3⟩
  have Bel3 : Below w.heap.size w w3 := bs_trans Bel2 hb3
  replace B0 := B0.kept hb3
  replace B1 := B1.kept hb3
  replace B2 := B2.kept hb3
  replace B3 := B3.kept hb3
  obtain ⟨a0, a1⟩ := Blk2 B0
  obtain ⟨b0, b1⟩ := Blk2 B1
  obtain ⟨d0, d1⟩ := Blk2 B2
  obtain ⟨r0, r1⟩ := Blk2 B3
  obtain ⟨f0, f1⟩ := Blk2f B3
  clear hb3 Bel2
  go_wp2_with fail
  exact bodyPost_ret (v := .tuple #[.agg #[.bool false, .slice none 0 0], .int .i64 2]) (by simp [results, Try.results81, go_sem, r0, r1]) rfl
    ⟨_, rfl, can_zero _ _, (Bel3.setCell (by show w.heap.size ≤ w.heap.size + 1 + 1 + 1; omega) _).setCell (by show w.heap.size ≤ w.heap.size + 1 + 1 + 1; omega) _⟩

set_option maxHeartbeats 3200000 in
set_option maxRecDepth 100000 in
theorem sized_4 (N : Nat) (v1 v2 v3 : Value) (z1 z2 z3 : Int) (w : World) (h1 : IsInt w v1 z1) (h2 : IsInt w v2 z2) (h3 : IsCan N w v3 z3) (g1 : ¬ 256 < nl z1.natAbs) (g2 : ¬ 256 < nl z2.natAbs) (g3 : ¬ 256 < nl z3.natAbs) :
    Calls Try.prog 81 #[v1, v2, v3] w (RetCanE N w z3 0) := by
  obtain ⟨s, base, n, c, rfl, h1⟩ := int_form h1
  obtain ⟨t, base', n', c', rfl, h2⟩ := int_form h2
  obtain ⟨r, base3, c3, rfl⟩ := can_agg h3
  have H3 := Lib.hid h3
  have h3 := h3.int
  obtain ⟨n3, hn3⟩ : ∃ n3, nl z3.natAbs = n3 := ⟨_, rfl⟩
  rw [hn3] at h3 H3
  try rw [hn3]
  have L1 : Hid (∀ W, Below w.heap.size w W → Calls Try.prog 84 #[.agg #[.bool s, .slice base n c]] W (fun e w' => e = .returned (.bool false) ∧ Below W.heap.size W w')) := Lib.hid (fun W h => by
    have := large_ref _ z1 W (h1.kept h)
    rwa [decide_eq_false g1] at this)
  have L2 : Hid (∀ W, Below w.heap.size w W → Calls Try.prog 84 #[.agg #[.bool t, .slice base' n' c']] W (fun e w' => e = .returned (.bool false) ∧ Below W.heap.size W w')) := Lib.hid (fun W h => by
    have := large_ref _ z2 W (h2.kept h)
    rwa [decide_eq_false g2] at this)
  have L3 : Hid (∀ W, Below w.heap.size w W → Calls Try.prog 84 #[.agg #[.bool r, .slice base3 n3 c3]] W (fun e w' => e = .returned (.bool false) ∧ Below W.heap.size W w')) := Lib.hid (fun W h => by
    have := large_ref _ z3 W (h3.kept h)
    rwa [decide_eq_false g3] at this)
  clear h1 h2 h3
  go_enter Try.func81, Try.ntmps81
  go_wp2_with fail
  generalize hW : World.alloc _ _ = W
  have B0 : Blk W w.heap.size #[.bool s, .slice base n c] := by rw [← hW]; exact (((blk_new rfl).alloc _).alloc _).alloc _
  have B1 : Blk W (w.heap.size + 1) #[.bool t, .slice base' n' c'] := by rw [← hW]; exact ((blk_new (by simp)).alloc _).alloc _
  have B2 : Blk W (w.heap.size + 1 + 1) #[.bool r, .slice base3 n3 c3] := by rw [← hW]; exact (blk_new (by simp)).alloc _
  have B3 : Blk W (w.heap.size + 1 + 1 + 1) #[.bool false, .slice none 0 0] := by rw [← hW]; exact blk_new (by simp)
  have hbW : Below w.heap.size w W := by rw [← hW]; exact ((((Below.refl _ _).alloc (Nat.le_refl _) _).alloc (by simp) _).alloc (by simp; omega) _).alloc (by simp; omega) _
  have HS := Lib.hid (show W.heap.size = w.heap.size + 4 by rw [← hW]; simp)
  clear hW
  obtain ⟨a0, a1⟩ := Blk2 B0
  obtain ⟨b0, b1⟩ := Blk2 B1
  obtain ⟨d0, d1⟩ := Blk2 B2
  go_wp2_with fail
  refine (L1.out W hbW).mono ?_
  rintro e w1 ⟨rfl, hb1⟩
  have Bel1 : Below w.heap.size w w1 := bs_trans hbW hb1
  replace B0 := B0.kept hb1
  replace B1 := B1.kept hb1
  replace B2 := B2.kept hb1
  replace B3 := B3.kept hb1
  obtain ⟨a0, a1⟩ := Blk2 B0
  obtain ⟨b0, b1⟩ := Blk2 B1
  obtain ⟨d0, d1⟩ := Blk2 B2
  obtain ⟨r0, r1⟩ := Blk2 B3
  obtain ⟨f0, f1⟩ := Blk2f B3
  clear hb1 hbW
  go_wp2_with fail
  refine (L2.out w1 Bel1).mono ?_
  rintro e w2 ⟨rfl, hb2⟩
  have Bel2 : Below w.heap.size w w2 := bs_trans Bel1 hb2
  replace B0 := B0.kept hb2
  replace B1 := B1.kept hb2
  replace B2 := B2.kept hb2
  replace B3 := B3.kept hb2
  obtain ⟨a0, a1⟩ := Blk2 B0
  obtain ⟨b0, b1⟩ := Blk2 B1
  obtain ⟨d0, d1⟩ := Blk2 B2
  obtain ⟨r0, r1⟩ := Blk2 B3
  obtain ⟨f0, f1⟩ := Blk2f B3
  clear hb2 Bel1
  go_wp2_with fail
  refine (L3.out w2 Bel2).mono ?_
  rintro e w3 ⟨rfl, hb3⟩
  have Bel3 : Below w.heap.size w w3 := bs_trans Bel2 hb3
  replace B0 := B0.kept hb3
  replace B1 := B1.kept hb3
  replace B2 := B2.kept hb3
  replace B3 := B3.kept hb3
  obtain ⟨a0, a1⟩ := Blk2 B0
  obtain ⟨b0, b1⟩ := Blk2 B1
  obtain ⟨d0, d1⟩ := Blk2 B2
  obtain ⟨r0, r1⟩ := Blk2 B3
  obtain ⟨f0, f1⟩ := Blk2f B3
  clear hb3 Bel2
  go_wp2_with fail
  have hfin := (Bel3.setCell (show w.heap.size ≤ (⟨w.heap.size + 1 + 1 + 1, 0, none⟩ : Addr).block by show w.heap.size ≤ w.heap.size + 1 + 1 + 1; omega) (.bool r)).setCell (show w.heap.size ≤ (⟨w.heap.size + 1 + 1 + 1, 1, none⟩ : Addr).block by show w.heap.size ≤ w.heap.size + 1 + 1 + 1; omega) (.slice base3 n3 c3)
  exact bodyPost_ret (v := .tuple #[.agg #[.bool r, .slice base3 n3 c3], .int .i64 0]) (by simp [results, Try.results81, go_sem, r0, r1]) rfl
    ⟨_, rfl, H3.out.kept hfin, hfin⟩

/-- sized: the number, or ErrSize. -/
theorem sized_ref (N : Nat) (v1 v2 v3 : Value) (z1 z2 z3 : Int) (w : World) (h1 : IsInt w v1 z1) (h2 : IsInt w v2 z2) (h3 : IsCan N w v3 z3) :
    Calls Try.prog 81 #[v1, v2, v3] w (RetCanE N w (if big z1 ∨ big z2 ∨ big z3 then 0 else z3) (if big z1 ∨ big z2 ∨ big z3 then 2 else 0)) := by
  by_cases g1 : 256 < nl z1.natAbs
  · have h : big z1 ∨ big z2 ∨ big z3 := Or.inl g1
    rw [if_pos h, if_pos h]; exact sized_1 N v1 v2 v3 z1 z2 z3 w h1 h2 h3 g1
  · by_cases g2 : 256 < nl z2.natAbs
    · have h : big z1 ∨ big z2 ∨ big z3 := Or.inr (Or.inl g2)
      rw [if_pos h, if_pos h]; exact sized_2 N v1 v2 v3 z1 z2 z3 w h1 h2 h3 g1 g2
    · by_cases g3 : 256 < nl z3.natAbs
      · have h : big z1 ∨ big z2 ∨ big z3 := Or.inr (Or.inr g3)
        rw [if_pos h, if_pos h]; exact sized_3 N v1 v2 v3 z1 z2 z3 w h1 h2 h3 g1 g2 g3
      · have h : ¬ (big z1 ∨ big z2 ∨ big z3) := by rintro (h | h | h); exact g1 h; exact g2 h; exact g3 h
        rw [if_neg h, if_neg h]; exact sized_4 N v1 v2 v3 z1 z2 z3 w h1 h2 h3 g1 g2 g3
end Go.Proofs.Ytkokokgmhpkoiaa
