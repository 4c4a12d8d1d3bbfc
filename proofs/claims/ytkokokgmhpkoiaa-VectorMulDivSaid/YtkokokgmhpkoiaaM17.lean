/-
  integer.Quo, at any two numbers.
-/
import Derived.Test.YtkokokgmhpkoiaaM12
import Derived.Test.YtkokokgmhpkoiaaM16
namespace Go.Proofs.Ytkokokgmhpkoiaa
open Go.RowKit PB

theorem divide_any (basex basey : Option Addr) (bx ox X cx by_ oy Y cy : Nat) (w : World) (hbx : nl X ≠ 0 → basex = some ⟨bx, ox, none⟩) (hby : nl Y ≠ 0 → basey = some ⟨by_, oy, none⟩)
    (hX : Num w bx ox (nl X) X) (hY : Num w by_ oy (nl Y) Y) (hc : nl X ≤ 1000000) (hc' : nl Y ≤ 1000000) (hcx : nl X ≤ cx) (hY0 : Y ≠ 0) :
    Calls Try.prog 76 #[.slice basex (nl X) cx, .slice basey (nl Y) cy] w (RetDiv w X Y) := by
  by_cases hlt : X < Y
  · exact divide_lt basex basey bx ox X cx by_ oy Y cy w hbx hby hX hY (by omega) (by omega) hcx hlt
  · have hn0 : nl Y ≠ 0 := mt nl_eq_zero.1 hY0
    obtain rfl := hby hn0
    by_cases h1 : nl Y = 1
    · exact divide_one basex bx ox X cx by_ oy Y cy w hbx hX hY (by omega) h1 (by omega)
    · have hx0 : nl X ≠ 0 := by have := nl_mono (show Y ≤ X by omega); omega
      obtain rfl := hbx hx0
      exact divide_many bx ox X cx by_ oy Y cy (nl Y) (nl Y - 2) w rfl (by omega) hX hY hc (by omega)

set_option maxHeartbeats 1600000 in
set_option maxRecDepth 100000 in
theorem quo_large (v1 v2 : Value) (z1 z2 : Int) (w : World) (h1 : IsInt w v1 z1) (h2 : IsInt w v2 z2) (hbig : big z1 ∨ big z2) :
    Calls Try.prog 15 #[v1, v2] w (RetIntIntE w 0 0 2) := by
  obtain ⟨s, base, b, off, n, c, X, rfl, hb, hX, hn, hl, rfl⟩ := h1
  obtain ⟨t, base', b', off', n', c', Y, rfl, hb', hY, hn', hl', rfl⟩ := h2
  rw [big_sg, big_sg] at hbig
  go_enter Try.func15, Try.ntmps15
  go_wp2_with fail
  generalize hW : World.alloc _ _ = W
  have B2 : Blk W (w.heap.size + 1 + 1) #[.bool false, .slice none 0 0] := by rw [← hW]; exact ((blk_new (by simp)).alloc _).alloc _
  have B3 : Blk W (w.heap.size + 1 + 1 + 1) #[.bool false, .slice none 0 0] := by rw [← hW]; exact (blk_new (by simp)).alloc _
  have B4 : Blk W (w.heap.size + 1 + 1 + 1 + 1) #[.bool s, .slice base n c, .bool t, .slice base' n' c'] := by rw [← hW]; exact blk_new (by simp)
  have hbW : Below w.heap.size w W := by rw [← hW]; exact (((((Below.refl _ _).alloc (Nat.le_refl _) _).alloc (by simp) _).alloc (by simp; omega) _).alloc (by simp; omega) _).alloc (by simp; omega) _
  have HS := Lib.hid (show W.heap.size = w.heap.size + 5 by rw [← hW]; simp)
  clear hW
  have call := large_two (w.heap.size + 1 + 1 + 1 + 1) s t base base' b off n c X b' off' n' c' Y W (B4.cell 0 _ rfl) (B4.cell 1 _ rfl) (B4.cell 2 _ rfl) (B4.cell 3 _ rfl) hb (hX.kept hbW) hn (by omega) hb' (hY.kept hbW) hn' (by omega)
  rw [decide_eq_true hbig] at call
  refine call.mono ?_
  clear call
  rintro e w1 ⟨rfl, hb1⟩
  have hbw1 : Below w.heap.size w w1 := hbW.trans (hb1.mono (by have := HS.out; omega))
  obtain ⟨c0, c1⟩ := Blk2 (B2.kept hb1)
  obtain ⟨f0, f1⟩ := Blk2f (B2.kept hb1)
  obtain ⟨d0, d1⟩ := Blk2 (B3.kept hb1)
  obtain ⟨g0, g1⟩ := Blk2f (B3.kept hb1)
  have e0 := setCell_same c0
  have e1 := setCell_same c1
  have e2 := setCell_same d0
  have e3 := setCell_same d1
  go_wp2_with fail
  go_region_held3 (fun w' => (w'.cell? ⟨w.heap.size + 1 + 1, 0, none⟩ = some (.bool false) ∧ w'.cell? ⟨w.heap.size + 1 + 1, 1, none⟩ = some (.slice none 0 0)) ∧ w'.cell? ⟨w.heap.size + 1 + 1 + 1, 0, none⟩ = some (.bool false) ∧ w'.cell? ⟨w.heap.size + 1 + 1 + 1, 1, none⟩ = some (.slice none 0 0))
    (first | exact ⟨⟨c0, c1⟩, d0, d1⟩ | (simp only [e0, e1, e2, e3]; exact ⟨⟨c0, c1⟩, d0, d1⟩)) (fail)
  go_wp2_with fail
  refine bodyPost_ret (v := .tuple #[.agg #[.bool false, .slice none 0 0], .agg #[.bool false, .slice none 0 0], .int .i64 2]) (by simp [results, Try.results15, go_sem, c0, c1, d0, d1]) rfl ⟨_, _, rfl, can_zero _ _, can_zero _ _, ?_⟩
  exact below_drewN hbw1 1

set_option maxHeartbeats 1600000 in
set_option maxRecDepth 100000 in
theorem quo_zero (v1 v2 : Value) (z1 : Int) (w : World) (h1 : IsInt w v1 z1) (h2 : IsInt w v2 0) (hs1 : ¬ big z1) :
    Calls Try.prog 15 #[v1, v2] w (RetIntIntE w 0 0 3) := by
  obtain ⟨s, base, b, off, n, c, X, rfl, hb, hX, hn, hl, rfl⟩ := h1
  obtain ⟨t, base', b', off', n', c', Y, rfl, hb', hY, hn', hl', hz2⟩ := h2
  have hY0 : Y = 0 := sg_zero.1 hz2.symm
  subst hY0
  clear hz2
  rw [big_sg] at hs1
  have hsX : ¬ (256 < nl X ∨ 256 < nl 0) := by rw [nl_zero]; omega
  have hz : ((nl 0 : Int) == 0) = true := by rw [nl_zero]; rfl
  have HB' := Lib.hid hb'
  clear hs1
  go_enter Try.func15, Try.ntmps15
  go_wp2_with fail
  generalize hW : World.alloc _ _ = W
  have B1 : Blk W (w.heap.size + 1) #[.bool t, .slice base' n' c'] := by rw [← hW]; exact (((blk_new (by simp)).alloc _).alloc _).alloc _
  have B2 : Blk W (w.heap.size + 1 + 1) #[.bool false, .slice none 0 0] := by rw [← hW]; exact ((blk_new (by simp)).alloc _).alloc _
  have B3 : Blk W (w.heap.size + 1 + 1 + 1) #[.bool false, .slice none 0 0] := by rw [← hW]; exact (blk_new (by simp)).alloc _
  have B4 : Blk W (w.heap.size + 1 + 1 + 1 + 1) #[.bool s, .slice base n c, .bool t, .slice base' n' c'] := by rw [← hW]; exact blk_new (by simp)
  have hbW : Below w.heap.size w W := by rw [← hW]; exact (((((Below.refl _ _).alloc (Nat.le_refl _) _).alloc (by simp) _).alloc (by simp; omega) _).alloc (by simp; omega) _).alloc (by simp; omega) _
  have HS := Lib.hid (show W.heap.size = w.heap.size + 5 by rw [← hW]; simp)
  clear hW
  have call := large_two (w.heap.size + 1 + 1 + 1 + 1) s t base base' b off n c X b' off' n' c' 0 W (B4.cell 0 _ rfl) (B4.cell 1 _ rfl) (B4.cell 2 _ rfl) (B4.cell 3 _ rfl) hb (hX.kept hbW) hn (by omega) hb' (hY.kept hbW) hn' (by omega)
  rw [decide_eq_false hsX] at call
  refine call.mono ?_
  clear call hb hb' hX
  rintro e w1 ⟨rfl, hb1⟩
  have hbw1 : Below w.heap.size w w1 := hbW.trans (hb1.mono (by have := HS.out; omega))
  obtain ⟨b0, b1⟩ := Blk2 (B1.kept hb1)
  obtain ⟨c0, c1⟩ := Blk2 (B2.kept hb1)
  obtain ⟨f0, f1⟩ := Blk2f (B2.kept hb1)
  obtain ⟨d0, d1⟩ := Blk2 (B3.kept hb1)
  obtain ⟨g0, g1⟩ := Blk2f (B3.kept hb1)
  have e0 := setCell_same c0
  have e1 := setCell_same c1
  have e2 := setCell_same d0
  have e3 := setCell_same d1
  have hY1 := hY.kept hbw1
  clear B1 B2 B3 B4 hb1 hbW HS
  go_wp2_with (first | (go_at_call 75; refine (cut_any base' b' off' n' c' 0 _ HB'.out (by exact hY1) hn' (by omega)).mono ?_; rintro e w' ⟨rfl, rfl⟩))
  go_region_held3 (fun w' => (w'.cell? ⟨w.heap.size + 1 + 1, 0, none⟩ = some (.bool false) ∧ w'.cell? ⟨w.heap.size + 1 + 1, 1, none⟩ = some (.slice none 0 0)) ∧ w'.cell? ⟨w.heap.size + 1 + 1 + 1, 0, none⟩ = some (.bool false) ∧ w'.cell? ⟨w.heap.size + 1 + 1 + 1, 1, none⟩ = some (.slice none 0 0))
    (first | exact ⟨⟨c0, c1⟩, d0, d1⟩ | (simp only [e0, e1, e2, e3]; exact ⟨⟨c0, c1⟩, d0, d1⟩)) (fail)
  go_wp2_with fail
  refine bodyPost_ret (v := .tuple #[.agg #[.bool false, .slice none 0 0], .agg #[.bool false, .slice none 0 0], .int .i64 3]) (by simp [results, Try.results15, go_sem, c0, c1, d0, d1]) rfl ⟨_, _, rfl, can_zero _ _, can_zero _ _, ?_⟩
  exact below_drewN hbw1 1

theorem sg_tdiv (s t : Bool) (X Y : Nat) : sg (!(s == t)) (X / Y) = (sg s X).tdiv (sg t Y) := by
  have e : (X : Int).tdiv Y = (X : Int) / Y := Int.tdiv_eq_ediv_of_nonneg (Int.natCast_nonneg X)
  unfold sg
  cases s <;> cases t <;> simp [Int.neg_tdiv, Int.tdiv_neg, e]
theorem sg_tmod (s t : Bool) (X Y : Nat) : sg s (X % Y) = (sg s X).tmod (sg t Y) := by
  have e : (X : Int).tmod Y = (X : Int) % Y := Int.tmod_eq_emod_of_nonneg (Int.natCast_nonneg X)
  unfold sg
  cases s <;> cases t <;> simp [Int.neg_tmod, Int.tmod_neg, e]
/-- Quo, at two numbers that are not large, the second not 0. -/
theorem quo_fine (v1 v2 : Value) (z1 z2 : Int) (w : World) (h1 : IsInt w v1 z1) (h2 : IsInt w v2 z2) (hs1 : ¬ big z1) (hs2 : ¬ big z2) (h0 : z2 ≠ 0) :
    Calls Try.prog 15 #[v1, v2] w (RetIntIntE w (z1.tdiv z2) (z1.tmod z2) 0) := by
  obtain ⟨s, base, b, off, n, c, X, rfl, hb, hX, hn, hl, rfl⟩ := h1
  obtain ⟨t, base', b', off', n', c', Y, rfl, hb', hY, hn', hl', rfl⟩ := h2
  have hY0 : Y ≠ 0 := fun e => h0 (sg_zero.2 e)
  rw [big_sg] at hs1 hs2
  have hnX := nl_le hX.lt
  have hnY := nl_le hY.lt
  rw [← sg_tdiv, ← sg_tmod]
  exact quo_ok s t base b off n c X base' b' off' n' c' Y w hb hX hn hl hb' hY hn' hl' (by omega) hY0 _ rfl fun W hbW =>
    divide_any base base' b off X _ b' off' Y _ W (fun h => hb (by omega)) (fun h => hb' (by omega)) ((hX.fewer hnX (lt_nl X)).kept hbW) ((hY.fewer hnY (lt_nl Y)).kept hbW) (by omega) (by omega) (Nat.le_refl _) hY0
end Go.Proofs.Ytkokokgmhpkoiaa
