/-
  What Gcd, Shift and Text return of large numbers; the verifier's place.
  integer.Neg and Trim (written by wip/genneg.py).
-/
import Derived.Deep.RegionHeld3
import Derived.Test.YtdgfmkideghhaaaM15
import Derived.Test.YtdgfmkideghhaaaM23
import Derived.Test.YtdgfmkideghhaaaM24
import Derived.Test.YtdgfmkideghhaaaM26
import Derived.Test.YtdgfmkideghhaaaM29
import Derived.Test.YtdgfmkideghhaaaM30
namespace Go.Proofs.Ytdgfmkideghhaaa
open Go.RowKit PB

set_option maxHeartbeats 1600000 in
set_option maxRecDepth 100000 in
theorem gcd_large (v1 v2 : Value) (z1 z2 : Int) (w : World) (h1 : IsInt w v1 z1) (h2 : IsInt w v2 z2) (hbig : big z1 ∨ big z2) :
    Calls Try.prog 16 #[v1, v2] w (RetIntE w 0 2) := by
  obtain ⟨s, base, b, off, n, c, X, rfl, hb, hX, hn, hl, rfl⟩ := h1
  obtain ⟨t, base', b', off', n', c', Y, rfl, hb', hY, hn', hl', rfl⟩ := h2
  rw [big_sg, big_sg] at hbig
  go_enter Try.func16, Try.ntmps16
  go_wp2_with fail
  generalize hW : World.alloc _ _ = W
  have B2 : Blk W (w.heap.size + 1 + 1) #[.bool false, .slice none 0 0] := by rw [← hW]; exact (blk_new (by simp)).alloc _
  have B3 : Blk W (w.heap.size + 1 + 1 + 1) #[.bool s, .slice base n c, .bool t, .slice base' n' c'] := by rw [← hW]; exact blk_new (by simp)
  have hbW : Below w.heap.size w W := by rw [← hW]; exact ((((Below.refl _ _).alloc (Nat.le_refl _) _).alloc (by simp) _).alloc (by simp; omega) _).alloc (by simp; omega) _
  have HS := Lib.hid (show W.heap.size = w.heap.size + 4 by rw [← hW]; simp)
  clear hW
  have call := large_two (w.heap.size + 1 + 1 + 1) s t base base' b off n c X b' off' n' c' Y W (B3.cell 0 _ rfl) (B3.cell 1 _ rfl) (B3.cell 2 _ rfl) (B3.cell 3 _ rfl) hb (hX.kept hbW) hn (by omega) hb' (hY.kept hbW) hn' (by omega)
  rw [decide_eq_true hbig] at call
  refine call.mono ?_
  clear call
  rintro e w1 ⟨rfl, hb1⟩
  obtain ⟨c0, c1⟩ := Blk2 (B2.kept hb1)
  obtain ⟨f0, f1⟩ := Blk2f (B2.kept hb1)
  go_wp2_with fail
  have hsz := HS.out
  refine bodyPost_ret (v := .tuple #[.agg #[.bool false, .slice none 0 0], .int .i64 2]) (by simp [results, Try.results16, go_sem, c0, c1]) rfl ⟨_, rfl, can_zero _ _, ?_⟩
  exact ((hbW.trans (hb1.mono (by omega))).setCell (by show w.heap.size ≤ w.heap.size + 1 + 1; omega) _).setCell (by show w.heap.size ≤ w.heap.size + 1 + 1; omega) _

set_option maxHeartbeats 1600000 in
set_option maxRecDepth 100000 in
theorem shift_large (v : Value) (z k : Int) (w : World) (h1 : IsInt w v z) (hbig : big z) :
    Calls Try.prog 17 #[v, .int .i64 k] w (RetIntE w 0 2) := by
  obtain ⟨s, base, b, off, n, c, X, rfl, hb, hX, hn, hl, rfl⟩ := h1
  rw [big_sg] at hbig
  have HB := Lib.hid hb
  clear hb
  go_enter Try.func17, Try.ntmps17
  go_wp2_with fail
  generalize hW : World.alloc _ _ = W
  have B0 : Blk W w.heap.size #[.bool s, .slice base n c] := by rw [← hW]; exact (blk_new rfl).alloc _
  have B1 : Blk W (w.heap.size + 1) #[.bool false, .slice none 0 0] := by rw [← hW]; exact blk_new (by simp)
  have hbW : Below w.heap.size w W := by rw [← hW]; exact ((Below.refl _ _).alloc (Nat.le_refl _) _).alloc (by simp) _
  have HS := Lib.hid (show W.heap.size = w.heap.size + 2 by rw [← hW]; simp)
  clear hW
  obtain ⟨a0, a1⟩ := Blk2 B0
  have hXW := hX.kept hbW
  have cut0 := cut_any base b off n c X W HB.out hXW hn (by omega)
  go_wp2_with (go_at_call 75; refine cut0.mono ?_; rintro e w' ⟨rfl, rfl⟩)
  generalize hV : World.alloc _ _ = V
  have hbV : Below W.heap.size W V := by rw [← hV]; exact (Below.refl _ _).alloc (Nat.le_refl _) _
  have B2 : Blk V W.heap.size #[.bool s, .slice base n c] := by rw [← hV]; exact blk_new rfl
  clear hV cut0
  have call := large_one W.heap.size s base b off n c X V (B2.cell 0 _ rfl) (B2.cell 1 _ rfl) HB.out (hXW.kept hbV) hn (by omega)
  rw [decide_eq_true hbig] at call
  refine call.mono ?_
  clear call
  rintro e w1 ⟨rfl, hb1⟩
  have hbw1 : Below w.heap.size w w1 := hbW.trans ((hbV.trans (hb1.mono hbV.size)).mono (by have := HS.out; omega))
  obtain ⟨c0, c1⟩ := Blk2 ((B1.kept hbV).kept hb1)
  obtain ⟨f0, f1⟩ := Blk2f ((B1.kept hbV).kept hb1)
  clear B0 B1 B2 hb1 hbV hbW hXW a0 a1
  go_wp2_with fail
  refine bodyPost_ret (v := .tuple #[.agg #[.bool false, .slice none 0 0], .int .i64 2]) (by simp [results, Try.results17, go_sem, c0, c1]) rfl ⟨_, rfl, can_zero _ _, ?_⟩
  exact (hbw1.setCell (by show w.heap.size ≤ w.heap.size + 1; omega) _).setCell (by show w.heap.size ≤ w.heap.size + 1; omega) _

set_option maxHeartbeats 1600000 in
set_option maxRecDepth 100000 in
/-- Too far to the left: a number that is neither large nor 0. -/
theorem shift_far (s : Bool) (base : Option Addr) (b off n c X : Nat) (k : Int) (w : World) (hb : n ≠ 0 → base = some ⟨b, off, none⟩) (hX : Num w b off n X) (hn : n ≤ c) (hl : n ≤ 1000000000) (hs : ¬ 256 < nl X) (h0 : X ≠ 0) (hk : 8192 < k) :
    Calls Try.prog 17 #[.agg #[.bool s, .slice base n c], .int .i64 k] w (RetIntE w 0 2) := by
  have HB := Lib.hid hb
  have hz : ((nl X : Int) == 0) = false := by have := mt nl_eq_zero.1 h0; simp; omega
  clear hb
  go_enter Try.func17, Try.ntmps17
  go_wp2_with fail
  generalize hW : World.alloc _ _ = W
  have B0 : Blk W w.heap.size #[.bool s, .slice base n c] := by rw [← hW]; exact (blk_new rfl).alloc _
  have B1 : Blk W (w.heap.size + 1) #[.bool false, .slice none 0 0] := by rw [← hW]; exact blk_new (by simp)
  have hbW : Below w.heap.size w W := by rw [← hW]; exact ((Below.refl _ _).alloc (Nat.le_refl _) _).alloc (by simp) _
  have HS := Lib.hid (show W.heap.size = w.heap.size + 2 by rw [← hW]; simp)
  clear hW
  obtain ⟨a0, a1⟩ := Blk2 B0
  have hXW := hX.kept hbW
  have cut0 := cut_any base b off n c X W HB.out hXW hn (by omega)
  go_wp2_with (go_at_call 75; refine cut0.mono ?_; rintro e w' ⟨rfl, rfl⟩)
  generalize hV : World.alloc _ _ = V
  have hbV : Below W.heap.size W V := by rw [← hV]; exact (Below.refl _ _).alloc (Nat.le_refl _) _
  have B2 : Blk V W.heap.size #[.bool s, .slice base n c] := by rw [← hV]; exact blk_new rfl
  clear hV cut0
  have call := large_one W.heap.size s base b off n c X V (B2.cell 0 _ rfl) (B2.cell 1 _ rfl) HB.out (hXW.kept hbV) hn (by omega)
  rw [decide_eq_false hs] at call
  refine call.mono ?_
  clear call
  rintro e w1 ⟨rfl, hb1⟩
  have hbw1 : Below w.heap.size w w1 := hbW.trans ((hbV.trans (hb1.mono hbV.size)).mono (by have := HS.out; omega))
  obtain ⟨c0, c1⟩ := Blk2 ((B1.kept hbV).kept hb1)
  obtain ⟨f0, f1⟩ := Blk2f ((B1.kept hbV).kept hb1)
  clear B0 B1 B2 hb1 hbV hbW hXW a0 a1
  go_wp2_with fail
  refine bodyPost_ret (v := .tuple #[.agg #[.bool false, .slice none 0 0], .int .i64 2]) (by simp [results, Try.results17, go_sem, c0, c1]) rfl ⟨_, rfl, can_zero _ _, ?_⟩
  exact (hbw1.setCell (by show w.heap.size ≤ w.heap.size + 1; omega) _).setCell (by show w.heap.size ≤ w.heap.size + 1; omega) _

set_option maxHeartbeats 1600000 in
set_option maxRecDepth 100000 in
theorem text_large (v : Value) (z : Int) (w : World) (h1 : IsInt w v z) (hbig : big z) :
    Calls Try.prog 69 #[v] w fun e w' => e = .returned (.tuple #[.string { data := #[] }, .int .i64 2]) ∧ Below w.heap.size w w' := by
  obtain ⟨s, base, b, off, n, c, X, rfl, hb, hX, hn, hl, rfl⟩ := h1
  rw [big_sg] at hbig
  have HB := Lib.hid hb
  clear hb
  go_enter Try.func69, Try.ntmps69
  go_wp2_with fail
  generalize hW : World.alloc _ _ = W
  have B1 : Blk W (w.heap.size + 1) #[.bool s, .slice base n c] := by rw [← hW]; exact blk_new (by simp)
  have hbW : Below w.heap.size w W := by rw [← hW]; exact ((Below.refl _ _).alloc (Nat.le_refl _) _).alloc (by simp) _
  have HS := Lib.hid (show W.heap.size = w.heap.size + 2 by rw [← hW]; simp)
  clear hW
  have call := large_one (w.heap.size + 1) s base b off n c X W (B1.cell 0 _ rfl) (B1.cell 1 _ rfl) HB.out (hX.kept hbW) hn (by omega)
  rw [decide_eq_true hbig] at call
  refine call.mono ?_
  clear call
  rintro e w1 ⟨rfl, hb1⟩
  have hbw1 : Below w.heap.size w w1 := hbW.trans (hb1.mono (by have := HS.out; omega))
  clear B1 hbW HS hb1
  go_wp2_with fail
  go_ret2
  exact ⟨rfl, hbw1⟩

end Go.Proofs.Ytdgfmkideghhaaa

namespace Go.Proofs.Ytdgfmkideghhaaa
open Go.RowKit PB

set_option maxHeartbeats 1600000 in
set_option maxRecDepth 100000 in
theorem neg_any (v : Value) (z : Int) (w : World) (h : IsInt w v z) :
    Calls Try.prog 28 #[v] w (RetInt w (-z)) := by
  obtain ⟨s, base, b, off, n, c, X, rfl, hb, hX, hn, hl, hz⟩ := h
  have hsg : (-z) = sg (!s) X := by subst hz; unfold sg; cases s <;> simp
  rw [hsg]
  have hnX := nl_le hX.lt
  have HB := Lib.hid hb
  clear hb hz hsg
  go_enter Try.func28, Try.ntmps28
  go_wp2_with fail
  generalize hW : World.alloc _ _ = W
  have B0 : Blk W w.heap.size #[.bool s, .slice base n c] := by rw [← hW]; exact (blk_new rfl).alloc _
  have B1 : Blk W (w.heap.size + 1) #[.bool false, .slice none 0 0] := by rw [← hW]; exact blk_new (by simp)
  have hbW : Below w.heap.size w W := by rw [← hW]; exact ((Below.refl _ _).alloc (Nat.le_refl _) _).alloc (by simp) _
  have HS := Lib.hid (show W.heap.size = w.heap.size + 2 by rw [← hW]; simp)
  clear hW
  have HK := Lib.hid (show ∀ w2, Below W.heap.size W w2 → w2.cell? ⟨w.heap.size, 0, none⟩ = some (.bool s) ∧ w2.cell? ⟨w.heap.size, 1, none⟩ = some (.slice base n c) from fun w2 h => Blk2 (B0.kept h))
  have HL := Lib.hid (show ∀ w2, Below W.heap.size W w2 → Blk w2 (w.heap.size + 1) #[.bool false, .slice none 0 0] from fun w2 h => B1.kept h)
  have HST := Lib.hid (show ∀ (w4 : World) (u0 u1 : Value), (w4.cell? ⟨w.heap.size, 0, none⟩ = some (.bool s) ∧ w4.cell? ⟨w.heap.size, 1, none⟩ = some (.slice base n c)) →
      (((w4.setCell ⟨w.heap.size + 1, 0, none⟩ u0).setCell ⟨w.heap.size + 1, 1, none⟩ u1).cell? ⟨w.heap.size, 0, none⟩ = some (.bool s) ∧ ((w4.setCell ⟨w.heap.size + 1, 0, none⟩ u0).setCell ⟨w.heap.size + 1, 1, none⟩ u1).cell? ⟨w.heap.size, 1, none⟩ = some (.slice base n c)) from
    fun w4 u0 u1 h => ⟨cell_other (cell_other h.1 (show w.heap.size ≠ w.heap.size + 1 by omega)) (show w.heap.size ≠ w.heap.size + 1 by omega), cell_other (cell_other h.2 (show w.heap.size ≠ w.heap.size + 1 by omega)) (show w.heap.size ≠ w.heap.size + 1 by omega)⟩)
  obtain ⟨a0, a1⟩ := HK.out _ (Below.refl _ _)
  have hXW := hX.kept hbW
  clear B0 B1
  go_region_held3 (fun w' => w'.cell? ⟨w.heap.size, 0, none⟩ = some (.bool s) ∧ w'.cell? ⟨w.heap.size, 1, none⟩ = some (.slice base n c))
    (first | exact ⟨a0, a1⟩ | exact HK.out _ hk3 | exact HK.out _ hk2 | exact HST.out _ _ _ (HK.out _ hk3))
    (first
      | (go_at_call 78; refine (duplicate_any base b off n c X _ HB.out (by exact hXW) hn (by omega)).mono ?_; rintro e w2 ⟨rfl, hF2⟩
         have hk2 : Below W.heap.size W w2 := (by first | exact hF2.below | exact below_undrew hF2.below)
         have hfx : Num w2 W.heap.size 0 (nl X) X := hF2.num)
      | (go_at_call 73; refine (number_any (!s) (some ⟨W.heap.size, 0, none⟩) W.heap.size 0 (nl X) (nl X) X _ (fun _ => rfl) (by exact hfx) (Nat.le_refl _) (by omega)).mono ?_; rintro e w3 ⟨rfl, hb3⟩
         have hk3 : Below W.heap.size W w3 := hk2.trans (hb3.mono hk2.size)
         have hq3 : Num w3 W.heap.size 0 (nl X) X := hfx.kept hb3
         obtain ⟨s1, p1, m1, hv1⟩ := intv_form (!s) (some ⟨W.heap.size, 0, none⟩) X
         rw [hv1]
         have HV1 := Lib.hid hv1
         clear hv1
         obtain ⟨c0, c1⟩ := Blk2 (HL.out _ hk3)
         obtain ⟨f0, f1⟩ := Blk2f (HL.out _ hk3)))
  go_wp2_with fail
  have h1 := HS.out
  refine bodyPost_ret (v := .agg #[.bool s1, .slice p1 m1 m1]) (by simp [results, Try.results28, go_sem, c0, c1]) rfl ⟨_, rfl, ?_, ?_⟩
  · rw [← HV1.out]
    refine can_intv (s := (!s)) (n := nl X) (fun _ => rfl) ((hq3.other _ ?_).other _ ?_) (by omega) (fun h => by omega)
    all_goals (intro h; simp only []; omega)
  · exact ((hbW.trans (hk3.mono (by omega))).setCell (by show w.heap.size ≤ w.heap.size + 1; omega) _).setCell (by show w.heap.size ≤ w.heap.size + 1; omega) _

set_option maxHeartbeats 1600000 in
set_option maxRecDepth 100000 in
theorem trim_any (v : Value) (z : Int) (w : World) (h : IsInt w v z) :
    Calls Try.prog 26 #[v] w (RetInt w z) := by
  obtain ⟨s, base, b, off, n, c, X, rfl, hb, hX, hn, hl, hz⟩ := h
  have hsg : z = sg s X := by subst hz; unfold sg; cases s <;> simp
  rw [hsg]
  have hnX := nl_le hX.lt
  have HB := Lib.hid hb
  clear hb hz hsg
  go_enter Try.func26, Try.ntmps26
  go_wp2_with fail
  generalize hW : World.alloc _ _ = W
  have B0 : Blk W w.heap.size #[.bool s, .slice base n c] := by rw [← hW]; exact (blk_new rfl).alloc _
  have B1 : Blk W (w.heap.size + 1) #[.bool false, .slice none 0 0] := by rw [← hW]; exact blk_new (by simp)
  have hbW : Below w.heap.size w W := by rw [← hW]; exact ((Below.refl _ _).alloc (Nat.le_refl _) _).alloc (by simp) _
  have HS := Lib.hid (show W.heap.size = w.heap.size + 2 by rw [← hW]; simp)
  clear hW
  have HK := Lib.hid (show ∀ w2, Below W.heap.size W w2 → w2.cell? ⟨w.heap.size, 0, none⟩ = some (.bool s) ∧ w2.cell? ⟨w.heap.size, 1, none⟩ = some (.slice base n c) from fun w2 h => Blk2 (B0.kept h))
  have HL := Lib.hid (show ∀ w2, Below W.heap.size W w2 → Blk w2 (w.heap.size + 1) #[.bool false, .slice none 0 0] from fun w2 h => B1.kept h)
  have HST := Lib.hid (show ∀ (w4 : World) (u0 u1 : Value), (w4.cell? ⟨w.heap.size, 0, none⟩ = some (.bool s) ∧ w4.cell? ⟨w.heap.size, 1, none⟩ = some (.slice base n c)) →
      (((w4.setCell ⟨w.heap.size + 1, 0, none⟩ u0).setCell ⟨w.heap.size + 1, 1, none⟩ u1).cell? ⟨w.heap.size, 0, none⟩ = some (.bool s) ∧ ((w4.setCell ⟨w.heap.size + 1, 0, none⟩ u0).setCell ⟨w.heap.size + 1, 1, none⟩ u1).cell? ⟨w.heap.size, 1, none⟩ = some (.slice base n c)) from
    fun w4 u0 u1 h => ⟨cell_other (cell_other h.1 (show w.heap.size ≠ w.heap.size + 1 by omega)) (show w.heap.size ≠ w.heap.size + 1 by omega), cell_other (cell_other h.2 (show w.heap.size ≠ w.heap.size + 1 by omega)) (show w.heap.size ≠ w.heap.size + 1 by omega)⟩)
  obtain ⟨a0, a1⟩ := HK.out _ (Below.refl _ _)
  have hXW := hX.kept hbW
  clear B0 B1
  go_region_held3 (fun w' => w'.cell? ⟨w.heap.size, 0, none⟩ = some (.bool s) ∧ w'.cell? ⟨w.heap.size, 1, none⟩ = some (.slice base n c))
    (first | exact ⟨a0, a1⟩ | exact HK.out _ hk3 | exact HK.out _ hk2 | exact HST.out _ _ _ (HK.out _ hk3))
    (first
      | (go_at_call 78; refine (duplicate_any base b off n c X _ HB.out (by exact hXW) hn (by omega)).mono ?_; rintro e w2 ⟨rfl, hF2⟩
         have hk2 : Below W.heap.size W w2 := (by first | exact hF2.below | exact below_undrew hF2.below)
         have hfx : Num w2 W.heap.size 0 (nl X) X := hF2.num)
      | (go_at_call 73; refine (number_any s (some ⟨W.heap.size, 0, none⟩) W.heap.size 0 (nl X) (nl X) X _ (fun _ => rfl) (by exact hfx) (Nat.le_refl _) (by omega)).mono ?_; rintro e w3 ⟨rfl, hb3⟩
         have hk3 : Below W.heap.size W w3 := hk2.trans (hb3.mono hk2.size)
         have hq3 : Num w3 W.heap.size 0 (nl X) X := hfx.kept hb3
         obtain ⟨s1, p1, m1, hv1⟩ := intv_form s (some ⟨W.heap.size, 0, none⟩) X
         rw [hv1]
         have HV1 := Lib.hid hv1
         clear hv1
         obtain ⟨c0, c1⟩ := Blk2 (HL.out _ hk3)
         obtain ⟨f0, f1⟩ := Blk2f (HL.out _ hk3)))
  go_wp2_with fail
  have h1 := HS.out
  refine bodyPost_ret (v := .agg #[.bool s1, .slice p1 m1 m1]) (by simp [results, Try.results26, go_sem, c0, c1]) rfl ⟨_, rfl, ?_, ?_⟩
  · rw [← HV1.out]
    refine can_intv (s := s) (n := nl X) (fun _ => rfl) ((hq3.other _ ?_).other _ ?_) (by omega) (fun h => by omega)
    all_goals (intro h; simp only []; omega)
  · exact ((hbW.trans (hk3.mono (by omega))).setCell (by show w.heap.size ≤ w.heap.size + 1; omega) _).setCell (by show w.heap.size ≤ w.heap.size + 1; omega) _
end Go.Proofs.Ytdgfmkideghhaaa
