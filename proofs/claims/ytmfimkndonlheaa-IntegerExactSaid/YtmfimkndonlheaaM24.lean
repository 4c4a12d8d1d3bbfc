/-
  integer.Neg and Trim (written by wip/genneg.py).
-/
import Derived.Deep.RegionHeld3
import Derived.Test.YtmfimkndonlheaaM03
import Derived.Test.YtmfimkndonlheaaM17
namespace Go.Proofs.Ytmfimkndonlheaa
open Go.RowKit PB

set_option maxHeartbeats 1600000 in
set_option maxRecDepth 100000 in
theorem neg_any (v : Value) (z : Int) (w : World) (h : IsInt w v z) :
    Calls Try.prog 28 #[v] w (RetInt w (-z)) := by
  obtain ⟨s, base, b, off, n, c, X, rfl, hb, hX, hn, hl, hz⟩ := h
  have hsg : (-z) = sg (!s) X := by subst hz; unfold sg; cases s <;> simp
  rw [hsg]
  have hnX := nl_le hX.lt
  have HB := Lib.hid hb
  clear hb hz hsg
  go_enter Try.func28, Try.ntmps28
  go_wp2_with fail
  generalize hW : World.alloc _ _ = W
  have B0 : Blk W w.heap.size #[.bool s, .slice base n c] := by rw [← hW]; exact (blk_new rfl).alloc _
  have B1 : Blk W (w.heap.size + 1) #[.bool false, .slice none 0 0] := by rw [← hW]; exact blk_new (by simp)
  have hbW : Below w.heap.size w W := by rw [← hW]; exact ((Below.refl _ _).alloc (Nat.le_refl _) _).alloc (by simp) _
  have HS := Lib.hid (show W.heap.size = w.heap.size + 2 by rw [← hW]; simp)
  clear hW
  have HK := Lib.hid (show ∀ w2, Below W.heap.size W w2 → w2.cell? ⟨w.heap.size, 0, none⟩ = some (.bool s) ∧ w2.cell? ⟨w.heap.size, 1, none⟩ = some (.slice base n c) from fun w2 h => Blk2 (B0.kept h))
  have HL := Lib.hid (show ∀ w2, Below W.heap.size W w2 → Blk w2 (w.heap.size + 1) #[.bool false, .slice none 0 0] from fun w2 h => B1.kept h)
  have HST := Lib.hid (show ∀ (w4 : World) (u0 u1 : Value), (w4.cell? ⟨w.heap.size, 0, none⟩ = some (.bool s) ∧ w4.cell? ⟨w.heap.size, 1, none⟩ = some (.slice base n c)) →
      (((w4.setCell ⟨w.heap.size + 1, 0, none⟩ u0).setCell ⟨w.heap.size + 1, 1, none⟩ u1).cell? ⟨w.heap.size, 0, none⟩ = some (.bool s) ∧ ((w4.setCell ⟨w.heap.size + 1, 0, none⟩ u0).setCell ⟨w.heap.size + 1, 1, none⟩ u1).cell? ⟨w.heap.size, 1, none⟩ = some (.slice base n c)) from
    fun w4 u0 u1 h => ⟨cell_other (cell_other h.1 (show w.heap.size ≠ w.heap.size + 1 by omega)) (show w.heap.size ≠ w.heap.size + 1 by omega), cell_other (cell_other h.2 (show w.heap.size ≠ w.heap.size + 1 by omega)) (show w.heap.size ≠ w.heap.size + 1 by omega)⟩)
  obtain ⟨a0, a1⟩ := HK.out _ (Below.refl _ _)
  have hXW := hX.kept hbW
  clear B0 B1
  go_region_held3 (fun w' => w'.cell? ⟨w.heap.size, 0, none⟩ = some (.bool s) ∧ w'.cell? ⟨w.heap.size, 1, none⟩ = some (.slice base n c))
    (first | exact ⟨a0, a1⟩ | exact HK.out _ hk3 | exact HK.out _ hk2 | exact HST.out _ _ _ (HK.out _ hk3))
    (first
      | (go_at_call 54; refine (duplicate_any base b off n c X _ HB.out (by exact hXW) hn (by omega)).mono ?_; rintro e w2 ⟨rfl, hF2⟩
         have hk2 : Below W.heap.size W w2 := (by first | exact hF2.below | exact below_undrew hF2.below)
         have hfx : Num w2 W.heap.size 0 (nl X) X := hF2.num)
      | (go_at_call 49; refine (number_any (!s) (some ⟨W.heap.size, 0, none⟩) W.heap.size 0 (nl X) (nl X) X _ (fun _ => rfl) (by exact hfx) (Nat.le_refl _) (by omega)).mono ?_; rintro e w3 ⟨rfl, hb3⟩
         have hk3 : Below W.heap.size W w3 := hk2.trans (hb3.mono hk2.size)
         have hq3 : Num w3 W.heap.size 0 (nl X) X := hfx.kept hb3
         obtain ⟨s1, p1, m1, hv1⟩ := intv_form (!s) (some ⟨W.heap.size, 0, none⟩) X
         rw [hv1]
         have HV1 := Lib.hid hv1
         clear hv1
         obtain ⟨c0, c1⟩ := Blk2 (HL.out _ hk3)
         obtain ⟨f0, f1⟩ := Blk2f (HL.out _ hk3)))
  go_wp2_with fail
  have h1 := HS.out
  refine bodyPost_ret (v := .agg #[.bool s1, .slice p1 m1 m1]) (by simp [results, Try.results28, go_sem, c0, c1]) rfl ⟨_, rfl, ?_, ?_⟩
  · rw [← HV1.out]
    refine can_intv (s := (!s)) (n := nl X) (fun _ => rfl) ((hq3.other _ ?_).other _ ?_) (by omega) (fun h => by omega)
    all_goals (intro h; simp only []; omega)
  · exact ((hbW.trans (hk3.mono (by omega))).setCell (by show w.heap.size ≤ w.heap.size + 1; omega) _).setCell (by show w.heap.size ≤ w.heap.size + 1; omega) _

set_option maxHeartbeats 1600000 in
set_option maxRecDepth 100000 in
theorem trim_any (v : Value) (z : Int) (w : World) (h : IsInt w v z) :
    Calls Try.prog 26 #[v] w (RetInt w z) := by
  obtain ⟨s, base, b, off, n, c, X, rfl, hb, hX, hn, hl, hz⟩ := h
  have hsg : z = sg s X := by subst hz; unfold sg; cases s <;> simp
  rw [hsg]
  have hnX := nl_le hX.lt
  have HB := Lib.hid hb
  clear hb hz hsg
  go_enter Try.func26, Try.ntmps26
  go_wp2_with fail
  generalize hW : World.alloc _ _ = W
  have B0 : Blk W w.heap.size #[.bool s, .slice base n c] := by rw [← hW]; exact (blk_new rfl).alloc _
  have B1 : Blk W (w.heap.size + 1) #[.bool false, .slice none 0 0] := by rw [← hW]; exact blk_new (by simp)
  have hbW : Below w.heap.size w W := by rw [← hW]; exact ((Below.refl _ _).alloc (Nat.le_refl _) _).alloc (by simp) _
  have HS := Lib.hid (show W.heap.size = w.heap.size + 2 by rw [← hW]; simp)
  clear hW
  have HK := Lib.hid (show ∀ w2, Below W.heap.size W w2 → w2.cell? ⟨w.heap.size, 0, none⟩ = some (.bool s) ∧ w2.cell? ⟨w.heap.size, 1, none⟩ = some (.slice base n c) from fun w2 h => Blk2 (B0.kept h))
  have HL := Lib.hid (show ∀ w2, Below W.heap.size W w2 → Blk w2 (w.heap.size + 1) #[.bool false, .slice none 0 0] from fun w2 h => B1.kept h)
  have HST := Lib.hid (show ∀ (w4 : World) (u0 u1 : Value), (w4.cell? ⟨w.heap.size, 0, none⟩ = some (.bool s) ∧ w4.cell? ⟨w.heap.size, 1, none⟩ = some (.slice base n c)) →
      (((w4.setCell ⟨w.heap.size + 1, 0, none⟩ u0).setCell ⟨w.heap.size + 1, 1, none⟩ u1).cell? ⟨w.heap.size, 0, none⟩ = some (.bool s) ∧ ((w4.setCell ⟨w.heap.size + 1, 0, none⟩ u0).setCell ⟨w.heap.size + 1, 1, none⟩ u1).cell? ⟨w.heap.size, 1, none⟩ = some (.slice base n c)) from
    fun w4 u0 u1 h => ⟨cell_other (cell_other h.1 (show w.heap.size ≠ w.heap.size + 1 by omega)) (show w.heap.size ≠ w.heap.size + 1 by omega), cell_other (cell_other h.2 (show w.heap.size ≠ w.heap.size + 1 by omega)) (show w.heap.size ≠ w.heap.size + 1 by omega)⟩)
  obtain ⟨a0, a1⟩ := HK.out _ (Below.refl _ _)
  have hXW := hX.kept hbW
  clear B0 B1
  go_region_held3 (fun w' => w'.cell? ⟨w.heap.size, 0, none⟩ = some (.bool s) ∧ w'.cell? ⟨w.heap.size, 1, none⟩ = some (.slice base n c))
    (first | exact ⟨a0, a1⟩ | exact HK.out _ hk3 | exact HK.out _ hk2 | exact HST.out _ _ _ (HK.out _ hk3))
    (first
      | (go_at_call 54; refine (duplicate_any base b off n c X _ HB.out (by exact hXW) hn (by omega)).mono ?_; rintro e w2 ⟨rfl, hF2⟩
         have hk2 : Below W.heap.size W w2 := (by first | exact hF2.below | exact below_undrew hF2.below)
         have hfx : Num w2 W.heap.size 0 (nl X) X := hF2.num)
      | (go_at_call 49; refine (number_any s (some ⟨W.heap.size, 0, none⟩) W.heap.size 0 (nl X) (nl X) X _ (fun _ => rfl) (by exact hfx) (Nat.le_refl _) (by omega)).mono ?_; rintro e w3 ⟨rfl, hb3⟩
         have hk3 : Below W.heap.size W w3 := hk2.trans (hb3.mono hk2.size)
         have hq3 : Num w3 W.heap.size 0 (nl X) X := hfx.kept hb3
         obtain ⟨s1, p1, m1, hv1⟩ := intv_form s (some ⟨W.heap.size, 0, none⟩) X
         rw [hv1]
         have HV1 := Lib.hid hv1
         clear hv1
         obtain ⟨c0, c1⟩ := Blk2 (HL.out _ hk3)
         obtain ⟨f0, f1⟩ := Blk2f (HL.out _ hk3)))
  go_wp2_with fail
  have h1 := HS.out
  refine bodyPost_ret (v := .agg #[.bool s1, .slice p1 m1 m1]) (by simp [results, Try.results26, go_sem, c0, c1]) rfl ⟨_, rfl, ?_, ?_⟩
  · rw [← HV1.out]
    refine can_intv (s := s) (n := nl X) (fun _ => rfl) ((hq3.other _ ?_).other _ ?_) (by omega) (fun h => by omega)
    all_goals (intro h; simp only []; omega)
  · exact ((hbW.trans (hk3.mono (by omega))).setCell (by show w.heap.size ≤ w.heap.size + 1; omega) _).setCell (by show w.heap.size ≤ w.heap.size + 1; omega) _
end Go.Proofs.Ytmfimkndonlheaa
