/-
  integer.Quo.
-/
import Derived.Test.YteggfjahjanabaaDivide
import Derived.Test.YteggfjahjanabaaMul
namespace PB
open Go Go.RowKit
/-- The call returns two canonical Ints and an error number. -/
def RetIntIntE (w : World) (z1 z2 err : Int) (e : Ending) (w' : World) : Prop :=
  ∃ v1 v2, e = .returned (.tuple #[v1, v2, .int .i64 err]) ∧ IsCan w.heap.size w' v1 z1 ∧ IsCan w.heap.size w' v2 z2 ∧ Below w.heap.size w w'
end PB
namespace Go.Proofs.Yteggfjahjanabaa
open Go.RowKit PB

set_option maxHeartbeats 3200000 in
set_option maxRecDepth 100000 in
/-- Quo, where the numbers are not large and the divisor is not 0, by what divide does. -/
theorem quo_ok (s t : Bool) (base : Option Addr) (b off n c X : Nat) (base' : Option Addr) (b' off' n' c' Y : Nat) (w : World)
    (hb : n ≠ 0 → base = some ⟨b, off, none⟩) (hX : Num w b off n X) (hn : n ≤ c) (hl : n ≤ 1000000000)
    (hb' : n' ≠ 0 → base' = some ⟨b', off', none⟩) (hY : Num w b' off' n' Y) (hn' : n' ≤ c') (hl' : n' ≤ 1000000000) (hsX : ¬ (256 < nl X ∨ 256 < nl Y)) (hY0 : Y ≠ 0) (sm : Bool) (hsm : (!(s == t)) = sm)
    (hdiv : ∀ W, Below w.heap.size w W → Calls Try.prog 52 #[.slice base (nl X) (nl X), .slice base' (nl Y) (nl Y)] W (RetDiv W X Y)) :
    Calls Try.prog 15 #[.agg #[.bool s, .slice base n c], .agg #[.bool t, .slice base' n' c']] w (RetIntIntE w (sg sm (X / Y)) (sg s (X % Y)) 0) := by
  have hnX := nl_le hX.lt
  have hnY := nl_le hY.lt
  have HD := Lib.hid hdiv
  have HB := Lib.hid hb
  have HB' := Lib.hid hb'
  have hz : ((nl Y : Int) == 0) = false := by have := mt nl_eq_zero.1 hY0; simp; omega
  clear hdiv hb hb'
  go_enter Try.func15, Try.ntmps15
  go_wp2_with fail
  generalize hW : World.alloc _ _ = W
  have B0 : Blk W w.heap.size #[.bool s, .slice base n c] := by rw [← hW]; exact ((((blk_new rfl).alloc _).alloc _).alloc _).alloc _
  have B1 : Blk W (w.heap.size + 1) #[.bool t, .slice base' n' c'] := by rw [← hW]; exact (((blk_new (by simp)).alloc _).alloc _).alloc _
  have B2 : Blk W (w.heap.size + 1 + 1) #[.bool false, .slice none 0 0] := by rw [← hW]; exact ((blk_new (by simp)).alloc _).alloc _
  have B3 : Blk W (w.heap.size + 1 + 1 + 1) #[.bool false, .slice none 0 0] := by rw [← hW]; exact (blk_new (by simp)).alloc _
  have B4 : Blk W (w.heap.size + 1 + 1 + 1 + 1) #[.bool s, .slice base n c, .bool t, .slice base' n' c'] := by rw [← hW]; exact blk_new (by simp)
  have hbW : Below w.heap.size w W := by rw [← hW]; exact (((((Below.refl _ _).alloc (Nat.le_refl _) _).alloc (by simp) _).alloc (by simp; omega) _).alloc (by simp; omega) _).alloc (by simp; omega) _
  have HS := Lib.hid (show W.heap.size = w.heap.size + 5 by rw [← hW]; simp)
  clear hW
  have call := large_two (w.heap.size + 1 + 1 + 1 + 1) s t base base' b off n c X b' off' n' c' Y W (B4.cell 0 _ rfl) (B4.cell 1 _ rfl) (B4.cell 2 _ rfl) (B4.cell 3 _ rfl) HB.out (hX.kept hbW) hn (by omega) HB'.out (hY.kept hbW) hn' (by omega)
  rw [decide_eq_false hsX] at call
  refine call.mono ?_
  clear call
  rintro e w1 ⟨rfl, hb1⟩
  have hbw1 : Below w.heap.size w w1 := hbW.trans (hb1.mono (by have := HS.out; omega))
  obtain ⟨a0, a1⟩ := Blk2 (B0.kept hb1)
  obtain ⟨b0, b1⟩ := Blk2 (B1.kept hb1)
  have B0' := B0.kept hb1
  have B1' := B1.kept hb1
  have B2' := B2.kept hb1
  have B3' := B3.kept hb1
  have HS' := Lib.hid (show w.heap.size + 5 ≤ w1.heap.size by have := HS.out; have := hb1.size; omega)
  clear B0 B1 B2 B3 B4 hbW HS hb1
  have hX1 := hX.kept hbw1
  have hY1 := hY.kept hbw1
  go_wp2_with (first
      | (go_at_call_of 51 (Value.slice base n c); refine (cut_any base b off n c X _ HB.out (by exact hX1) hn (by omega)).mono ?_; rintro e w' ⟨rfl, rfl⟩)
      | (go_at_call_of 51 (Value.slice base' n' c'); refine (cut_any base' b' off' n' c' Y _ HB'.out (by exact hY1) hn' (by omega)).mono ?_; rintro e w' ⟨rfl, rfl⟩))
  refine (HD.out _ hbw1).mono ?_
  rintro e w2 ⟨vq, vr, rfl, ⟨qb, qg, qo, qn, qc, rfl, hq1, hq2, hq3, hq4, hq5⟩, ⟨rb, rg, ro, rn, rc, rfl, hr1, hr2, hr3, hr4, hr5, _⟩, hb2⟩
  have hbw2 : Below w.heap.size w w2 := hbw1.trans (hb2.mono (by have := HS'.out; omega))
  have HQ1 := Lib.hid hq1
  have HR1 := Lib.hid hr1
  have HQ5 := Lib.hid hq5
  have HR5 := Lib.hid hr5
  have B0'' := B0'.kept hb2
  have B1'' := B1'.kept hb2
  obtain ⟨a0, a1⟩ := Blk2 B0''
  obtain ⟨b0, b1⟩ := Blk2 B1''
  have HM := Lib.hid (show w.heap.size + 5 ≤ w2.heap.size by have := HS'.out; have := hb2.size; omega)
  have HK := Lib.hid (show ∀ w3, Below w2.heap.size w2 w3 → w3.cell? ⟨w.heap.size, 0, none⟩ = some (.bool s) ∧ w3.cell? ⟨w.heap.size + 1, 0, none⟩ = some (.bool t) from fun w3 h => ⟨(Blk2 (B0''.kept h)).1, (Blk2 (B1''.kept h)).1⟩)
  have HL := Lib.hid (show ∀ w3, Below w2.heap.size w2 w3 → Blk w3 (w.heap.size + 1 + 1) #[.bool false, .slice none 0 0] ∧ Blk w3 (w.heap.size + 1 + 1 + 1) #[.bool false, .slice none 0 0] from fun w3 h => ⟨(B2'.kept hb2).kept h, (B3'.kept hb2).kept h⟩)
  clear hq1 hr1 hq5 hr5 a1 b1 B0' B1' B2' B3' B0'' B1''
  have HST := Lib.hid (show ∀ (w4 : World) (g j : Nat) (u : Value), (w4.cell? ⟨w.heap.size, 0, none⟩ = some (.bool s) ∧ w4.cell? ⟨w.heap.size + 1, 0, none⟩ = some (.bool t)) → w.heap.size + 1 < g → ((w4.setCell ⟨g, j, none⟩ u).cell? ⟨w.heap.size, 0, none⟩ = some (.bool s) ∧ (w4.setCell ⟨g, j, none⟩ u).cell? ⟨w.heap.size + 1, 0, none⟩ = some (.bool t)) from
    fun w4 g j u h hg => ⟨cell_other h.1 (show w.heap.size ≠ g by omega), cell_other h.2 (show w.heap.size + 1 ≠ g by omega)⟩)
  go_wp2_with fail
  go_region_held3 (fun w' => w'.cell? ⟨w.heap.size, 0, none⟩ = some (.bool s) ∧ w'.cell? ⟨w.heap.size + 1, 0, none⟩ = some (.bool t))
    (first | exact ⟨a0, b0⟩ | exact HK.out _ hk4 | exact HK.out _ hk3 | exact HST.out _ _ _ _ (HST.out _ _ _ _ (HK.out _ hk4) (by omega)) (by omega) | exact HST.out _ _ _ _ (HST.out _ _ _ _ (HST.out _ _ _ _ (HST.out _ _ _ _ (HK.out _ hk4) (by omega)) (by omega)) (by omega)) (by omega))
    (first
      | (go_at_call_of 49 (Value.slice qb qn qc); refine (number_any sm qb qg qo qn qc (X / Y) _ HQ1.out (by exact hq2) hq3 (by omega)).mono ?_; rintro e w3 ⟨rfl, hb3⟩
         have hk3 : Below w2.heap.size w2 w3 := (by first | exact hb3 | exact below_undrew hb3)
         obtain ⟨s1, p1, m1, hv1⟩ := intv_form sm qb (X / Y)
         rw [hv1]
         have HV1 := Lib.hid hv1
         clear hv1)
      | (go_at_call_of 49 (Value.slice rb rn rc); refine (number_any s rb rg ro rn rc (X % Y) _ HR1.out (by exact hr2.kept hk3) hr3 (by omega)).mono ?_; rintro e w4 ⟨rfl, hb4⟩
         have hk4 : Below w2.heap.size w2 w4 := hk3.trans (hb4.mono hk3.size)
         obtain ⟨s2, p2, m2, hv2⟩ := intv_form s rb (X % Y)
         rw [hv2]
         have HV2 := Lib.hid hv2
         clear hv2
         obtain ⟨c0, c1⟩ := Blk2 (HL.out _ hk4).1
         obtain ⟨f0, f1⟩ := Blk2f (HL.out _ hk4).1
         obtain ⟨d0, d1⟩ := Blk2 (HL.out _ hk4).2
         obtain ⟨g0, g1⟩ := Blk2f (HL.out _ hk4).2))
  go_wp2_with fail
  have h1 := HS'.out
  have h2 := HM.out
  refine bodyPost_ret (v := .tuple #[.agg #[.bool s1, .slice p1 m1 m1], .agg #[.bool s2, .slice p2 m2 m2], .int .i64 0]) (by simp [results, Try.results15, go_sem, c0, c1, d0, d1]) rfl ⟨_, _, rfl, ?_, ?_, ?_⟩
  · rw [← HV1.out]
    refine can_intv (n := qn) HQ1.out (((((hq2.kept hk4).other _ ?_).other _ ?_).other _ ?_).other _ ?_) (by have := nl_le hq2.lt; omega) (fun h => by have := HQ5.out h; omega)
    all_goals (intro h; have := HQ5.out h; simp only []; omega)
  · rw [← HV2.out]
    refine can_intv (n := rn) HR1.out (((((hr2.kept hk4).other _ ?_).other _ ?_).other _ ?_).other _ ?_) (by have := nl_le hr2.lt; omega) (fun h => by have := HR5.out h; omega)
    all_goals (intro h; have := HR5.out h; simp only []; omega)
  · exact ((((hbw2.trans (hk4.mono (by omega))).setCell (by show w.heap.size ≤ w.heap.size + 1 + 1; omega) _).setCell (by show w.heap.size ≤ w.heap.size + 1 + 1; omega) _).setCell (by show w.heap.size ≤ w.heap.size + 1 + 1 + 1; omega) _).setCell (by show w.heap.size ≤ w.heap.size + 1 + 1 + 1; omega) _
end Go.Proofs.Yteggfjahjanabaa
