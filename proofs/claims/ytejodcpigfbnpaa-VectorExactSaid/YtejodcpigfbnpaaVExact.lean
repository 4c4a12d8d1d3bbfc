/-
  VectorExact: the walk.
-/
import Derived.Test.YtejodcpigfbnpaaVAwake
import Derived.Test.YtejodcpigfbnpaaVScale
import Derived.Test.YtejodcpigfbnpaaVGcdR
import Derived.Test.YtejodcpigfbnpaaVHalve
namespace VB
def crossV (ax ay bx b_ : Int) : Int := if Sm ax ay ∧ Sm bx b_ then crossI ax ay bx b_ else 0
def dotW (ax ay bx b_ : Int) : Int := if Sm ax ay ∧ Sm bx b_ then dotI ax ay bx b_ else 0
end VB
namespace Go.Proofs.Ytejodcpigfbnpaa
open Go.RowKit PB VB
theorem vsmall_any (x y : Int) (w : World) : Calls Try.prog 10 #[vec x y] w fun e w' => e = .returned (.bool (smB x y)) ∧ Below w.heap.size w w' := by
  by_cases h : Sm x y
  · rw [smB_t h]; exact vsmall_t x y w h
  · rw [smB_f h]; exact vsmall_f x y w h
theorem rsmall_any (x y : Int) (w : World) : Calls Try.prog 11 #[vec x y] w fun e w' => e = .returned (.bool (smB x y)) ∧ Below w.heap.size w w' := by
  by_cases h : Sm x y
  · rw [smB_t h]; exact rsmall_t x y w h
  · rw [smB_f h]; exact rsmall_f x y w h
theorem vdotw (ax ay bx b_ : Int) (w : World) : Calls Try.prog 18 #[vec ax ay, vec bx b_] w fun e w' => e = .returned (.int .i64 (dotW ax ay bx b_)) ∧ Below w.heap.size w w' := by
  unfold dotW
  by_cases h : Sm ax ay ∧ Sm bx b_
  · rw [if_pos h]; exact vdot_t ax ay bx b_ w h.1 h.2
  · rw [if_neg h]; exact vdot_f ax ay bx b_ w h
theorem rdotw (ax ay bx b_ : Int) (w : World) : Calls Try.prog 19 #[vec ax ay, vec bx b_] w fun e w' => e = .returned (.int .i64 (dotW ax ay bx b_)) ∧ Below w.heap.size w w' := by
  unfold dotW
  by_cases h : Sm ax ay ∧ Sm bx b_
  · rw [if_pos h]; exact rdot_t ax ay bx b_ w h.1 h.2
  · rw [if_neg h]; exact rdot_f ax ay bx b_ w h
theorem vcrossw (ax ay bx b_ : Int) (w : World) : Calls Try.prog 20 #[vec ax ay, vec bx b_] w fun e w' => e = .returned (.int .i64 (crossV ax ay bx b_)) ∧ Below w.heap.size w w' := by
  unfold crossV
  by_cases h : Sm ax ay ∧ Sm bx b_
  · rw [if_pos h]; exact vcross_t ax ay bx b_ w h.1 h.2
  · rw [if_neg h]; exact vcross_f ax ay bx b_ w h
theorem rcrossw (ax ay bx b_ : Int) (w : World) : Calls Try.prog 21 #[vec ax ay, vec bx b_] w fun e w' => e = .returned (.int .i64 (crossV ax ay bx b_)) ∧ Below w.heap.size w w' := by
  unfold crossV
  by_cases h : Sm ax ay ∧ Sm bx b_
  · rw [if_pos h]; exact rcross_t ax ay bx b_ w h.1 h.2
  · rw [if_neg h]; exact rcross_f ax ay bx b_ w h
theorem halve_both (x y : Int) : ∃ rx ry : Int, (∀ w, Calls Try.prog 26 #[vec x y] w fun e w' => e = .returned (vec rx ry) ∧ Below w.heap.size w w') ∧ ∀ w, Calls Try.prog 27 #[vec x y] w fun e w' => e = .returned (vec rx ry) ∧ Below w.heap.size w w' := by
  by_cases h : Sm x y
  · obtain ⟨rx, ry, hr⟩ := hv_exists _ x y (Nat.le_refl _)
    exact ⟨rx, ry, fun w => vhalve_t x y rx ry w h hr, fun w => rhalve_t x y rx ry w h hr⟩
  · exact ⟨0, 0, fun w => vhalve_f x y w h, fun w => rhalve_f x y w h⟩
set_option maxHeartbeats 16000000 in
set_option maxRecDepth 100000 in
theorem exact_any (ax ay bx b_ n : Int) (w : World) (hn : n ≤ 9223372036854775807) :
    Calls Try.prog 3 #[vec ax ay, vec bx b_, .int .i64 n] w fun e w' => e = .returned (.bool true) ∧ Below w.heap.size w w' := by
  obtain ⟨R, hR⟩ := rt_exists n hn
  obtain ⟨hx, hy, hv1, hv2⟩ := halve_both ax ay
  have VS := Lib.hid (fun w => vsmall_any ax ay w)
  have RS := Lib.hid (fun w => rsmall_any ax ay w)
  have VA := Lib.hid (fun w => vadd_any ax ay bx b_ w)
  have RA := Lib.hid (fun w => radd_any ax ay bx b_ w)
  have VU := Lib.hid (fun w => vsub_any ax ay bx b_ w)
  have RU := Lib.hid (fun w => rsub_any ax ay bx b_ w)
  have VC := Lib.hid (fun w => vscale_any ax ay n w)
  have RC := Lib.hid (fun w => rscale_any ax ay n w)
  have VD := Lib.hid (fun w => vdotw ax ay bx b_ w)
  have RD := Lib.hid (fun w => rdotw ax ay bx b_ w)
  have VX := Lib.hid (fun w => vcrossw ax ay bx b_ w)
  have RX := Lib.hid (fun w => rcrossw ax ay bx b_ w)
  have VP := Lib.hid (fun w => vperp_any ax ay w)
  have RP := Lib.hid (fun w => rperp_any ax ay w)
  have VR := Lib.hid (fun w => vred_any ax ay w)
  have RR := Lib.hid (fun w => rred_any ax ay w)
  have VH := Lib.hid hv1
  have RH := Lib.hid hv2
  have VO := Lib.hid (fun w => vroot_any n R w hR hn)
  have RO := Lib.hid (fun w => rroot_any n R w hR)
  clear hR hv1 hv2 hn
  generalize smB ax ay = s at *
  generalize (addV ax ay bx b_).1 = g1 at *
  generalize (addV ax ay bx b_).2 = g2 at *
  generalize (subV ax ay bx b_).1 = g3 at *
  generalize (subV ax ay bx b_).2 = g4 at *
  generalize (scaleV ax ay n).1 = g5 at *
  generalize (scaleV ax ay n).2 = g6 at *
  generalize dotW ax ay bx b_ = g7 at *
  generalize crossV ax ay bx b_ = g8 at *
  generalize (perpV ax ay).1 = g9 at *
  generalize (perpV ax ay).2 = g10 at *
  generalize (redV ax ay).1 = g11 at *
  generalize (redV ax ay).2 = g12 at *
  go_enter Try.func3, Try.ntmps3
  go_wp2_with fail
  refine (awake_any _).mono ?_
  rintro e W ⟨rfl, hw1⟩
  have V1 : Blk W w.heap.size #[.int .i64 ax, .int .i64 ay] := blk_prev hw1
  have N1 : Blk W (w.heap.size + 1) #[.int .i64 bx, .int .i64 b_] := blk_last2 hw1
  have HQ := Lib.hid (in2 hw1)
  have HK := Lib.hid (show ∀ w', Below W.heap.size W w' → (w'.cell? ⟨w.heap.size, 0, none⟩ = some (.int .i64 ax) ∧ w'.cell? ⟨w.heap.size, 1, none⟩ = some (.int .i64 ay)) ∧ (w'.cell? ⟨w.heap.size + 1, 0, none⟩ = some (.int .i64 bx) ∧ w'.cell? ⟨w.heap.size + 1, 1, none⟩ = some (.int .i64 b_)) from
    fun w1 h => ⟨Blk2 (V1.kept h), Blk2 (N1.kept h)⟩)
  clear hw1 V1 N1
  obtain ⟨⟨a0, a1⟩, b0, b1⟩ := HK.out _ (Below.refl _ _)
  have hq : Below W.heap.size W W := Below.refl _ _
  go_wp2_with fail
  go_region_held3 (fun w' => (w'.cell? ⟨w.heap.size, 0, none⟩ = some (.int .i64 ax) ∧ w'.cell? ⟨w.heap.size, 1, none⟩ = some (.int .i64 ay)) ∧ (w'.cell? ⟨w.heap.size + 1, 0, none⟩ = some (.int .i64 bx) ∧ w'.cell? ⟨w.heap.size + 1, 1, none⟩ = some (.int .i64 b_)))
    (first | exact HK.out _ hq | exact HK.out _ (PB.below_drewN hq 1))
    (first
      | (go_at_call 17; refine (RC.out _).mono ?_; rintro e x1 ⟨rfl, hx1⟩; have hq : Below W.heap.size W x1 := (by first | exact hq.trans (hx1.mono hq.size) | exact hq.trans (below_undrew (hx1.mono hq.size))))
      | (go_at_call 16; refine (VC.out _).mono ?_; rintro e x1 ⟨rfl, hx1⟩; have hq : Below W.heap.size W x1 := (by first | exact hq.trans (hx1.mono hq.size) | exact hq.trans (below_undrew (hx1.mono hq.size))))
      | (go_at_call 15; refine (RU.out _).mono ?_; rintro e x1 ⟨rfl, hx1⟩; have hq : Below W.heap.size W x1 := (by first | exact hq.trans (hx1.mono hq.size) | exact hq.trans (below_undrew (hx1.mono hq.size))))
      | (go_at_call 14; refine (VU.out _).mono ?_; rintro e x1 ⟨rfl, hx1⟩; have hq : Below W.heap.size W x1 := (by first | exact hq.trans (hx1.mono hq.size) | exact hq.trans (below_undrew (hx1.mono hq.size))))
      | (go_at_call 13; refine (RA.out _).mono ?_; rintro e x1 ⟨rfl, hx1⟩; have hq : Below W.heap.size W x1 := (by first | exact hq.trans (hx1.mono hq.size) | exact hq.trans (below_undrew (hx1.mono hq.size))))
      | (go_at_call 12; refine (VA.out _).mono ?_; rintro e x1 ⟨rfl, hx1⟩; have hq : Below W.heap.size W x1 := (by first | exact hq.trans (hx1.mono hq.size) | exact hq.trans (below_undrew (hx1.mono hq.size))))
      | (go_at_call 11; refine (RS.out _).mono ?_; rintro e x1 ⟨rfl, hx1⟩; have hq : Below W.heap.size W x1 := (by first | exact hq.trans (hx1.mono hq.size) | exact hq.trans (below_undrew (hx1.mono hq.size))))
      | (go_at_call 10; refine (VS.out _).mono ?_; rintro e x1 ⟨rfl, hx1⟩; have hq : Below W.heap.size W x1 := (by first | exact hq.trans (hx1.mono hq.size) | exact hq.trans (below_undrew (hx1.mono hq.size))))
      | fail "no arm")
  go_wp2_with fail
  go_region_held3 (fun w' => (w'.cell? ⟨w.heap.size, 0, none⟩ = some (.int .i64 ax) ∧ w'.cell? ⟨w.heap.size, 1, none⟩ = some (.int .i64 ay)) ∧ (w'.cell? ⟨w.heap.size + 1, 0, none⟩ = some (.int .i64 bx) ∧ w'.cell? ⟨w.heap.size + 1, 1, none⟩ = some (.int .i64 b_)))
    (first | exact HK.out _ hq | exact HK.out _ (PB.below_drewN hq 1))
    (first
      | (go_at_call 23; refine (RP.out _).mono ?_; rintro e x1 ⟨rfl, hx1⟩; have hq : Below W.heap.size W x1 := (by first | exact hq.trans (hx1.mono hq.size) | exact hq.trans (below_undrew (hx1.mono hq.size))))
      | (go_at_call 22; refine (VP.out _).mono ?_; rintro e x1 ⟨rfl, hx1⟩; have hq : Below W.heap.size W x1 := (by first | exact hq.trans (hx1.mono hq.size) | exact hq.trans (below_undrew (hx1.mono hq.size))))
      | (go_at_call 21; refine (RX.out _).mono ?_; rintro e x1 ⟨rfl, hx1⟩; have hq : Below W.heap.size W x1 := (by first | exact hq.trans (hx1.mono hq.size) | exact hq.trans (below_undrew (hx1.mono hq.size))))
      | (go_at_call 20; refine (VX.out _).mono ?_; rintro e x1 ⟨rfl, hx1⟩; have hq : Below W.heap.size W x1 := (by first | exact hq.trans (hx1.mono hq.size) | exact hq.trans (below_undrew (hx1.mono hq.size))))
      | (go_at_call 19; refine (RD.out _).mono ?_; rintro e x1 ⟨rfl, hx1⟩; have hq : Below W.heap.size W x1 := (by first | exact hq.trans (hx1.mono hq.size) | exact hq.trans (below_undrew (hx1.mono hq.size))))
      | (go_at_call 18; refine (VD.out _).mono ?_; rintro e x1 ⟨rfl, hx1⟩; have hq : Below W.heap.size W x1 := (by first | exact hq.trans (hx1.mono hq.size) | exact hq.trans (below_undrew (hx1.mono hq.size))))
      | fail "no arm")
  go_wp2_with fail
  go_region_held3 (fun w' => (w'.cell? ⟨w.heap.size, 0, none⟩ = some (.int .i64 ax) ∧ w'.cell? ⟨w.heap.size, 1, none⟩ = some (.int .i64 ay)) ∧ (w'.cell? ⟨w.heap.size + 1, 0, none⟩ = some (.int .i64 bx) ∧ w'.cell? ⟨w.heap.size + 1, 1, none⟩ = some (.int .i64 b_)))
    (first | exact HK.out _ hq | exact HK.out _ (PB.below_drewN hq 1))
    (first
      | (go_at_call 29; refine (RO.out _).mono ?_; rintro e x1 ⟨rfl, rfl⟩)
      | (go_at_call 28; refine (VO.out _).mono ?_; rintro e x1 ⟨rfl, rfl⟩)
      | (go_at_call 27; refine (RH.out _).mono ?_; rintro e x1 ⟨rfl, hx1⟩; have hq : Below W.heap.size W x1 := (by first | exact hq.trans (hx1.mono hq.size) | exact hq.trans (below_undrew (hx1.mono hq.size))))
      | (go_at_call 26; refine (VH.out _).mono ?_; rintro e x1 ⟨rfl, hx1⟩; have hq : Below W.heap.size W x1 := (by first | exact hq.trans (hx1.mono hq.size) | exact hq.trans (below_undrew (hx1.mono hq.size))))
      | (go_at_call 25; refine (RR.out _).mono ?_; rintro e x1 ⟨rfl, hx1⟩; have hq : Below W.heap.size W x1 := (by first | exact hq.trans (hx1.mono hq.size) | exact hq.trans (below_undrew (hx1.mono hq.size))))
      | (go_at_call 24; refine (VR.out _).mono ?_; rintro e x1 ⟨rfl, hx1⟩; have hq : Below W.heap.size W x1 := (by first | exact hq.trans (hx1.mono hq.size) | exact hq.trans (below_undrew (hx1.mono hq.size))))
      | fail "no arm")
  go_wp2_with fail
  go_ret
  exact ⟨rfl, next HQ.out hq⟩
end Go.Proofs.Ytejodcpigfbnpaa
