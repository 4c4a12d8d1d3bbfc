/-
  The verifier's sanity check of this layer is true.
-/
import Derived.Test.YtejodcpigfbnpaaVMath
import Derived.Test.YtejodcpigfbnpaaVTurn
import Derived.Test.YtejodcpigfbnpaaVRoot
namespace Go.Proofs.Ytejodcpigfbnpaa
open Go.RowKit PB VB
set_option maxRecDepth 100000 in
theorem len_c : Lib.bitLen 1125899906842624 = 51 := by decide
set_option maxHeartbeats 4000000 in
set_option maxRecDepth 100000 in
theorem div_c : DivOK 64 65536 0 1125899906842624 := by
  intro w
  have hl : ∀ w, Calls Try.prog 80 #[.int .u64 1125899906842624] w fun e w' => e = .returned (.int .i64 13) ∧ w = w' := fun w => by
    have h := Try.bits_LeadingZeros64 1125899906842624 w (by decide) (by decide)
    rw [show (64 - (Lib.bitLen (1125899906842624 : Int).toNat : Int)) = 13 from by decide] at h
    exact h.mono fun _ _ h => ⟨h.1, h.2.symm⟩
  have HL := Lib.hid hl
  have E := Lib.hid (show (((65536 * 18446744073709551616 + 0) / 1125899906842624 : Nat) : Int) = 1073741824 by decide)
  have E2 := Lib.hid (show (((65536 * 18446744073709551616 + 0) % 1125899906842624 : Nat) : Int) = 0 by decide)
  rw [E.out, E2.out]
  clear E E2 hl
  simp only [show ((65536 : Nat) : Int) = 65536 from rfl, show ((1125899906842624 : Nat) : Int) = 1125899906842624 from rfl]
  have b1 : bits BinOp.and IntKind.u64 9223372036854775808 4294967295 = 0 := by decide
  have b2 : bits BinOp.or IntKind.u64 536870912 0 = 536870912 := by decide
  have b3 : bits BinOp.and IntKind.u64 0 4294967295 = 0 := by decide
  go_enter Try.func64, Try.ntmps64
  go_wp2_with fail
  refine (HL.out _).mono ?_
  rintro e w1 ⟨rfl, rfl⟩
  go_wp2_with fail
  refine wp_loop_rounds 1 ?_
  rw [rounds_succ]
  go_wp2_with fail
  refine wp_loop_rounds 1 ?_
  rw [rounds_succ]
  go_wp2_with fail
  go_ret2
  exact tret rfl rfl (Below.refl _ _)
set_option maxRecDepth 100000 in
theorem aw_md (w : World) : Calls Try.prog 30 #[.int .i64 1099511627776, .int .i64 1099511627776, .int .i64 (-1125899906842624)] w fun e w' => e = .returned (.tuple #[.int .i64 (-1073741824), .bool true]) ∧ Below w.heap.size w w' := by
  have h := md_yes (a := 1099511627776) (b := 1099511627776) (c := -1125899906842624) w ⟨by decide, by decide⟩ ⟨by decide, by decide⟩ ⟨by decide, by decide⟩ (fun _ => by rw [show (1099511627776 : Int).natAbs * (1099511627776 : Int).natAbs / 18446744073709551616 = 65536 by decide, show (1099511627776 : Int).natAbs * (1099511627776 : Int).natAbs % 18446744073709551616 = 0 by decide, show (-1125899906842624 : Int).natAbs = 1125899906842624 by decide]; exact div_c) ⟨by decide, by decide, by decide⟩
  rw [show ((1099511627776 : Int) * 1099511627776).tdiv (-1125899906842624) = -1073741824 by decide] at h
  exact h
set_option maxRecDepth 100000 in
theorem aw_root (w : World) : Calls Try.prog 28 #[.int .i64 99] w fun e w' => e = .returned (.int .i64 9) ∧ w = w' :=
  vroot_any 99 9 w ⟨by decide, by decide, fun _ => by decide, by decide⟩ (by decide)
set_option maxRecDepth 100000 in
theorem aw_turn (w : World) : Calls Try.prog 37 #[vec 257 0, vec 0 1] w fun e w' => e = .returned (.tuple #[vec 255 32, .bool true]) ∧ Below w.heap.size w w' := by
  have h := vturn_any 257 0 0 1 w
  rwa [show tX 257 0 0 1 = 255 by decide, show tY 257 0 0 1 = 32 by decide, show tB 257 0 0 1 = true by decide] at h
set_option maxRecDepth 100000 in
/-- One vector in memory. -/
theorem vsl_one {w : World} {g : Nat} {x y : Int} (h : Blk w g #[.int .i64 x, .int .i64 y]) : VSl w g 0 1 (fun _ => (x, y)) := by
  intro i hi
  obtain rfl : i = 0 := by omega
  exact Blk2 h
set_option maxRecDepth 100000 in
theorem allsm_one {x y : Int} (h : Sm x y) : AllSm (fun _ => (x, y)) 1 := fun _ _ => h
set_option maxRecDepth 100000 in
theorem liftV_one {xx xy x y rx ry : Int} (hx : Sm xx xy) (hn : Sm x y) (h1 : (sidesOf (fun _ => (x, y)) 1).al xx xy = false) (h2 : bestOf xx xy (sidesOf (fun _ => (x, y)) 1) (fun _ => (x, y)) 1 = (rx, ry)) : liftV xx xy (fun _ => (x, y)) 1 = (rx, ry) := by
  unfold liftV
  rw [if_pos ⟨hx, allsm_one hn⟩, h1, if_neg (by decide), h2]
set_option maxRecDepth 100000 in
theorem aw_lift1 (g : Nat) (w : World) (h : Blk w g #[.int .i64 0, .int .i64 1]) : Calls Try.prog 32 #[vec 3 (-4), .slice (some ⟨g, 0, none⟩) 1 1] w fun e w' => e = .returned (vec 3 0) ∧ Below w.heap.size w w' := by
  have h := lift_any 3 (-4) (some ⟨g, 0, none⟩) g 0 1 1 (fun _ => (0, 1)) w (fun _ => rfl) (fun _ => h.lt) (vsl_one h) (by decide)
    (fun _ _ _ _ _ => ⟨div_short (a := -1) (b := crossI 0 1 3 (-4)) (c := dotI 0 1 0 1) ⟨by decide, by decide⟩ (by decide), div_short (a := 0) (b := crossI 0 1 3 (-4)) (c := dotI 0 1 0 1) ⟨by decide, by decide⟩ (by decide)⟩)
  rwa [liftV_one (rx := 3) (ry := 0) ⟨by decide, by decide, by decide, by decide⟩ ⟨by decide, by decide, by decide, by decide⟩ (by decide) (by decide)] at h
set_option maxRecDepth 100000 in
theorem aw_lift2 (g : Nat) (w : World) (h : Blk w g #[.int .i64 1, .int .i64 2]) : Calls Try.prog 32 #[vec 0 (-5), .slice (some ⟨g, 0, none⟩) 1 1] w fun e w' => e = .returned (vec 2 (-1)) ∧ Below w.heap.size w w' := by
  have h := lift_any 0 (-5) (some ⟨g, 0, none⟩) g 0 1 1 (fun _ => (1, 2)) w (fun _ => rfl) (fun _ => h.lt) (vsl_one h) (by decide)
    (fun _ _ _ _ _ => ⟨div_short (a := -2) (b := crossI 1 2 0 (-5)) (c := dotI 1 2 1 2) ⟨by decide, by decide⟩ (by decide), div_short (a := 1) (b := crossI 1 2 0 (-5)) (c := dotI 1 2 1 2) ⟨by decide, by decide⟩ (by decide)⟩)
  rwa [liftV_one (rx := 2) (ry := -1) ⟨by decide, by decide, by decide, by decide⟩ ⟨by decide, by decide, by decide, by decide⟩ (by decide) (by decide)] at h
set_option maxHeartbeats 4000000 in
set_option maxRecDepth 100000 in
theorem vawake_any (w : World) : Calls Try.prog 9 #[] w fun e w' => e = .returned (.bool true) ∧ Below w.heap.size w w' := by
  go_enter Try.func9, Try.ntmps9
  go_wp2_with fail
  refine (aw_turn _).mono ?_
  rintro e w1 ⟨rfl, hw1⟩
  have L1 : Blk w1 w.heap.size #[.int .i64 0, .int .i64 1] := (blk_new rfl).kept hw1
  have q1 := in1 hw1
  clear hw1
  go_wp2_with fail
  refine (aw_md _).mono ?_
  rintro e w2 ⟨rfl, hw2⟩
  have L2 := blk_keep L1 hw2
  have T2 : Blk w2 w1.heap.size #[.int .i64 255, .int .i64 32] := (blk_new rfl).kept hw2
  have q2 := next1 q1 hw2
  clear hw2 L1 q1
  go_wp2_with fail
  refine (aw_lift1 _ _ L2).mono ?_
  rintro e w3 ⟨rfl, hw3⟩
  have T3 := T2.kept hw3
  have q3 := next q2 hw3
  clear hw3 L2 q2 T2
  go_wp2_with fail
  refine (aw_lift2 _ _ (blk_new rfl)).mono ?_
  rintro e w4 ⟨rfl, hw4⟩
  have T4 := blk_keep T3 hw4
  have q4 := next1 q3 hw4
  obtain ⟨t0, t1⟩ := Blk2 T4
  clear hw4 q3 T3
  go_wp2_with fail
  refine (aw_root _).mono ?_
  rintro e w5 ⟨rfl, rfl⟩
  go_wp2_with fail
  go_ret
  exact ⟨rfl, q4⟩
end Go.Proofs.Ytejodcpigfbnpaa
