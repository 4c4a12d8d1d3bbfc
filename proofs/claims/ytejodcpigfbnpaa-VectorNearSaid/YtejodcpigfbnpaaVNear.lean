/-
  VectorNear: the walk.
-/
import Derived.Test.YtejodcpigfbnpaaVAwake
import Derived.Test.YtejodcpigfbnpaaVAdd
import Derived.Test.YtejodcpigfbnpaaVNearM
import Derived.Deep.DeepCutAuto
namespace VB
/-- The law's bounds. -/
structure InNear (xx xy nx ny : Int) : Prop where
  a : -16384 ≤ xx
  b : xx ≤ 16384
  c : -16384 ≤ xy
  d : xy ≤ 16384
  e : -4096 ≤ nx
  f : nx ≤ 4096
  g : -4096 ≤ ny
  h : ny ≤ 4096
theorem mul_in {a b A B_ : Int} (h1 : -A ≤ a) (h2 : a ≤ A) (h3 : -B_ ≤ b) (h4 : b ≤ B_) : -(A * B_) ≤ a * b ∧ a * b ≤ A * B_ := by
  have h : (a * b).natAbs ≤ (A * B_).natAbs := by
    rw [Int.natAbs_mul, Int.natAbs_mul]
    exact Nat.mul_le_mul (by omega) (by omega)
  have h0 : 0 ≤ A * B_ := Int.mul_nonneg (by omega) (by omega)
  omega
theorem InNear.dot {xx xy nx ny : Int} (h : InNear xx xy nx ny) : -134217728 ≤ dotI xx xy nx ny ∧ dotI xx xy nx ny ≤ 134217728 ∧ 0 ≤ dotI nx ny nx ny ∧ dotI nx ny nx ny ≤ 33554432 ∧ -134217728 ≤ crossI nx ny xx xy ∧ crossI nx ny xx xy ≤ 134217728 := by
  have m1 := mul_in h.a h.b h.e h.f
  have m2 := mul_in h.c h.d h.g h.h
  have m3 := mul_in h.e h.f h.e h.f
  have m4 := mul_in h.g h.h h.g h.h
  have m5 := mul_in h.e h.f h.c h.d
  have m6 := mul_in h.g h.h h.a h.b
  have s1 := sq_nonneg nx
  have s2 := sq_nonneg ny
  unfold dotI crossI
  omega
theorem abs_le_of_sq {a M : Int} (hM : 0 ≤ M) (h : a * a ≤ M * M) : -M ≤ a ∧ a ≤ M := by
  constructor
  · apply Int.le_of_not_gt
    intro hlt
    have := sq_mono (a := M + 1) (b := -a) (by omega) (by omega)
    have e1 : -a * -a = a * a := by grind
    have e2 : (M + 1) * (M + 1) = M * M + 2 * M + 1 := by grind
    omega
  · apply Int.le_of_not_gt
    intro hlt
    have := sq_mono (a := M + 1) (b := a) (by omega) (by omega)
    have e2 : (M + 1) * (M + 1) = M * M + 2 * M + 1 := by grind
    omega
theorem dist_parts {xx xy u v M : Int} (hM : 0 ≤ M) (h : distI xx xy u v ≤ M * M) : -M ≤ u - xx ∧ u - xx ≤ M ∧ -M ≤ v - xy ∧ v - xy ≤ M := by
  have s1 := sq_nonneg (u - xx)
  have s2 := sq_nonneg (v - xy)
  unfold distI at h
  obtain ⟨a, b⟩ := abs_le_of_sq hM (show (u - xx) * (u - xx) ≤ M * M by omega)
  obtain ⟨c, d⟩ := abs_le_of_sq hM (show (v - xy) * (v - xy) ≤ M * M by omega)
  exact ⟨a, b, c, d⟩
theorem near_lift {xx xy nx ny : Int} (h : InNear xx xy nx ny) : (0 ≤ dotI xx xy nx ny → liftV xx xy (fun _ => (nx, ny)) 1 = (xx, xy)) ∧
    (dotI xx xy nx ny < 0 → liftV xx xy (fun _ => (nx, ny)) 1 = updN xx xy (sidesOf (fun _ => (nx, ny)) 1) (0, 0) (cnd xx xy nx ny) 4) := by
  have h1 := h.a; have h2 := h.b; have h3 := h.c; have h4 := h.d; have h5 := h.e; have h6 := h.f; have h7 := h.g; have h8 := h.h
  have hs : Sm xx xy ∧ AllSm (fun _ => (nx, ny)) 1 := ⟨⟨by omega, by omega, by omega, by omega⟩, fun _ _ => ⟨by dsimp only; omega, by dsimp only; omega, by dsimp only; omega, by dsimp only; omega⟩⟩
  unfold liftV
  rw [if_pos hs, al_one]
  constructor
  · intro k; rw [decide_eq_true k, if_pos rfl]
  · intro k
    rw [decide_eq_false (by omega), if_neg (by decide)]
    show (if 0 ≤ dotI xx xy nx ny then _ else _) = _
    rw [if_neg (by omega)]
    rfl
theorem near_all {xx xy nx ny R : Int} (h : InNear xx xy nx ny) (hd : dotI xx xy nx ny < 0) (hR : Rt (dotI nx ny nx ny) R) :
    ∃ yx yy : Int, liftV xx xy (fun _ => (nx, ny)) 1 = (yx, yy) ∧ Sm yx yy ∧ Sm (yx - xx) (yy - xy) ∧ dotI (yx - xx) (yy - xy) (yx - xx) (yy - xy) ≤ (-dotI xx xy nx ny / R + 3) * (-dotI xx xy nx ny / R + 3) ∧ 1 ≤ R ∧ 0 ≤ -dotI xx xy nx ny / R ∧ -dotI xx xy nx ny / R ≤ 134217728 := by
  have hdp := dot_self_pos hd
  have h1 := h.a; have h2 := h.b; have h3 := h.c; have h4 := h.d; have h5 := h.e; have h6 := h.f; have h7 := h.g; have h8 := h.h
  have hs : Sm xx xy := ⟨by omega, by omega, by omega, by omega⟩
  obtain ⟨d1, d2, d3, d4, d5, d6⟩ := h.dot
  have hR1 : 1 ≤ R := (hR.iff (by decide)).1 (by omega)
  have q0 : 0 ≤ -dotI xx xy nx ny / R := Int.ediv_nonneg (by omega) (by omega)
  have q1 : -dotI xx xy nx ny / R ≤ -dotI xx xy nx ny := Int.ediv_le_self _ (by omega)
  have hn := corner_near (r := R) hR1 (hR.lo hR1) hd
  have hfar : 0 ≤ -dotI xx xy nx ny / R + 3 := by omega
  have hc := hn (corner nx ny)
  obtain ⟨p1, p2, p3, p4⟩ := dist_parts hfar hc
  have hsm : Sm (cnd xx xy nx ny (corner nx ny)).1 (cnd xx xy nx ny (corner nx ny)).2 := ⟨by omega, by omega, by omega, by omega⟩
  have hal : (sidesOf (fun _ => (nx, ny)) 1).al (cnd xx xy nx ny (corner nx ny)).1 (cnd xx xy nx ny (corner nx ny)).2 = true := by
    rw [al_one]; exact decide_eq_true (corner_ok hdp)
  have hle := updN_le xx xy (sidesOf (fun _ => (nx, ny)) 1) (0, 0) (cnd xx xy nx ny) 4 (corner nx ny) (corner_lt nx ny) hsm hal
  have hfine := updN_fine (s := sidesOf (fun _ => (nx, ny)) 1) (c := cnd xx xy nx ny) (dist_zero_fine hs) (fun j => cnd_near hs hd j) 4
  have hll := Int.le_trans hle hc
  obtain ⟨r1, r2, r3, r4⟩ := dist_parts hfar hll
  have hval := (near_lift h).2 hd
  clear hle hc
  generalize updN xx xy (sidesOf (fun _ => (nx, ny)) 1) (0, 0) (cnd xx xy nx ny) 4 = Y at *
  obtain ⟨yx, yy⟩ := Y
  dsimp only at *
  exact ⟨yx, yy, hval, hfine.1, ⟨by omega, by omega, by omega, by omega⟩, hll, hR1, q0, by omega⟩
end VB
namespace Go.Proofs.Ytejodcpigfbnpaa
open Go.RowKit PB VB
theorem within_t (n m : Int) (w : World) (hm : 0 ≤ m) (hm2 : m ≤ 1000000) (h1 : -m ≤ n) (h2 : n ≤ m) : Calls Try.prog 36 #[.int .i64 n, .int .i64 m] w fun e w' => e = .returned (.bool true) ∧ w = w' := by
  go_enter Try.func36, Try.ntmps36
  go_wp2_with fail
  go_ret
  exact ⟨rfl, rfl⟩
theorem within_f (n m : Int) (w : World) (hm : 0 ≤ m) (hm2 : m ≤ 1000000) (h : ¬ (-m ≤ n ∧ n ≤ m)) : Calls Try.prog 36 #[.int .i64 n, .int .i64 m] w fun e w' => e = .returned (.bool false) ∧ w = w' := by
  by_cases h1 : -m ≤ n
  · have k : decide (n ≤ m) = false := decide_eq_false fun k => h ⟨h1, k⟩
    clear h
    go_enter Try.func36, Try.ntmps36
    go_wp2_with fail
    go_ret
    exact ⟨rfl, rfl⟩
  · have k : decide (-m ≤ n) = false := decide_eq_false h1
    clear h h1
    go_enter Try.func36, Try.ntmps36
    go_wp2_with fail
    go_ret
    exact ⟨rfl, rfl⟩
theorem near_liftdiv {xx xy nx ny : Int} (h : InNear xx xy nx ny) : LiftDiv xx xy (fun _ => (nx, ny)) 1 := by
  intro i _ _ _ _
  dsimp only
  obtain ⟨d1, d2, d3, d4, d5, d6⟩ := h.dot
  have h5 := h.e; have h6 := h.f; have h7 := h.g; have h8 := h.h
  have b1 : (-ny).natAbs * (crossI nx ny xx xy).natAbs ≤ 4096 * 134217728 := Nat.mul_le_mul (by omega) (by omega)
  have b2 : nx.natAbs * (crossI nx ny xx xy).natAbs ≤ 4096 * 134217728 := Nat.mul_le_mul (by omega) (by omega)
  exact ⟨div_short ⟨by omega, by omega⟩ (by omega), div_short ⟨by omega, by omega⟩ (by omega)⟩
set_option maxHeartbeats 2000000 in
theorem near_o0 (xx xy nx ny : Int) (w : World)  (g0 : ¬ (-16384 ≤ xx ∧ xx ≤ 16384)) : Calls Try.prog 7 #[vec xx xy, vec nx ny] w fun e w' => e = .returned (.bool true) ∧ Below w.heap.size w w' := by
  have H0 := Lib.hid (fun w => within_f xx 16384 w (by decide) (by decide) g0)
  clear g0
  go_enter Try.func7, Try.ntmps7
  go_wp2_with fail
  refine (awake_any _).mono ?_
  rintro e W ⟨rfl, hw1⟩
  have V1 : Blk W w.heap.size #[.int .i64 xx, .int .i64 xy] := blk_prev hw1
  have N1 : Blk W (w.heap.size + 1) #[.int .i64 nx, .int .i64 ny] := blk_last2 hw1
  have q1 := in2 hw1
  clear hw1
  obtain ⟨a0, a1⟩ := Blk2 V1
  obtain ⟨b0, b1⟩ := Blk2 N1
  go_wp2_with fail
  refine (H0.out _).mono ?_
  rintro e w2 ⟨rfl, rfl⟩
  go_wp2_with fail
  refine (awake_any _).mono ?_
  rintro e w3 ⟨rfl, hw3⟩
  go_wp2_with fail
  go_ret
  exact ⟨rfl, next q1 hw3⟩
set_option maxHeartbeats 2000000 in
theorem near_o1 (xx xy nx ny : Int) (w : World) (g0 : -16384 ≤ xx ∧ xx ≤ 16384) (g1 : ¬ (-16384 ≤ xy ∧ xy ≤ 16384)) : Calls Try.prog 7 #[vec xx xy, vec nx ny] w fun e w' => e = .returned (.bool true) ∧ Below w.heap.size w w' := by
  have H0 := Lib.hid (fun w => within_t xx 16384 w (by decide) (by decide) g0.1 g0.2)
  have H1 := Lib.hid (fun w => within_f xy 16384 w (by decide) (by decide) g1)
  clear g0 g1
  go_enter Try.func7, Try.ntmps7
  go_wp2_with fail
  refine (awake_any _).mono ?_
  rintro e W ⟨rfl, hw1⟩
  have V1 : Blk W w.heap.size #[.int .i64 xx, .int .i64 xy] := blk_prev hw1
  have N1 : Blk W (w.heap.size + 1) #[.int .i64 nx, .int .i64 ny] := blk_last2 hw1
  have q1 := in2 hw1
  clear hw1
  obtain ⟨a0, a1⟩ := Blk2 V1
  obtain ⟨b0, b1⟩ := Blk2 N1
  go_wp2_with fail
  refine (H0.out _).mono ?_
  rintro e w2 ⟨rfl, rfl⟩
  go_wp2_with fail
  refine (H1.out _).mono ?_
  rintro e w2 ⟨rfl, rfl⟩
  go_wp2_with fail
  refine (awake_any _).mono ?_
  rintro e w3 ⟨rfl, hw3⟩
  go_wp2_with fail
  go_ret
  exact ⟨rfl, next q1 hw3⟩
set_option maxHeartbeats 2000000 in
theorem near_o2 (xx xy nx ny : Int) (w : World) (g0 : -16384 ≤ xx ∧ xx ≤ 16384) (g1 : -16384 ≤ xy ∧ xy ≤ 16384) (g2 : ¬ (-4096 ≤ nx ∧ nx ≤ 4096)) : Calls Try.prog 7 #[vec xx xy, vec nx ny] w fun e w' => e = .returned (.bool true) ∧ Below w.heap.size w w' := by
  have H0 := Lib.hid (fun w => within_t xx 16384 w (by decide) (by decide) g0.1 g0.2)
  have H1 := Lib.hid (fun w => within_t xy 16384 w (by decide) (by decide) g1.1 g1.2)
  have H2 := Lib.hid (fun w => within_f nx 4096 w (by decide) (by decide) g2)
  clear g0 g1 g2
  go_enter Try.func7, Try.ntmps7
  go_wp2_with fail
  refine (awake_any _).mono ?_
  rintro e W ⟨rfl, hw1⟩
  have V1 : Blk W w.heap.size #[.int .i64 xx, .int .i64 xy] := blk_prev hw1
  have N1 : Blk W (w.heap.size + 1) #[.int .i64 nx, .int .i64 ny] := blk_last2 hw1
  have q1 := in2 hw1
  clear hw1
  obtain ⟨a0, a1⟩ := Blk2 V1
  obtain ⟨b0, b1⟩ := Blk2 N1
  go_wp2_with fail
  refine (H0.out _).mono ?_
  rintro e w2 ⟨rfl, rfl⟩
  go_wp2_with fail
  refine (H1.out _).mono ?_
  rintro e w2 ⟨rfl, rfl⟩
  go_wp2_with fail
  refine (H2.out _).mono ?_
  rintro e w2 ⟨rfl, rfl⟩
  go_wp2_with fail
  refine (awake_any _).mono ?_
  rintro e w3 ⟨rfl, hw3⟩
  go_wp2_with fail
  go_ret
  exact ⟨rfl, next q1 hw3⟩
set_option maxHeartbeats 2000000 in
theorem near_o3 (xx xy nx ny : Int) (w : World) (g0 : -16384 ≤ xx ∧ xx ≤ 16384) (g1 : -16384 ≤ xy ∧ xy ≤ 16384) (g2 : -4096 ≤ nx ∧ nx ≤ 4096) (g3 : ¬ (-4096 ≤ ny ∧ ny ≤ 4096)) : Calls Try.prog 7 #[vec xx xy, vec nx ny] w fun e w' => e = .returned (.bool true) ∧ Below w.heap.size w w' := by
  have H0 := Lib.hid (fun w => within_t xx 16384 w (by decide) (by decide) g0.1 g0.2)
  have H1 := Lib.hid (fun w => within_t xy 16384 w (by decide) (by decide) g1.1 g1.2)
  have H2 := Lib.hid (fun w => within_t nx 4096 w (by decide) (by decide) g2.1 g2.2)
  have H3 := Lib.hid (fun w => within_f ny 4096 w (by decide) (by decide) g3)
  clear g0 g1 g2 g3
  go_enter Try.func7, Try.ntmps7
  go_wp2_with fail
  refine (awake_any _).mono ?_
  rintro e W ⟨rfl, hw1⟩
  have V1 : Blk W w.heap.size #[.int .i64 xx, .int .i64 xy] := blk_prev hw1
  have N1 : Blk W (w.heap.size + 1) #[.int .i64 nx, .int .i64 ny] := blk_last2 hw1
  have q1 := in2 hw1
  clear hw1
  obtain ⟨a0, a1⟩ := Blk2 V1
  obtain ⟨b0, b1⟩ := Blk2 N1
  go_wp2_with fail
  refine (H0.out _).mono ?_
  rintro e w2 ⟨rfl, rfl⟩
  go_wp2_with fail
  refine (H1.out _).mono ?_
  rintro e w2 ⟨rfl, rfl⟩
  go_wp2_with fail
  refine (H2.out _).mono ?_
  rintro e w2 ⟨rfl, rfl⟩
  go_wp2_with fail
  refine (H3.out _).mono ?_
  rintro e w2 ⟨rfl, rfl⟩
  go_wp2_with fail
  refine (awake_any _).mono ?_
  rintro e w3 ⟨rfl, hw3⟩
  go_wp2_with fail
  go_ret
  exact ⟨rfl, next q1 hw3⟩
set_option maxHeartbeats 2000000 in
theorem near_z (xx xy : Int) (w : World) (hin : InNear xx xy 0 0) : Calls Try.prog 7 #[vec xx xy, vec 0 0] w fun e w' => e = .returned (.bool true) ∧ Below w.heap.size w w' := by
  have i1 := hin.a; have i2 := hin.b; have i3 := hin.c; have i4 := hin.d; have i5 := hin.e; have i6 := hin.f; have i7 := hin.g; have i8 := hin.h
  have H0 := Lib.hid (fun w => within_t xx 16384 w (by decide) (by decide) (by omega) (by omega))
  have H1 := Lib.hid (fun w => within_t xy 16384 w (by decide) (by decide) (by omega) (by omega))
  have H2 := Lib.hid (fun w => within_t 0 4096 w (by decide) (by decide) (by omega) (by omega))
  have H3 := Lib.hid (fun w => within_t 0 4096 w (by decide) (by decide) (by omega) (by omega))
  go_enter Try.func7, Try.ntmps7
  go_wp2_with fail
  refine (awake_any _).mono ?_
  rintro e W ⟨rfl, hw1⟩
  have V1 : Blk W w.heap.size #[.int .i64 xx, .int .i64 xy] := blk_prev hw1
  have N1 : Blk W (w.heap.size + 1) #[.int .i64 0, .int .i64 0] := blk_last2 hw1
  have q1 := in2 hw1
  clear hw1
  obtain ⟨a0, a1⟩ := Blk2 V1
  obtain ⟨b0, b1⟩ := Blk2 N1
  go_wp2_with fail
  refine (H0.out _).mono ?_
  rintro e w2 ⟨rfl, rfl⟩
  go_wp2_with fail
  refine (H1.out _).mono ?_
  rintro e w2 ⟨rfl, rfl⟩
  go_wp2_with fail
  refine (H2.out _).mono ?_
  rintro e w2 ⟨rfl, rfl⟩
  go_wp2_with fail
  refine (H3.out _).mono ?_
  rintro e w2 ⟨rfl, rfl⟩
  go_wp2_with fail
  refine (awake_any _).mono ?_
  rintro e w3 ⟨rfl, hw3⟩
  go_wp2_with fail
  go_ret
  exact ⟨rfl, next q1 hw3⟩
set_option maxHeartbeats 2000000 in
theorem near_ge (xx xy nx ny : Int) (w : World) (hin : InNear xx xy nx ny) (hnz : nx ≠ 0 ∨ ny ≠ 0) (hd : 0 ≤ dotI xx xy nx ny) : Calls Try.prog 7 #[vec xx xy, vec nx ny] w fun e w' => e = .returned (.bool true) ∧ Below w.heap.size w w' := by
  have i1 := hin.a; have i2 := hin.b; have i3 := hin.c; have i4 := hin.d; have i5 := hin.e; have i6 := hin.f; have i7 := hin.g; have i8 := hin.h
  have HLI := Lib.hid (fun (g : Nat) w (hB : Blk w g #[.int .i64 nx, .int .i64 ny]) => (by have h0 := lift_any xx xy (some ⟨g, 0, none⟩) g 0 1 1 (fun _ => (nx, ny)) w (fun _ => rfl) (fun _ => hB.lt) (vsl_one hB) (by decide) (near_liftdiv hin); rwa [(near_lift hin).1 hd] at h0 : Calls Try.prog 32 #[vec xx xy, .slice (some ⟨g, 0, none⟩) 1 1] w fun e w' => e = .returned (vec xx xy) ∧ Below w.heap.size w w'))
  have HDT := Lib.hid (fun w => vdot_t xx xy nx ny w ⟨by omega, by omega, by omega, by omega⟩ ⟨by omega, by omega, by omega, by omega⟩)
  have H0 := Lib.hid (fun w => within_t xx 16384 w (by decide) (by decide) (by omega) (by omega))
  have H1 := Lib.hid (fun w => within_t xy 16384 w (by decide) (by decide) (by omega) (by omega))
  have H2 := Lib.hid (fun w => within_t nx 4096 w (by decide) (by decide) (by omega) (by omega))
  have H3 := Lib.hid (fun w => within_t ny 4096 w (by decide) (by decide) (by omega) (by omega))
  generalize dotI xx xy nx ny = d at *
  go_enter Try.func7, Try.ntmps7
  go_wp2_with fail
  refine (awake_any _).mono ?_
  rintro e W ⟨rfl, hw1⟩
  have V1 : Blk W w.heap.size #[.int .i64 xx, .int .i64 xy] := blk_prev hw1
  have N1 : Blk W (w.heap.size + 1) #[.int .i64 nx, .int .i64 ny] := blk_last2 hw1
  have q1 := in2 hw1
  clear hw1
  obtain ⟨a0, a1⟩ := Blk2 V1
  obtain ⟨b0, b1⟩ := Blk2 N1
  go_upto_region 3 with fail
  go_cut [38] from 12 to 38 (fun s38 wx => s38 = .bool false ∧ wx = W)
  case first =>
    by_cases hx : nx = 0
    · subst hx
      have hy : ny ≠ 0 := hnz.resolve_left (fun k => k rfl)
      clear hnz
      go_wp2_with fail
      refine (H0.out _).mono ?_
      rintro e w2 ⟨rfl, rfl⟩
      go_wp2_with fail
      refine (H1.out _).mono ?_
      rintro e w2 ⟨rfl, rfl⟩
      go_wp2_with fail
      refine (H2.out _).mono ?_
      rintro e w2 ⟨rfl, rfl⟩
      go_wp2_with fail
      refine (H3.out _).mono ?_
      rintro e w2 ⟨rfl, rfl⟩
      go_wp2_with fail
      go_meet
      exact ⟨rfl, rfl⟩
    · clear hnz
      go_wp2_with fail
      refine (H0.out _).mono ?_
      rintro e w2 ⟨rfl, rfl⟩
      go_wp2_with fail
      refine (H1.out _).mono ?_
      rintro e w2 ⟨rfl, rfl⟩
      go_wp2_with fail
      refine (H2.out _).mono ?_
      rintro e w2 ⟨rfl, rfl⟩
      go_wp2_with fail
      refine (H3.out _).mono ?_
      rintro e w2 ⟨rfl, rfl⟩
      go_wp2_with fail
      go_meet
      exact ⟨rfl, rfl⟩
  case rest =>
  obtain ⟨rfl, rfl⟩ := hcut
  go_wp2_with fail
  refine (HLI.out _ _ (blk_new rfl)).mono ?_
  rintro e w2 ⟨rfl, hw2⟩
  have V2 := blk_keep V1 hw2
  have N2 := blk_keep N1 hw2
  have q2 := next1 q1 hw2
  clear hw2 V1 N1 q1 a0 a1 b0 b1
  have z1 := V2.lt
  have z2 := N2.lt
  obtain ⟨a0, a1⟩ := Blk2 V2
  obtain ⟨b0, b1⟩ := Blk2 N2
  go_wp2_with fail
  refine (HDT.out _).mono ?_
  rintro e w3 ⟨rfl, hw3⟩
  have V3 := blk_keep V2 hw3
  have N3 := blk_keep N2 hw3
  have Y3 : Blk w3 w2.heap.size #[.int .i64 xx, .int .i64 xy] := (blk_new rfl).kept hw3
  have q3 := next1 q2 hw3
  clear hw3 V2 N2 q2 a0 a1 b0 b1 z1 z2
  obtain ⟨a0, a1⟩ := Blk2 V3
  obtain ⟨y0, y1⟩ := Blk2 Y3
  go_wp2_with fail
  go_ret
  exact ⟨rfl, q3⟩
set_option maxHeartbeats 2000000 in
theorem near_lt (xx xy nx ny : Int) (w : World) (hin : InNear xx xy nx ny) (hnz : nx ≠ 0 ∨ ny ≠ 0) (hd : dotI xx xy nx ny < 0) : Calls Try.prog 7 #[vec xx xy, vec nx ny] w fun e w' => e = .returned (.bool true) ∧ Below w.heap.size w w' := by
  have i1 := hin.a; have i2 := hin.b; have i3 := hin.c; have i4 := hin.d; have i5 := hin.e; have i6 := hin.f; have i7 := hin.g; have i8 := hin.h
  obtain ⟨R, hR⟩ := rt_exists (dotI nx ny nx ny) (by have := hin.dot; omega)
  obtain ⟨yx, yy, hval, hsy, hsd, hle, hR1, hq0, hq1⟩ := near_all hin hd hR
  have hsx : Sm xx xy := ⟨by omega, by omega, by omega, by omega⟩
  have hsn : Sm nx ny := ⟨by omega, by omega, by omega, by omega⟩
  have HNN := Lib.hid (fun w => vdot_t nx ny nx ny w hsn hsn)
  have HRO := Lib.hid (fun w => vroot_any (dotI nx ny nx ny) R w hR (by have := hin.dot; omega))
  have hsub := fun w => vsub_any yx yy xx xy w
  rw [show subV yx yy xx xy = (yx - xx, yy - xy) from (if_pos ⟨hsy, hsx⟩).trans (kp_t hsd)] at hsub
  have HSU := Lib.hid hsub
  have HDD := Lib.hid (fun w => vdot_t (yx - xx) (yy - xy) (yx - xx) (yy - xy) w hsd hsd)
  have hb := hin.dot
  have hb1 := hb.1
  have hRl := hR.le
  have hfar : 0 ≤ (-dotI xx xy nx ny / R + 3) * (-dotI xx xy nx ny / R + 3) ∧ (-dotI xx xy nx ny / R + 3) * (-dotI xx xy nx ny / R + 3) ≤ 18014399314788361 := by
    have h0 := sq_nonneg (-dotI xx xy nx ny / R + 3)
    have := sq_mono (a := -dotI xx xy nx ny / R + 3) (b := 134217731) (by omega) (by omega)
    omega
  obtain ⟨hf1, hf2⟩ := hfar
  clear hsub hb hsd
  have HLI := Lib.hid (fun (g : Nat) w (hB : Blk w g #[.int .i64 nx, .int .i64 ny]) => (by have h0 := lift_any xx xy (some ⟨g, 0, none⟩) g 0 1 1 (fun _ => (nx, ny)) w (fun _ => rfl) (fun _ => hB.lt) (vsl_one hB) (by decide) (near_liftdiv hin); rwa [hval] at h0 : Calls Try.prog 32 #[vec xx xy, .slice (some ⟨g, 0, none⟩) 1 1] w fun e w' => e = .returned (vec yx yy) ∧ Below w.heap.size w w'))
  have HDT := Lib.hid (fun w => vdot_t xx xy nx ny w ⟨by omega, by omega, by omega, by omega⟩ ⟨by omega, by omega, by omega, by omega⟩)
  have H0 := Lib.hid (fun w => within_t xx 16384 w (by decide) (by decide) (by omega) (by omega))
  have H1 := Lib.hid (fun w => within_t xy 16384 w (by decide) (by decide) (by omega) (by omega))
  have H2 := Lib.hid (fun w => within_t nx 4096 w (by decide) (by decide) (by omega) (by omega))
  have H3 := Lib.hid (fun w => within_t ny 4096 w (by decide) (by decide) (by omega) (by omega))
  clear hval hsy hin hsx hsn hR
  obtain ⟨k, hk⟩ : ∃ k, dotI xx xy nx ny = -k := ⟨-dotI xx xy nx ny, by omega⟩
  rw [hk] at HDT hd hle hq0 hq1 hf1 hf2 hb1
  rw [Int.neg_neg] at hle hq0 hq1 hf1 hf2
  have hk0 : 0 ≤ k := by omega
  clear hk
  generalize dotI nx ny nx ny = dn at *
  generalize dotI (yx - xx) (yy - xy) (yx - xx) (yy - xy) = dd at *
  generalize yx - xx = Dx at *
  generalize yy - xy = Dy at *
  have hR0 : ¬ R = 0 := by omega
  have hR2 : 0 < R := by omega
  go_enter Try.func7, Try.ntmps7
  go_wp2_with fail
  refine (awake_any _).mono ?_
  rintro e W ⟨rfl, hw1⟩
  have V1 : Blk W w.heap.size #[.int .i64 xx, .int .i64 xy] := blk_prev hw1
  have N1 : Blk W (w.heap.size + 1) #[.int .i64 nx, .int .i64 ny] := blk_last2 hw1
  have q1 := in2 hw1
  clear hw1
  obtain ⟨a0, a1⟩ := Blk2 V1
  obtain ⟨b0, b1⟩ := Blk2 N1
  go_upto_region 3 with fail
  go_cut [38] from 12 to 38 (fun s38 wx => s38 = .bool false ∧ wx = W)
  case first =>
    by_cases hx : nx = 0
    · subst hx
      have hy : ny ≠ 0 := hnz.resolve_left (fun k => k rfl)
      clear hnz
      go_wp2_with fail
      refine (H0.out _).mono ?_
      rintro e w2 ⟨rfl, rfl⟩
      go_wp2_with fail
      refine (H1.out _).mono ?_
      rintro e w2 ⟨rfl, rfl⟩
      go_wp2_with fail
      refine (H2.out _).mono ?_
      rintro e w2 ⟨rfl, rfl⟩
      go_wp2_with fail
      refine (H3.out _).mono ?_
      rintro e w2 ⟨rfl, rfl⟩
      go_wp2_with fail
      go_meet
      exact ⟨rfl, rfl⟩
    · clear hnz
      go_wp2_with fail
      refine (H0.out _).mono ?_
      rintro e w2 ⟨rfl, rfl⟩
      go_wp2_with fail
      refine (H1.out _).mono ?_
      rintro e w2 ⟨rfl, rfl⟩
      go_wp2_with fail
      refine (H2.out _).mono ?_
      rintro e w2 ⟨rfl, rfl⟩
      go_wp2_with fail
      refine (H3.out _).mono ?_
      rintro e w2 ⟨rfl, rfl⟩
      go_wp2_with fail
      go_meet
      exact ⟨rfl, rfl⟩
  case rest =>
  obtain ⟨rfl, rfl⟩ := hcut
  go_wp2_with fail
  refine (HLI.out _ _ (blk_new rfl)).mono ?_
  rintro e w2 ⟨rfl, hw2⟩
  have V2 := blk_keep V1 hw2
  have N2 := blk_keep N1 hw2
  have q2 := next1 q1 hw2
  clear hw2 V1 N1 q1 a0 a1 b0 b1
  have z1 := V2.lt
  have z2 := N2.lt
  obtain ⟨a0, a1⟩ := Blk2 V2
  obtain ⟨b0, b1⟩ := Blk2 N2
  go_wp2_with fail
  refine (HDT.out _).mono ?_
  rintro e w3 ⟨rfl, hw3⟩
  have V3 := blk_keep V2 hw3
  have N3 := blk_keep N2 hw3
  have Y3 : Blk w3 w2.heap.size #[.int .i64 yx, .int .i64 yy] := (blk_new rfl).kept hw3
  have q3 := next1 q2 hw3
  clear hw3 V2 N2 q2 a0 a1 b0 b1 z1 z2
  obtain ⟨a0, a1⟩ := Blk2 V3
  obtain ⟨y0, y1⟩ := Blk2 Y3
  go_wp2_with fail
  refine (HSU.out _).mono ?_
  rintro e w4 ⟨rfl, hw4⟩
  have V4 := V3.kept hw4
  have N4 := N3.kept hw4
  have q4 := next q3 hw4
  have z1 := V4.lt
  have z2 := N4.lt
  clear hw4 V3 N3 Y3 q3 a0 a1 y0 y1
  obtain ⟨a0, a1⟩ := Blk2 V4
  obtain ⟨b0, b1⟩ := Blk2 N4
  go_wp2_with fail
  refine (HDT.out _).mono ?_
  rintro e w5 ⟨rfl, hw5⟩
  have N5 := blk_keep N4 hw5
  have D5 : Blk w5 w4.heap.size #[.int .i64 Dx, .int .i64 Dy] := (blk_new rfl).kept hw5
  have q5 := next1 q4 hw5
  clear hw5 V4 N4 q4 a0 a1 b0 b1 z1 z2
  obtain ⟨b0, b1⟩ := Blk2 N5
  go_wp2_with fail
  refine (HNN.out _).mono ?_
  rintro e w6 ⟨rfl, hw6⟩
  have D6 := D5.kept hw6
  have q6 := next q5 hw6
  clear hw6 N5 D5 q5 b0 b1
  obtain ⟨c0, c1⟩ := Blk2 D6
  go_wp2_with fail
  refine (HRO.out _).mono ?_
  rintro e w7 ⟨rfl, rfl⟩
  go_wp2_with fail
  refine (HDD.out _).mono ?_
  rintro e w8 ⟨rfl, hw8⟩
  go_wp2_with fail
  go_ret
  exact ⟨rfl, next q6 hw8⟩
theorem near_any (xx xy nx ny : Int) (w : World) : Calls Try.prog 7 #[vec xx xy, vec nx ny] w fun e w' => e = .returned (.bool true) ∧ Below w.heap.size w w' := by
  by_cases g0 : -16384 ≤ xx ∧ xx ≤ 16384
  · by_cases g1 : -16384 ≤ xy ∧ xy ≤ 16384
    · by_cases g2 : -4096 ≤ nx ∧ nx ≤ 4096
      · by_cases g3 : -4096 ≤ ny ∧ ny ≤ 4096
        · have hin : InNear xx xy nx ny := ⟨g0.1, g0.2, g1.1, g1.2, g2.1, g2.2, g3.1, g3.2⟩
          by_cases hz : nx ≠ 0 ∨ ny ≠ 0
          · by_cases hd : 0 ≤ dotI xx xy nx ny
            · exact near_ge xx xy nx ny w hin hz hd
            · exact near_lt xx xy nx ny w hin hz (by omega)
          · obtain rfl : nx = 0 := by omega
            obtain rfl : ny = 0 := by omega
            exact near_z xx xy w hin
        · exact near_o3 xx xy nx ny w g0 g1 g2 g3
      · exact near_o2 xx xy nx ny w g0 g1 g2
    · exact near_o1 xx xy nx ny w g0 g1
  · exact near_o0 xx xy nx ny w g0
end Go.Proofs.Ytejodcpigfbnpaa
