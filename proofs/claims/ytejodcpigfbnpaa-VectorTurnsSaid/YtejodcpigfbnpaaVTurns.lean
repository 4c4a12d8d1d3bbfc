/-
  VectorTurns: the walk.
-/
import Derived.Test.YtejodcpigfbnpaaVAwake
import Derived.Test.YtejodcpigfbnpaaVTurnR
import Derived.Deep.RegionWith
namespace VB
/-- Dot as a number. -/
def dotV (ax ay bx b_ : Int) : Int := if Sm ax ay ∧ Sm bx b_ then dotI ax ay bx b_ else 0
theorem tdiv_sq (p : Int) : 66049 * (p.tdiv 257 * p.tdiv 257) ≤ p * p := by
  have h1 := Int.mul_tdiv_add_tmod p 257
  rcases Int.le_total 0 p with h | h
  · have h2 := Int.tmod_nonneg 257 h
    have h3 : 0 ≤ p.tdiv 257 := Int.tdiv_nonneg h (by decide)
    have h4 := Int.mul_le_mul (show 257 * p.tdiv 257 ≤ p by omega) (show 257 * p.tdiv 257 ≤ p by omega) (by omega) h
    have e : 257 * p.tdiv 257 * (257 * p.tdiv 257) = 66049 * (p.tdiv 257 * p.tdiv 257) := by grind
    omega
  · have h2 : (-p).tmod 257 = -(p.tmod 257) := Int.neg_tmod ..
    have h2' := Int.tmod_nonneg 257 (show 0 ≤ -p by omega)
    have h3 : 0 ≤ (-p).tdiv 257 := Int.tdiv_nonneg (by omega) (by decide)
    rw [Int.neg_tdiv] at h3
    have h4 := Int.mul_le_mul (show -(257 * p.tdiv 257) ≤ -p by omega) (show -(257 * p.tdiv 257) ≤ -p by omega) (by omega) (by omega)
    have e : -(257 * p.tdiv 257) * -(257 * p.tdiv 257) = 66049 * (p.tdiv 257 * p.tdiv 257) := by grind
    have e2 : -p * -p = p * p := by grind
    omega
theorem turn_len (vx vy nx ny : Int) : dotI (tX vx vy nx ny) (tY vx vy nx ny) (tX vx vy nx ny) (tY vx vy nx ny) ≤ dotI vx vy vx vy := by
  have g := sq_nonneg vx
  have g' := sq_nonneg vy
  unfold tX tY dotI
  by_cases hs : Sm vx vy ∧ Sm nx ny
  · rw [if_pos hs, if_pos hs]
    by_cases h1 : 0 < crossI nx ny vx vy
    · rw [if_pos h1, if_pos h1]
      have a := tdiv_sq (255 * vx + 32 * vy)
      have b := tdiv_sq (255 * vy - 32 * vx)
      have e : (255 * vx + 32 * vy) * (255 * vx + 32 * vy) + (255 * vy - 32 * vx) * (255 * vy - 32 * vx) = 66049 * (vx * vx + vy * vy) := by grind
      omega
    · rw [if_neg h1, if_neg h1]
      by_cases h2 : crossI nx ny vx vy < 0
      · rw [if_pos h2, if_pos h2]
        have a := tdiv_sq (255 * vx - 32 * vy)
        have b := tdiv_sq (32 * vx + 255 * vy)
        have e : (255 * vx - 32 * vy) * (255 * vx - 32 * vy) + (32 * vx + 255 * vy) * (32 * vx + 255 * vy) = 66049 * (vx * vx + vy * vy) := by grind
        omega
      · rw [if_neg h2, if_neg h2]; omega
  · rw [if_neg hs, if_neg hs]; omega
theorem cross_flip (ax ay bx b_ : Int) : crossI (-ax) ay (-bx) b_ = -crossI ax ay bx b_ := by unfold crossI; grind
theorem turn_bd (vx vy nx ny : Int) : -9223372036854775808 < tX vx vy nx ny ∧ tX vx vy nx ny ≤ 9223372036854775807 := by
  by_cases hs : Sm vx vy ∧ Sm nx ny
  · obtain ⟨a, b, c, d⟩ := hs.1
    unfold tX
    rw [if_pos hs]
    have t1 : -9223372036854775807 < (255 * vx + 32 * vy).tdiv 257 ∧ (255 * vx + 32 * vy).tdiv 257 < 9223372036854775807 := tdiv_lt (by omega) (by omega) (by decide) (by decide)
    have t2 : -9223372036854775807 < (255 * vx - 32 * vy).tdiv 257 ∧ (255 * vx - 32 * vy).tdiv 257 < 9223372036854775807 := tdiv_lt (by omega) (by omega) (by decide) (by decide)
    split
    · omega
    · split <;> omega
  · unfold tX; rw [if_neg hs]; decide
theorem tB_sm {vx vy nx ny : Int} (h : tB vx vy nx ny = true) : Sm vx vy := by
  unfold tB at h; exact (of_decide_eq_true h).1.1
theorem dot_turn_le {vx vy nx ny : Int} (h : tB vx vy nx ny = true) : dotV (tX vx vy nx ny) (tY vx vy nx ny) (tX vx vy nx ny) (tY vx vy nx ny) ≤ dotV vx vy vx vy := by
  have hv := tB_sm h
  have h1 := turn_len vx vy nx ny
  have h2 : 0 ≤ dotI vx vy vx vy := by have := sq_nonneg vx; have := sq_nonneg vy; unfold dotI; omega
  unfold dotV
  rw [if_pos (⟨hv, hv⟩ : Sm vx vy ∧ Sm vx vy)]
  split <;> omega
end VB
namespace Go.Proofs.Ytejodcpigfbnpaa
open Go.RowKit PB VB
theorem turn_flip (vx vy nx ny : Int) : tX (ngI vx) vy (ngI nx) ny = -tX vx vy nx ny ∧ tY (ngI vx) vy (ngI nx) ny = tY vx vy nx ny ∧ tB (ngI vx) vy (ngI nx) ny = tB vx vy nx ny := by
  by_cases hs : Sm vx vy ∧ Sm nx ny
  · have hs' : Sm (ngI vx) vy ∧ Sm (ngI nx) ny := ⟨ng_sm.2 hs.1, ng_sm.2 hs.2⟩
    have e1 : ngI vx = -vx := ng_of (by have := hs.1.a; omega)
    have e2 : ngI nx = -nx := ng_of (by have := hs.2.a; omega)
    rw [e1, e2] at hs' ⊢
    have hc := cross_flip nx ny vx vy
    rcases Int.lt_trichotomy (crossI nx ny vx vy) 0 with h | h | h
    · obtain ⟨a, b, c⟩ := tv_neg hs.1 hs.2 h
      obtain ⟨a', b', c'⟩ := tv_pos hs'.1 hs'.2 (show 0 < crossI (-nx) ny (-vx) vy by omega)
      rw [a, b, c, a', b', c']
      refine ⟨?_, ?_, rfl⟩
      · rw [← Int.neg_tdiv]; congr 1; omega
      · congr 1; omega
    · obtain ⟨a, b, c⟩ := tv_nil (vx := vx) (vy := vy) (nx := nx) (ny := ny) (Or.inr h)
      obtain ⟨a', b', c'⟩ := tv_nil (vx := -vx) (vy := vy) (nx := -nx) (ny := ny) (Or.inr (by omega))
      rw [a, b, c, a', b', c']; exact ⟨rfl, rfl, rfl⟩
    · obtain ⟨a, b, c⟩ := tv_pos hs.1 hs.2 h
      obtain ⟨a', b', c'⟩ := tv_neg hs'.1 hs'.2 (show crossI (-nx) ny (-vx) vy < 0 by omega)
      rw [a, b, c, a', b', c']
      refine ⟨?_, ?_, rfl⟩
      · rw [← Int.neg_tdiv]; congr 1; omega
      · congr 1; omega
  · have hs' : ¬ (Sm (ngI vx) vy ∧ Sm (ngI nx) ny) := fun k => hs ⟨ng_sm.1 k.1, ng_sm.1 k.2⟩
    obtain ⟨a, b, c⟩ := tv_nil (Or.inl hs)
    obtain ⟨a', b', c'⟩ := tv_nil (Or.inl hs')
    rw [a, b, c, a', b', c']; exact ⟨rfl, rfl, rfl⟩
theorem vdot_any (ax ay bx b_ : Int) (w : World) : Calls Try.prog 18 #[vec ax ay, vec bx b_] w fun e w' => e = .returned (.int .i64 (dotV ax ay bx b_)) ∧ Below w.heap.size w w' := by
  unfold dotV
  by_cases h : Sm ax ay ∧ Sm bx b_
  · rw [if_pos h]; exact vdot_t ax ay bx b_ w h.1 h.2
  · rw [if_neg h]; exact vdot_f ax ay bx b_ w h
set_option maxHeartbeats 8000000 in
set_option maxRecDepth 100000 in
theorem turns_any (vx vy nx ny : Int) (w : World) (hv : I64 vx) (hn : I64 nx) :
    Calls Try.prog 8 #[vec vx vy, vec nx ny] w fun e w' => e = .returned (.bool true) ∧ Below w.heap.size w w' := by
  have HT := Lib.hid (fun w => vturn_any vx vy nx ny w)
  have HR := Lib.hid (fun w => rturn_any vx vy nx ny w)
  have HF1 := Lib.hid (fun w => flip_any vx vy w hv.1 hv.2)
  have HF2 := Lib.hid (fun w => flip_any nx ny w hn.1 hn.2)
  have HM := fun w => vturn_any (ngI vx) vy (ngI nx) ny w
  obtain ⟨e1, e2, e3⟩ := turn_flip vx vy nx ny
  rw [e1, e2, e3] at HM
  have HTF := Lib.hid HM
  obtain ⟨b1, b2⟩ := turn_bd vx vy nx ny
  have HFA := fun w => flip_any (tX vx vy nx ny) (tY vx vy nx ny) w (by omega) b2
  rw [ng_of (by omega)] at HFA
  have HFA' := Lib.hid HFA
  have HD1 := Lib.hid (fun w => vdot_any (tX vx vy nx ny) (tY vx vy nx ny) (tX vx vy nx ny) (tY vx vy nx ny) w)
  have HD2 := Lib.hid (fun w => vdot_any vx vy vx vy w)
  have HLE := Lib.hid (fun h => dot_turn_le (vx := vx) (vy := vy) (nx := nx) (ny := ny) h)
  clear HM HFA e1 e2 e3 b1 b2 hv hn
  generalize tX vx vy nx ny = p at *
  generalize tY vx vy nx ny = q at *
  generalize tB vx vy nx ny = s at *
  generalize dotV p q p q = d1 at *
  generalize dotV vx vy vx vy = d2 at *
  go_enter Try.func8, Try.ntmps8
  go_wp2_with fail
  refine (awake_any _).mono ?_
  rintro e w1 ⟨rfl, hw1⟩
  have V1 := blk_prev hw1
  have N1 := blk_last2 hw1
  have q1 := in2 hw1
  clear hw1
  obtain ⟨v0, v1⟩ := Blk2 V1
  obtain ⟨n0, n1⟩ := Blk2 N1
  go_wp2_with fail
  refine (HT.out _).mono ?_
  rintro e w2 ⟨rfl, hw2⟩
  have V2 := V1.kept hw2
  have N2 := N1.kept hw2
  have q2 := next q1 hw2
  have z1 := V2.lt
  have z2 := N2.lt
  clear hw2 V1 N1 q1 v0 v1 n0 n1
  obtain ⟨v0, v1⟩ := Blk2 V2
  obtain ⟨n0, n1⟩ := Blk2 N2
  go_wp2_with fail
  refine (HR.out _).mono ?_
  rintro e w3 ⟨rfl, hw3⟩
  go_upto_region 5 with fail
  generalize hW : World.alloc _ _ = W
  have V4 : Blk W w.heap.size #[.int .i64 vx, .int .i64 vy] := by rw [← hW]; exact (blk_keep V2 hw3).alloc _
  have N4 : Blk W (w.heap.size + 1) #[.int .i64 nx, .int .i64 ny] := by rw [← hW]; exact (blk_keep N2 hw3).alloc _
  have A4 : Blk W w2.heap.size #[.int .i64 p, .int .i64 q] := by rw [← hW]; exact ((blk_new rfl).kept hw3).alloc _
  have B4 : Blk W w3.heap.size #[.int .i64 p, .int .i64 q] := by rw [← hW]; exact blk_new rfl
  have q4 : Below w.heap.size w W := by rw [← hW]; exact next (next1 q2 hw3) ((Below.refl _ _).alloc (Nat.le_refl _) _)
  clear hW hw3 V2 N2 q2 z1 z2 v0 v1 n0 n1
  generalize w2.heap.size = ga at *
  generalize w3.heap.size = gb at *
  have HV := Lib.hid V4; have HN := Lib.hid N4; have HA := Lib.hid A4; have HB := Lib.hid B4; have HQ := Lib.hid q4
  go_cut [9, 10] from 25 to 32 (fun s9 s10 wx => ∃ g9 : Nat, s9 = .pointer (some ⟨g9, 0, none⟩) ∧ s10 = .bool s ∧ Hid (Blk wx g9 #[.int .i64 (-p), .int .i64 q]) ∧ Hid (Below W.heap.size W wx))
  case first =>
    have HK := Lib.hid (show ∀ w1, Below W.heap.size W w1 → (w1.cell? ⟨w.heap.size, 0, none⟩ = some (.int .i64 vx) ∧ w1.cell? ⟨w.heap.size, 1, none⟩ = some (.int .i64 vy)) ∧ (w1.cell? ⟨w.heap.size + 1, 0, none⟩ = some (.int .i64 nx) ∧ w1.cell? ⟨w.heap.size + 1, 1, none⟩ = some (.int .i64 ny)) from
      fun w1 h => ⟨Blk2 (V4.kept h), Blk2 (N4.kept h)⟩)
    clear V4 N4 A4 B4 q4 HV HN HA HB HQ
    obtain ⟨⟨a0, a1⟩, b0, b1⟩ := HK.out _ (Below.refl _ _)
    have hq : Below W.heap.size W W := Below.refl _ _
    go_region_held3 (fun w' => (w'.cell? ⟨w.heap.size, 0, none⟩ = some (.int .i64 vx) ∧ w'.cell? ⟨w.heap.size, 1, none⟩ = some (.int .i64 vy)) ∧ (w'.cell? ⟨w.heap.size + 1, 0, none⟩ = some (.int .i64 nx) ∧ w'.cell? ⟨w.heap.size + 1, 1, none⟩ = some (.int .i64 ny)))
      (first | exact ⟨⟨a0, a1⟩, b0, b1⟩ | exact HK.out _ hq | exact HK.out _ (hq.alloc hq.size _) | exact HK.out _ (PB.below_drewN (hq.alloc hq.size _) 1) | exact HK.out _ ((hq.setCell kge _).setCell kge _))
      (first
        | (go_at_call 34; (with_reducible refine (HF1.out _).mono ?_); rintro e x1 ⟨rfl, hx1⟩; (first | (have KB := blk_last hx1; have kge := hq.size) | (have KB := blk_lastd hx1; have kge := hq.size) | (have KB := KB.kept hx1) | skip); (first | (obtain ⟨k0, k1⟩ := Blk2 KB; obtain ⟨kf0, kf1⟩ := Blk2f KB; have kz := KB.lt) | skip); have hq : Below W.heap.size W x1 := (by first | exact hq.trans (hx1.mono hq.size) | exact hq.trans (below_undrew (hx1.mono hq.size)) | exact hq.trans ((in1 hx1).mono hq.size) | exact hq.trans ((in1 (below_undrew hx1)).mono hq.size)))
        | (go_at_call 34; (with_reducible refine (HF2.out _).mono ?_); rintro e x1 ⟨rfl, hx1⟩; (first | (have KB := blk_last hx1; have kge := hq.size) | (have KB := blk_lastd hx1; have kge := hq.size) | (have KB := KB.kept hx1) | skip); (first | (obtain ⟨k0, k1⟩ := Blk2 KB; obtain ⟨kf0, kf1⟩ := Blk2f KB; have kz := KB.lt) | skip); have hq : Below W.heap.size W x1 := (by first | exact hq.trans (hx1.mono hq.size) | exact hq.trans (below_undrew (hx1.mono hq.size)) | exact hq.trans ((in1 hx1).mono hq.size) | exact hq.trans ((in1 (below_undrew hx1)).mono hq.size)))
        | (go_at_call 37; (with_reducible refine (HTF.out _).mono ?_); rintro e x1 ⟨rfl, hx1⟩; (first | (have KB := blk_last hx1; have kge := hq.size) | (have KB := blk_lastd hx1; have kge := hq.size) | (have KB := KB.kept hx1) | skip); (first | (obtain ⟨k0, k1⟩ := Blk2 KB; obtain ⟨kf0, kf1⟩ := Blk2f KB; have kz := KB.lt) | skip); have hq : Below W.heap.size W x1 := (by first | exact hq.trans (hx1.mono hq.size) | exact hq.trans (below_undrew (hx1.mono hq.size)) | exact hq.trans ((in1 hx1).mono hq.size) | exact hq.trans ((in1 (below_undrew hx1)).mono hq.size)))
        | fail "no arm")
    all_goals (go_wp2_with fail; go_meet)
    all_goals first | exact ⟨_, rfl, rfl, Lib.hid (blk_new rfl), Lib.hid (hq.alloc hq.size _)⟩ | exact ⟨_, rfl, rfl, Lib.hid (blk_set2 KB), Lib.hid ((hq.setCell kge _).setCell kge _)⟩
  case rest =>
    obtain ⟨g9, rfl, rfl, HC, hb⟩ := hcut
    have V5 := HV.out.kept hb.out
    have A5 := HA.out.kept hb.out
    have B5 := HB.out.kept hb.out
    have HK := Lib.hid (show ∀ w', Below wc.heap.size wc w' → (w'.cell? ⟨w.heap.size, 0, none⟩ = some (.int .i64 vx) ∧ w'.cell? ⟨w.heap.size, 1, none⟩ = some (.int .i64 vy)) ∧ (w'.cell? ⟨ga, 0, none⟩ = some (.int .i64 p) ∧ w'.cell? ⟨ga, 1, none⟩ = some (.int .i64 q)) ∧ (w'.cell? ⟨gb, 0, none⟩ = some (.int .i64 p) ∧ w'.cell? ⟨gb, 1, none⟩ = some (.int .i64 q)) ∧ (w'.cell? ⟨g9, 0, none⟩ = some (.int .i64 (-p)) ∧ w'.cell? ⟨g9, 1, none⟩ = some (.int .i64 q)) from
      fun w1 h => ⟨Blk2 (V5.kept h), Blk2 (A5.kept h), Blk2 (B5.kept h), Blk2 (HC.out.kept h)⟩)
    have HQ5 := Lib.hid (next HQ.out hb.out)
    obtain ⟨⟨a0, a1⟩, ⟨b0, b1⟩, ⟨c0, c1⟩, e0, e1⟩ := HK.out _ (Below.refl _ _)
    clear V4 N4 A4 B4 q4 HV HN HA HB HQ V5 A5 B5 hb HC
    have hq : Below wc.heap.size wc wc := Below.refl _ _
    cases s with
    | true =>
      have hle := HLE.out rfl
      go_wp2_with fail
      go_region_held3 (fun w' => (w'.cell? ⟨w.heap.size, 0, none⟩ = some (.int .i64 vx) ∧ w'.cell? ⟨w.heap.size, 1, none⟩ = some (.int .i64 vy)) ∧ (w'.cell? ⟨ga, 0, none⟩ = some (.int .i64 p) ∧ w'.cell? ⟨ga, 1, none⟩ = some (.int .i64 q)) ∧ (w'.cell? ⟨gb, 0, none⟩ = some (.int .i64 p) ∧ w'.cell? ⟨gb, 1, none⟩ = some (.int .i64 q)) ∧ (w'.cell? ⟨g9, 0, none⟩ = some (.int .i64 (-p)) ∧ w'.cell? ⟨g9, 1, none⟩ = some (.int .i64 q)))
        (first | exact ⟨⟨a0, a1⟩, ⟨b0, b1⟩, ⟨c0, c1⟩, e0, e1⟩ | exact HK.out _ hq)
        (first
          | (go_at_call 34; refine (HFA'.out _).mono ?_; rintro e x1 ⟨rfl, hx1⟩; have hq : Below wc.heap.size wc x1 := (by first | exact hq.trans (hx1.mono hq.size) | exact hq.trans (below_undrew (hx1.mono hq.size))))
          | (go_at_call 18; (with_reducible refine (HD1.out _).mono ?_); rintro e x1 ⟨rfl, hx1⟩; have hq : Below wc.heap.size wc x1 := (by first | exact hq.trans (hx1.mono hq.size) | exact hq.trans (below_undrew (hx1.mono hq.size))))
          | (go_at_call 18; (with_reducible refine (HD2.out _).mono ?_); rintro e x1 ⟨rfl, hx1⟩; have hq : Below wc.heap.size wc x1 := (by first | exact hq.trans (hx1.mono hq.size) | exact hq.trans (below_undrew (hx1.mono hq.size))))
          | fail "no arm")
      go_wp2_with fail
      go_ret
      exact ⟨rfl, next HQ5.out hq⟩
    | false =>
      go_wp2_with fail
      refine wp_region_held_drew (S := fun w' => (w'.cell? ⟨w.heap.size, 0, none⟩ = some (.int .i64 vx) ∧ w'.cell? ⟨w.heap.size, 1, none⟩ = some (.int .i64 vy)) ∧ (w'.cell? ⟨ga, 0, none⟩ = some (.int .i64 p) ∧ w'.cell? ⟨ga, 1, none⟩ = some (.int .i64 q)) ∧ (w'.cell? ⟨gb, 0, none⟩ = some (.int .i64 p) ∧ w'.cell? ⟨gb, 1, none⟩ = some (.int .i64 q)) ∧ (w'.cell? ⟨g9, 0, none⟩ = some (.int .i64 (-p)) ∧ w'.cell? ⟨g9, 1, none⟩ = some (.int .i64 q))) (by kernel_rfl) (HK.out _ (PB.below_drewN (Below.refl _ _) 1)) (fun hHeld => ?_)
      try simp only [Act.put, List.setIfInBounds_toArray, List.set_cons_zero, List.set_cons_succ]
      refine wpAnyH_take (i := 0) (oi := { dst := some 33, op := Go.Op.load 23 (Go.Operand.tmp 5), type := 23, pos := "law.go:116", after := #[], guard := none }) (v := ?v0) rfl (by kernel_rfl) (by kernel_rfl) (by kernel_rfl) (fun _ _ _ h => h) (Or.inl ⟨by rfl, ?hy0⟩) (by assumption) ?rest0
      case hy0 => ((intro w hSw; (try dsimp only at hSw); go_simp); (try (with_reducible rfl)))
      try simp only [Act.put, List.setIfInBounds_toArray, List.set_cons_zero, List.set_cons_succ]
      refine wpAnyH_take (i := 1) (oi := { dst := some 34, op := Go.Op.load 23 (Go.Operand.tmp 7), type := 23, pos := "law.go:116", after := #[], guard := none }) (v := ?v1) rfl (by kernel_rfl) (by kernel_rfl) (by kernel_rfl) (fun _ _ _ h => h) (Or.inl ⟨by rfl, ?hy1⟩) (by assumption) ?rest1
      case hy1 => ((intro w hSw; (try dsimp only at hSw); go_simp); (try (with_reducible rfl)))
      try simp only [Act.put, List.setIfInBounds_toArray, List.set_cons_zero, List.set_cons_succ]
      refine wpAnyH_take (i := 2) (oi := { dst := some 35, op := Go.Op.binOp Go.BinOp.eql 23 (Go.Operand.tmp 33) (Go.Operand.tmp 34) 23, type := 4, pos := "law.go:116", after := #[{ on := 0, ground := Go.Ground.data }, { on := 1, ground := Go.Ground.data }], guard := none }) (v := ?v2) rfl (by kernel_rfl) (by kernel_rfl) (by kernel_rfl) (fun _ _ _ h => h) (Or.inl ⟨by rfl, ?hy2⟩) (by assumption) ?rest2
      case hy2 => ((intro w hSw; (try dsimp only at hSw); go_simp); (try (with_reducible rfl)))
      try simp only [Act.put, List.setIfInBounds_toArray, List.set_cons_zero, List.set_cons_succ]
      refine wpAnyH_take (i := 3) (oi := { dst := some 36, op := Go.Op.move (Go.Operand.tmp 35), type := 4, pos := "law.go:116", after := #[{ on := 2, ground := Go.Ground.data }], guard := none }) (v := ?v3) rfl (by kernel_rfl) (by kernel_rfl) (by kernel_rfl) (fun _ _ _ h => h) (Or.inl ⟨by rfl, ?hy3⟩) (by assumption) ?rest3
      case hy3 => ((intro w hSw; (try dsimp only at hSw); go_simp); (try (with_reducible rfl)))
      try simp only [Act.put, List.setIfInBounds_toArray, List.set_cons_zero, List.set_cons_succ]
      refine wpAnyH_take (i := 4) (oi := { dst := some 37, op := Go.Op.move (Go.Operand.tmp 6), type := 4, pos := "law.go:116", after := #[{ on := 3, ground := Go.Ground.guard }], guard := some (3, true) }) (v := ?v4) rfl (by kernel_rfl) (by kernel_rfl) (by kernel_rfl) (fun _ _ _ h => h) (Or.inl ⟨by rfl, ?hy4⟩) (by assumption) ?rest4
      case hy4 => ((intro w hSw; (try dsimp only at hSw); go_simp); (try (with_reducible rfl)))
      try simp only [Act.put, List.setIfInBounds_toArray, List.set_cons_zero, List.set_cons_succ]
      refine wpAnyH_take (i := 5) (oi := { dst := some 38, op := Go.Op.move (Go.Operand.tmp 8), type := 4, pos := "law.go:116", after := #[{ on := 3, ground := Go.Ground.guard }], guard := some (3, true) }) (v := ?v5) rfl (by kernel_rfl) (by kernel_rfl) (by kernel_rfl) (fun _ _ _ h => h) (Or.inl ⟨by rfl, ?hy5⟩) (by assumption) ?rest5
      case hy5 => ((intro w hSw; (try dsimp only at hSw); go_simp); (try (with_reducible rfl)))
      try simp only [Act.put, List.setIfInBounds_toArray, List.set_cons_zero, List.set_cons_succ]
      refine wpAnyH_take (i := 6) (oi := { dst := some 39, op := Go.Op.binOp Go.BinOp.eql 4 (Go.Operand.tmp 37) (Go.Operand.tmp 38) 4, type := 4, pos := "law.go:116", after := #[{ on := 4, ground := Go.Ground.data }, { on := 5, ground := Go.Ground.data }, { on := 3, ground := Go.Ground.guard }], guard := some (3, true) }) (v := ?v6) rfl (by kernel_rfl) (by kernel_rfl) (by kernel_rfl) (fun _ _ _ h => h) (Or.inl ⟨by rfl, ?hy6⟩) (by assumption) ?rest6
      case hy6 => ((intro w hSw; (try dsimp only at hSw); go_simp); (try (with_reducible rfl)))
      try simp only [Act.put, List.setIfInBounds_toArray, List.set_cons_zero, List.set_cons_succ]
      refine wpAnyH_take (i := 7) (oi := { dst := some 40, op := Go.Op.pick (Go.Operand.tmp 36) (Go.Operand.tmp 39) (Go.Operand.const (Go.Value.bool false)), type := 4, pos := "law.go:116", after := #[{ on := 3, ground := Go.Ground.data }, { on := 6, ground := Go.Ground.data }], guard := none }) (v := ?v7) rfl (by kernel_rfl) (by kernel_rfl) (by kernel_rfl) (fun _ _ _ h => h) (Or.inl ⟨by rfl, ?hy7⟩) (by assumption) ?rest7
      case hy7 => ((intro w hSw; (try dsimp only at hSw); go_simp); (try (with_reducible rfl)))
      try simp only [Act.put, List.setIfInBounds_toArray, List.set_cons_zero, List.set_cons_succ]
      refine wpAnyH_take (i := 8) (oi := { dst := some 41, op := Go.Op.move (Go.Operand.tmp 40), type := 4, pos := "law.go:116", after := #[{ on := 7, ground := Go.Ground.data }, { on := 3, ground := Go.Ground.chain }], guard := none }) (v := ?v8) rfl (by kernel_rfl) (by kernel_rfl) (by kernel_rfl) (fun _ _ _ h => h) (Or.inl ⟨by rfl, ?hy8⟩) (by assumption) ?rest8
      case hy8 => ((intro w hSw; (try dsimp only at hSw); go_simp); (try (with_reducible rfl)))
      try simp only [Act.put, List.setIfInBounds_toArray, List.set_cons_zero, List.set_cons_succ]
      refine wpAnyH_take (i := 9) (oi := { dst := some 42, op := Go.Op.move (Go.Operand.tmp 10), type := 4, pos := "law.go:116", after := #[{ on := 8, ground := Go.Ground.guard }], guard := some (8, true) }) (v := ?v9) rfl (by kernel_rfl) (by kernel_rfl) (by kernel_rfl) (fun _ _ _ h => h) (Or.inl ⟨by rfl, ?hy9⟩) (by assumption) ?rest9
      case hy9 => ((intro w hSw; (try dsimp only at hSw); go_simp); (try (with_reducible rfl)))
      try simp only [Act.put, List.setIfInBounds_toArray, List.set_cons_zero, List.set_cons_succ]
      refine wpAnyH_take (i := 10) (oi := { dst := some 43, op := Go.Op.move (Go.Operand.tmp 6), type := 4, pos := "law.go:116", after := #[{ on := 8, ground := Go.Ground.guard }], guard := some (8, true) }) (v := ?v10) rfl (by kernel_rfl) (by kernel_rfl) (by kernel_rfl) (fun _ _ _ h => h) (Or.inl ⟨by rfl, ?hy10⟩) (by assumption) ?rest10
      case hy10 => ((intro w hSw; (try dsimp only at hSw); go_simp); (try (with_reducible rfl)))
      try simp only [Act.put, List.setIfInBounds_toArray, List.set_cons_zero, List.set_cons_succ]
      refine wpAnyH_take (i := 11) (oi := { dst := some 44, op := Go.Op.binOp Go.BinOp.eql 4 (Go.Operand.tmp 42) (Go.Operand.tmp 43) 4, type := 4, pos := "law.go:116", after := #[{ on := 9, ground := Go.Ground.data }, { on := 10, ground := Go.Ground.data }, { on := 8, ground := Go.Ground.guard }], guard := some (8, true) }) (v := ?v11) rfl (by kernel_rfl) (by kernel_rfl) (by kernel_rfl) (fun _ _ _ h => h) (Or.inl ⟨by rfl, ?hy11⟩) (by assumption) ?rest11
      case hy11 => ((intro w hSw; (try dsimp only at hSw); go_simp); (try (with_reducible rfl)))
      try simp only [Act.put, List.setIfInBounds_toArray, List.set_cons_zero, List.set_cons_succ]
      refine wpAnyH_take (i := 12) (oi := { dst := some 45, op := Go.Op.pick (Go.Operand.tmp 41) (Go.Operand.tmp 44) (Go.Operand.const (Go.Value.bool false)), type := 4, pos := "law.go:116", after := #[{ on := 8, ground := Go.Ground.data }, { on := 11, ground := Go.Ground.data }], guard := none }) (v := ?v12) rfl (by kernel_rfl) (by kernel_rfl) (by kernel_rfl) (fun _ _ _ h => h) (Or.inl ⟨by rfl, ?hy12⟩) (by assumption) ?rest12
      case hy12 => ((intro w hSw; (try dsimp only at hSw); go_simp); (try (with_reducible rfl)))
      try simp only [Act.put, List.setIfInBounds_toArray, List.set_cons_zero, List.set_cons_succ]
      refine wpAnyH_take (i := 13) (oi := { dst := some 46, op := Go.Op.move (Go.Operand.tmp 45), type := 4, pos := "law.go:116", after := #[{ on := 12, ground := Go.Ground.data }, { on := 8, ground := Go.Ground.chain }], guard := none }) (v := ?v13) rfl (by kernel_rfl) (by kernel_rfl) (by kernel_rfl) (fun _ _ _ h => h) (Or.inl ⟨by rfl, ?hy13⟩) (by assumption) ?rest13
      case hy13 => ((intro w hSw; (try dsimp only at hSw); go_simp); (try (with_reducible rfl)))
      try simp only [Act.put, List.setIfInBounds_toArray, List.set_cons_zero, List.set_cons_succ]
      refine wpAnyH_take (i := 14) (oi := { dst := some 47, op := Go.Op.load 23 (Go.Operand.tmp 9), type := 23, pos := "law.go:116", after := #[{ on := 13, ground := Go.Ground.guard }], guard := some (13, true) }) (v := ?v14) rfl (by kernel_rfl) (by kernel_rfl) (by kernel_rfl) (fun _ _ _ h => h) (Or.inl ⟨by rfl, ?hy14⟩) (by assumption) ?rest14
      case hy14 => ((intro w hSw; (try dsimp only at hSw); go_simp); (try (with_reducible rfl)))
      try simp only [Act.put, List.setIfInBounds_toArray, List.set_cons_zero, List.set_cons_succ]
      refine wpAnyH_take (i := 15) (oi := { dst := some 48, op := Go.Op.load 23 (Go.Operand.tmp 5), type := 23, pos := "law.go:116", after := #[{ on := 13, ground := Go.Ground.guard }], guard := some (13, true) }) (v := ?v15) rfl (by kernel_rfl) (by kernel_rfl) (by kernel_rfl) (fun _ _ _ h => h) (Or.inl ⟨by rfl, ?hy15⟩) (by assumption) ?rest15
      case hy15 => ((intro w hSw; (try dsimp only at hSw); go_simp); (try (with_reducible rfl)))
      try simp only [Act.put, List.setIfInBounds_toArray, List.set_cons_zero, List.set_cons_succ]
      refine wpAnyH_ready (rs := [16]) (by kernel_rfl) (by simp) ?_
      refine AllReadyH.cons (o := { dst := some 49, op := Go.Op.call { callee := Go.Callee.value (Go.Operand.func 34), args := #[Go.Operand.tmp 48], argTypes := #[23] }, type := 23, pos := "law.go:116", after := #[{ on := 15, ground := Go.Ground.data }, { on := 13, ground := Go.Ground.chain }, { on := 13, ground := Go.Ground.guard }], guard := some (13, true) }) rfl (fun K hK => ?_) AllReadyH.nil
      go_simp
      refine (HFA'.out _).mono ?_
      rintro e x1 ⟨rfl, hx1⟩
      have hq1 : Below wc.heap.size wc x1 := below_undrew hx1
      go_simp
      refine hK.out _ _ (HK.out _ hq1) (fun hHeld => ?_)
      clear hK K
      try simp only [Act.put, List.setIfInBounds_toArray, List.set_cons_zero, List.set_cons_succ]
      refine wpAnyH_take (i := 17) (oi := { dst := some 50, op := Go.Op.binOp Go.BinOp.eql 23 (Go.Operand.tmp 47) (Go.Operand.tmp 49) 23, type := 4, pos := "law.go:116", after := #[{ on := 14, ground := Go.Ground.data }, { on := 16, ground := Go.Ground.data }, { on := 13, ground := Go.Ground.guard }], guard := some (13, true) }) (v := ?v17) rfl (by kernel_rfl) (by kernel_rfl) (by kernel_rfl) (fun _ _ _ h => h) (Or.inl ⟨by rfl, ?hy17⟩) (by assumption) ?rest17
      case hy17 => ((intro w hSw; (try dsimp only at hSw); go_simp); (try (with_reducible rfl)))
      try simp only [Act.put, List.setIfInBounds_toArray, List.set_cons_zero, List.set_cons_succ]
      refine wpAnyH_take (i := 18) (oi := { dst := some 51, op := Go.Op.pick (Go.Operand.tmp 46) (Go.Operand.tmp 50) (Go.Operand.const (Go.Value.bool false)), type := 4, pos := "law.go:116", after := #[{ on := 13, ground := Go.Ground.data }, { on := 17, ground := Go.Ground.data }], guard := none }) (v := ?v18) rfl (by kernel_rfl) (by kernel_rfl) (by kernel_rfl) (fun _ _ _ h => h) (Or.inl ⟨by rfl, ?hy18⟩) (by assumption) ?rest18
      case hy18 => ((intro w hSw; (try dsimp only at hSw); go_simp); (try (with_reducible rfl)))
      try simp only [Act.put, List.setIfInBounds_toArray, List.set_cons_zero, List.set_cons_succ]
      refine wpAnyH_take (i := 19) (oi := { dst := some 52, op := Go.Op.move (Go.Operand.tmp 51), type := 4, pos := "law.go:116", after := #[{ on := 18, ground := Go.Ground.data }, { on := 16, ground := Go.Ground.chain }], guard := none }) (v := ?v19) rfl (by kernel_rfl) (by kernel_rfl) (by kernel_rfl) (fun _ _ _ h => h) (Or.inl ⟨by rfl, ?hy19⟩) (by assumption) ?rest19
      case hy19 => ((intro w hSw; (try dsimp only at hSw); go_simp); (try (with_reducible rfl)))
      try simp only [Act.put, List.setIfInBounds_toArray, List.set_cons_zero, List.set_cons_succ]
      refine wpAnyH_take (i := 20) (oi := { dst := some 53, op := Go.Op.move (Go.Operand.tmp 6), type := 4, pos := "law.go:116", after := #[{ on := 19, ground := Go.Ground.guard }], guard := some (19, true) }) (v := ?v20) rfl (by kernel_rfl) (by kernel_rfl) (by kernel_rfl) (fun _ _ _ h => h) (Or.inl ⟨by rfl, ?hy20⟩) (by assumption) ?rest20
      case hy20 => ((intro w hSw; (try dsimp only at hSw); go_simp); (try (with_reducible rfl)))
      try simp only [Act.put, List.setIfInBounds_toArray, List.set_cons_zero, List.set_cons_succ]
      refine wpAnyH_take (i := 21) (oi := { dst := some 54, op := Go.Op.unOp Go.UnOp.not 4 (Go.Operand.tmp 53), type := 4, pos := "law.go:116", after := #[{ on := 20, ground := Go.Ground.data }, { on := 19, ground := Go.Ground.guard }], guard := some (19, true) }) (v := ?v21) rfl (by kernel_rfl) (by kernel_rfl) (by kernel_rfl) (fun _ _ _ h => h) (Or.inl ⟨by rfl, ?hy21⟩) (by assumption) ?rest21
      case hy21 => ((intro w hSw; (try dsimp only at hSw); go_simp); (try (with_reducible rfl)))
      try simp only [Act.put, List.setIfInBounds_toArray, List.set_cons_zero, List.set_cons_succ]
      refine wpAnyH_take (i := 22) (oi := { dst := some 55, op := Go.Op.move (Go.Operand.tmp 54), type := 4, pos := "law.go:116", after := #[{ on := 21, ground := Go.Ground.data }, { on := 19, ground := Go.Ground.chain }, { on := 19, ground := Go.Ground.guard }], guard := some (19, true) }) (v := ?v22) rfl (by kernel_rfl) (by kernel_rfl) (by kernel_rfl) (fun _ _ _ h => h) (Or.inl ⟨by rfl, ?hy22⟩) (by assumption) ?rest22
      case hy22 => ((intro w hSw; (try dsimp only at hSw); go_simp); (try (with_reducible rfl)))
      try simp only [Act.put, List.setIfInBounds_toArray, List.set_cons_zero, List.set_cons_succ]
      refine wpAnyH_take (i := 23) (oi := { dst := some 56, op := Go.Op.load 23 (Go.Operand.tmp 5), type := 23, pos := "law.go:116", after := #[{ on := 22, ground := Go.Ground.guard }], guard := some (22, false) }) (v := undef) rfl (by kernel_rfl) (by kernel_rfl) (by kernel_rfl) (fun _ _ _ h => h) (Or.inr ⟨by rfl, by rfl⟩) (by assumption) ?rest23
      try simp only [Act.put, List.setIfInBounds_toArray, List.set_cons_zero, List.set_cons_succ]
      refine wpAnyH_take (i := 24) (oi := { dst := some 57, op := Go.Op.load 23 (Go.Operand.tmp 5), type := 23, pos := "law.go:116", after := #[{ on := 22, ground := Go.Ground.guard }], guard := some (22, false) }) (v := undef) rfl (by kernel_rfl) (by kernel_rfl) (by kernel_rfl) (fun _ _ _ h => h) (Or.inr ⟨by rfl, by rfl⟩) (by assumption) ?rest24
      try simp only [Act.put, List.setIfInBounds_toArray, List.set_cons_zero, List.set_cons_succ]
      refine wpAnyH_take (i := 26) (oi := { dst := some 59, op := Go.Op.load 23 (Go.Operand.tmp 2), type := 23, pos := "law.go:116", after := #[{ on := 22, ground := Go.Ground.guard }], guard := some (22, false) }) (v := undef) rfl (by kernel_rfl) (by kernel_rfl) (by kernel_rfl) (fun _ _ _ h => h) (Or.inr ⟨by rfl, by rfl⟩) (by assumption) ?rest26
      try simp only [Act.put, List.setIfInBounds_toArray, List.set_cons_zero, List.set_cons_succ]
      refine wpAnyH_take (i := 27) (oi := { dst := some 60, op := Go.Op.load 23 (Go.Operand.tmp 2), type := 23, pos := "law.go:116", after := #[{ on := 22, ground := Go.Ground.guard }], guard := some (22, false) }) (v := undef) rfl (by kernel_rfl) (by kernel_rfl) (by kernel_rfl) (fun _ _ _ h => h) (Or.inr ⟨by rfl, by rfl⟩) (by assumption) ?rest27
      try simp only [Act.put, List.setIfInBounds_toArray, List.set_cons_zero, List.set_cons_succ]
      refine wpAnyH_ready (rs := [25]) (by kernel_rfl) (by simp) ?_
      refine AllReadyH.cons (o := { dst := some 58, op := Go.Op.call { callee := Go.Callee.value (Go.Operand.func 18), args := #[Go.Operand.tmp 56, Go.Operand.tmp 57], argTypes := #[23, 23] }, type := 3, pos := "law.go:116", after := #[{ on := 23, ground := Go.Ground.data }, { on := 24, ground := Go.Ground.data }, { on := 22, ground := Go.Ground.chain }, { on := 22, ground := Go.Ground.guard }], guard := some (22, false) }) rfl (fun K hK => ?_) AllReadyH.nil
      go_simp
      refine hK.out _ _ (by assumption) (fun hHeld => ?_)
      clear hK K
      try simp only [Act.put, List.setIfInBounds_toArray, List.set_cons_zero, List.set_cons_succ]
      refine wpAnyH_ready (rs := [28]) (by kernel_rfl) (by simp) ?_
      refine AllReadyH.cons (o := { dst := some 61, op := Go.Op.call { callee := Go.Callee.value (Go.Operand.func 18), args := #[Go.Operand.tmp 59, Go.Operand.tmp 60], argTypes := #[23, 23] }, type := 3, pos := "law.go:116", after := #[{ on := 26, ground := Go.Ground.data }, { on := 27, ground := Go.Ground.data }, { on := 25, ground := Go.Ground.chain }, { on := 22, ground := Go.Ground.guard }], guard := some (22, false) }) rfl (fun K hK => ?_) AllReadyH.nil
      go_simp
      refine hK.out _ _ (by assumption) (fun hHeld => ?_)
      clear hK K
      try simp only [Act.put, List.setIfInBounds_toArray, List.set_cons_zero, List.set_cons_succ]
      refine wpAnyH_take (i := 29) (oi := { dst := some 62, op := Go.Op.binOp Go.BinOp.leq 3 (Go.Operand.tmp 58) (Go.Operand.tmp 61) 3, type := 4, pos := "law.go:116", after := #[{ on := 25, ground := Go.Ground.data }, { on := 28, ground := Go.Ground.data }, { on := 22, ground := Go.Ground.guard }], guard := some (22, false) }) (v := undef) rfl (by kernel_rfl) (by kernel_rfl) (by kernel_rfl) (fun _ _ _ h => h) (Or.inr ⟨by rfl, by rfl⟩) (by assumption) ?rest29
      try simp only [Act.put, List.setIfInBounds_toArray, List.set_cons_zero, List.set_cons_succ]
      refine wpAnyH_take (i := 30) (oi := { dst := some 63, op := Go.Op.pick (Go.Operand.tmp 55) (Go.Operand.const (Go.Value.bool true)) (Go.Operand.tmp 62), type := 4, pos := "law.go:116", after := #[{ on := 22, ground := Go.Ground.data }, { on := 29, ground := Go.Ground.data }, { on := 19, ground := Go.Ground.guard }], guard := some (19, true) }) (v := ?v30) rfl (by kernel_rfl) (by kernel_rfl) (by kernel_rfl) (fun _ _ _ h => h) (Or.inl ⟨by rfl, ?hy30⟩) (by assumption) ?rest30
      case hy30 => ((intro w hSw; (try dsimp only at hSw); go_simp); (try (with_reducible rfl)))
      try simp only [Act.put, List.setIfInBounds_toArray, List.set_cons_zero, List.set_cons_succ]
      refine wpAnyH_take (i := 31) (oi := { dst := some 64, op := Go.Op.pick (Go.Operand.tmp 52) (Go.Operand.tmp 63) (Go.Operand.const (Go.Value.bool false)), type := 4, pos := "law.go:116", after := #[{ on := 19, ground := Go.Ground.data }, { on := 30, ground := Go.Ground.data }], guard := none }) (v := ?v31) rfl (by kernel_rfl) (by kernel_rfl) (by kernel_rfl) (fun _ _ _ h => h) (Or.inl ⟨by rfl, ?hy31⟩) (by assumption) ?rest31
      case hy31 => ((intro w hSw; (try dsimp only at hSw); go_simp); (try (with_reducible rfl)))
      try simp only [Act.put, List.setIfInBounds_toArray, List.set_cons_zero, List.set_cons_succ]
      refine wpAnyH_take (i := 32) (oi := { dst := some 4, op := Go.Op.assign (Go.Operand.tmp 64), type := 4, pos := "law.go:116", after := #[{ on := 31, ground := Go.Ground.data }, { on := 28, ground := Go.Ground.chain }, { on := 0, ground := Go.Ground.phase }, { on := 1, ground := Go.Ground.phase }, { on := 2, ground := Go.Ground.phase }, { on := 3, ground := Go.Ground.phase }, { on := 4, ground := Go.Ground.phase }, { on := 5, ground := Go.Ground.phase }, { on := 6, ground := Go.Ground.phase }, { on := 7, ground := Go.Ground.phase }, { on := 8, ground := Go.Ground.phase }, { on := 9, ground := Go.Ground.phase }, { on := 10, ground := Go.Ground.phase }, { on := 11, ground := Go.Ground.phase }, { on := 12, ground := Go.Ground.phase }, { on := 13, ground := Go.Ground.phase }, { on := 14, ground := Go.Ground.phase }, { on := 15, ground := Go.Ground.phase }, { on := 16, ground := Go.Ground.phase }, { on := 17, ground := Go.Ground.phase }, { on := 18, ground := Go.Ground.phase }, { on := 19, ground := Go.Ground.phase }, { on := 20, ground := Go.Ground.phase }, { on := 21, ground := Go.Ground.phase }, { on := 22, ground := Go.Ground.phase }, { on := 23, ground := Go.Ground.phase }, { on := 24, ground := Go.Ground.phase }, { on := 25, ground := Go.Ground.phase }, { on := 26, ground := Go.Ground.phase }, { on := 27, ground := Go.Ground.phase }, { on := 28, ground := Go.Ground.phase }, { on := 29, ground := Go.Ground.phase }, { on := 30, ground := Go.Ground.phase }, { on := 31, ground := Go.Ground.phase }], guard := none }) (v := ?v32) rfl (by kernel_rfl) (by kernel_rfl) (by kernel_rfl) (fun _ _ _ h => h) (Or.inl ⟨by rfl, ?hy32⟩) (by assumption) ?rest32
      case hy32 => ((intro w hSw; (try dsimp only at hSw); go_simp); (try (with_reducible rfl)))
      try simp only [Act.put, List.setIfInBounds_toArray, List.set_cons_zero, List.set_cons_succ]
      refine wpAnyH_done (by kernel_rfl) ?_ _
      go_wp2_with fail
      go_ret
      exact ⟨rfl, next HQ5.out hq1⟩
end Go.Proofs.Ytejodcpigfbnpaa
