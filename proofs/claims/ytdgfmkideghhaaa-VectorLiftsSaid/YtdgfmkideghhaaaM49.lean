/-
  floor of the reference.
-/
import Derived.Deep.RegionWith
import Derived.Test.YtdgfmkideghhaaaM48
namespace VB
theorem fl_tdiv {a b : Int} (hb : 0 < b) : (a.tmod b < 0 → a.tdiv b - 1 = a / b) ∧ (¬ a.tmod b < 0 → a.tdiv b = a / b) := by
  have e := Int.mul_tdiv_add_tmod a b
  obtain ⟨h1, h2, h3, _, _⟩ := fl_of_t (p := a) hb
  have e2 : a.tdiv b * b = b * a.tdiv b := Int.mul_comm _ _
  constructor
  · intro h
    exact (h1 (by omega)).1.symm
  · intro h
    by_cases h0 : a.tmod b = 0
    · exact (h2 (by omega)).1.symm
    · exact (h3 (by omega)).1.symm
theorem sign_neg {z : Int} (h : z < 0) : z.sign = -1 := Int.sign_eq_neg_one_of_neg h
end VB
namespace Go.Proofs.Ytdgfmkideghhaaa
open Go.RowKit PB VB
set_option maxHeartbeats 4000000 in
set_option maxRecDepth 100000 in
theorem floor_ref (s1 : Bool) (q1 : Option Addr) (n1 c1 : Nat) (s2 : Bool) (q2 : Option Addr) (n2 c2 : Nat) (N D : Int) (w : World) (h1 : IsInt w (.agg #[.bool s1, .slice q1 n1 c1]) N) (h2 : IsInt w (.agg #[.bool s2, .slice q2 n2 c2]) D) (hs : nl N.natAbs ≤ 1000) (hs' : nl D.natAbs ≤ 1000) (hQ : nl (N.tdiv D).natAbs ≤ 1000) (hD : 0 < D) (hok : numOk (N / D)) :
    Calls Try.prog 142 #[.agg #[.bool s1, .slice q1 n1 c1], .agg #[.bool s2, .slice q2 n2 c2]] w fun e w' => e = .returned (.int .i64 (N / D)) ∧ Below w.heap.size w w' := by
  have HDV := Lib.hid (fun W (hW : Below w.heap.size w W) => div_ref _ _ N D W (h1.kept hW) (h2.kept hW) (by omega) (by omega) (by omega))
  have HQN := Lib.hid hQ
  obtain ⟨f1, f2⟩ := fl_tdiv (a := N) hD
  have F1 := Lib.hid f1
  have F2 := Lib.hid f2
  have HV := Lib.hid (show numV (N / D) = N / D by unfold numV; rw [if_pos hok])
  clear h1 h2 hs hs' hQ hD hok f1 f2
  generalize N / D = R at *
  go_enter Try.func142, Try.ntmps142
  go_wp2_with fail
  refine (HDV.out _ (((Below.refl _ _).alloc (Nat.le_refl _) _).alloc (by simp) _)).mono ?_
  rintro e w1 ⟨v5, v6, rfl, hc5, hc6, hb1⟩
  generalize N.tdiv D = A at *
  generalize N.tmod D = M at *
  obtain ⟨s5, p5, n5, c5, rfl, i5⟩ := can_form hc5
  obtain ⟨s6, p6, n6, c6, rfl, i6⟩ := can_form hc6
  have q1' := Lib.hid (in2 hb1)
  have I5 := Lib.hid i5
  have I6 := Lib.hid i6
  clear hc5 hc6 hb1 i5 i6
  go_wp2_with fail
  generalize hW : World.alloc _ _ = W
  have qa : Below w1.heap.size w1 W := by rw [← hW]; exact ((Below.refl _ _).alloc (Nat.le_refl _) _).alloc (by simp) _
  have B5 : Blk W w1.heap.size #[.bool s5, .slice p5 n5 c5] := by rw [← hW]; exact (blk_new rfl).alloc _
  have HQ := Lib.hid (next q1'.out qa)
  have J5 := Lib.hid (I5.out.kept qa)
  have J6 := Lib.hid (I6.out.kept qa)
  have HG := Lib.hid (show w.heap.size ≤ w1.heap.size from q1'.out.size)
  obtain ⟨g, hg⟩ : ∃ g, w1.heap.size = g := ⟨_, rfl⟩
  rw [hg] at B5 HG ⊢
  have HB5 := Lib.hid B5
  clear hW qa B5 q1' I5 I6 hg
  refine (sign_ref _ M W J6.out).mono ?_
  rintro e w2 ⟨rfl, hw2⟩
  have HB := Lib.hid (HB5.out.kept hw2)
  have HQ2 := Lib.hid (next HQ.out hw2)
  have K5 := Lib.hid (J5.out.kept hw2)
  clear hw2 HQ HB5 J5 J6
  obtain ⟨a0, a1⟩ := Blk2 HB.out
  obtain ⟨g0, g1⟩ := Blk2f HB.out
  have z0 := HB.out.lt
  by_cases hM : M < 0
  · have HE := Lib.hid (F1.out hM)
    rw [sign_neg hM]
    clear F1 F2 hM HDV
    have HOf := Lib.hid (fun w => of_ref 1 w (by decide) (by decide))
    have n1' : nl (1 : Int).natAbs ≤ 1 := nl_le (by decide)
    have HN1 := Lib.hid n1'
    have hq : Below w2.heap.size w2 w2 := Below.refl _ _
    clear n1'
    go_upto_region 3 with fail
    go_region_with (first
      | (go_at_call 31; (with_reducible refine (HOf.out _).mono ?_); rintro e x1 ⟨v, rfl, hc, hx1⟩
         have hq : Below w2.heap.size w2 x1 := (by first | exact hx1 | exact below_undrew hx1)
         have i7 := Lib.hid hc.int
         have kk := HB.out.kept hq
         obtain ⟨b0, b1⟩ := Blk2 kk
         obtain ⟨h0, h1⟩ := Blk2f kk
         have z1 := kk.lt
         clear hc)
      | (go_at_call 83; refine (minus_ref _ _ A 1 _ (K5.out.kept hq) i7.out (by have := HQN.out; omega) (by have := HN1.out; omega)).mono ?_; rintro e x2 ⟨v8, rfl, hc8, hx2⟩
         have hq2 := next hq hx2
         obtain ⟨s8, p8, c8, rfl⟩ := can_agg hc8
         have kk2 := HB.out.kept hq2
         obtain ⟨d0, d1⟩ := Blk2 kk2
         obtain ⟨k0, k1⟩ := Blk2f kk2
         have z2 := kk2.lt
         have I8 := Lib.hid (show ∀ u1 u2 : Value, IsInt ((x2.setCell ⟨g, 0, none⟩ u1).setCell ⟨g, 1, none⟩ u2) _ (A - 1) from fun u1 u2 => ((hc8.set (show (⟨g, 0, none⟩ : Addr).block < _ from z1) u1).set (show (⟨g, 1, none⟩ : Addr).block < _ from z1) u2).int)
         have Q8 := Lib.hid (show ∀ u1 u2 : Value, Below w.heap.size w ((x2.setCell ⟨g, 0, none⟩ u1).setCell ⟨g, 1, none⟩ u2) from fun u1 u2 => ((next HQ2.out hq2).setCell HG.out u1).setCell HG.out u2)
         clear hc8))
    all_goals go_wp2_with fail
    all_goals (refine (number_can s8 p8 _ c8 (A - 1) _ (I8.out _ _)).mono ?_)
    all_goals rintro e w3 ⟨rfl, hw3⟩
    all_goals have q3 := Lib.hid (next (Q8.out _ _) hw3)
    all_goals clear hw3
    all_goals go_wp2_with fail
    all_goals go_ret
    all_goals exact ⟨show Ending.returned (.int .i64 (numV (A - 1))) = .returned (.int .i64 R) from by rw [HE.out, HV.out], q3.out⟩
  · obtain rfl := F2.out (by omega)
    have hS : M.sign = 0 ∨ M.sign = 1 := by
      rcases Int.lt_trichotomy M 0 with h | h | h
      · exact absurd h hM
      · left; rw [h]; rfl
      · right; exact Int.sign_eq_one_of_pos h
    clear F1 F2 HDV hM
    rcases hS with hS | hS <;> rw [hS] <;> clear hS
    · go_wp2_with fail
      refine (number_can s5 p5 n5 c5 A _ K5.out).mono ?_
      rintro e w3 ⟨rfl, hw3⟩
      have q3 := Lib.hid (next HQ2.out hw3)
      clear hw3
      go_wp2_with fail
      go_ret
      exact ⟨show Ending.returned (.int .i64 (numV A)) = .returned (.int .i64 A) from by rw [HV.out], q3.out⟩
    · go_wp2_with fail
      refine (number_can s5 p5 n5 c5 A _ K5.out).mono ?_
      rintro e w3 ⟨rfl, hw3⟩
      have q3 := Lib.hid (next HQ2.out hw3)
      clear hw3
      go_wp2_with fail
      go_ret
      exact ⟨show Ending.returned (.int .i64 (numV A)) = .returned (.int .i64 A) from by rw [HV.out], q3.out⟩
end Go.Proofs.Ytdgfmkideghhaaa
