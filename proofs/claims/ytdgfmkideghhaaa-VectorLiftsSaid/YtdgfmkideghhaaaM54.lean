/-
  VectorSafe: the guards and the first loop.
  VectorLifts: the law.
-/
import Derived.Test.YtdgfmkideghhaaaM12
import Derived.Test.YtdgfmkideghhaaaM48
import Derived.Test.YtdgfmkideghhaaaM53
namespace Go.Proofs.Ytdgfmkideghhaaa
open Go.RowKit PB VB
set_option maxRecDepth 100000 in
theorem lift_sm (xx xy : Int) (base : Option Addr) (b off n c : Nat) (f : Nat → Int × Int) (w : World) (hb : n ≠ 0 → base = some ⟨b, off, none⟩) (hlt : n ≠ 0 → b < w.heap.size) (hV : VSl w b off n f) (hn : n ≤ 1000000) :
    Calls Try.prog 61 #[vec xx xy, .slice base n c] w fun e w' => e = .returned (vec (liftV xx xy f n).1 (liftV xx xy f n).2) ∧ Below w.heap.size w w' :=
  lift_any xx xy base b off n c f w hb hlt hV hn (fun i _ _ hs _ => by
    have := sm_dot hs hs
    exact ⟨div_for (i64_of (by omega) (by omega)), div_for (i64_of (by omega) (by omega))⟩)
set_option maxRecDepth 100000 in
theorem safe_len (xx xy : Int) (base : Option Addr) (n c : Nat) (w : World) (hn : 12 < n) :
    Calls Try.prog 7 #[vec xx xy, .slice base n c] w fun e w' => e = .returned (.bool true) ∧ Below w.heap.size w w' := by
  have i1 : (12 : Int) < n := by omega
  go_enter Try.func7, Try.ntmps7
  go_wp2_with fail
  refine (vawake_any _).mono ?_
  rintro e w1 ⟨rfl, hw1⟩
  have q1 := in1 hw1
  clear hw1
  go_wp2_with fail
  refine (vawake_any _).mono ?_
  rintro e w2 ⟨rfl, hw2⟩
  go_wp2_with fail
  go_ret
  exact ⟨rfl, next q1 hw2⟩
set_option maxRecDepth 100000 in
theorem safe_x (xx xy : Int) (base : Option Addr) (n c : Nat) (w : World) (hn : n ≤ 12) (hx : ¬ Sm xx xy) :
    Calls Try.prog 7 #[vec xx xy, .slice base n c] w fun e w' => e = .returned (.bool true) ∧ Below w.heap.size w w' := by
  have i1 : ¬ (12 : Int) < n := by omega
  go_enter Try.func7, Try.ntmps7
  go_wp2_with fail
  refine (vawake_any _).mono ?_
  rintro e w1 ⟨rfl, hw1⟩
  have X1 := blk_last hw1
  have q1 := in1 hw1
  obtain ⟨x0, x1⟩ := Blk2 X1
  clear hw1
  go_wp2_with fail
  refine (rsmall_f _ _ _ hx).mono ?_
  rintro e w2 ⟨rfl, hw2⟩
  have q2 := next q1 hw2
  clear hw2
  go_wp2_with fail
  refine (vawake_any _).mono ?_
  rintro e w3 ⟨rfl, hw3⟩
  go_wp2_with fail
  go_ret
  exact ⟨rfl, next q2 hw3⟩
end Go.Proofs.Ytdgfmkideghhaaa

namespace Go.Proofs.Ytdgfmkideghhaaa
open Go.RowKit PB VB
set_option maxHeartbeats 4000000 in
set_option maxRecDepth 100000 in
theorem lifts_any (xx xy : Int) (base : Option Addr) (b off n c : Nat) (f : Nat → Int × Int) (w : World) (hb : n ≠ 0 → base = some ⟨b, off, none⟩) (hlt : n ≠ 0 → b < w.heap.size) (hV : VSl w b off n f) :
    Calls Try.prog 6 #[vec xx xy, .slice base n c] w fun e w' => e = .returned (.bool true) ∧ Below w.heap.size w w' := by
  by_cases hn : n ≤ 12
  · have i1 : ¬ (12 : Int) < n := by omega
    have HA := Lib.hid (fun w' (h : Below w.heap.size w w') => lift_sm xx xy base b off n c f w' hb (fun k => Nat.lt_of_lt_of_le (hlt k) h.size) (hV.kept h hlt) (by omega))
    have HR := Lib.hid (fun w' (h : Below w.heap.size w w') => rlift_any xx xy base b off n c f w' hb (fun k => Nat.lt_of_lt_of_le (hlt k) h.size) (hV.kept h hlt) (by omega))
    generalize (liftV xx xy f n).1 = zx at *
    generalize (liftV xx xy f n).2 = zy at *
    clear hb hlt hV hn
    go_enter Try.func6, Try.ntmps6
    go_wp2_with fail
    refine (vawake_any _).mono ?_
    rintro e w1 ⟨rfl, hw1⟩
    have X1 := blk_last hw1
    have q1 := in1 hw1
    have HK := Lib.hid (fun w' (h : Below w1.heap.size w1 w') => Blk2 (X1.kept h))
    have HQ1 := Lib.hid q1
    obtain ⟨x0, x1⟩ := Blk2 X1
    clear hw1 X1 q1
    have hq : Below w1.heap.size w1 w1 := Below.refl _ _
    go_upto_region 5 with fail
    go_region_held3 (fun w' => w'.cell? ⟨w.heap.size, 0, none⟩ = some (.int .i64 xx) ∧ w'.cell? ⟨w.heap.size, 1, none⟩ = some (.int .i64 xy))
      (first | exact ⟨x0, x1⟩ | exact HK.out _ hq | exact HK.out _ (PB.below_drewN hq 1))
      (first
        | (go_at_call 61; (with_reducible refine (HA.out _ (by first | exact next HQ1.out hq | exact bs_drew (next HQ1.out hq))).mono ?_); rintro e w2 ⟨rfl, hw2⟩
           have hq : Below w1.heap.size w1 w2 := (by first | exact hq.trans (hw2.mono hq.size) | exact hq.trans (below_undrew (hw2.mono hq.size))))
        | (go_at_call 62; (with_reducible refine (HR.out _ (by first | exact next HQ1.out hq | exact bs_drew (next HQ1.out hq))).mono ?_); rintro e w2 ⟨rfl, hw2⟩
           have hq : Below w1.heap.size w1 w2 := (by first | exact hq.trans (hw2.mono hq.size) | exact hq.trans (below_undrew (hw2.mono hq.size))))
        | fail "no arm")
    have q3 := next HQ1.out hq
    clear hq HA HR HK
    go_wp2_with fail
    go_ret
    exact ⟨rfl, q3⟩
  · have i1 : (12 : Int) < n := by omega
    clear hb hlt hV hn
    go_enter Try.func6, Try.ntmps6
    go_wp2_with fail
    refine (vawake_any _).mono ?_
    rintro e w1 ⟨rfl, hw1⟩
    have q1 := in1 hw1
    clear hw1
    go_wp2_with fail
    refine (vawake_any _).mono ?_
    rintro e w2 ⟨rfl, hw2⟩
    have q2 := next q1 hw2
    clear q1 hw2
    go_wp2_with fail
    go_ret
    exact ⟨rfl, q2⟩
end Go.Proofs.Ytdgfmkideghhaaa
