/-
  VectorSafe: the guards and the first loop.
-/
import Derived.Test.YtejodcpigfbnpaaVFlips
import Derived.Test.YtejodcpigfbnpaaVDivA
namespace Go.Proofs.Ytejodcpigfbnpaa
open Go.RowKit PB VB
set_option maxRecDepth 100000 in
theorem lift_sm (xx xy : Int) (base : Option Addr) (b off n c : Nat) (f : Nat → Int × Int) (w : World) (hb : n ≠ 0 → base = some ⟨b, off, none⟩) (hlt : n ≠ 0 → b < w.heap.size) (hV : VSl w b off n f) (hn : n ≤ 1000000) :
    Calls Try.prog 32 #[vec xx xy, .slice base n c] w fun e w' => e = .returned (vec (liftV xx xy f n).1 (liftV xx xy f n).2) ∧ Below w.heap.size w w' :=
  lift_any xx xy base b off n c f w hb hlt hV hn (fun i _ _ hs _ => by
    have := sm_dot hs hs
    exact ⟨div_for (i64_of (by omega) (by omega)), div_for (i64_of (by omega) (by omega))⟩)
set_option maxRecDepth 100000 in
theorem safe_len (xx xy : Int) (base : Option Addr) (n c : Nat) (w : World) (hn : 12 < n) :
    Calls Try.prog 6 #[vec xx xy, .slice base n c] w fun e w' => e = .returned (.bool true) ∧ Below w.heap.size w w' := by
  have i1 : (12 : Int) < n := by omega
  go_enter Try.func6, Try.ntmps6
  go_wp2_with fail
  refine (vawake_any _).mono ?_
  rintro e w1 ⟨rfl, hw1⟩
  have q1 := in1 hw1
  clear hw1
  go_wp2_with fail
  refine (vawake_any _).mono ?_
  rintro e w2 ⟨rfl, hw2⟩
  go_wp2_with fail
  go_ret
  exact ⟨rfl, next q1 hw2⟩
set_option maxRecDepth 100000 in
theorem safe_x (xx xy : Int) (base : Option Addr) (n c : Nat) (w : World) (hn : n ≤ 12) (hx : ¬ Sm xx xy) :
    Calls Try.prog 6 #[vec xx xy, .slice base n c] w fun e w' => e = .returned (.bool true) ∧ Below w.heap.size w w' := by
  have i1 : ¬ (12 : Int) < n := by omega
  go_enter Try.func6, Try.ntmps6
  go_wp2_with fail
  refine (vawake_any _).mono ?_
  rintro e w1 ⟨rfl, hw1⟩
  have X1 := blk_last hw1
  have q1 := in1 hw1
  obtain ⟨x0, x1⟩ := Blk2 X1
  clear hw1
  go_wp2_with fail
  refine (rsmall_f _ _ _ hx).mono ?_
  rintro e w2 ⟨rfl, hw2⟩
  have q2 := next q1 hw2
  clear hw2
  go_wp2_with fail
  refine (vawake_any _).mono ?_
  rintro e w3 ⟨rfl, hw3⟩
  go_wp2_with fail
  go_ret
  exact ⟨rfl, next q2 hw3⟩
end Go.Proofs.Ytejodcpigfbnpaa
