/-
  FlightEnergy and FlightSteps at any arguments.
-/
import Derived.Test.YtmfmbglacebeiaaFlLawS
namespace Go.Proofs.Ytmfmbglacebeiaa
open Go.RowKit PB VB FL
set_option maxRecDepth 100000 in
theorem energy_any (px py vx vy hx hy : Int) (w : World) : Calls Try.prog 4 #[mo px py vx vy hx hy] w fun e w' => e = .returned (.bool true) ∧ Below w.heap.size w w' := by
  by_cases h : VM px py vx vy hx hy
  · exact energy_t px py vx vy hx hy w h
  · exact energy_f px py vx vy hx hy w h
set_option maxRecDepth 100000 in
theorem steps_any (px py vx vy hx hy n : Int) (w : World) : Calls Try.prog 6 #[mo px py vx vy hx hy, .int .i64 n] w fun e w' => e = .returned (.bool true) ∧ Below w.heap.size w w' := by
  by_cases c0 : n < 0
  · exact steps_o0 px py vx vy hx hy n w  (decide_eq_true c0)
  by_cases c1 : n > 60
  · exact steps_o1 px py vx vy hx hy n w (decide_eq_false c0) (decide_eq_true c1)
  by_cases c2 : px < -65536
  · exact steps_o2 px py vx vy hx hy n w (decide_eq_false c0) (decide_eq_false c1) (decide_eq_true c2)
  by_cases c3 : px > 65536
  · exact steps_o3 px py vx vy hx hy n w (decide_eq_false c0) (decide_eq_false c1) (decide_eq_false c2) (decide_eq_true c3)
  by_cases c4 : py < -65536
  · exact steps_o4 px py vx vy hx hy n w (decide_eq_false c0) (decide_eq_false c1) (decide_eq_false c2) (decide_eq_false c3) (decide_eq_true c4)
  by_cases c5 : py > 65536
  · exact steps_o5 px py vx vy hx hy n w (decide_eq_false c0) (decide_eq_false c1) (decide_eq_false c2) (decide_eq_false c3) (decide_eq_false c4) (decide_eq_true c5)
  by_cases c6 : vx < -4096
  · exact steps_o6 px py vx vy hx hy n w (decide_eq_false c0) (decide_eq_false c1) (decide_eq_false c2) (decide_eq_false c3) (decide_eq_false c4) (decide_eq_false c5) (decide_eq_true c6)
  by_cases c7 : vx > 4096
  · exact steps_o7 px py vx vy hx hy n w (decide_eq_false c0) (decide_eq_false c1) (decide_eq_false c2) (decide_eq_false c3) (decide_eq_false c4) (decide_eq_false c5) (decide_eq_false c6) (decide_eq_true c7)
  by_cases c8 : vy < -4096
  · exact steps_o8 px py vx vy hx hy n w (decide_eq_false c0) (decide_eq_false c1) (decide_eq_false c2) (decide_eq_false c3) (decide_eq_false c4) (decide_eq_false c5) (decide_eq_false c6) (decide_eq_false c7) (decide_eq_true c8)
  by_cases c9 : vy > 4096
  · exact steps_o9 px py vx vy hx hy n w (decide_eq_false c0) (decide_eq_false c1) (decide_eq_false c2) (decide_eq_false c3) (decide_eq_false c4) (decide_eq_false c5) (decide_eq_false c6) (decide_eq_false c7) (decide_eq_false c8) (decide_eq_true c9)
  by_cases c10 : hx < -256
  · exact steps_o10 px py vx vy hx hy n w (decide_eq_false c0) (decide_eq_false c1) (decide_eq_false c2) (decide_eq_false c3) (decide_eq_false c4) (decide_eq_false c5) (decide_eq_false c6) (decide_eq_false c7) (decide_eq_false c8) (decide_eq_false c9) (decide_eq_true c10)
  by_cases c11 : hx > 256
  · exact steps_o11 px py vx vy hx hy n w (decide_eq_false c0) (decide_eq_false c1) (decide_eq_false c2) (decide_eq_false c3) (decide_eq_false c4) (decide_eq_false c5) (decide_eq_false c6) (decide_eq_false c7) (decide_eq_false c8) (decide_eq_false c9) (decide_eq_false c10) (decide_eq_true c11)
  by_cases c12 : hy < -256
  · exact steps_o12 px py vx vy hx hy n w (decide_eq_false c0) (decide_eq_false c1) (decide_eq_false c2) (decide_eq_false c3) (decide_eq_false c4) (decide_eq_false c5) (decide_eq_false c6) (decide_eq_false c7) (decide_eq_false c8) (decide_eq_false c9) (decide_eq_false c10) (decide_eq_false c11) (decide_eq_true c12)
  by_cases c13 : hy > 256
  · exact steps_o13 px py vx vy hx hy n w (decide_eq_false c0) (decide_eq_false c1) (decide_eq_false c2) (decide_eq_false c3) (decide_eq_false c4) (decide_eq_false c5) (decide_eq_false c6) (decide_eq_false c7) (decide_eq_false c8) (decide_eq_false c9) (decide_eq_false c10) (decide_eq_false c11) (decide_eq_false c12) (decide_eq_true c13)
  exact steps_in px py vx vy hx hy n w ⟨by omega, by omega, by omega, by omega, by omega, by omega, by omega, by omega, by omega, by omega, by omega, by omega, by omega, by omega⟩
end Go.Proofs.Ytmfmbglacebeiaa
