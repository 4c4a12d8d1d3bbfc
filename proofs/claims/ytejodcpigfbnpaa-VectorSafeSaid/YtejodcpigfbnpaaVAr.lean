/-
  The floor and the ceiling of a quotient of a product.
-/
import Derived.Test.YtejodcpigfbnpaaVMul
namespace VB
open Go Go.RowKit PB
/-- The ceiling of a quotient. -/
def cdiv (p c : Int) : Int := -((-p) / c)
theorem fl_of_t {p c : Int} (hc : 0 < c) : (p - p.tdiv c * c < 0 → p / c = p.tdiv c - 1 ∧ cdiv p c = p.tdiv c) ∧ (p - p.tdiv c * c = 0 → p / c = p.tdiv c ∧ cdiv p c = p.tdiv c) ∧ (0 < p - p.tdiv c * c → p / c = p.tdiv c ∧ cdiv p c = p.tdiv c + 1) ∧ -c < p - p.tdiv c * c ∧ p - p.tdiv c * c < c := by
  have e := Int.mul_tdiv_add_tmod p c
  have b1 := Int.tmod_lt_of_pos p hc
  have b2 := Int.lt_tmod_of_pos p hc
  have hm : c * p.tdiv c = p.tdiv c * c := Int.mul_comm _ _
  have hr : p - p.tdiv c * c = p.tmod c := by omega
  rw [hr]
  generalize p.tmod c = r at *
  generalize p.tdiv c = q at *
  have hp : p = q * c + r := by omega
  subst hp
  have hne : c ≠ 0 := by omega
  unfold cdiv
  refine ⟨fun h => ⟨?_, ?_⟩, fun h => ⟨?_, ?_⟩, fun h => ⟨?_, ?_⟩, b2, b1⟩
  · rw [show q * c + r = (c + r) + c * (q - 1) by grind, Int.add_mul_ediv_left _ _ hne, Int.ediv_eq_zero_of_lt (by omega) (by omega)]; omega
  · rw [show -(q * c + r) = -r + c * (-q) by grind, Int.add_mul_ediv_left _ _ hne, Int.ediv_eq_zero_of_lt (by omega) (by omega)]; omega
  · rw [show q * c + r = r + c * q by grind, Int.add_mul_ediv_left _ _ hne, Int.ediv_eq_zero_of_lt (by omega) (by omega)]; omega
  · rw [show -(q * c + r) = -r + c * (-q) by grind, Int.add_mul_ediv_left _ _ hne, Int.ediv_eq_zero_of_lt (by omega) (by omega)]; omega
  · rw [show q * c + r = r + c * q by grind, Int.add_mul_ediv_left _ _ hne, Int.ediv_eq_zero_of_lt (by omega) (by omega)]; omega
  · rw [show -(q * c + r) = (c - r) + c * (-q - 1) by grind, Int.add_mul_ediv_left _ _ hne, Int.ediv_eq_zero_of_lt (by omega) (by omega)]; omega
theorem wrap_sub (P Q : Int) (h : -9223372036854775808 ≤ P - Q) (h' : P - Q ≤ 9223372036854775807) : wrap64 (wrap64 P - wrap64 Q) = P - Q := by
  unfold wrap64; omega
end VB
namespace Go.Proofs.Ytejodcpigfbnpaa
open Go.RowKit PB VB
set_option maxRecDepth 100000 in
theorem iiret {a b c d : Int} {w w' : World} (h1 : a = b) (h2 : c = d) (hb : Below w.heap.size w w') : Ending.returned (.tuple #[.int .i64 a, .int .i64 c]) = Ending.returned (.tuple #[.int .i64 b, .int .i64 d]) ∧ Below w.heap.size w w' := ⟨by rw [h1, h2], hb⟩
/-- around, as it is needed. -/
def ArOK (a b c : Int) : Prop := ∀ w, Calls Try.prog 71 #[.int .i64 a, .int .i64 b, .int .i64 c] w fun e w' => e = .returned (.tuple #[.int .i64 (a * b / c), .int .i64 (cdiv (a * b) c)]) ∧ Below w.heap.size w w'
set_option maxRecDepth 100000 in
set_option maxHeartbeats 2000000 in
theorem ar_any {a b c : Int} (ha : I64 a) (hb : I64 b) (hc : I64 c) (hD : DivFor (DivOK 64) a b c) (h0 : 0 < c) (hq1 : -4611686018427387904 ≤ (a * b).tdiv c) (hq2 : (a * b).tdiv c ≤ 4611686018427387904) : ArOK a b c := by
  intro w
  have HM := Lib.hid (fun w => md_yes w ha hb hc hD ⟨by omega, by omega, by omega⟩)
  obtain ⟨f1, f2, f3, f4, f5⟩ := fl_of_t (p := a * b) h0
  have hR := wrap_sub (a * b) ((a * b).tdiv c * c) (by have := hc.2; omega) (by have := hc.2; omega)
  generalize (a * b).tdiv c = q at *
  have h63 := hc.2
  clear ha hb hc hD
  rcases Int.lt_trichotomy (a * b - q * c) 0 with h | h | h
  · obtain ⟨e1, e2⟩ := f1 h
    rw [e1, e2]
    have t1 : decide (wrap64 (wrap64 (a * b) - wrap64 (q * c)) < 0) = true := decide_eq_true (by rw [hR]; exact h)
    clear f1 f2 f3 e1 e2 hR h f4 f5
    go_enter Try.func71, Try.ntmps71
    go_wp2_with fail
    refine (HM.out _).mono ?_
    rintro e w1 ⟨rfl, hw1⟩
    go_wp2_with fail
    go_ret2
    exact iiret rfl rfl hw1
  · obtain ⟨e1, e2⟩ := f2 h
    rw [e1, e2]
    have t1 : decide (wrap64 (wrap64 (a * b) - wrap64 (q * c)) < 0) = false := decide_eq_false (by rw [hR]; omega)
    have t2 : decide (0 < wrap64 (wrap64 (a * b) - wrap64 (q * c))) = false := decide_eq_false (by rw [hR]; omega)
    clear f1 f2 f3 e1 e2 hR h f4 f5
    go_enter Try.func71, Try.ntmps71
    go_wp2_with fail
    refine (HM.out _).mono ?_
    rintro e w1 ⟨rfl, hw1⟩
    go_wp2_with fail
    go_ret2
    exact iiret rfl rfl hw1
  · obtain ⟨e1, e2⟩ := f3 h
    rw [e1, e2]
    have t1 : decide (wrap64 (wrap64 (a * b) - wrap64 (q * c)) < 0) = false := decide_eq_false (by rw [hR]; omega)
    have t2 : decide (0 < wrap64 (wrap64 (a * b) - wrap64 (q * c))) = true := decide_eq_true (by rw [hR]; exact h)
    clear f1 f2 f3 e1 e2 hR h f4 f5
    go_enter Try.func71, Try.ntmps71
    go_wp2_with fail
    refine (HM.out _).mono ?_
    rintro e w1 ⟨rfl, hw1⟩
    go_wp2_with fail
    go_ret2
    exact iiret rfl rfl hw1
end Go.Proofs.Ytejodcpigfbnpaa
