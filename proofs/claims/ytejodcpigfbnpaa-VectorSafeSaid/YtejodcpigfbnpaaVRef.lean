/-
  Small, Dot, Cross of the document's reference.
-/
import Derived.Test.YtejodcpigfbnpaaVDot
namespace Go.Proofs.Ytejodcpigfbnpaa
open Go.RowKit PB VB
set_option maxRecDepth 100000 in
theorem rsmall_t (x y : Int) (w : World) (h : Sm x y) : Calls Try.prog 11 #[vec x y] w fun e w' => e = .returned (.bool true) ∧ Below w.heap.size w w' := by
  obtain ⟨a, b, c, d⟩ := h
  go_enter Try.func11, Try.ntmps11
  go_wp2
  go_ret
  exact ⟨rfl, (Below.refl _ _).alloc (Nat.le_refl _) _⟩
set_option maxRecDepth 100000 in
theorem rsmall_f (x y : Int) (w : World) (h : ¬ Sm x y) : Calls Try.prog 11 #[vec x y] w fun e w' => e = .returned (.bool false) ∧ Below w.heap.size w w' := by
  by_cases h0 : -1073741824 ≤ x
  case neg =>
    clear h
    have k : decide (-1073741824 ≤ x) = false := decide_eq_false h0
    clear h0
    go_enter Try.func11, Try.ntmps11
    go_wp2
    go_ret
    exact ⟨rfl, (Below.refl _ _).alloc (Nat.le_refl _) _⟩
  by_cases h1 : x ≤ 1073741824
  case neg =>
    clear h
    have k : decide (x ≤ 1073741824) = false := decide_eq_false h1
    clear h1
    go_enter Try.func11, Try.ntmps11
    go_wp2
    go_ret
    exact ⟨rfl, (Below.refl _ _).alloc (Nat.le_refl _) _⟩
  by_cases h2 : -1073741824 ≤ y
  case neg =>
    clear h
    have k : decide (-1073741824 ≤ y) = false := decide_eq_false h2
    clear h2
    go_enter Try.func11, Try.ntmps11
    go_wp2
    go_ret
    exact ⟨rfl, (Below.refl _ _).alloc (Nat.le_refl _) _⟩
  by_cases h3 : y ≤ 1073741824
  case neg =>
    clear h
    have k : decide (y ≤ 1073741824) = false := decide_eq_false h3
    clear h3
    go_enter Try.func11, Try.ntmps11
    go_wp2
    go_ret
    exact ⟨rfl, (Below.refl _ _).alloc (Nat.le_refl _) _⟩
  case pos => exact absurd ⟨h0, h1, h2, h3⟩ h
set_option maxRecDepth 100000 in
theorem rdot_t (ax ay bx b_ : Int) (w : World) (ha : Sm ax ay) (hb : Sm bx b_) : Calls Try.prog 19 #[vec ax ay, vec bx b_] w fun e w' => e = .returned (.int .i64 (dotI ax ay bx b_)) ∧ Below w.heap.size w w' := by
  obtain ⟨h1, h1'⟩ := mul_bd ha.a ha.b hb.a hb.b
  obtain ⟨h2, h2'⟩ := mul_bd ha.c ha.d hb.c hb.d
  go_enter Try.func19, Try.ntmps19
  go_wp2_with fail
  refine (rsmall_t _ _ _ ha).mono ?_
  rintro e w1 ⟨rfl, hw1⟩
  have A1 := blk_prev hw1
  have B1 := blk_last2 hw1
  have q1 := in2 hw1
  obtain ⟨a0, a1⟩ := Blk2 A1
  obtain ⟨b0, b1⟩ := Blk2 B1
  clear hw1
  go_wp2_with fail
  refine (rsmall_t _ _ _ hb).mono ?_
  rintro e w2 ⟨rfl, hw2⟩
  obtain ⟨a2, a3⟩ := Blk2 (A1.kept hw2)
  obtain ⟨b2, b3⟩ := Blk2 (B1.kept hw2)
  clear a0 a1 b0 b1
  go_wp2_with fail
  go_ret
  exact vint_ret rfl (next q1 hw2)
set_option maxRecDepth 100000 in
theorem rdot_f (ax ay bx b_ : Int) (w : World) (h : ¬ (Sm ax ay ∧ Sm bx b_)) : Calls Try.prog 19 #[vec ax ay, vec bx b_] w fun e w' => e = .returned (.int .i64 0) ∧ Below w.heap.size w w' := by
  by_cases ha : Sm ax ay
  · have hb : ¬ Sm bx b_ := fun hb => h ⟨ha, hb⟩
    clear h
    go_enter Try.func19, Try.ntmps19
    go_wp2_with fail
    refine (rsmall_t _ _ _ ha).mono ?_
    rintro e w1 ⟨rfl, hw1⟩
    have B1 := blk_last2 hw1
    have q1 := in2 hw1
    obtain ⟨b0, b1⟩ := Blk2 B1
    clear hw1
    go_wp2_with fail
    refine (rsmall_f _ _ _ hb).mono ?_
    rintro e w2 ⟨rfl, hw2⟩
    go_wp2_with fail
    go_ret
    exact vint_ret rfl (next q1 hw2)
  · clear h
    go_enter Try.func19, Try.ntmps19
    go_wp2_with fail
    refine (rsmall_f _ _ _ ha).mono ?_
    rintro e w1 ⟨rfl, hw1⟩
    go_wp2_with fail
    go_ret
    exact vint_ret rfl (in2 hw1)
set_option maxRecDepth 100000 in
theorem rcross_t (ax ay bx b_ : Int) (w : World) (ha : Sm ax ay) (hb : Sm bx b_) : Calls Try.prog 21 #[vec ax ay, vec bx b_] w fun e w' => e = .returned (.int .i64 (crossI ax ay bx b_)) ∧ Below w.heap.size w w' := by
  obtain ⟨h1, h1'⟩ := mul_bd ha.a ha.b hb.c hb.d
  obtain ⟨h2, h2'⟩ := mul_bd ha.c ha.d hb.a hb.b
  go_enter Try.func21, Try.ntmps21
  go_wp2_with fail
  refine (rsmall_t _ _ _ ha).mono ?_
  rintro e w1 ⟨rfl, hw1⟩
  have A1 := blk_prev hw1
  have B1 := blk_last2 hw1
  have q1 := in2 hw1
  obtain ⟨a0, a1⟩ := Blk2 A1
  obtain ⟨b0, b1⟩ := Blk2 B1
  clear hw1
  go_wp2_with fail
  refine (rsmall_t _ _ _ hb).mono ?_
  rintro e w2 ⟨rfl, hw2⟩
  obtain ⟨a2, a3⟩ := Blk2 (A1.kept hw2)
  obtain ⟨b2, b3⟩ := Blk2 (B1.kept hw2)
  clear a0 a1 b0 b1
  go_wp2_with fail
  go_ret
  exact vint_ret rfl (next q1 hw2)
set_option maxRecDepth 100000 in
theorem rcross_f (ax ay bx b_ : Int) (w : World) (h : ¬ (Sm ax ay ∧ Sm bx b_)) : Calls Try.prog 21 #[vec ax ay, vec bx b_] w fun e w' => e = .returned (.int .i64 0) ∧ Below w.heap.size w w' := by
  by_cases ha : Sm ax ay
  · have hb : ¬ Sm bx b_ := fun hb => h ⟨ha, hb⟩
    clear h
    go_enter Try.func21, Try.ntmps21
    go_wp2_with fail
    refine (rsmall_t _ _ _ ha).mono ?_
    rintro e w1 ⟨rfl, hw1⟩
    have B1 := blk_last2 hw1
    have q1 := in2 hw1
    obtain ⟨b0, b1⟩ := Blk2 B1
    clear hw1
    go_wp2_with fail
    refine (rsmall_f _ _ _ hb).mono ?_
    rintro e w2 ⟨rfl, hw2⟩
    go_wp2_with fail
    go_ret
    exact vint_ret rfl (next q1 hw2)
  · clear h
    go_enter Try.func21, Try.ntmps21
    go_wp2_with fail
    refine (rsmall_f _ _ _ ha).mono ?_
    rintro e w1 ⟨rfl, hw1⟩
    go_wp2_with fail
    go_ret
    exact vint_ret rfl (in2 hw1)
end Go.Proofs.Ytejodcpigfbnpaa
