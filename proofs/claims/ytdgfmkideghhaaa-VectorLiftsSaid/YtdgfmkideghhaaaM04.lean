/-
  Dot, Cross, Turn of package vector and of the document's reference; flip.
  The floor and the ceiling of a quotient of a product.
  The four candidates of a projection.
-/
import Derived.Test.YtdgfmkideghhaaaM02
import Derived.Test.YtdgfmkideghhaaaM03
namespace VB
open Go Go.RowKit PB
theorem mul_bd {a b : Int} (h1 : -1073741824 ≤ a) (h2 : a ≤ 1073741824) (h3 : -1073741824 ≤ b) (h4 : b ≤ 1073741824) : -1152921504606846976 ≤ a * b ∧ a * b ≤ 1152921504606846976 := by
  have h : (a * b).natAbs ≤ 1152921504606846976 := by
    rw [Int.natAbs_mul]
    exact Nat.mul_le_mul (show a.natAbs ≤ 1073741824 by omega) (show b.natAbs ≤ 1073741824 by omega)
  omega
def dotI (ax ay bx b_ : Int) : Int := ax * bx + ay * b_
def crossI (ax ay bx b_ : Int) : Int := ax * b_ - ay * bx
theorem sm_dot {ax ay bx b_ : Int} (h : Sm ax ay) (h' : Sm bx b_) : -2305843009213693952 ≤ dotI ax ay bx b_ ∧ dotI ax ay bx b_ ≤ 2305843009213693952 := by
  obtain ⟨a, b, c, d⟩ := h
  obtain ⟨a', b', c', d'⟩ := h'
  have h1 := mul_bd a b a' b'
  have h2 := mul_bd c d c' d'
  unfold dotI; omega
theorem sm_cross {ax ay bx b_ : Int} (h : Sm ax ay) (h' : Sm bx b_) : -2305843009213693952 ≤ crossI ax ay bx b_ ∧ crossI ax ay bx b_ ≤ 2305843009213693952 := by
  obtain ⟨a, b, c, d⟩ := h
  obtain ⟨a', b', c', d'⟩ := h'
  have h1 := mul_bd a b c' d'
  have h2 := mul_bd c d a' b'
  unfold crossI; omega
end VB
namespace Go.Proofs.Ytdgfmkideghhaaa
open Go.RowKit PB VB
set_option maxRecDepth 100000 in
theorem vint_ret {a b : Int} {w w' : World} (h : a = b) (hb : Below w.heap.size w w') : Ending.returned (.int .i64 a) = Ending.returned (.int .i64 b) ∧ Below w.heap.size w w' := ⟨by rw [h], hb⟩
set_option maxRecDepth 100000 in
theorem bret {a b : Bool} {w w' : World} (h : a = b) (hb : Below w.heap.size w w') : Ending.returned (.bool a) = Ending.returned (.bool b) ∧ Below w.heap.size w w' := ⟨by rw [h], hb⟩
set_option maxRecDepth 100000 in
theorem vdot_t (ax ay bx b_ : Int) (w : World) (ha : Sm ax ay) (hb : Sm bx b_) : Calls Try.prog 47 #[vec ax ay, vec bx b_] w fun e w' => e = .returned (.int .i64 (dotI ax ay bx b_)) ∧ Below w.heap.size w w' := by
  obtain ⟨h1, h1'⟩ := mul_bd ha.a ha.b hb.a hb.b
  obtain ⟨h2, h2'⟩ := mul_bd ha.c ha.d hb.c hb.d
  go_enter Try.func47, Try.ntmps47
  go_wp2_with fail
  refine (vsmall_t _ _ _ ha).mono ?_
  rintro e w1 ⟨rfl, hw1⟩
  have A1 := blk_prev hw1
  have B1 := blk_last2 hw1
  have q1 := in2 hw1
  obtain ⟨a0, a1⟩ := Blk2 A1
  obtain ⟨b0, b1⟩ := Blk2 B1
  clear hw1
  go_wp2_with fail
  refine (vsmall_t _ _ _ hb).mono ?_
  rintro e w2 ⟨rfl, hw2⟩
  obtain ⟨a2, a3⟩ := Blk2 (A1.kept hw2)
  obtain ⟨b2, b3⟩ := Blk2 (B1.kept hw2)
  clear a0 a1 b0 b1
  go_wp2_with fail
  go_ret
  exact vint_ret rfl (next q1 hw2)
set_option maxRecDepth 100000 in
theorem vdot_f (ax ay bx b_ : Int) (w : World) (h : ¬ (Sm ax ay ∧ Sm bx b_)) : Calls Try.prog 47 #[vec ax ay, vec bx b_] w fun e w' => e = .returned (.int .i64 0) ∧ Below w.heap.size w w' := by
  by_cases ha : Sm ax ay
  · have hb : ¬ Sm bx b_ := fun hb => h ⟨ha, hb⟩
    clear h
    go_enter Try.func47, Try.ntmps47
    go_wp2_with fail
    refine (vsmall_t _ _ _ ha).mono ?_
    rintro e w1 ⟨rfl, hw1⟩
    have B1 := blk_last2 hw1
    have q1 := in2 hw1
    obtain ⟨b0, b1⟩ := Blk2 B1
    clear hw1
    go_wp2_with fail
    refine (vsmall_f _ _ _ hb).mono ?_
    rintro e w2 ⟨rfl, hw2⟩
    go_wp2_with fail
    go_ret
    exact vint_ret rfl (next q1 hw2)
  · clear h
    go_enter Try.func47, Try.ntmps47
    go_wp2_with fail
    refine (vsmall_f _ _ _ ha).mono ?_
    rintro e w1 ⟨rfl, hw1⟩
    go_wp2_with fail
    go_ret
    exact vint_ret rfl (in2 hw1)
set_option maxRecDepth 100000 in
theorem vcross_t (ax ay bx b_ : Int) (w : World) (ha : Sm ax ay) (hb : Sm bx b_) : Calls Try.prog 49 #[vec ax ay, vec bx b_] w fun e w' => e = .returned (.int .i64 (crossI ax ay bx b_)) ∧ Below w.heap.size w w' := by
  obtain ⟨h1, h1'⟩ := mul_bd ha.a ha.b hb.c hb.d
  obtain ⟨h2, h2'⟩ := mul_bd ha.c ha.d hb.a hb.b
  go_enter Try.func49, Try.ntmps49
  go_wp2_with fail
  refine (vsmall_t _ _ _ ha).mono ?_
  rintro e w1 ⟨rfl, hw1⟩
  have A1 := blk_prev hw1
  have B1 := blk_last2 hw1
  have q1 := in2 hw1
  obtain ⟨a0, a1⟩ := Blk2 A1
  obtain ⟨b0, b1⟩ := Blk2 B1
  clear hw1
  go_wp2_with fail
  refine (vsmall_t _ _ _ hb).mono ?_
  rintro e w2 ⟨rfl, hw2⟩
  obtain ⟨a2, a3⟩ := Blk2 (A1.kept hw2)
  obtain ⟨b2, b3⟩ := Blk2 (B1.kept hw2)
  clear a0 a1 b0 b1
  go_wp2_with fail
  go_ret
  exact vint_ret rfl (next q1 hw2)
set_option maxRecDepth 100000 in
theorem vcross_f (ax ay bx b_ : Int) (w : World) (h : ¬ (Sm ax ay ∧ Sm bx b_)) : Calls Try.prog 49 #[vec ax ay, vec bx b_] w fun e w' => e = .returned (.int .i64 0) ∧ Below w.heap.size w w' := by
  by_cases ha : Sm ax ay
  · have hb : ¬ Sm bx b_ := fun hb => h ⟨ha, hb⟩
    clear h
    go_enter Try.func49, Try.ntmps49
    go_wp2_with fail
    refine (vsmall_t _ _ _ ha).mono ?_
    rintro e w1 ⟨rfl, hw1⟩
    have B1 := blk_last2 hw1
    have q1 := in2 hw1
    obtain ⟨b0, b1⟩ := Blk2 B1
    clear hw1
    go_wp2_with fail
    refine (vsmall_f _ _ _ hb).mono ?_
    rintro e w2 ⟨rfl, hw2⟩
    go_wp2_with fail
    go_ret
    exact vint_ret rfl (next q1 hw2)
  · clear h
    go_enter Try.func49, Try.ntmps49
    go_wp2_with fail
    refine (vsmall_f _ _ _ ha).mono ?_
    rintro e w1 ⟨rfl, hw1⟩
    go_wp2_with fail
    go_ret
    exact vint_ret rfl (in2 hw1)
end Go.Proofs.Ytdgfmkideghhaaa

namespace VB
open Go Go.RowKit PB
/-- The ceiling of a quotient. -/
def cdiv (p c : Int) : Int := -((-p) / c)
theorem fl_of_t {p c : Int} (hc : 0 < c) : (p - p.tdiv c * c < 0 → p / c = p.tdiv c - 1 ∧ cdiv p c = p.tdiv c) ∧ (p - p.tdiv c * c = 0 → p / c = p.tdiv c ∧ cdiv p c = p.tdiv c) ∧ (0 < p - p.tdiv c * c → p / c = p.tdiv c ∧ cdiv p c = p.tdiv c + 1) ∧ -c < p - p.tdiv c * c ∧ p - p.tdiv c * c < c := by
  have e := Int.mul_tdiv_add_tmod p c
  have b1 := Int.tmod_lt_of_pos p hc
  have b2 := Int.lt_tmod_of_pos p hc
  have hm : c * p.tdiv c = p.tdiv c * c := Int.mul_comm _ _
  have hr : p - p.tdiv c * c = p.tmod c := by omega
  rw [hr]
  generalize p.tmod c = r at *
  generalize p.tdiv c = q at *
  have hp : p = q * c + r := by omega
  subst hp
  have hne : c ≠ 0 := by omega
  unfold cdiv
  refine ⟨fun h => ⟨?_, ?_⟩, fun h => ⟨?_, ?_⟩, fun h => ⟨?_, ?_⟩, b2, b1⟩
  · rw [show q * c + r = (c + r) + c * (q - 1) by grind, Int.add_mul_ediv_left _ _ hne, Int.ediv_eq_zero_of_lt (by omega) (by omega)]; omega
  · rw [show -(q * c + r) = -r + c * (-q) by grind, Int.add_mul_ediv_left _ _ hne, Int.ediv_eq_zero_of_lt (by omega) (by omega)]; omega
  · rw [show q * c + r = r + c * q by grind, Int.add_mul_ediv_left _ _ hne, Int.ediv_eq_zero_of_lt (by omega) (by omega)]; omega
  · rw [show -(q * c + r) = -r + c * (-q) by grind, Int.add_mul_ediv_left _ _ hne, Int.ediv_eq_zero_of_lt (by omega) (by omega)]; omega
  · rw [show q * c + r = r + c * q by grind, Int.add_mul_ediv_left _ _ hne, Int.ediv_eq_zero_of_lt (by omega) (by omega)]; omega
  · rw [show -(q * c + r) = (c - r) + c * (-q - 1) by grind, Int.add_mul_ediv_left _ _ hne, Int.ediv_eq_zero_of_lt (by omega) (by omega)]; omega
theorem wrap_sub (P Q : Int) (h : -9223372036854775808 ≤ P - Q) (h' : P - Q ≤ 9223372036854775807) : wrap64 (wrap64 P - wrap64 Q) = P - Q := by
  unfold wrap64; omega
end VB
namespace Go.Proofs.Ytdgfmkideghhaaa
open Go.RowKit PB VB
set_option maxRecDepth 100000 in
theorem iiret {a b c d : Int} {w w' : World} (h1 : a = b) (h2 : c = d) (hb : Below w.heap.size w w') : Ending.returned (.tuple #[.int .i64 a, .int .i64 c]) = Ending.returned (.tuple #[.int .i64 b, .int .i64 d]) ∧ Below w.heap.size w w' := ⟨by rw [h1, h2], hb⟩
/-- around, as it is needed. -/
def ArOK (a b c : Int) : Prop := ∀ w, Calls Try.prog 139 #[.int .i64 a, .int .i64 b, .int .i64 c] w fun e w' => e = .returned (.tuple #[.int .i64 (a * b / c), .int .i64 (cdiv (a * b) c)]) ∧ Below w.heap.size w w'
set_option maxRecDepth 100000 in
set_option maxHeartbeats 2000000 in
theorem ar_any {a b c : Int} (ha : I64 a) (hb : I64 b) (hc : I64 c) (hD : DivFor (DivOK 137) a b c) (h0 : 0 < c) (hq1 : -4611686018427387904 ≤ (a * b).tdiv c) (hq2 : (a * b).tdiv c ≤ 4611686018427387904) : ArOK a b c := by
  intro w
  have HM := Lib.hid (fun w => md_yes w ha hb hc hD ⟨by omega, by omega, by omega⟩)
  obtain ⟨f1, f2, f3, f4, f5⟩ := fl_of_t (p := a * b) h0
  have hR := wrap_sub (a * b) ((a * b).tdiv c * c) (by have := hc.2; omega) (by have := hc.2; omega)
  generalize (a * b).tdiv c = q at *
  have h63 := hc.2
  clear ha hb hc hD
  rcases Int.lt_trichotomy (a * b - q * c) 0 with h | h | h
  · obtain ⟨e1, e2⟩ := f1 h
    rw [e1, e2]
    have t1 : decide (wrap64 (wrap64 (a * b) - wrap64 (q * c)) < 0) = true := decide_eq_true (by rw [hR]; exact h)
    clear f1 f2 f3 e1 e2 hR h f4 f5
    go_enter Try.func139, Try.ntmps139
    go_wp2_with fail
    refine (HM.out _).mono ?_
    rintro e w1 ⟨rfl, hw1⟩
    go_wp2_with fail
    go_ret2
    exact iiret rfl rfl hw1
  · obtain ⟨e1, e2⟩ := f2 h
    rw [e1, e2]
    have t1 : decide (wrap64 (wrap64 (a * b) - wrap64 (q * c)) < 0) = false := decide_eq_false (by rw [hR]; omega)
    have t2 : decide (0 < wrap64 (wrap64 (a * b) - wrap64 (q * c))) = false := decide_eq_false (by rw [hR]; omega)
    clear f1 f2 f3 e1 e2 hR h f4 f5
    go_enter Try.func139, Try.ntmps139
    go_wp2_with fail
    refine (HM.out _).mono ?_
    rintro e w1 ⟨rfl, hw1⟩
    go_wp2_with fail
    go_ret2
    exact iiret rfl rfl hw1
  · obtain ⟨e1, e2⟩ := f3 h
    rw [e1, e2]
    have t1 : decide (wrap64 (wrap64 (a * b) - wrap64 (q * c)) < 0) = false := decide_eq_false (by rw [hR]; omega)
    have t2 : decide (0 < wrap64 (wrap64 (a * b) - wrap64 (q * c))) = true := decide_eq_true (by rw [hR]; exact h)
    clear f1 f2 f3 e1 e2 hR h f4 f5
    go_enter Try.func139, Try.ntmps139
    go_wp2_with fail
    refine (HM.out _).mono ?_
    rintro e w1 ⟨rfl, hw1⟩
    go_wp2_with fail
    go_ret2
    exact iiret rfl rfl hw1
end Go.Proofs.Ytdgfmkideghhaaa

namespace VB
open Go Go.RowKit PB
/-- An array of four vectors. -/
abbrev arr4 (a b c d e f g h : Int) : Value := .agg #[.int .i64 a, .int .i64 b, .int .i64 c, .int .i64 d, .int .i64 e, .int .i64 f, .int .i64 g, .int .i64 h]
theorem blk_set8 {w : World} {k : Nat} {a b c d e f g h a' b' c' d' e' f' g' h' : Value} (H : Blk w k #[a, b, c, d, e, f, g, h]) :
    Blk ((((((((w.setCell ⟨k, 0, none⟩ a').setCell ⟨k, 1, none⟩ b').setCell ⟨k, 2, none⟩ c').setCell ⟨k, 3, none⟩ d').setCell ⟨k, 4, none⟩ e').setCell ⟨k, 5, none⟩ f').setCell ⟨k, 6, none⟩ g').setCell ⟨k, 7, none⟩ h') k #[a', b', c', d', e', f', g', h'] := by
  have h0 : Blk _ k #[a', b, c, d, e, f, g, h] := H.set 0 a'
  have h1 : Blk _ k #[a', b', c, d, e, f, g, h] := h0.set 1 b'
  have h2 : Blk _ k #[a', b', c', d, e, f, g, h] := h1.set 2 c'
  have h3 : Blk _ k #[a', b', c', d', e, f, g, h] := h2.set 3 d'
  have h4 : Blk _ k #[a', b', c', d', e', f, g, h] := h3.set 4 e'
  have h5 : Blk _ k #[a', b', c', d', e', f', g, h] := h4.set 5 f'
  have h6 : Blk _ k #[a', b', c', d', e', f', g', h] := h5.set 6 g'
  have h7 : Blk _ k #[a', b', c', d', e', f', g', h'] := h6.set 7 h'
  exact h7
theorem below_set8 {w w0 : World} {k N : Nat} {a' b' c' d' e' f' g' h' : Value} (H : Below N w0 w) (hk : N ≤ k) :
    Below N w0 ((((((((w.setCell ⟨k, 0, none⟩ a').setCell ⟨k, 1, none⟩ b').setCell ⟨k, 2, none⟩ c').setCell ⟨k, 3, none⟩ d').setCell ⟨k, 4, none⟩ e').setCell ⟨k, 5, none⟩ f').setCell ⟨k, 6, none⟩ g').setCell ⟨k, 7, none⟩ h') :=
  (((((((H.setCell hk _).setCell hk _).setCell hk _).setCell hk _).setCell hk _).setCell hk _).setCell hk _).setCell hk _
theorem Blk8 {w : World} {k : Nat} {a b c d e f g h : Value} (H : Blk w k #[a, b, c, d, e, f, g, h]) : w.cell? ⟨k, 0, none⟩ = some a ∧ w.cell? ⟨k, 1, none⟩ = some b ∧ w.cell? ⟨k, 2, none⟩ = some c ∧ w.cell? ⟨k, 3, none⟩ = some d ∧ w.cell? ⟨k, 4, none⟩ = some e ∧ w.cell? ⟨k, 5, none⟩ = some f ∧ w.cell? ⟨k, 6, none⟩ = some g ∧ w.cell? ⟨k, 7, none⟩ = some h :=
  ⟨H.cell 0 _ rfl, H.cell 1 _ rfl, H.cell 2 _ rfl, H.cell 3 _ rfl, H.cell 4 _ rfl, H.cell 5 _ rfl, H.cell 6 _ rfl, H.cell 7 _ rfl⟩
theorem Blk8f {w : World} {k : Nat} {a b c d e f g h : Value} (H : Blk w k #[a, b, c, d, e, f, g, h]) : w.frozen? ⟨k, 0, none⟩ = false ∧ w.frozen? ⟨k, 1, none⟩ = false ∧ w.frozen? ⟨k, 2, none⟩ = false ∧ w.frozen? ⟨k, 3, none⟩ = false ∧ w.frozen? ⟨k, 4, none⟩ = false ∧ w.frozen? ⟨k, 5, none⟩ = false ∧ w.frozen? ⟨k, 6, none⟩ = false ∧ w.frozen? ⟨k, 7, none⟩ = false :=
  ⟨H.free 0, H.free 1, H.free 2, H.free 3, H.free 4, H.free 5, H.free 6, H.free 7⟩
end VB
namespace Go.Proofs.Ytdgfmkideghhaaa
open Go.RowKit PB VB
set_option maxRecDepth 100000 in
set_option maxHeartbeats 2000000 in
theorem cand_any (vx vy nx ny : Int) (w : World) (hv : Sm vx vy) (hn : Sm nx ny) (A1 : ArOK (-ny) (crossI nx ny vx vy) (dotI nx ny nx ny)) (A2 : ArOK nx (crossI nx ny vx vy) (dotI nx ny nx ny)) :
    Calls Try.prog 107 #[vec vx vy, vec nx ny] w fun e w' => e = .returned (arr4 (-ny * crossI nx ny vx vy / dotI nx ny nx ny) (nx * crossI nx ny vx vy / dotI nx ny nx ny) (-ny * crossI nx ny vx vy / dotI nx ny nx ny) (cdiv (nx * crossI nx ny vx vy) (dotI nx ny nx ny)) (cdiv (-ny * crossI nx ny vx vy) (dotI nx ny nx ny)) (nx * crossI nx ny vx vy / dotI nx ny nx ny) (cdiv (-ny * crossI nx ny vx vy) (dotI nx ny nx ny)) (cdiv (nx * crossI nx ny vx vy) (dotI nx ny nx ny))) ∧ Below w.heap.size w w' := by
  have H1 := Lib.hid A1
  have H2 := Lib.hid A2
  have C1 := Lib.hid (fun w => vcross_t nx ny vx vy w hn hv)
  have D1 := Lib.hid (fun w => vdot_t nx ny nx ny w hn hn)
  have hn1 := hn.c
  have hn2 := hn.d
  clear A1 A2
  generalize crossI nx ny vx vy = c at *
  generalize dotI nx ny nx ny = d at *
  go_enter Try.func107, Try.ntmps107
  go_wp2_with fail
  generalize hW : World.alloc _ _ = W
  have BV : Blk W w.heap.size #[.int .i64 vx, .int .i64 vy] := by rw [← hW]; exact ((blk_new rfl).alloc _).alloc _
  have BN : Blk W (w.heap.size + 1) #[.int .i64 nx, .int .i64 ny] := by rw [← hW]; exact (blk_new (by simp)).alloc _
  have BR : Blk W (w.heap.size + 1 + 1) #[.int .i64 0, .int .i64 0, .int .i64 0, .int .i64 0, .int .i64 0, .int .i64 0, .int .i64 0, .int .i64 0] := by rw [← hW]; exact blk_new (by simp)
  have hBW : Below w.heap.size w W := by rw [← hW]; exact (((Below.refl _ _).alloc (Nat.le_refl _) _).alloc (by simp) _).alloc (by simp; omega) _
  clear hW
  have HK := Lib.hid (show ∀ w1, Below W.heap.size W w1 → (w1.cell? ⟨w.heap.size, 0, none⟩ = some (.int .i64 vx) ∧ w1.cell? ⟨w.heap.size, 1, none⟩ = some (.int .i64 vy)) ∧ (w1.cell? ⟨w.heap.size + 1, 0, none⟩ = some (.int .i64 nx) ∧ w1.cell? ⟨w.heap.size + 1, 1, none⟩ = some (.int .i64 ny)) from
    fun w1 h => ⟨Blk2 (BV.kept h), Blk2 (BN.kept h)⟩)
  obtain ⟨⟨a0, a1⟩, b0, b1⟩ := HK.out _ (Below.refl _ _)
  have BN' := Lib.hid BN
  have BR' := Lib.hid BR
  have HB := Lib.hid hBW
  clear BV BN BR hBW
  have hq : Below W.heap.size W W := Below.refl _ _
  go_region_held3 (fun w' => (w'.cell? ⟨w.heap.size, 0, none⟩ = some (.int .i64 vx) ∧ w'.cell? ⟨w.heap.size, 1, none⟩ = some (.int .i64 vy)) ∧ (w'.cell? ⟨w.heap.size + 1, 0, none⟩ = some (.int .i64 nx) ∧ w'.cell? ⟨w.heap.size + 1, 1, none⟩ = some (.int .i64 ny)))
    (first | exact ⟨⟨a0, a1⟩, b0, b1⟩ | exact HK.out _ hq)
    (first
      | (go_at_call 49; refine (C1.out _).mono ?_; rintro e x1 ⟨rfl, hx1⟩; have hq : Below W.heap.size W x1 := (by first | exact hq.trans (hx1.mono hq.size) | exact hq.trans (below_undrew (hx1.mono hq.size))))
      | (go_at_call 47; refine (D1.out _).mono ?_; rintro e x2 ⟨rfl, hx2⟩; have hq : Below W.heap.size W x2 := (by first | exact hq.trans (hx2.mono hq.size) | exact hq.trans (below_undrew (hx2.mono hq.size))))
      | fail "no arm")
  have BN2 := BN'.out.kept hq
  have BR2 := BR'.out.kept hq
  have HB2 := HB.out.trans (hq.mono HB.out.size)
  clear a0 a1 b0 b1 hx2 hq hx1 HK BN' BR' HB C1 D1
  obtain ⟨b0, b1⟩ := Blk2 BN2
  unfold ArOK at H1 H2
  go_wp2_with fail
  refine (H1.out _).mono ?_
  rintro e x3 ⟨rfl, hx3⟩
  obtain ⟨p1, hp1⟩ : ∃ p, -ny * c / d = p := ⟨_, rfl⟩
  rw [hp1]
  have E1 := Lib.hid hp1
  clear hp1
  obtain ⟨p2, hp2⟩ : ∃ p, cdiv (-ny * c) d = p := ⟨_, rfl⟩
  rw [hp2]
  have E2 := Lib.hid hp2
  clear hp2
  have BN3 := BN2.kept hx3
  have BR3 := BR2.kept hx3
  have HB3 := next HB2 hx3
  clear b0 b1 BN2 BR2 HB2 hx3 H1
  obtain ⟨b0, b1⟩ := Blk2 BN3
  go_wp2_with fail
  refine (H2.out _).mono ?_
  rintro e x4 ⟨rfl, hx4⟩
  obtain ⟨p3, hp3⟩ : ∃ p, nx * c / d = p := ⟨_, rfl⟩
  rw [hp3]
  have E3 := Lib.hid hp3
  clear hp3
  obtain ⟨p4, hp4⟩ : ∃ p, cdiv (nx * c) d = p := ⟨_, rfl⟩
  rw [hp4]
  have E4 := Lib.hid hp4
  clear hp4
  have BR4 := BR3.kept hx4
  have HB4 := next HB3 hx4
  clear b0 b1 BN3 BR3 HB3 hx4 H2
  obtain ⟨c0, c1, c2, c3, c4, c5, c6, c7⟩ := Blk8 BR4
  obtain ⟨f0, f1, f2, f3, f4, f5, f6, f7⟩ := Blk8f BR4
  go_wp2_with fail
  refine bodyPost_ret (blk_res rfl _ rfl (blk_set8 BR4) Try.underlying90 rfl (by rfl)) rfl ⟨by rw [E1.out, E2.out, E3.out, E4.out], below_set8 HB4 (by omega)⟩
end Go.Proofs.Ytdgfmkideghhaaa
