/-
  Turn of both sides, and flip.
-/
import Derived.Test.YtejodcpigfbnpaaVRef
namespace VB
open Go Go.RowKit PB
/-- The sign of the turn. -/
def tX (vx vy nx ny : Int) : Int := if Sm vx vy ∧ Sm nx ny then if 0 < crossI nx ny vx vy then (255 * vx + 32 * vy).tdiv 257 else if crossI nx ny vx vy < 0 then (255 * vx - 32 * vy).tdiv 257 else 0 else 0
def tY (vx vy nx ny : Int) : Int := if Sm vx vy ∧ Sm nx ny then if 0 < crossI nx ny vx vy then (255 * vy - 32 * vx).tdiv 257 else if crossI nx ny vx vy < 0 then (32 * vx + 255 * vy).tdiv 257 else 0 else 0
def tB (vx vy nx ny : Int) : Bool := decide ((Sm vx vy ∧ Sm nx ny) ∧ crossI nx ny vx vy ≠ 0)
end VB
namespace Go.Proofs.Ytejodcpigfbnpaa
open Go.RowKit PB VB
set_option maxRecDepth 100000 in
theorem vret {a b c d : Int} {s t : Bool} {w w' : World} (h1 : a = b) (h2 : c = d) (h3 : s = t) (hb : Below w.heap.size w w') : Ending.returned (.tuple #[vec a c, .bool s]) = Ending.returned (.tuple #[vec b d, .bool t]) ∧ Below w.heap.size w w' := ⟨by rw [h1, h2, h3], hb⟩
set_option maxRecDepth 100000 in
theorem tv_pos {vx vy nx ny : Int} (hv : Sm vx vy) (hn : Sm nx ny) (hc : 0 < crossI nx ny vx vy) : tX vx vy nx ny = (255 * vx + 32 * vy).tdiv 257 ∧ tY vx vy nx ny = (255 * vy - 32 * vx).tdiv 257 ∧ tB vx vy nx ny = true := by
  unfold tX tY tB
  rw [if_pos ⟨hv, hn⟩, if_pos hc, if_pos ⟨hv, hn⟩, if_pos hc]
  exact ⟨rfl, rfl, decide_eq_true ⟨⟨hv, hn⟩, by omega⟩⟩
set_option maxRecDepth 100000 in
theorem tv_neg {vx vy nx ny : Int} (hv : Sm vx vy) (hn : Sm nx ny) (hc : crossI nx ny vx vy < 0) : tX vx vy nx ny = (255 * vx - 32 * vy).tdiv 257 ∧ tY vx vy nx ny = (32 * vx + 255 * vy).tdiv 257 ∧ tB vx vy nx ny = true := by
  unfold tX tY tB
  rw [if_pos ⟨hv, hn⟩, if_neg (by omega), if_pos hc, if_pos ⟨hv, hn⟩, if_neg (by omega), if_pos hc]
  exact ⟨rfl, rfl, decide_eq_true ⟨⟨hv, hn⟩, by omega⟩⟩
set_option maxRecDepth 100000 in
theorem tv_nil {vx vy nx ny : Int} (hc : ¬ (Sm vx vy ∧ Sm nx ny) ∨ crossI nx ny vx vy = 0) : tX vx vy nx ny = 0 ∧ tY vx vy nx ny = 0 ∧ tB vx vy nx ny = false := by
  unfold tX tY tB
  by_cases h : Sm vx vy ∧ Sm nx ny
  · have h0 : crossI nx ny vx vy = 0 := hc.resolve_left (fun k => k h)
    rw [if_pos h, if_neg (by omega), if_neg (by omega), if_pos h, if_neg (by omega), if_neg (by omega)]
    exact ⟨rfl, rfl, decide_eq_false fun k => k.2 h0⟩
  · rw [if_neg h, if_neg h]
    exact ⟨rfl, rfl, decide_eq_false fun k => h k.1⟩
set_option maxRecDepth 100000 in
set_option maxHeartbeats 1000000 in
theorem vturn_pos (vx vy nx ny : Int) (w : World) (hv : Sm vx vy) (hn : Sm nx ny) (hc : 0 < crossI nx ny vx vy) :
    Calls Try.prog 37 #[vec vx vy, vec nx ny] w fun e w' => e = .returned (.tuple #[vec (tX vx vy nx ny) (tY vx vy nx ny), .bool (tB vx vy nx ny)]) ∧ Below w.heap.size w w' := by
  obtain ⟨e1, e2, e3⟩ := tv_pos hv hn hc
  have E1 := Lib.hid e1; have E2 := Lib.hid e2; have E3 := Lib.hid e3
  have k1 : (crossI nx ny vx vy == 0) = false := by simp; omega
  have ha := hv.a; have hb := hv.b; have hd := hv.c; have he := hv.d
  clear e1 e2 e3
  go_enter Try.func37, Try.ntmps37
  go_wp2_with fail
  refine (vcross_t _ _ _ _ _ hn hv).mono ?_
  rintro e w1 ⟨rfl, hw1⟩
  have V1 : Blk w1 w.heap.size #[.int .i64 vx, .int .i64 vy] := (((blk_new rfl).alloc _).alloc _).kept hw1
  have R1 : Blk w1 (w.heap.size + 1 + 1) #[.int .i64 0, .int .i64 0] := (blk_new (by simp)).kept hw1
  have q1 := in3 hw1
  obtain ⟨a0, a1⟩ := Blk2 V1
  obtain ⟨r0, r1⟩ := Blk2 R1
  obtain ⟨f0, f1⟩ := Blk2f R1
  clear hw1
  go_wp2_with fail
  refine bodyPost_ret (blk_res_tmp rfl _ rfl (blk_set2 R1) Try.underlying23 rfl (by rfl)) rfl ?_
  refine vret ?_ ?_ E3.out.symm ?_
  · rw [E1.out, show 255 * vx - -32 * vy = 255 * vx + 32 * vy by omega]
  · rw [E2.out, show -32 * vx + 255 * vy = 255 * vy - 32 * vx by omega]
  · exact (q1.setCell (by dsimp only; omega) _).setCell (by dsimp only; omega) _
set_option maxRecDepth 100000 in
set_option maxHeartbeats 1000000 in
theorem vturn_neg (vx vy nx ny : Int) (w : World) (hv : Sm vx vy) (hn : Sm nx ny) (hc : crossI nx ny vx vy < 0) :
    Calls Try.prog 37 #[vec vx vy, vec nx ny] w fun e w' => e = .returned (.tuple #[vec (tX vx vy nx ny) (tY vx vy nx ny), .bool (tB vx vy nx ny)]) ∧ Below w.heap.size w w' := by
  obtain ⟨e1, e2, e3⟩ := tv_neg hv hn hc
  have E1 := Lib.hid e1; have E2 := Lib.hid e2; have E3 := Lib.hid e3
  have k1 : (crossI nx ny vx vy == 0) = false := by simp; omega
  have ha := hv.a; have hb := hv.b; have hd := hv.c; have he := hv.d
  clear e1 e2 e3
  go_enter Try.func37, Try.ntmps37
  go_wp2_with fail
  refine (vcross_t _ _ _ _ _ hn hv).mono ?_
  rintro e w1 ⟨rfl, hw1⟩
  have V1 : Blk w1 w.heap.size #[.int .i64 vx, .int .i64 vy] := (((blk_new rfl).alloc _).alloc _).kept hw1
  have R1 : Blk w1 (w.heap.size + 1 + 1) #[.int .i64 0, .int .i64 0] := (blk_new (by simp)).kept hw1
  have q1 := in3 hw1
  obtain ⟨a0, a1⟩ := Blk2 V1
  obtain ⟨r0, r1⟩ := Blk2 R1
  obtain ⟨f0, f1⟩ := Blk2f R1
  clear hw1
  go_wp2_with fail
  refine bodyPost_ret (blk_res_tmp rfl _ rfl (blk_set2 R1) Try.underlying23 rfl (by rfl)) rfl ?_
  exact vret E1.out.symm E2.out.symm E3.out.symm ((q1.setCell (by dsimp only; omega) _).setCell (by dsimp only; omega) _)
set_option maxRecDepth 100000 in
theorem vcross_zero (ax ay bx b_ : Int) (w : World) (h : ¬ (Sm ax ay ∧ Sm bx b_) ∨ crossI ax ay bx b_ = 0) : Calls Try.prog 20 #[vec ax ay, vec bx b_] w fun e w' => e = .returned (.int .i64 0) ∧ Below w.heap.size w w' := by
  by_cases hs : Sm ax ay ∧ Sm bx b_
  · have := vcross_t ax ay bx b_ w hs.1 hs.2
    rwa [h.resolve_left (fun k => k hs)] at this
  · exact vcross_f ax ay bx b_ w hs
set_option maxRecDepth 100000 in
theorem sm_swap {ax ay bx b_ : Int} (h : ¬ (Sm ax ay ∧ Sm bx b_)) : ¬ (Sm bx b_ ∧ Sm ax ay) := fun k => h ⟨k.2, k.1⟩
set_option maxRecDepth 100000 in
set_option maxHeartbeats 1000000 in
theorem vturn_nil (vx vy nx ny : Int) (w : World) (hc : ¬ (Sm vx vy ∧ Sm nx ny) ∨ crossI nx ny vx vy = 0) :
    Calls Try.prog 37 #[vec vx vy, vec nx ny] w fun e w' => e = .returned (.tuple #[vec (tX vx vy nx ny) (tY vx vy nx ny), .bool (tB vx vy nx ny)]) ∧ Below w.heap.size w w' := by
  obtain ⟨e1, e2, e3⟩ := tv_nil hc
  have E1 := Lib.hid e1; have E2 := Lib.hid e2; have E3 := Lib.hid e3
  clear e1 e2 e3
  have H := vcross_zero nx ny vx vy (((w.alloc (Obj.cells #[Value.int IntKind.i64 vx, Value.int IntKind.i64 vy] 23)).alloc (Obj.cells #[Value.int IntKind.i64 nx, Value.int IntKind.i64 ny] 23)).alloc (Obj.cells #[Value.int IntKind.i64 0, Value.int IntKind.i64 0] 23)) (hc.imp sm_swap id)
  clear hc
  go_enter Try.func37, Try.ntmps37
  go_wp2_with fail
  refine H.mono ?_
  rintro e w1 ⟨rfl, hw1⟩
  have R1 : Blk w1 (w.heap.size + 1 + 1) #[.int .i64 0, .int .i64 0] := (blk_new (by simp)).kept hw1
  have q1 := in3 hw1
  obtain ⟨r0, r1⟩ := Blk2 R1
  obtain ⟨f0, f1⟩ := Blk2f R1
  clear hw1
  go_wp2_with fail
  refine bodyPost_ret (blk_res_tmp rfl _ rfl (blk_set2 R1) Try.underlying23 rfl (by rfl)) rfl ?_
  exact vret E1.out.symm E2.out.symm E3.out.symm ((q1.setCell (by dsimp only; omega) _).setCell (by dsimp only; omega) _)
set_option maxRecDepth 100000 in
theorem vturn_any (vx vy nx ny : Int) (w : World) :
    Calls Try.prog 37 #[vec vx vy, vec nx ny] w fun e w' => e = .returned (.tuple #[vec (tX vx vy nx ny) (tY vx vy nx ny), .bool (tB vx vy nx ny)]) ∧ Below w.heap.size w w' := by
  by_cases hs : Sm vx vy ∧ Sm nx ny
  · rcases Int.lt_trichotomy (crossI nx ny vx vy) 0 with h | h | h
    · exact vturn_neg vx vy nx ny w hs.1 hs.2 h
    · exact vturn_nil vx vy nx ny w (Or.inr h)
    · exact vturn_pos vx vy nx ny w hs.1 hs.2 h
  · exact vturn_nil vx vy nx ny w (Or.inl hs)
end Go.Proofs.Ytejodcpigfbnpaa
