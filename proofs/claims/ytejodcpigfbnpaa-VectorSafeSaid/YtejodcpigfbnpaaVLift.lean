/-
  Lift: what it returns.
-/
import Derived.Test.YtejodcpigfbnpaaVCont
namespace VB
open Go Go.RowKit PB
/-- The four candidates. -/
def cnd (xx xy nx ny : Int) : Nat → Int × Int
  | 0 => (-ny * crossI nx ny xx xy / dotI nx ny nx ny, nx * crossI nx ny xx xy / dotI nx ny nx ny)
  | 1 => (-ny * crossI nx ny xx xy / dotI nx ny nx ny, cdiv (nx * crossI nx ny xx xy) (dotI nx ny nx ny))
  | 2 => (cdiv (-ny * crossI nx ny xx xy) (dotI nx ny nx ny), nx * crossI nx ny xx xy / dotI nx ny nx ny)
  | _ => (cdiv (-ny * crossI nx ny xx xy) (dotI nx ny nx ny), cdiv (nx * crossI nx ny xx xy) (dotI nx ny nx ny))
/-- The sides allow it. -/
def Both.al (s : Both) (x y : Int) : Bool := alB s.u.fx s.u.fy s.u.lx s.u.ly s.d.fx s.d.fy s.d.lx s.d.ly x y
/-- The better one. -/
def upd (xx xy : Int) (s : Both) (best y : Int × Int) : Int × Int :=
  if Sm y.1 y.2 ∧ s.al y.1 y.2 = true ∧ lexB (distI xx xy y.1 y.2) (distI xx xy best.1 best.2) (dotI y.1 y.2 y.1 y.2) (dotI best.1 best.2 best.1 best.2) = true then y else best
def updN (xx xy : Int) (s : Both) (best : Int × Int) (c : Nat → Int × Int) : Nat → Int × Int
  | 0 => best
  | j + 1 => upd xx xy s (updN xx xy s best c j) (c j)
def bestOf (xx xy : Int) (s : Both) (f : Nat → Int × Int) : Nat → Int × Int
  | 0 => (0, 0)
  | k + 1 => if 0 ≤ dotI xx xy (f k).1 (f k).2 then bestOf xx xy s f k else updN xx xy s (bestOf xx xy s f k) (cnd xx xy (f k).1 (f k).2) 4
open Classical in
/-- What Lift returns. -/
noncomputable def liftV (xx xy : Int) (f : Nat → Int × Int) (n : Nat) : Int × Int :=
  if Sm xx xy ∧ AllSm f n then if (sidesOf f n).al xx xy = true then (xx, xy) else bestOf xx xy (sidesOf f n) f n else (0, 0)
/-- Its own memory. -/
structure InLift (w wx : World) (px pr ps pb : Nat) (xx xy : Int) (s : Both) (best : Int × Int) : Prop where
  x : Blk wx px #[.int .i64 xx, .int .i64 xy]
  r : Blk wx pr #[.int .i64 0, .int .i64 0]
  s : Blk wx ps s.cells
  b : Blk wx pb #[.int .i64 best.1, .int .i64 best.2]
  w : Below w.heap.size w wx
theorem InLift.kept {w wx wy : World} {px pr ps pb : Nat} {xx xy : Int} {s : Both} {best : Int × Int} (h : InLift w wx px pr ps pb xx xy s best) (hb : Below wx.heap.size wx wy) : InLift w wy px pr ps pb xx xy s best :=
  ⟨h.x.kept hb, h.r.kept hb, h.s.kept hb, h.b.kept hb, next h.w hb⟩
end VB
namespace Go.Proofs.Ytejodcpigfbnpaa
open Go.RowKit PB VB
set_option maxRecDepth 100000 in
theorem lift_x (xx xy : Int) (base : Option Addr) (n c : Nat) (w : World) (hx : ¬ Sm xx xy) :
    Calls Try.prog 32 #[vec xx xy, .slice base n c] w fun e w' => e = .returned (vec 0 0) ∧ Below w.heap.size w w' := by
  go_enter Try.func32, Try.ntmps32
  go_wp2_with fail
  refine (great_f _ _ _ hx).mono ?_
  rintro e w1 ⟨rfl, hw1⟩
  have R1 := blk_last2 hw1
  have q1 := in2 hw1
  obtain ⟨r0, r1⟩ := Blk2 R1
  obtain ⟨f0, f1⟩ := Blk2f R1
  clear hw1
  go_wp2_with fail
  refine bodyPost_ret (blk_res rfl _ rfl (blk_set2 R1) Try.underlying23 rfl (by rfl)) rfl ⟨rfl, (q1.setCell (by dsimp only; omega) _).setCell (by dsimp only; omega) _⟩
set_option maxRecDepth 100000 in
theorem lift_l (xx xy : Int) (base : Option Addr) (b off n c : Nat) (f : Nat → Int × Int) (w : World) (hx : Sm xx xy) (hb : n ≠ 0 → base = some ⟨b, off, none⟩) (hlt : n ≠ 0 → b < w.heap.size) (hV : VSl w b off n f) (hn : n ≤ 1000000) (h : ¬ AllSm f n) :
    Calls Try.prog 32 #[vec xx xy, .slice base n c] w fun e w' => e = .returned (vec 0 0) ∧ Below w.heap.size w w' := by
  have HV := Lib.hid hV
  have HC := Lib.hid (fun w' hl hv => contains_f base b off n c f w' hb hl hv (by omega) h)
  have HL := Lib.hid hlt
  clear hV hlt h hb
  go_enter Try.func32, Try.ntmps32
  go_wp2_with fail
  refine (great_t _ _ _ hx).mono ?_
  rintro e w1 ⟨rfl, hw1⟩
  have R1 := blk_last2 hw1
  have q1 := in2 hw1
  clear hw1
  go_wp2_with fail
  refine (HC.out _ (fun h => Nat.lt_of_lt_of_le (HL.out h) q1.size) (HV.out.kept q1 HL.out)).mono ?_
  rintro e w2 ⟨rfl, hw2⟩
  have R2 := R1.kept hw2
  have q2 := next q1 hw2
  obtain ⟨r0, r1⟩ := Blk2 R2
  obtain ⟨f0, f1⟩ := Blk2f R2
  clear hw2 R1 q1
  go_wp2_with fail
  refine bodyPost_ret (blk_res rfl _ rfl (blk_set2 R2) Try.underlying23 rfl (by rfl)) rfl ⟨rfl, (q2.setCell (by dsimp only; omega) _).setCell (by dsimp only; omega) _⟩
set_option maxRecDepth 100000 in
set_option maxHeartbeats 4000000 in
theorem lift_same (xx xy : Int) (base : Option Addr) (b off n c : Nat) (f : Nat → Int × Int) (w : World) (hx : Sm xx xy) (hb : n ≠ 0 → base = some ⟨b, off, none⟩) (hlt : n ≠ 0 → b < w.heap.size) (hV : VSl w b off n f) (hn : n ≤ 1000000) (h : AllSm f n) (ha : (sidesOf f n).al xx xy = true) :
    Calls Try.prog 32 #[vec xx xy, .slice base n c] w fun e w' => e = .returned (vec xx xy) ∧ Below w.heap.size w w' := by
  have HV := Lib.hid hV
  have HC := Lib.hid (fun w' hl hv => contains_t base b off n c f w' hb hl hv (by omega) h)
  have HS := Lib.hid (fun w' hl hv => sides_any base b off n c f w' hb hl hv h (sides_sm h) hn)
  have hm := sides_sm h n (Nat.le_refl _)
  have HA := Lib.hid (fun w' => allow_any _ _ _ _ _ _ _ _ xx xy w' hx hm.a hm.b hm.c hm.d)
  have ha' : alB (sidesOf f n).u.fx (sidesOf f n).u.fy (sidesOf f n).u.lx (sidesOf f n).u.ly (sidesOf f n).d.fx (sidesOf f n).d.fy (sidesOf f n).d.lx (sidesOf f n).d.ly xx xy = true := ha
  rw [ha'] at HA
  have HL := Lib.hid hlt
  clear hV hlt h hb ha ha' hm
  unfold Both.cells at HS
  generalize sidesOf f n = s at *
  obtain ⟨⟨a1, a2, a3, a4⟩, a5, a6, a7, a8⟩ := s
  dsimp only at HA HS
  go_enter Try.func32, Try.ntmps32
  go_wp2_with fail
  refine (great_t _ _ _ hx).mono ?_
  rintro e w1 ⟨rfl, hw1⟩
  have X1 := blk_prev hw1
  have R1 := blk_last2 hw1
  have q1 := in2 hw1
  clear hw1
  go_wp2_with fail
  refine (HC.out _ (fun h => Nat.lt_of_lt_of_le (HL.out h) q1.size) (HV.out.kept q1 HL.out)).mono ?_
  rintro e w2 ⟨rfl, hw2⟩
  have X2 := X1.kept hw2
  have R2 := R1.kept hw2
  have q2 := next q1 hw2
  clear hw2 R1 X1 q1
  go_wp2_with fail
  refine (HS.out _ (fun h => Nat.lt_of_lt_of_le (HL.out h) q2.size) (HV.out.kept q2 HL.out)).mono ?_
  rintro e w3 ⟨rfl, hw3⟩
  have X3 := X2.kept hw3
  have R3 := R2.kept hw3
  have q3 := next q2 hw3
  have z1 := X3.lt
  have z2 := R3.lt
  obtain ⟨x0, x1⟩ := Blk2 X3
  clear hw3 R2 X2 q2
  go_wp2_with fail
  refine (HA.out _).mono ?_
  rintro e w4 ⟨rfl, hw4⟩
  have X4 := blk_keep X3 hw4
  have R4 := blk_keep R3 hw4
  have q4 := next1 q3 hw4
  clear hw4 R3 X3 q3 z1 z2 x0 x1
  obtain ⟨x0, x1⟩ := Blk2 X4
  obtain ⟨r0, r1⟩ := Blk2 R4
  obtain ⟨f0, f1⟩ := Blk2f R4
  go_wp2_with fail
  refine bodyPost_ret (blk_res rfl _ rfl (blk_set2 R4) Try.underlying23 rfl (by rfl)) rfl ⟨rfl, (q4.setCell (by dsimp only; omega) _).setCell (by dsimp only; omega) _⟩
end Go.Proofs.Ytejodcpigfbnpaa
