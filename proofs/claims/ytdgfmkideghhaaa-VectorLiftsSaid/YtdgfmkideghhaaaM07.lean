/-
  A list of vectors that came in as an argument.
  slices.ContainsFunc at the vectors that are not small.
  Lift: what it returns.
-/
import Derived.Deep.SlicePairs
import Derived.Test.YtdgfmkideghhaaaM03
import Derived.Test.YtdgfmkideghhaaaM06
namespace Go.Proofs.Ytdgfmkideghhaaa
open Go.ChangeShapes Go.WideShapes Go.ChangeAt Go.RowKit PB VB
set_option maxRecDepth 100000 in
theorem open_vecs {H : Type} {enc : TypeId × Value → H} {W : World} {base : Nat} {v : Value} {d : DataW H} {p : List MemPlace}
    (hv : Value.okWide Try.prog W .any base 52 v) (h : DataW.Trod enc Try.prog W 0 (fun _ => true) true 52 v d p) :
    ∃ (q : Option Addr) (b off n c : Nat) (f : Nat → Int × Int), v = .slice q n c ∧ (n ≠ 0 → q = some ⟨b, off, none⟩) ∧ (n ≠ 0 → b < W.heap.size) ∧ VSl W b off n f := by
  obtain ⟨a0, len, cap, rfl⟩ := okWide_slice Try.underlying52 hv
  obtain ⟨fuel, hf⟩ := h
  rcases Go.Deep.open_slice_pairs Try.underlying52 Try.underlying41 (by kernel_rfl) rfl rfl (by kernel_rfl) (by kernel_rfl) hf with ⟨hcs, _⟩ | ⟨a, l, c, m, n, V0, V1, D0, D1, P0, P1, hcs, hb, hl, hcm, hm, _, hx⟩
  · have e : Value.slice a0 len cap = .slice none 0 0 := by simpa [Value.cells] using hcs
    cases e
    exact ⟨none, 0, 0, 0, 0, fun _ => (0, 0), rfl, fun h => absurd rfl h, fun h => absurd rfl h, fun i hi => by omega⟩
  · have e : Value.slice a0 len cap = .slice (some a) l c := by simpa [Value.cells] using hcs
    cases e
    have hlm : len ≤ m := by rw [hm]; simpa using hl
    obtain ⟨b, off, spot⟩ := a
    have hval : ∀ i, i < len → W.cell? ((⟨b, off, spot⟩ : Addr).add (i * 2)) = some (.int .i64 (intOf (V0 i))) ∧ W.cell? ((⟨b, off, spot⟩ : Addr).add (i * 2 + 1)) = some (.int .i64 (intOf (V1 i))) := by
      intro i hi
      obtain ⟨e0, e1, t0, t1⟩ := hx i (by omega)
      obtain ⟨x, h0, _⟩ := DataW.trod_int Try.underlying3 t0
      obtain ⟨y, h1, _⟩ := DataW.trod_int Try.underlying3 t1
      have k0 : V0 i = .int .i64 x := by simpa using h0
      have k1 : V1 i = .int .i64 y := by simpa using h1
      rw [e0, e1, k0, k1]
      exact ⟨rfl, rfl⟩
    have hspot : len ≠ 0 → spot = none := fun h0 => by
      have := (hval 0 (by omega)).1
      simpa [Addr.add] using World.cell?_spot this
    refine ⟨some ⟨b, off, spot⟩, b, off, len, cap, fun i => (intOf (V0 i), intOf (V1 i)), rfl, fun h0 => by rw [hspot h0], fun h0 => ?_, fun i hi => ?_⟩
    · have := World.block_lt_of_cell? W _ (hval 0 (by omega)).1
      simpa [Addr.add] using this
    · obtain rfl := hspot (by omega)
      obtain ⟨e0, e1⟩ := hval i hi
      constructor
      · by_cases h0 : i = 0
        · subst h0; simpa [Addr.add] using e0
        · have h2 : ¬ i * 2 = 0 := by omega
          unfold Addr.add at e0
          rw [if_neg h2] at e0
          exact e0
      · simpa [Addr.add, Nat.add_assoc] using e1
end Go.Proofs.Ytdgfmkideghhaaa

namespace VB
/-- All of the first k are small. -/
def AllSm (f : Nat → Int × Int) (k : Nat) : Prop := ∀ i, i < k → Sm (f i).1 (f i).2
end VB
namespace Go.Proofs.Ytdgfmkideghhaaa
open Go.RowKit PB VB
set_option maxRecDepth 100000 in
theorem great_t (x y : Int) (w : World) (h : Sm x y) : Calls Try.prog 103 #[vec x y] w fun e w' => e = .returned (.bool false) ∧ Below w.heap.size w w' := by
  go_enter Try.func103, Try.ntmps103
  go_wp2_with fail
  refine (vsmall_t _ _ _ h).mono ?_
  rintro e w1 ⟨rfl, hw1⟩
  go_wp2_with fail
  go_ret
  exact ⟨rfl, in1 hw1⟩
set_option maxRecDepth 100000 in
theorem great_f (x y : Int) (w : World) (h : ¬ Sm x y) : Calls Try.prog 103 #[vec x y] w fun e w' => e = .returned (.bool true) ∧ Below w.heap.size w w' := by
  go_enter Try.func103, Try.ntmps103
  go_wp2_with fail
  refine (vsmall_f _ _ _ h).mono ?_
  rintro e w1 ⟨rfl, hw1⟩
  go_wp2_with fail
  go_ret
  exact ⟨rfl, in1 hw1⟩
def IdxPost (f : Nat → Int × Int) (n : Nat) (w : World) (e : Ending) (w' : World) : Prop := ∃ z : Int, e = .returned (.int .i64 z) ∧ (0 ≤ z ↔ ¬ AllSm f n) ∧ Below w.heap.size w w'
set_option maxRecDepth 100000 in
set_option maxHeartbeats 4000000 in
theorem index_any (base : Option Addr) (b off n c : Nat) (f : Nat → Int × Int) (w : World) (hb : n ≠ 0 → base = some ⟨b, off, none⟩) (hlt : n ≠ 0 → b < w.heap.size) (hV : VSl w b off n f) (hn : n ≤ 1000000000000000) :
    Calls Try.prog 138 #[.slice base n c, .func (.func 103) #[] #[]] w (IdxPost f n w) := by
  have HV := Lib.hid hV
  have HB := Lib.hid hb
  have HL := Lib.hid hlt
  clear hV hb hlt
  go_enter Try.func138, Try.ntmps138
  go_wp2_with fail
  go_loopw [8] (fun i wr => ∃ k : Nat, k ≤ n ∧ i = .int .i64 k ∧ Hid (AllSm f k) ∧ Hid (Below w.heap.size w wr)) (fun i _ => n - (intOf i).toNat)
  case atStart => exact ⟨0, Nat.zero_le _, rfl, Lib.hid (fun i hi => by omega), Lib.hid (Below.refl _ _)⟩
  case round =>
    obtain ⟨k, hk, rfl, hA, hwr⟩ := hrel
    by_cases hkn : k < n
    · obtain rfl := HB.out (by omega)
      obtain ⟨c0, c1⟩ := (HV.out.kept hwr.out HL.out) k hkn
      have hx : ∃ p, f k = p := ⟨_, rfl⟩
      have hst : AllSm f (k + 1) ↔ Sm (f k).1 (f k).2 := ⟨fun h => h k (by omega), fun h i hi => by
        by_cases e : i = k
        · subst e; exact h
        · exact hA.out i (by omega)⟩
      have HST := Lib.hid hst
      clear hst hx
      generalize (f k).1 = x at *
      generalize (f k).2 = y at *
      by_cases hxy : Sm x y
      · have HN := Lib.hid (HST.out.2 hxy)
        go_wp2_with fail
        refine (great_t x y _ hxy).mono ?_
        rintro e w1 ⟨rfl, hw1⟩
        have HB1 := Lib.hid (next hwr.out hw1)
        clear hw1 c0 c1
        go_wp2_with fail
        go_roundw
        case rel => exact ⟨k + 1, by omega, by go_num, HN, HB1⟩
        case measure => simp [intOf]; omega
      · have HN := Lib.hid (show ¬ AllSm f n from fun h => hxy (HST.out.1 (fun i hi => h i (by omega))))
        go_wp2_with fail
        refine (great_f x y _ hxy).mono ?_
        rintro e w1 ⟨rfl, hw1⟩
        have HB1 := Lib.hid (next hwr.out hw1)
        clear hw1 c0 c1
        go_wp2_with fail
        go_ret
        exact ⟨_, rfl, ⟨fun _ => HN.out, fun _ => by omega⟩, HB1.out⟩
    · obtain rfl : k = n := by omega
      go_wp2_with fail
      go_ret
      exact ⟨_, rfl, ⟨fun h => absurd h (by omega), fun h => absurd hA.out h⟩, hwr.out⟩
set_option maxRecDepth 100000 in
theorem contains_t (base : Option Addr) (b off n c : Nat) (f : Nat → Int × Int) (w : World) (hb : n ≠ 0 → base = some ⟨b, off, none⟩) (hlt : n ≠ 0 → b < w.heap.size) (hV : VSl w b off n f) (hn : n ≤ 1000000000000000) (h : AllSm f n) :
    Calls Try.prog 104 #[.slice base n c, .func (.func 103) #[] #[]] w fun e w' => e = .returned (.bool false) ∧ Below w.heap.size w w' := by
  have H := Lib.hid (fun w hl hv => index_any base b off n c f w hb hl hv hn)
  have HH := Lib.hid h
  clear h
  go_enter Try.func104, Try.ntmps104
  go_wp2_with fail
  refine (H.out _ hlt hV).mono ?_
  rintro e w1 ⟨z, rfl, hz, hw1⟩
  have hz2 : decide (0 ≤ z) = false := decide_eq_false (fun k => hz.1 k HH.out)
  clear hz
  go_wp2_with fail
  go_ret
  exact bret rfl hw1
set_option maxRecDepth 100000 in
theorem contains_f (base : Option Addr) (b off n c : Nat) (f : Nat → Int × Int) (w : World) (hb : n ≠ 0 → base = some ⟨b, off, none⟩) (hlt : n ≠ 0 → b < w.heap.size) (hV : VSl w b off n f) (hn : n ≤ 1000000000000000) (h : ¬ AllSm f n) :
    Calls Try.prog 104 #[.slice base n c, .func (.func 103) #[] #[]] w fun e w' => e = .returned (.bool true) ∧ Below w.heap.size w w' := by
  have H := Lib.hid (fun w hl hv => index_any base b off n c f w hb hl hv hn)
  have HH := Lib.hid h
  clear h
  go_enter Try.func104, Try.ntmps104
  go_wp2_with fail
  refine (H.out _ hlt hV).mono ?_
  rintro e w1 ⟨z, rfl, hz, hw1⟩
  have hz2 : decide (0 ≤ z) = true := decide_eq_true (hz.2 HH.out)
  clear hz
  go_wp2_with fail
  go_ret
  exact bret rfl hw1
end Go.Proofs.Ytdgfmkideghhaaa

namespace VB
open Go Go.RowKit PB
/-- The four candidates. -/
def cnd (xx xy nx ny : Int) : Nat → Int × Int
  | 0 => (-ny * crossI nx ny xx xy / dotI nx ny nx ny, nx * crossI nx ny xx xy / dotI nx ny nx ny)
  | 1 => (-ny * crossI nx ny xx xy / dotI nx ny nx ny, cdiv (nx * crossI nx ny xx xy) (dotI nx ny nx ny))
  | 2 => (cdiv (-ny * crossI nx ny xx xy) (dotI nx ny nx ny), nx * crossI nx ny xx xy / dotI nx ny nx ny)
  | _ => (cdiv (-ny * crossI nx ny xx xy) (dotI nx ny nx ny), cdiv (nx * crossI nx ny xx xy) (dotI nx ny nx ny))
/-- The sides allow it. -/
def Both.al (s : Both) (x y : Int) : Bool := alB s.u.fx s.u.fy s.u.lx s.u.ly s.d.fx s.d.fy s.d.lx s.d.ly x y
/-- The better one. -/
def upd (xx xy : Int) (s : Both) (best y : Int × Int) : Int × Int :=
  if Sm y.1 y.2 ∧ s.al y.1 y.2 = true ∧ lexB (distI xx xy y.1 y.2) (distI xx xy best.1 best.2) (dotI y.1 y.2 y.1 y.2) (dotI best.1 best.2 best.1 best.2) = true then y else best
def updN (xx xy : Int) (s : Both) (best : Int × Int) (c : Nat → Int × Int) : Nat → Int × Int
  | 0 => best
  | j + 1 => upd xx xy s (updN xx xy s best c j) (c j)
def bestOf (xx xy : Int) (s : Both) (f : Nat → Int × Int) : Nat → Int × Int
  | 0 => (0, 0)
  | k + 1 => if 0 ≤ dotI xx xy (f k).1 (f k).2 then bestOf xx xy s f k else updN xx xy s (bestOf xx xy s f k) (cnd xx xy (f k).1 (f k).2) 4
open Classical in
/-- What Lift returns. -/
noncomputable def liftV (xx xy : Int) (f : Nat → Int × Int) (n : Nat) : Int × Int :=
  if Sm xx xy ∧ AllSm f n then if (sidesOf f n).al xx xy = true then (xx, xy) else bestOf xx xy (sidesOf f n) f n else (0, 0)
/-- Its own memory. -/
structure InLift (w wx : World) (px pr ps pb : Nat) (xx xy : Int) (s : Both) (best : Int × Int) : Prop where
  x : Blk wx px #[.int .i64 xx, .int .i64 xy]
  r : Blk wx pr #[.int .i64 0, .int .i64 0]
  s : Blk wx ps s.cells
  b : Blk wx pb #[.int .i64 best.1, .int .i64 best.2]
  w : Below w.heap.size w wx
theorem InLift.kept {w wx wy : World} {px pr ps pb : Nat} {xx xy : Int} {s : Both} {best : Int × Int} (h : InLift w wx px pr ps pb xx xy s best) (hb : Below wx.heap.size wx wy) : InLift w wy px pr ps pb xx xy s best :=
  ⟨h.x.kept hb, h.r.kept hb, h.s.kept hb, h.b.kept hb, next h.w hb⟩
end VB
namespace Go.Proofs.Ytdgfmkideghhaaa
open Go.RowKit PB VB
set_option maxRecDepth 100000 in
theorem lift_x (xx xy : Int) (base : Option Addr) (n c : Nat) (w : World) (hx : ¬ Sm xx xy) :
    Calls Try.prog 61 #[vec xx xy, .slice base n c] w fun e w' => e = .returned (vec 0 0) ∧ Below w.heap.size w w' := by
  go_enter Try.func61, Try.ntmps61
  go_wp2_with fail
  refine (great_f _ _ _ hx).mono ?_
  rintro e w1 ⟨rfl, hw1⟩
  have R1 := blk_last2 hw1
  have q1 := in2 hw1
  obtain ⟨r0, r1⟩ := Blk2 R1
  obtain ⟨f0, f1⟩ := Blk2f R1
  clear hw1
  go_wp2_with fail
  refine bodyPost_ret (blk_res rfl _ rfl (blk_set2 R1) Try.underlying41 rfl (by rfl)) rfl ⟨rfl, (q1.setCell (by dsimp only; omega) _).setCell (by dsimp only; omega) _⟩
set_option maxRecDepth 100000 in
theorem lift_l (xx xy : Int) (base : Option Addr) (b off n c : Nat) (f : Nat → Int × Int) (w : World) (hx : Sm xx xy) (hb : n ≠ 0 → base = some ⟨b, off, none⟩) (hlt : n ≠ 0 → b < w.heap.size) (hV : VSl w b off n f) (hn : n ≤ 1000000) (h : ¬ AllSm f n) :
    Calls Try.prog 61 #[vec xx xy, .slice base n c] w fun e w' => e = .returned (vec 0 0) ∧ Below w.heap.size w w' := by
  have HV := Lib.hid hV
  have HC := Lib.hid (fun w' hl hv => contains_f base b off n c f w' hb hl hv (by omega) h)
  have HL := Lib.hid hlt
  clear hV hlt h hb
  go_enter Try.func61, Try.ntmps61
  go_wp2_with fail
  refine (great_t _ _ _ hx).mono ?_
  rintro e w1 ⟨rfl, hw1⟩
  have R1 := blk_last2 hw1
  have q1 := in2 hw1
  clear hw1
  go_wp2_with fail
  refine (HC.out _ (fun h => Nat.lt_of_lt_of_le (HL.out h) q1.size) (HV.out.kept q1 HL.out)).mono ?_
  rintro e w2 ⟨rfl, hw2⟩
  have R2 := R1.kept hw2
  have q2 := next q1 hw2
  obtain ⟨r0, r1⟩ := Blk2 R2
  obtain ⟨f0, f1⟩ := Blk2f R2
  clear hw2 R1 q1
  go_wp2_with fail
  refine bodyPost_ret (blk_res rfl _ rfl (blk_set2 R2) Try.underlying41 rfl (by rfl)) rfl ⟨rfl, (q2.setCell (by dsimp only; omega) _).setCell (by dsimp only; omega) _⟩
set_option maxRecDepth 100000 in
set_option maxHeartbeats 4000000 in
theorem lift_same (xx xy : Int) (base : Option Addr) (b off n c : Nat) (f : Nat → Int × Int) (w : World) (hx : Sm xx xy) (hb : n ≠ 0 → base = some ⟨b, off, none⟩) (hlt : n ≠ 0 → b < w.heap.size) (hV : VSl w b off n f) (hn : n ≤ 1000000) (h : AllSm f n) (ha : (sidesOf f n).al xx xy = true) :
    Calls Try.prog 61 #[vec xx xy, .slice base n c] w fun e w' => e = .returned (vec xx xy) ∧ Below w.heap.size w w' := by
  have HV := Lib.hid hV
  have HC := Lib.hid (fun w' hl hv => contains_t base b off n c f w' hb hl hv (by omega) h)
  have HS := Lib.hid (fun w' hl hv => sides_any base b off n c f w' hb hl hv h (sides_sm h) hn)
  have hm := sides_sm h n (Nat.le_refl _)
  have HA := Lib.hid (fun w' => allow_any _ _ _ _ _ _ _ _ xx xy w' hx hm.a hm.b hm.c hm.d)
  have ha' : alB (sidesOf f n).u.fx (sidesOf f n).u.fy (sidesOf f n).u.lx (sidesOf f n).u.ly (sidesOf f n).d.fx (sidesOf f n).d.fy (sidesOf f n).d.lx (sidesOf f n).d.ly xx xy = true := ha
  rw [ha'] at HA
  have HL := Lib.hid hlt
  clear hV hlt h hb ha ha' hm
  unfold Both.cells at HS
  generalize sidesOf f n = s at *
  obtain ⟨⟨a1, a2, a3, a4⟩, a5, a6, a7, a8⟩ := s
  dsimp only at HA HS
  go_enter Try.func61, Try.ntmps61
  go_wp2_with fail
  refine (great_t _ _ _ hx).mono ?_
  rintro e w1 ⟨rfl, hw1⟩
  have X1 := blk_prev hw1
  have R1 := blk_last2 hw1
  have q1 := in2 hw1
  clear hw1
  go_wp2_with fail
  refine (HC.out _ (fun h => Nat.lt_of_lt_of_le (HL.out h) q1.size) (HV.out.kept q1 HL.out)).mono ?_
  rintro e w2 ⟨rfl, hw2⟩
  have X2 := X1.kept hw2
  have R2 := R1.kept hw2
  have q2 := next q1 hw2
  clear hw2 R1 X1 q1
  go_wp2_with fail
  refine (HS.out _ (fun h => Nat.lt_of_lt_of_le (HL.out h) q2.size) (HV.out.kept q2 HL.out)).mono ?_
  rintro e w3 ⟨rfl, hw3⟩
  have X3 := X2.kept hw3
  have R3 := R2.kept hw3
  have q3 := next q2 hw3
  have z1 := X3.lt
  have z2 := R3.lt
  obtain ⟨x0, x1⟩ := Blk2 X3
  clear hw3 R2 X2 q2
  go_wp2_with fail
  refine (HA.out _).mono ?_
  rintro e w4 ⟨rfl, hw4⟩
  have X4 := blk_keep X3 hw4
  have R4 := blk_keep R3 hw4
  have q4 := next1 q3 hw4
  clear hw4 R3 X3 q3 z1 z2 x0 x1
  obtain ⟨x0, x1⟩ := Blk2 X4
  obtain ⟨r0, r1⟩ := Blk2 R4
  obtain ⟨f0, f1⟩ := Blk2f R4
  go_wp2_with fail
  refine bodyPost_ret (blk_res rfl _ rfl (blk_set2 R4) Try.underlying41 rfl (by rfl)) rfl ⟨rfl, (q4.setCell (by dsimp only; omega) _).setCell (by dsimp only; omega) _⟩
end Go.Proofs.Ytdgfmkideghhaaa
