/-
  The verifier's awake: true.
  What the laws share: lists of variables, small numbers, the calls on small numbers.
  integer.Shift of 0 and of a large number; on small numbers.
-/
import Derived.Deep.RegionHeld3
import Derived.Test.YtdgfmkideghhaaaM19
import Derived.Test.YtdgfmkideghhaaaM22
import Derived.Test.YtdgfmkideghhaaaM24
import Derived.Test.YtdgfmkideghhaaaM28
import Derived.Test.YtdgfmkideghhaaaM29
namespace Go.Proofs.Ytdgfmkideghhaaa
open Go.RowKit PB

/-- The form of a canonical Int, so that it can be stored. -/
theorem can_form {N : Nat} {w : World} {v : Value} {z : Int} (h : IsCan N w v z) : ∃ (s : Bool) (base : Option Addr) (n c : Nat), v = .agg #[.bool s, .slice base n c] ∧ IsInt w (.agg #[.bool s, .slice base n c]) z := by
  have h' := h.int
  obtain ⟨s, base, b, off, X, c, rfl, _⟩ := h
  exact ⟨s, base, nl X, c, rfl, h'⟩

theorem var_new {w : World} {s : Bool} {base : Option Addr} {n c : Nat} {z : Int} {T : TypeId} (h : IsInt w (.agg #[.bool s, .slice base n c]) z) : Var (w.alloc (.cells #[.bool s, .slice base n c] T)) w.heap.size z :=
  ⟨s, base, n, c, blk_new rfl, h.kept ((Below.refl _ _).alloc (Nat.le_refl _) _)⟩
theorem below_one {N : Nat} {w w1 : World} (h : Below N w w1) (hN : N ≤ w.heap.size) (o : Obj) : Below N w (w1.alloc o) := h.alloc (Nat.le_trans hN h.size) o

theorem aw_sign (v : Value) (w : World) (h : IsInt w v (-3)) : Calls Try.prog 32 #[v] w fun e w' => e = .returned (.int .i64 (-1)) ∧ Below w.heap.size w w' := sign_any v (-3) w h
theorem aw_cmp1 (v u : Value) (w : World) (h : IsInt w v (-1)) (h' : IsInt w u (-1)) : Calls Try.prog 36 #[v, u] w fun e w' => e = .returned (.int .i64 0) ∧ Below w.heap.size w w' := cmp_any v u (-1) (-1) w h h'
theorem aw_cmp3 (v u : Value) (w : World) (h : IsInt w v (-3)) (h' : IsInt w u (-3)) : Calls Try.prog 36 #[v, u] w fun e w' => e = .returned (.int .i64 0) ∧ Below w.heap.size w w' := cmp_any v u (-3) (-3) w h h'
theorem aw_bits1 (v : Value) (w : World) (h : IsInt w v 255) : Calls Try.prog 34 #[v] w fun e w' => e = .returned (.int .i64 8) ∧ Below w.heap.size w w' := by have := bits_any v 255 w h; rw [bl_255] at this; exact this
theorem aw_bits2 (v : Value) (w : World) (h : IsInt w v 18446744073709551616) : Calls Try.prog 34 #[v] w fun e w' => e = .returned (.int .i64 65) ∧ Below w.heap.size w w' := by have := bits_any v 18446744073709551616 w h; rw [bl_64] at this; exact this

set_option maxHeartbeats 6400000 in
set_option maxRecDepth 100000 in
theorem awake_any (w : World) : Calls Try.prog 10 #[] w fun e w' => e = .returned (.bool true) ∧ Below w.heap.size w w' := by
  go_enter Try.func10, Try.ntmps10
  go_wp2_with fail
  refine (of_any (-7) w (by decide) (by decide)).mono ?_
  rintro e w1 ⟨v1, rfl, hc1, hb1⟩
  have i1 := Lib.hid hc1.int
  clear hc1
  go_wp2_with fail
  refine (of_any 2 w1 (by decide) (by decide)).mono ?_
  rintro e w2 ⟨v2, rfl, hc2, hb2⟩
  have i1' := Lib.hid (i1.out.kept hb2)
  have i2 := Lib.hid hc2.int
  have hB2 := hb1.trans (hb2.mono hb1.size)
  clear hc2 i1 hb1 hb2
  go_wp2_with fail
  refine (aw_quo v1 v2 w2 i1'.out i2.out).mono ?_
  rintro e w3 ⟨v3, v4, rfl, hc3, hc4, hb3⟩
  have hB3 := hB2.trans (hb3.mono hB2.size)
  obtain ⟨s3, base3, n3, c3, rfl, i3⟩ := can_form hc3
  obtain ⟨s4, base4, n4, c4, rfl, i4⟩ := can_form hc4
  clear hc3 hc4 hb3 hB2 i1' i2
  go_wp2_with fail
  generalize hW : World.alloc _ _ = w4
  obtain ⟨p1, hp1⟩ : ∃ p, w3.heap.size = p := ⟨_, rfl⟩
  rw [hp1]
  have hB4 : Below w.heap.size w w4 := by rw [← hW]; exact below_one (below_one hB3 (Nat.le_refl _) _) (Nat.le_refl _) _
  have VA : Var w4 p1 (-3) ∧ Var w4 (p1 + 1) (-1) := by
    have h4 := var_new (T := 24) (i4.kept ((Below.refl _ w3).alloc (Nat.le_refl _) (.cells #[.bool s3, .slice base3 n3 c3] 24)))
    have h3 := (var_new (T := 24) i3).kept ((Below.refl _ _).alloc (Nat.le_refl _) (.cells #[.bool s4, .slice base4 n4 c4] 24))
    rw [hW] at h3 h4
    rw [hp1] at h3
    refine ⟨h3, ?_⟩
    have e : (w3.alloc (.cells #[.bool s3, .slice base3 n3 c3] 24)).heap.size = p1 + 1 := by rw [← hp1]; simp
    rw [e] at h4
    exact h4
  have VA4 := Lib.hid VA
  clear VA hW hB3 i3 i4 hp1
  refine (of_any (-5) w4 (by decide) (by decide)).mono ?_
  rintro e w5 ⟨v5, rfl, hc5, hb5⟩
  have i5 := Lib.hid hc5.int
  have hB5 := hB4.trans (hb5.mono hB4.size)
  have VA5 := Lib.hid (⟨VA4.out.1.kept hb5, VA4.out.2.kept hb5⟩ : Var w5 p1 (-3) ∧ Var w5 (p1 + 1) (-1))
  clear hc5 hb5 VA4 hB4
  go_wp2_with fail
  refine (aw_shift v5 w5 i5.out).mono ?_
  rintro e w6 ⟨v6, rfl, hc6, hb6⟩
  have hB6 := hB5.trans (hb6.mono hB5.size)
  have VA6 := Lib.hid (⟨VA5.out.1.kept hb6, VA5.out.2.kept hb6⟩ : Var w6 p1 (-3) ∧ Var w6 (p1 + 1) (-1))
  obtain ⟨s6, base6, n6, c6, rfl, i6⟩ := can_form hc6
  clear hc6 hb6 hB5 i5 VA5
  go_wp2_with fail
  generalize hW : World.alloc _ _ = w7
  obtain ⟨p4, hp4⟩ : ∃ p, w6.heap.size = p := ⟨_, rfl⟩
  rw [hp4]
  have hB7 : Below w.heap.size w w7 := by rw [← hW]; exact below_one hB6 (Nat.le_refl _) _
  have VA7 : Hid (Var w7 p1 (-3) ∧ Var w7 (p1 + 1) (-1) ∧ Var w7 p4 (-3)) := by
    have hb : Below w6.heap.size w6 w7 := by rw [← hW]; exact (Below.refl _ _).alloc (Nat.le_refl _) _
    have h4 := var_new (T := 24) i6
    rw [hW, hp4] at h4
    exact Lib.hid ⟨VA6.out.1.kept hb, VA6.out.2.kept hb, h4⟩
  clear hW hB6 i6 hp4 VA6
  refine (aw_parse w7).mono ?_
  rintro e w8 ⟨v8, rfl, hc8, hb8⟩
  have hB8 := hB7.trans (hb8.mono hB7.size)
  have VA8 := Lib.hid (⟨VA7.out.1.kept hb8, VA7.out.2.1.kept hb8, VA7.out.2.2.kept hb8⟩ : Var w8 p1 (-3) ∧ Var w8 (p1 + 1) (-1) ∧ Var w8 p4 (-3))
  obtain ⟨s8, base8, n8, c8, rfl, i8⟩ := can_form hc8
  clear hc8 hb8 hB7 VA7
  go_wp2_with fail
  generalize hW : World.alloc _ _ = w9
  obtain ⟨p6, hp6⟩ : ∃ p, w8.heap.size = p := ⟨_, rfl⟩
  rw [hp6]
  have hB9 : Below w.heap.size w w9 := by rw [← hW]; exact below_one hB8 (Nat.le_refl _) _
  have VA9 : Hid (Var w9 p1 (-3) ∧ Var w9 (p1 + 1) (-1) ∧ Var w9 p4 (-3) ∧ Var w9 p6 18446744073709551616) := by
    have hb : Below w8.heap.size w8 w9 := by rw [← hW]; exact (Below.refl _ _).alloc (Nat.le_refl _) _
    have h4 := var_new (T := 24) i8
    rw [hW, hp6] at h4
    exact Lib.hid ⟨VA8.out.1.kept hb, VA8.out.2.1.kept hb, VA8.out.2.2.kept hb, h4⟩
  have i9 : IsInt w9 (.agg #[.bool s8, .slice base8 n8 c8]) 18446744073709551616 := by rw [← hW]; exact i8.kept ((Below.refl _ _).alloc (Nat.le_refl _) _)
  clear hW hB8 i8 hp6 VA8
  refine (aw_text _ w9 i9).mono ?_
  rintro e w10 ⟨rfl, hb10⟩
  unfold lit64
  have hB10 := hB9.trans (hb10.mono hB9.size)
  have VA10 := Lib.hid (⟨VA9.out.1.kept hb10, VA9.out.2.1.kept hb10, VA9.out.2.2.1.kept hb10, VA9.out.2.2.2.kept hb10⟩ : Var w10 p1 (-3) ∧ Var w10 (p1 + 1) (-1) ∧ Var w10 p4 (-3) ∧ Var w10 p6 18446744073709551616)
  clear i9 hb10 hB9 VA9
  go_wp2_with fail
  refine (of_any 12 w10 (by decide) (by decide)).mono ?_
  rintro e w11 ⟨v11, rfl, hc11, hb11⟩
  have i11 := Lib.hid hc11.int
  have hB11 := hB10.trans (hb11.mono hB10.size)
  have VA11 := Lib.hid (⟨VA10.out.1.kept hb11, VA10.out.2.1.kept hb11, VA10.out.2.2.1.kept hb11, VA10.out.2.2.2.kept hb11⟩ : Var w11 p1 (-3) ∧ Var w11 (p1 + 1) (-1) ∧ Var w11 p4 (-3) ∧ Var w11 p6 18446744073709551616)
  clear hc11 hb11 VA10 hB10
  go_wp2_with fail
  refine (of_any 18 w11 (by decide) (by decide)).mono ?_
  rintro e w12 ⟨v12, rfl, hc12, hb12⟩
  have i11' := Lib.hid (i11.out.kept hb12)
  have i12 := Lib.hid hc12.int
  have hB12 := hB11.trans (hb12.mono hB11.size)
  have VA12 := Lib.hid (⟨VA11.out.1.kept hb12, VA11.out.2.1.kept hb12, VA11.out.2.2.1.kept hb12, VA11.out.2.2.2.kept hb12⟩ : Var w12 p1 (-3) ∧ Var w12 (p1 + 1) (-1) ∧ Var w12 p4 (-3) ∧ Var w12 p6 18446744073709551616)
  clear hc12 hb12 VA11 hB11 i11
  go_wp2_with fail
  refine (aw_gcd v11 v12 w12 i11'.out i12.out).mono ?_
  rintro e w13 ⟨v13, rfl, hc13, hb13⟩
  have hB13 := hB12.trans (hb13.mono hB12.size)
  have VA13 := Lib.hid (⟨VA12.out.1.kept hb13, VA12.out.2.1.kept hb13, VA12.out.2.2.1.kept hb13, VA12.out.2.2.2.kept hb13⟩ : Var w13 p1 (-3) ∧ Var w13 (p1 + 1) (-1) ∧ Var w13 p4 (-3) ∧ Var w13 p6 18446744073709551616)
  obtain ⟨s13, base13, n13, c13, rfl, _⟩ := can_form hc13
  clear hc13 hb13 hB12 i11' i12 VA12
  go_wp2_with fail
  generalize hW : World.alloc _ _ = W
  have hBW : Below w.heap.size w W := by rw [← hW]; exact below_one hB13 (Nat.le_refl _) _
  have hb : Below w13.heap.size w13 W := by rw [← hW]; exact (Below.refl _ _).alloc (Nat.le_refl _) _
  obtain ⟨t1, q1, m1, k1, B1, I1⟩ := VA13.out.1.kept hb
  obtain ⟨t2, q2, m2, k2, B2, I2⟩ := VA13.out.2.1.kept hb
  obtain ⟨t4, q4, m4, k4, B4, I4⟩ := VA13.out.2.2.1.kept hb
  obtain ⟨t6, q6, m6, k6, B6, I6⟩ := VA13.out.2.2.2.kept hb
  clear hW hb hB13 VA13
  have HK := Lib.hid (show ∀ w1, Below W.heap.size W w1 → (w1.cell? ⟨p1, 0, none⟩ = some (.bool t1) ∧ w1.cell? ⟨p1, 1, none⟩ = some (.slice q1 m1 k1)) ∧ (w1.cell? ⟨p1 + 1, 0, none⟩ = some (.bool t2) ∧ w1.cell? ⟨p1 + 1, 1, none⟩ = some (.slice q2 m2 k2)) ∧ (w1.cell? ⟨p4, 0, none⟩ = some (.bool t4) ∧ w1.cell? ⟨p4, 1, none⟩ = some (.slice q4 m4 k4)) ∧ (w1.cell? ⟨p6, 0, none⟩ = some (.bool t6) ∧ w1.cell? ⟨p6, 1, none⟩ = some (.slice q6 m6 k6)) from
    fun w1 h => ⟨Blk2 (B1.kept h), Blk2 (B2.kept h), Blk2 (B4.kept h), Blk2 (B6.kept h)⟩)
  have S1 := Lib.hid (fun W' (h : Below W.heap.size W W') => aw_sign _ W' (I1.kept h))
  have S2 := Lib.hid (fun W' u (h : Below W.heap.size W W') (hu : IsInt W' u (-1)) => aw_cmp1 _ u W' (I2.kept h) hu)
  have S4 := Lib.hid (fun W' u (h : Below W.heap.size W W') (hu : IsInt W' u (-3)) => aw_cmp3 _ u W' (I4.kept h) hu)
  have S6 := Lib.hid (fun W' (h : Below W.heap.size W W') => aw_bits2 _ W' (I6.kept h))
  obtain ⟨⟨a1, b1⟩, ⟨a2, b2⟩, ⟨a4, b4⟩, a6, b6⟩ := HK.out _ (Below.refl _ _)
  have HBW := Lib.hid hBW
  clear B1 B2 B4 B6 I1 I2 I4 I6 hBW
  have hq0 : Below W.heap.size W W := Below.refl _ _
  go_region_held3 (fun w' => (w'.cell? ⟨p1, 0, none⟩ = some (.bool t1) ∧ w'.cell? ⟨p1, 1, none⟩ = some (.slice q1 m1 k1)) ∧ (w'.cell? ⟨p1 + 1, 0, none⟩ = some (.bool t2) ∧ w'.cell? ⟨p1 + 1, 1, none⟩ = some (.slice q2 m2 k2)) ∧ (w'.cell? ⟨p4, 0, none⟩ = some (.bool t4) ∧ w'.cell? ⟨p4, 1, none⟩ = some (.slice q4 m4 k4)) ∧ (w'.cell? ⟨p6, 0, none⟩ = some (.bool t6) ∧ w'.cell? ⟨p6, 1, none⟩ = some (.slice q6 m6 k6)))
    (first | exact ⟨⟨a1, b1⟩, ⟨a2, b2⟩, ⟨a4, b4⟩, a6, b6⟩ | exact HK.out _ hq)
    (first
      | (go_at_call 32; refine (S1.out _ (by first | exact hq0 | exact hq0.drew)).mono ?_; rintro e x1 ⟨rfl, hx1⟩; have hq : Below W.heap.size W x1 := (by first | exact hx1 | exact below_undrew hx1))
      | (go_at_call 30; refine (of_any _ _ (by decide) (by decide)).mono ?_; rintro e x2 ⟨y2, rfl, hy2, hx2⟩; have hq : Below W.heap.size W x2 := hq.trans (hx2.mono hq.size); have hz := Lib.hid hy2.int)
      | (go_at_call_of 36 (Value.agg #[Value.bool t2, Value.slice q2 m2 k2]); refine (S2.out _ _ (by exact hq) (by exact hz.out)).mono ?_; rintro e x3 ⟨rfl, hx3⟩; have hq : Below W.heap.size W x3 := hq.trans (hx3.mono hq.size))
      | (go_at_call_of 36 (Value.agg #[Value.bool t4, Value.slice q4 m4 k4]); refine (S4.out _ _ (by exact hq) (by exact hz.out)).mono ?_; rintro e x5 ⟨rfl, hx5⟩; have hq : Below W.heap.size W x5 := hq.trans (hx5.mono hq.size))
      | (go_at_call_of 34 (Value.agg #[Value.bool t6, Value.slice q6 m6 k6]); refine (S6.out _ (by exact hq)).mono ?_; rintro e x8 ⟨rfl, hx8⟩; have hq : Below W.heap.size W x8 := hq.trans (hx8.mono hq.size))
      | (go_at_call 34; refine (aw_bits1 _ _ (by exact hz.out)).mono ?_; rintro e x7 ⟨rfl, hx7⟩; have hq : Below W.heap.size W x7 := hq.trans (hx7.mono hq.size)))
  have hq9 : Below w.heap.size w x8 := HBW.out.trans (hq.mono HBW.out.size)
  clear hq hx8
  go_wp2_with fail
  go_ret
  exact ⟨rfl, hq9⟩
end Go.Proofs.Ytdgfmkideghhaaa

namespace PB
open Go Go.RowKit
/-- These variables hold Ints for these numbers. -/
def Vars (w : World) (L : List (Nat × Int)) : Prop := ∀ q ∈ L, Var w q.1 q.2
theorem Vars.kept {w w' : World} {L : List (Nat × Int)} (h : Vars w L) (hb : Below w.heap.size w w') : Vars w' L := fun q hq => (h q hq).kept hb
theorem Vars.cons {w : World} {L : List (Nat × Int)} {p : Nat} {z : Int} (h : Vars w L) (hv : Var w p z) : Vars w ((p, z) :: L) := by
  intro q hq
  rcases List.mem_cons.1 hq with rfl | h2
  · exact hv
  · exact h q h2
/-- Fewer than k limbs. -/
def sm (k : Nat) (z : Int) : Prop := z.natAbs < B^k
theorem sm_add {k : Nat} {x y : Int} (h : sm k x) (h' : sm k y) : sm (k+1) (x + y) := by
  unfold sm at *
  have h1 : (x + y).natAbs ≤ x.natAbs + y.natAbs := Int.natAbs_add_le x y
  rw [pow_succ]
  have h2 : B^k * 2 ≤ B^k * B := Nat.mul_le_mul_left _ (by decide)
  omega
theorem sm_neg {k : Nat} {x : Int} (h : sm k x) : sm k (-x) := by
  unfold sm at *
  rwa [Int.natAbs_neg]
theorem sm_sub {k : Nat} {x y : Int} (h : sm k x) (h' : sm k y) : sm (k+1) (x - y) := by
  rw [Int.sub_eq_add_neg]
  exact sm_add h (sm_neg h')
theorem sm_mul {j k : Nat} {x y : Int} (h : sm j x) (h' : sm k y) : sm (j+k) (x * y) := by
  unfold sm at *
  rw [Int.natAbs_mul, pow_add]
  exact Nat.mul_lt_mul'' h h'
theorem sm_mono {j k : Nat} {x : Int} (h : sm j x) (hk : j ≤ k) : sm k x := Nat.lt_of_lt_of_le h (pow_le hk)
theorem not_big {k : Nat} {x : Int} (h : sm k x) (hk : k ≤ 256) : ¬ big x := by
  unfold big
  have := nl_le h
  omega
end PB
namespace Go.Proofs.Ytdgfmkideghhaaa
open Go.RowKit PB
theorem add_sm {v1 v2 : Value} {z1 z2 : Int} (w : World) (h1 : IsInt w v1 z1) (h2 : IsInt w v2 z2) (k1 : sm 255 z1) (k2 : sm 255 z2) :
    Calls Try.prog 12 #[v1, v2] w (RetIntE w (z1 + z2) 0) := by
  have h := add_any v1 v2 z1 z2 w h1 h2
  have hn : ¬ (big z1 ∨ big z2 ∨ big (z1 + z2)) := by
    have a := not_big k1 (by decide)
    have b := not_big k2 (by decide)
    have c := not_big (sm_add k1 k2) (by decide)
    exact fun h => h.elim a fun h => h.elim b c
  rwa [if_neg hn, if_neg hn] at h
theorem sub_sm {v1 v2 : Value} {z1 z2 : Int} (w : World) (h1 : IsInt w v1 z1) (h2 : IsInt w v2 z2) (k1 : sm 255 z1) (k2 : sm 255 z2) :
    Calls Try.prog 13 #[v1, v2] w (RetIntE w (z1 - z2) 0) := by
  have h := sub_any v1 v2 z1 z2 w h1 h2
  have hn : ¬ (big z1 ∨ big z2 ∨ big (z1 - z2)) := by
    have a := not_big k1 (by decide)
    have b := not_big k2 (by decide)
    have c := not_big (sm_sub k1 k2) (by decide)
    exact fun h => h.elim a fun h => h.elim b c
  rwa [if_neg hn, if_neg hn] at h
theorem mul_sm {v1 v2 : Value} {z1 z2 : Int} (w : World) (h1 : IsInt w v1 z1) (h2 : IsInt w v2 z2) (k1 : sm 128 z1) (k2 : sm 128 z2) :
    Calls Try.prog 14 #[v1, v2] w (RetIntE w (z1 * z2) 0) := by
  have h := mul_any v1 v2 z1 z2 w h1 h2
  have hn : ¬ (big z1 ∨ big z2 ∨ big (z1 * z2)) := by
    have a := not_big k1 (by decide)
    have b := not_big k2 (by decide)
    have c := not_big (sm_mul k1 k2) (by decide)
    exact fun h => h.elim a fun h => h.elim b c
  rwa [if_neg hn, if_neg hn] at h
theorem cmp_eq {v1 v2 : Value} {z1 z2 : Int} (w : World) (h1 : IsInt w v1 z1) (h2 : IsInt w v2 z2) (e : z1 = z2) :
    Calls Try.prog 36 #[v1, v2] w fun e w' => e = .returned (.int .i64 0) ∧ Below w.heap.size w w' := by
  subst e
  have h := cmp_any v1 v2 z1 z1 w h1 h2
  rwa [show cmpi z1 z1 = 0 by unfold cmpi; rw [if_neg (by omega), if_neg (by omega)]] at h
theorem sm_int {w : World} {s : Bool} {base : Option Addr} {n c k : Nat} {z : Int} (h : IsInt w (.agg #[.bool s, .slice base n c]) z) (hn : n ≤ k) : sm k z := by
  obtain ⟨s', base', b, off, n', c', X, he, _, hX, _, _, rfl⟩ := h
  cases he
  unfold sm
  rw [sg_natAbs]
  exact Nat.lt_of_lt_of_le hX.lt (pow_le hn)
end Go.Proofs.Ytdgfmkideghhaaa

namespace PB
open Go Go.RowKit
theorem sm_shift {j m k : Nat} {z : Int} (h : sm j z) (hk : k ≤ 32 * m) : sm (j+m) (z * 2^k) := by
  unfold sm at *
  have e : (z * 2^k).natAbs = z.natAbs * 2^k := by
    rw [Int.natAbs_mul, Int.natAbs_pow]; rfl
  rw [e, pow_add]
  have h1 : 2^k ≤ B^m := by
    have e2 : B = 2^32 := rfl
    rw [e2, ← Nat.pow_mul]
    exact Nat.pow_le_pow_right (by decide) hk
  exact Nat.lt_of_lt_of_le (Nat.mul_lt_mul_of_pos_right h (Nat.pow_pos (by decide))) (Nat.mul_le_mul_left _ h1)
end PB
namespace Go.Proofs.Ytdgfmkideghhaaa
open Go.RowKit PB

set_option maxHeartbeats 1600000 in
set_option maxRecDepth 100000 in
theorem shift_zero (s : Bool) (base : Option Addr) (b off n c : Nat) (k : Int) (w : World) (hb : n ≠ 0 → base = some ⟨b, off, none⟩) (hX : Num w b off n 0) (hn : n ≤ c) (hl : n ≤ 1000000000) :
    Calls Try.prog 17 #[.agg #[.bool s, .slice base n c], .int .i64 k] w (RetIntE w 0 0) := by
  have hs : ¬ 256 < nl 0 := by rw [nl_zero]; omega
  have HB := Lib.hid hb
  clear hb
  go_enter Try.func17, Try.ntmps17
  go_wp2_with fail
  generalize hW : World.alloc _ _ = W
  have B0 : Blk W w.heap.size #[.bool s, .slice base n c] := by rw [← hW]; exact (blk_new rfl).alloc _
  have B1 : Blk W (w.heap.size + 1) #[.bool false, .slice none 0 0] := by rw [← hW]; exact blk_new (by simp)
  have hbW : Below w.heap.size w W := by rw [← hW]; exact ((Below.refl _ _).alloc (Nat.le_refl _) _).alloc (by simp) _
  have HS := Lib.hid (show W.heap.size = w.heap.size + 2 by rw [← hW]; simp)
  clear hW
  obtain ⟨a0, a1⟩ := Blk2 B0
  have hXW := hX.kept hbW
  have cut0 := cut_any base b off n c 0 W HB.out hXW hn (by omega)
  rw [nl_zero] at cut0
  go_wp2_with (go_at_call 75; refine cut0.mono ?_; rintro e w' ⟨rfl, rfl⟩)
  generalize hV : World.alloc _ _ = V
  have hbV : Below W.heap.size W V := by rw [← hV]; exact (Below.refl _ _).alloc (Nat.le_refl _) _
  have B2 : Blk V W.heap.size #[.bool s, .slice base n c] := by rw [← hV]; exact blk_new rfl
  clear hV cut0
  have call := large_one W.heap.size s base b off n c 0 V (B2.cell 0 _ rfl) (B2.cell 1 _ rfl) HB.out (hXW.kept hbV) hn (by omega)
  rw [decide_eq_false hs] at call
  refine call.mono ?_
  clear call
  rintro e w1 ⟨rfl, hb1⟩
  have hbw1 : Below w.heap.size w w1 := hbW.trans ((hbV.trans (hb1.mono hbV.size)).mono (by have := HS.out; omega))
  obtain ⟨c0, c1⟩ := Blk2 ((B1.kept hbV).kept hb1)
  obtain ⟨f0, f1⟩ := Blk2f ((B1.kept hbV).kept hb1)
  clear B0 B1 B2 hb1 hbV hbW hXW a0 a1
  go_wp2_with fail
  refine bodyPost_ret (v := .tuple #[.agg #[.bool false, .slice none 0 0], .int .i64 0]) (by simp [results, Try.results17, go_sem, c0, c1]) rfl ⟨_, rfl, can_zero _ _, ?_⟩
  exact (hbw1.setCell (by show w.heap.size ≤ w.heap.size + 1; omega) _).setCell (by show w.heap.size ≤ w.heap.size + 1; omega) _

/-- Shift to the left of a small number. -/
theorem shift_up_sm {v : Value} {z : Int} {j m k : Nat} (w : World) (h : IsInt w v z) (hz : sm j z) (hk : k ≤ 32 * m) (hjm : j + m ≤ 256) (hk2 : k ≤ 8192) :
    Calls Try.prog 17 #[v, .int .i64 k] w (RetIntE w (z * 2^k) 0) := by
  obtain ⟨s, base, b, off, n, c, X, rfl, hb, hX, hn, hl, rfl⟩ := h
  have hs : ¬ 256 < nl X := by rw [← big_sg s]; exact not_big hz (by omega)
  have hs2 : ¬ 256 < nl (X * 2^k) := by rw [← big_sg s, sg_pow]; exact not_big (sm_shift hz hk) hjm
  by_cases h0 : X = 0
  · subst h0
    rw [show sg s 0 = 0 from sg_zero.2 rfl, Int.zero_mul]
    exact shift_zero s base b off n c k w hb hX hn hl
  · rw [← sg_pow]
    exact shift_up s base b off n c X k w hb hX hn hl hs h0 hk2 0 _ (Or.inr ⟨hs2, rfl, rfl⟩)
/-- Shift to the right of a small number. -/
theorem shift_down_sm {v : Value} {z : Int} {j k : Nat} (w : World) (h : IsInt w v z) (hz : sm j z) (hj : j ≤ 256) (hk2 : k ≤ 8192) :
    Calls Try.prog 17 #[v, .int .i64 (-(k : Int))] w (RetIntE w (z / (2^k : Nat)) 0) := by
  by_cases hk : k = 0
  · subst hk
    have := shift_up_sm (k := 0) (m := 0) w h hz (by omega) (by omega) (by omega)
    simpa using this
  · obtain ⟨s, base, b, off, n, c, X, rfl, hb, hX, hn, hl, rfl⟩ := h
    have hs : ¬ 256 < nl X := by rw [← big_sg s]; exact not_big hz hj
    by_cases h0 : X = 0
    · subst h0
      rw [show sg s 0 = 0 from sg_zero.2 rfl, Int.zero_ediv]
      exact shift_zero s base b off n c _ w hb hX hn hl
    · exact shift_down s base b off n c X k w hb hX hn hl hs h0 (by omega) hk2
end Go.Proofs.Ytdgfmkideghhaaa
