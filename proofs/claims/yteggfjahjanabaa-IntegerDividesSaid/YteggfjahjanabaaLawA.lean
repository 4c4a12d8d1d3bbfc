/-
  What the laws share: lists of variables, small numbers, the calls on small numbers.
-/
import Derived.Test.YteggfjahjanabaaAwake
import Derived.Test.YteggfjahjanabaaAdd
namespace PB
open Go Go.RowKit
/-- These variables hold Ints for these numbers. -/
def Vars (w : World) (L : List (Nat × Int)) : Prop := ∀ q ∈ L, Var w q.1 q.2
theorem Vars.kept {w w' : World} {L : List (Nat × Int)} (h : Vars w L) (hb : Below w.heap.size w w') : Vars w' L := fun q hq => (h q hq).kept hb
theorem Vars.cons {w : World} {L : List (Nat × Int)} {p : Nat} {z : Int} (h : Vars w L) (hv : Var w p z) : Vars w ((p, z) :: L) := by
  intro q hq
  rcases List.mem_cons.1 hq with rfl | h2
  · exact hv
  · exact h q h2
/-- Fewer than k limbs. -/
def sm (k : Nat) (z : Int) : Prop := z.natAbs < B^k
theorem sm_add {k : Nat} {x y : Int} (h : sm k x) (h' : sm k y) : sm (k+1) (x + y) := by
  unfold sm at *
  have h1 : (x + y).natAbs ≤ x.natAbs + y.natAbs := Int.natAbs_add_le x y
  rw [pow_succ]
  have h2 : B^k * 2 ≤ B^k * B := Nat.mul_le_mul_left _ (by decide)
  omega
theorem sm_neg {k : Nat} {x : Int} (h : sm k x) : sm k (-x) := by
  unfold sm at *
  rwa [Int.natAbs_neg]
theorem sm_sub {k : Nat} {x y : Int} (h : sm k x) (h' : sm k y) : sm (k+1) (x - y) := by
  rw [Int.sub_eq_add_neg]
  exact sm_add h (sm_neg h')
theorem sm_mul {j k : Nat} {x y : Int} (h : sm j x) (h' : sm k y) : sm (j+k) (x * y) := by
  unfold sm at *
  rw [Int.natAbs_mul, pow_add]
  exact Nat.mul_lt_mul'' h h'
theorem sm_mono {j k : Nat} {x : Int} (h : sm j x) (hk : j ≤ k) : sm k x := Nat.lt_of_lt_of_le h (pow_le hk)
theorem not_big {k : Nat} {x : Int} (h : sm k x) (hk : k ≤ 256) : ¬ big x := by
  unfold big
  have := nl_le h
  omega
end PB
namespace Go.Proofs.Yteggfjahjanabaa
open Go.RowKit PB
theorem add_sm {v1 v2 : Value} {z1 z2 : Int} (w : World) (h1 : IsInt w v1 z1) (h2 : IsInt w v2 z2) (k1 : sm 255 z1) (k2 : sm 255 z2) :
    Calls Try.prog 12 #[v1, v2] w (RetIntE w (z1 + z2) 0) := by
  have h := add_any v1 v2 z1 z2 w h1 h2
  have hn : ¬ (big z1 ∨ big z2 ∨ big (z1 + z2)) := by
    have a := not_big k1 (by decide)
    have b := not_big k2 (by decide)
    have c := not_big (sm_add k1 k2) (by decide)
    exact fun h => h.elim a fun h => h.elim b c
  rwa [if_neg hn, if_neg hn] at h
theorem sub_sm {v1 v2 : Value} {z1 z2 : Int} (w : World) (h1 : IsInt w v1 z1) (h2 : IsInt w v2 z2) (k1 : sm 255 z1) (k2 : sm 255 z2) :
    Calls Try.prog 13 #[v1, v2] w (RetIntE w (z1 - z2) 0) := by
  have h := sub_any v1 v2 z1 z2 w h1 h2
  have hn : ¬ (big z1 ∨ big z2 ∨ big (z1 - z2)) := by
    have a := not_big k1 (by decide)
    have b := not_big k2 (by decide)
    have c := not_big (sm_sub k1 k2) (by decide)
    exact fun h => h.elim a fun h => h.elim b c
  rwa [if_neg hn, if_neg hn] at h
theorem mul_sm {v1 v2 : Value} {z1 z2 : Int} (w : World) (h1 : IsInt w v1 z1) (h2 : IsInt w v2 z2) (k1 : sm 128 z1) (k2 : sm 128 z2) :
    Calls Try.prog 14 #[v1, v2] w (RetIntE w (z1 * z2) 0) := by
  have h := mul_any v1 v2 z1 z2 w h1 h2
  have hn : ¬ (big z1 ∨ big z2 ∨ big (z1 * z2)) := by
    have a := not_big k1 (by decide)
    have b := not_big k2 (by decide)
    have c := not_big (sm_mul k1 k2) (by decide)
    exact fun h => h.elim a fun h => h.elim b c
  rwa [if_neg hn, if_neg hn] at h
theorem cmp_eq {v1 v2 : Value} {z1 z2 : Int} (w : World) (h1 : IsInt w v1 z1) (h2 : IsInt w v2 z2) (e : z1 = z2) :
    Calls Try.prog 36 #[v1, v2] w fun e w' => e = .returned (.int .i64 0) ∧ Below w.heap.size w w' := by
  subst e
  have h := cmp_any v1 v2 z1 z1 w h1 h2
  rwa [show cmpi z1 z1 = 0 by unfold cmpi; rw [if_neg (by omega), if_neg (by omega)]] at h
theorem sm_int {w : World} {s : Bool} {base : Option Addr} {n c k : Nat} {z : Int} (h : IsInt w (.agg #[.bool s, .slice base n c]) z) (hn : n ≤ k) : sm k z := by
  obtain ⟨s', base', b, off, n', c', X, he, _, hX, _, _, rfl⟩ := h
  cases he
  unfold sm
  rw [sg_natAbs]
  exact Nat.lt_of_lt_of_le hX.lt (pow_le hn)
end Go.Proofs.Yteggfjahjanabaa
