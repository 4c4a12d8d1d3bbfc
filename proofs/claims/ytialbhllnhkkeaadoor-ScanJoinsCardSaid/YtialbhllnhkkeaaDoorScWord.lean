/-
  A word as a value; the words of a name.
-/
import Derived.Test.YtialbhllnhkkeaaDoorScSkip
import Derived.Test.YtialbhllnhkkeaaDoorScNameL
import Derived.Test.YtialbhllnhkkeaaDoorBlk
import Derived.ChangeMaps5
namespace SC
open Go Go.RowKit PB
abbrev wordV (k : Int) (t : ByteArray) (n a : Int) : Value := .agg #[.int .i64 k, .string t, .int .i64 n, .int .i64 a]
def wcells (k : Int) (t : ByteArray) (n a : Int) : Array Value := #[.int .i64 k, .string t, .int .i64 n, .int .i64 a]
theorem Blk4 {w : World} {g : Nat} {v0 v1 v2 v3 : Value} (h : Blk w g #[v0, v1, v2, v3]) : w.cell? ⟨g, 0, none⟩ = some v0 ∧ w.cell? ⟨g, 1, none⟩ = some v1 ∧ w.cell? ⟨g, 2, none⟩ = some v2 ∧ w.cell? ⟨g, 3, none⟩ = some v3 := ⟨h.cell 0 _ rfl, h.cell 1 _ rfl, h.cell 2 _ rfl, h.cell 3 _ rfl⟩
theorem Blk4f {w : World} {g : Nat} {v0 v1 v2 v3 : Value} (h : Blk w g #[v0, v1, v2, v3]) : w.frozen? ⟨g, 0, none⟩ = false ∧ w.frozen? ⟨g, 1, none⟩ = false ∧ w.frozen? ⟨g, 2, none⟩ = false ∧ w.frozen? ⟨g, 3, none⟩ = false := ⟨h.free 0, h.free 1, h.free 2, h.free 3⟩
theorem blk_set4 {w : World} {g : Nat} {x y z u a b c d : Value} (h : Blk w g #[x, y, z, u]) : Blk ((((w.setCell ⟨g, 0, none⟩ a).setCell ⟨g, 1, none⟩ b).setCell ⟨g, 2, none⟩ c).setCell ⟨g, 3, none⟩ d) g #[a, b, c, d] := (((h.set 0 a).set 1 b).set 2 c).set 3 d
end SC
namespace Go.Proofs.YtialbhllnhkkeaaDoor
open Go.RowKit SC PB
theorem clone_any (s : ByteArray) (w : World) (hs : s.size ≤ 281474976710656) :
    Calls Tryd.prog 36 #[.string s] w fun e w' => e = .returned (.string s) ∧ Below w.heap.size w w' := by
  go_enter Tryd.func36, Tryd.ntmps36
  go_wp2_with (go_at_call 42; refine (Tryd.stringslite_Clone s _ hs).mono ?_; rintro e w' ⟨rfl, hb⟩)
  go_ret
  exact ⟨rfl, hb⟩
set_option maxHeartbeats 1000000 in
theorem name_any (s : ByteArray) (w : World) (hs : s.size ≤ 281474976710656) :
    Calls Tryd.prog 28 #[.string s] w fun e w' => e = .returned (if s.size ≤ 12 then .tuple #[wordV 1 s 0 0, .int .i64 0] else .tuple #[wordV 0 ⟨#[]⟩ 0 0, .int .i64 6]) ∧ Below w.heap.size w w' := by
  by_cases h : s.size ≤ 12
  · rw [if_pos h]
    go_enter Tryd.func28, Tryd.ntmps28
    go_wp2_with fail
    refine (clone_any s _ hs).mono ?_
    rintro e w1 ⟨rfl, hw1⟩
    have X1 := blk_last hw1
    have q1 := ((Below.refl _ w).alloc (Nat.le_refl _) _).trans (hw1.mono (by simp))
    obtain ⟨c0, c1, c2, c3⟩ := Blk4 X1
    obtain ⟨f0, f1, f2, f3⟩ := Blk4f X1
    clear hw1
    go_wp2_with fail
    refine bodyPost_ret (blk_res_tmp rfl _ rfl (blk_set4 X1) Tryd.underlying33 rfl (by rfl)) rfl ?_
    exact ⟨rfl, (((q1.setCell (Nat.le_refl _) _).setCell (Nat.le_refl _) _).setCell (Nat.le_refl _) _).setCell (Nat.le_refl _) _⟩
  · rw [if_neg h]
    go_enter Tryd.func28, Tryd.ntmps28
    go_wp2_with fail
    refine bodyPost_ret (blk_res_tmp rfl _ rfl (blk_new rfl) Tryd.underlying33 rfl (by rfl)) rfl ?_
    exact ⟨rfl, (Below.refl _ w).alloc (Nat.le_refl _) _⟩
end Go.Proofs.YtialbhllnhkkeaaDoor
