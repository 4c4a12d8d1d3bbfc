/-
  The walk of IntegerExact where an input is not small (written by wip/genex.py).
-/
import Derived.Test.YtmfimkndonlheaaM51
namespace Go.Proofs.Ytmfimkndonlheaa
open Go.RowKit PB

set_option maxHeartbeats 12800000 in
set_option maxRecDepth 100000 in
theorem ex_a (sa sb : Bool) (qa qb : Option Addr) (na nb ca cb : Nat) (k : Int) (w : World) (la : ¬ na ≤ 40) :
    Calls Try.prog 3 #[.agg #[.bool sa, .slice qa na ca], .agg #[.bool sb, .slice qb nb cb], .int .i64 k] w fun e w' => e = .returned (.bool true) ∧ Below w.heap.size w w' := by
  have F1 := Lib.hid (fun W => few_any sa qa na ca W)
  rw [decide_eq_false la] at F1
  clear la
  go_enter Try.func3, Try.ntmps3
  go_upto_region 1 with fail
  generalize hW : World.alloc _ _ = W
  obtain ⟨N, hN⟩ : ∃ N, w.heap.size = N := ⟨_, rfl⟩
  have B0 : Blk W N #[.bool sa, .slice qa na ca] := by rw [← hW, ← hN]; exact (blk_new rfl).alloc _
  have B1 : Blk W (N + 1) #[.bool sb, .slice qb nb cb] := by rw [← hW, ← hN]; exact blk_new (by simp)
  have HB := Lib.hid (show Below w.heap.size w W by rw [← hW]; exact bs_alloc (bs_alloc (Below.refl _ _) _) _)
  have HK := Lib.hid (show ∀ w1, Below W.heap.size W w1 → ((w1.cell? ⟨N, 0, none⟩ = some (.bool sa) ∧ w1.cell? ⟨N, 1, none⟩ = some (.slice qa na ca)) ∧ (w1.cell? ⟨N + 1, 0, none⟩ = some (.bool sb) ∧ w1.cell? ⟨N + 1, 1, none⟩ = some (.slice qb nb cb))) ∧ True from fun w1 h => ⟨⟨Blk2 (B0.kept h), Blk2 (B1.kept h)⟩, trivial⟩)
  rw [hN]
  clear hW hN B0 B1
  go_wp2_with fail
  refine (awake_any W).mono ?_
  rintro e u0 ⟨rfl, hx⟩
  have HQ := Lib.hid hx
  clear hx
  obtain ⟨⟨⟨a0, a1⟩, b0, b1⟩, _⟩ := HK.out _ HQ.out
  go_wp2_with fail
  refine (F1.out u0).mono ?_
  rintro e u1 ⟨rfl, hx⟩
  have HR := Lib.hid (bs_trans HQ.out hx)
  clear hx HQ a0 a1 b0 b1
  have HQ := HR
  clear HR
  go_wp2_with fail
  refine (awake_any u1).mono ?_
  rintro e u9 ⟨rfl, hx⟩
  have HF := bs_trans HB.out (bs_trans HQ.out hx)
  clear hx HQ
  go_wp2_with fail
  go_ret
  exact ⟨rfl, HF⟩

set_option maxHeartbeats 12800000 in
set_option maxRecDepth 100000 in
theorem ex_b (sa sb : Bool) (qa qb : Option Addr) (na nb ca cb : Nat) (k : Int) (w : World) (la : na ≤ 40) (lb : ¬ nb ≤ 40) :
    Calls Try.prog 3 #[.agg #[.bool sa, .slice qa na ca], .agg #[.bool sb, .slice qb nb cb], .int .i64 k] w fun e w' => e = .returned (.bool true) ∧ Below w.heap.size w w' := by
  have F1 := Lib.hid (fun W => few_any sa qa na ca W)
  rw [decide_eq_true la] at F1
  have F2 := Lib.hid (fun W => few_any sb qb nb cb W)
  rw [decide_eq_false lb] at F2
  clear la lb
  go_enter Try.func3, Try.ntmps3
  go_upto_region 1 with fail
  generalize hW : World.alloc _ _ = W
  obtain ⟨N, hN⟩ : ∃ N, w.heap.size = N := ⟨_, rfl⟩
  have B0 : Blk W N #[.bool sa, .slice qa na ca] := by rw [← hW, ← hN]; exact (blk_new rfl).alloc _
  have B1 : Blk W (N + 1) #[.bool sb, .slice qb nb cb] := by rw [← hW, ← hN]; exact blk_new (by simp)
  have HB := Lib.hid (show Below w.heap.size w W by rw [← hW]; exact bs_alloc (bs_alloc (Below.refl _ _) _) _)
  have HK := Lib.hid (show ∀ w1, Below W.heap.size W w1 → ((w1.cell? ⟨N, 0, none⟩ = some (.bool sa) ∧ w1.cell? ⟨N, 1, none⟩ = some (.slice qa na ca)) ∧ (w1.cell? ⟨N + 1, 0, none⟩ = some (.bool sb) ∧ w1.cell? ⟨N + 1, 1, none⟩ = some (.slice qb nb cb))) ∧ True from fun w1 h => ⟨⟨Blk2 (B0.kept h), Blk2 (B1.kept h)⟩, trivial⟩)
  rw [hN]
  clear hW hN B0 B1
  go_wp2_with fail
  refine (awake_any W).mono ?_
  rintro e u0 ⟨rfl, hx⟩
  have HQ := Lib.hid hx
  clear hx
  obtain ⟨⟨⟨a0, a1⟩, b0, b1⟩, _⟩ := HK.out _ HQ.out
  go_wp2_with fail
  refine (F1.out u0).mono ?_
  rintro e u1 ⟨rfl, hx⟩
  have HR := Lib.hid (bs_trans HQ.out hx)
  clear hx HQ a0 a1 b0 b1
  have HQ := HR
  clear HR
  obtain ⟨⟨⟨a0, a1⟩, b0, b1⟩, _⟩ := HK.out _ HQ.out
  go_wp2_with fail
  refine (F2.out u1).mono ?_
  rintro e u2 ⟨rfl, hx⟩
  have HR := Lib.hid (bs_trans HQ.out hx)
  clear hx HQ a0 a1 b0 b1
  have HQ := HR
  clear HR
  go_wp2_with fail
  refine (awake_any u2).mono ?_
  rintro e u9 ⟨rfl, hx⟩
  have HF := bs_trans HB.out (bs_trans HQ.out hx)
  clear hx HQ
  go_wp2_with fail
  go_ret
  exact ⟨rfl, HF⟩

set_option maxHeartbeats 12800000 in
set_option maxRecDepth 100000 in
theorem ex_c (sa sb : Bool) (qa qb : Option Addr) (na nb ca cb : Nat) (k : Int) (w : World) (la : na ≤ 40) (lb : nb ≤ 40) (lk : 4000 < k) :
    Calls Try.prog 3 #[.agg #[.bool sa, .slice qa na ca], .agg #[.bool sb, .slice qb nb cb], .int .i64 k] w fun e w' => e = .returned (.bool true) ∧ Below w.heap.size w w' := by
  have F1 := Lib.hid (fun W => few_any sa qa na ca W)
  rw [decide_eq_true la] at F1
  have F2 := Lib.hid (fun W => few_any sb qb nb cb W)
  rw [decide_eq_true lb] at F2
  have i1 : decide ((4000 : Int) < k) = true := decide_eq_true (by omega)
  clear la lb lk
  go_enter Try.func3, Try.ntmps3
  go_upto_region 1 with fail
  generalize hW : World.alloc _ _ = W
  obtain ⟨N, hN⟩ : ∃ N, w.heap.size = N := ⟨_, rfl⟩
  have B0 : Blk W N #[.bool sa, .slice qa na ca] := by rw [← hW, ← hN]; exact (blk_new rfl).alloc _
  have B1 : Blk W (N + 1) #[.bool sb, .slice qb nb cb] := by rw [← hW, ← hN]; exact blk_new (by simp)
  have HB := Lib.hid (show Below w.heap.size w W by rw [← hW]; exact bs_alloc (bs_alloc (Below.refl _ _) _) _)
  have HK := Lib.hid (show ∀ w1, Below W.heap.size W w1 → ((w1.cell? ⟨N, 0, none⟩ = some (.bool sa) ∧ w1.cell? ⟨N, 1, none⟩ = some (.slice qa na ca)) ∧ (w1.cell? ⟨N + 1, 0, none⟩ = some (.bool sb) ∧ w1.cell? ⟨N + 1, 1, none⟩ = some (.slice qb nb cb))) ∧ True from fun w1 h => ⟨⟨Blk2 (B0.kept h), Blk2 (B1.kept h)⟩, trivial⟩)
  rw [hN]
  clear hW hN B0 B1
  go_wp2_with fail
  refine (awake_any W).mono ?_
  rintro e u0 ⟨rfl, hx⟩
  have HQ := Lib.hid hx
  clear hx
  obtain ⟨⟨⟨a0, a1⟩, b0, b1⟩, _⟩ := HK.out _ HQ.out
  go_wp2_with fail
  refine (F1.out u0).mono ?_
  rintro e u1 ⟨rfl, hx⟩
  have HR := Lib.hid (bs_trans HQ.out hx)
  clear hx HQ a0 a1 b0 b1
  have HQ := HR
  clear HR
  obtain ⟨⟨⟨a0, a1⟩, b0, b1⟩, _⟩ := HK.out _ HQ.out
  go_wp2_with fail
  refine (F2.out u1).mono ?_
  rintro e u2 ⟨rfl, hx⟩
  have HR := Lib.hid (bs_trans HQ.out hx)
  clear hx HQ a0 a1 b0 b1
  have HQ := HR
  clear HR
  go_wp2_with fail
  refine (awake_any u2).mono ?_
  rintro e u9 ⟨rfl, hx⟩
  have HF := bs_trans HB.out (bs_trans HQ.out hx)
  clear hx HQ
  go_wp2_with fail
  go_ret
  exact ⟨rfl, HF⟩
end Go.Proofs.Ytmfimkndonlheaa
