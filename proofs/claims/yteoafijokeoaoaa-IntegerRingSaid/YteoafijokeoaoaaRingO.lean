/-
  The walk of IntegerRing where an input is not small (written by wip/genring.py).
-/
import Derived.Test.YteoafijokeoaoaaLawA
namespace Go.Proofs.Yteoafijokeoaoaa
open Go.RowKit PB

set_option maxHeartbeats 3200000 in
set_option maxRecDepth 100000 in
theorem ring_a (sa sb sc : Bool) (qa qb qc : Option Addr) (na nb nc ca cb cc : Nat) (w : World) (la : ¬ na ≤ 40) :
    Calls Try.prog 5 #[.agg #[.bool sa, .slice qa na ca], .agg #[.bool sb, .slice qb nb cb], .agg #[.bool sc, .slice qc nc cc]] w fun e w' => e = .returned (.bool true) ∧ Below w.heap.size w w' := by
  go_enter Try.func5, Try.ntmps5
  go_wp2_with fail
  generalize hW : World.alloc _ _ = W
  obtain ⟨N, hN⟩ : ∃ N, w.heap.size = N := ⟨_, rfl⟩
  have HB0 : Hid (Below w.heap.size w W) := Lib.hid (by rw [← hW]; exact below_one (below_one (below_one (Below.refl _ _) (Nat.le_refl _) _) (Nat.le_refl _) _) (Nat.le_refl _) _)
  have BL0 : Blk W w.heap.size #[.bool sa, .slice qa na ca] := by rw [← hW]; exact ((blk_new rfl).alloc _).alloc _
  have BL1 : Blk W (w.heap.size + 1) #[.bool sb, .slice qb nb cb] := by rw [← hW]; exact (blk_new (by simp)).alloc _
  have BL2 : Blk W (w.heap.size + 1 + 1) #[.bool sc, .slice qc nc cc] := by rw [← hW]; exact blk_new (by simp)
  rw [hN]
  have HBL := Lib.hid (show Blk W N #[.bool sa, .slice qa na ca] ∧ Blk W (N + 1) #[.bool sb, .slice qb nb cb] ∧ Blk W (N + 1 + 1) #[.bool sc, .slice qc nc cc] from ⟨hN ▸ BL0, hN ▸ BL1, hN ▸ BL2⟩)
  clear hW BL0 BL1 BL2
  refine (awake_any W).mono ?_
  rintro e u0 ⟨rfl, hb1⟩
  have HB1 : Hid (Below w.heap.size w u0) := Lib.hid (HB0.out.trans (hb1.mono HB0.out.size))
  obtain ⟨B0, B1, B2⟩ := HBL.out
  have B0 := B0.kept hb1
  have B1 := B1.kept hb1
  have B2 := B2.kept hb1
  clear hb1 HB0 HBL
  have HK := Lib.hid (show ∀ w1, Below u0.heap.size u0 w1 → (w1.cell? ⟨N, 0, none⟩ = some (.bool sa) ∧ w1.cell? ⟨N, 1, none⟩ = some (.slice qa na ca)) ∧ (w1.cell? ⟨N + 1, 0, none⟩ = some (.bool sb) ∧ w1.cell? ⟨N + 1, 1, none⟩ = some (.slice qb nb cb)) ∧ (w1.cell? ⟨N + 1 + 1, 0, none⟩ = some (.bool sc) ∧ w1.cell? ⟨N + 1 + 1, 1, none⟩ = some (.slice qc nc cc)) from
    fun w1 h => ⟨Blk2 (B0.kept h), Blk2 (B1.kept h), Blk2 (B2.kept h)⟩)
  obtain ⟨⟨a0, a1⟩, ⟨b0, b1⟩, c0, c1⟩ := HK.out _ (Below.refl _ _)
  clear B0 B1 B2
  have F1 := Lib.hid (fun W => few_any sa qa na ca W)
  have F2 := Lib.hid (fun W => few_any sb qb nb cb W)
  have F3 := Lib.hid (fun W => few_any sc qc nc cc W)
  rw [decide_eq_false la] at F1
  have hq : Below u0.heap.size u0 u0 := Below.refl _ _
  clear la
  go_wp2_with fail
  refine (F1.out u0).mono ?_
  rintro e u1 ⟨rfl, hx⟩
  have HB2 : Hid (Below w.heap.size w u1) := Lib.hid (HB1.out.trans (hx.mono HB1.out.size))
  have hq2 : Below u0.heap.size u0 u1 := hq.trans (hx.mono hq.size)
  clear hq hx HB1 a0 a1 b0 b1 c0 c1
  have hq := hq2
  have HB1 := HB2
  clear hq2 HB2
  obtain ⟨⟨a0, a1⟩, ⟨b0, b1⟩, c0, c1⟩ := HK.out _ hq
  go_wp2_with fail
  refine (awake_any u1).mono ?_
  rintro e u9 ⟨rfl, hx⟩
  have HB2 : Below w.heap.size w u9 := HB1.out.trans (hx.mono HB1.out.size)
  clear hq hx HB1
  go_wp2_with fail
  go_ret
  exact ⟨rfl, HB2⟩

set_option maxHeartbeats 3200000 in
set_option maxRecDepth 100000 in
theorem ring_b (sa sb sc : Bool) (qa qb qc : Option Addr) (na nb nc ca cb cc : Nat) (w : World) (la : na ≤ 40) (lb : ¬ nb ≤ 40) :
    Calls Try.prog 5 #[.agg #[.bool sa, .slice qa na ca], .agg #[.bool sb, .slice qb nb cb], .agg #[.bool sc, .slice qc nc cc]] w fun e w' => e = .returned (.bool true) ∧ Below w.heap.size w w' := by
  go_enter Try.func5, Try.ntmps5
  go_wp2_with fail
  generalize hW : World.alloc _ _ = W
  obtain ⟨N, hN⟩ : ∃ N, w.heap.size = N := ⟨_, rfl⟩
  have HB0 : Hid (Below w.heap.size w W) := Lib.hid (by rw [← hW]; exact below_one (below_one (below_one (Below.refl _ _) (Nat.le_refl _) _) (Nat.le_refl _) _) (Nat.le_refl _) _)
  have BL0 : Blk W w.heap.size #[.bool sa, .slice qa na ca] := by rw [← hW]; exact ((blk_new rfl).alloc _).alloc _
  have BL1 : Blk W (w.heap.size + 1) #[.bool sb, .slice qb nb cb] := by rw [← hW]; exact (blk_new (by simp)).alloc _
  have BL2 : Blk W (w.heap.size + 1 + 1) #[.bool sc, .slice qc nc cc] := by rw [← hW]; exact blk_new (by simp)
  rw [hN]
  have HBL := Lib.hid (show Blk W N #[.bool sa, .slice qa na ca] ∧ Blk W (N + 1) #[.bool sb, .slice qb nb cb] ∧ Blk W (N + 1 + 1) #[.bool sc, .slice qc nc cc] from ⟨hN ▸ BL0, hN ▸ BL1, hN ▸ BL2⟩)
  clear hW BL0 BL1 BL2
  refine (awake_any W).mono ?_
  rintro e u0 ⟨rfl, hb1⟩
  have HB1 : Hid (Below w.heap.size w u0) := Lib.hid (HB0.out.trans (hb1.mono HB0.out.size))
  obtain ⟨B0, B1, B2⟩ := HBL.out
  have B0 := B0.kept hb1
  have B1 := B1.kept hb1
  have B2 := B2.kept hb1
  clear hb1 HB0 HBL
  have HK := Lib.hid (show ∀ w1, Below u0.heap.size u0 w1 → (w1.cell? ⟨N, 0, none⟩ = some (.bool sa) ∧ w1.cell? ⟨N, 1, none⟩ = some (.slice qa na ca)) ∧ (w1.cell? ⟨N + 1, 0, none⟩ = some (.bool sb) ∧ w1.cell? ⟨N + 1, 1, none⟩ = some (.slice qb nb cb)) ∧ (w1.cell? ⟨N + 1 + 1, 0, none⟩ = some (.bool sc) ∧ w1.cell? ⟨N + 1 + 1, 1, none⟩ = some (.slice qc nc cc)) from
    fun w1 h => ⟨Blk2 (B0.kept h), Blk2 (B1.kept h), Blk2 (B2.kept h)⟩)
  obtain ⟨⟨a0, a1⟩, ⟨b0, b1⟩, c0, c1⟩ := HK.out _ (Below.refl _ _)
  clear B0 B1 B2
  have F1 := Lib.hid (fun W => few_any sa qa na ca W)
  have F2 := Lib.hid (fun W => few_any sb qb nb cb W)
  have F3 := Lib.hid (fun W => few_any sc qc nc cc W)
  rw [decide_eq_true la] at F1
  rw [decide_eq_false lb] at F2
  have hq : Below u0.heap.size u0 u0 := Below.refl _ _
  clear la lb
  go_wp2_with fail
  refine (F1.out u0).mono ?_
  rintro e u1 ⟨rfl, hx⟩
  have HB2 : Hid (Below w.heap.size w u1) := Lib.hid (HB1.out.trans (hx.mono HB1.out.size))
  have hq2 : Below u0.heap.size u0 u1 := hq.trans (hx.mono hq.size)
  clear hq hx HB1 a0 a1 b0 b1 c0 c1
  have hq := hq2
  have HB1 := HB2
  clear hq2 HB2
  obtain ⟨⟨a0, a1⟩, ⟨b0, b1⟩, c0, c1⟩ := HK.out _ hq
  go_wp2_with fail
  refine (F2.out u1).mono ?_
  rintro e u2 ⟨rfl, hx⟩
  have HB2 : Hid (Below w.heap.size w u2) := Lib.hid (HB1.out.trans (hx.mono HB1.out.size))
  have hq2 : Below u0.heap.size u0 u2 := hq.trans (hx.mono hq.size)
  clear hq hx HB1 a0 a1 b0 b1 c0 c1
  have hq := hq2
  have HB1 := HB2
  clear hq2 HB2
  obtain ⟨⟨a0, a1⟩, ⟨b0, b1⟩, c0, c1⟩ := HK.out _ hq
  go_wp2_with fail
  refine (awake_any u2).mono ?_
  rintro e u9 ⟨rfl, hx⟩
  have HB2 : Below w.heap.size w u9 := HB1.out.trans (hx.mono HB1.out.size)
  clear hq hx HB1
  go_wp2_with fail
  go_ret
  exact ⟨rfl, HB2⟩

set_option maxHeartbeats 3200000 in
set_option maxRecDepth 100000 in
theorem ring_c (sa sb sc : Bool) (qa qb qc : Option Addr) (na nb nc ca cb cc : Nat) (w : World) (la : na ≤ 40) (lb : nb ≤ 40) (lc : ¬ nc ≤ 40) :
    Calls Try.prog 5 #[.agg #[.bool sa, .slice qa na ca], .agg #[.bool sb, .slice qb nb cb], .agg #[.bool sc, .slice qc nc cc]] w fun e w' => e = .returned (.bool true) ∧ Below w.heap.size w w' := by
  go_enter Try.func5, Try.ntmps5
  go_wp2_with fail
  generalize hW : World.alloc _ _ = W
  obtain ⟨N, hN⟩ : ∃ N, w.heap.size = N := ⟨_, rfl⟩
  have HB0 : Hid (Below w.heap.size w W) := Lib.hid (by rw [← hW]; exact below_one (below_one (below_one (Below.refl _ _) (Nat.le_refl _) _) (Nat.le_refl _) _) (Nat.le_refl _) _)
  have BL0 : Blk W w.heap.size #[.bool sa, .slice qa na ca] := by rw [← hW]; exact ((blk_new rfl).alloc _).alloc _
  have BL1 : Blk W (w.heap.size + 1) #[.bool sb, .slice qb nb cb] := by rw [← hW]; exact (blk_new (by simp)).alloc _
  have BL2 : Blk W (w.heap.size + 1 + 1) #[.bool sc, .slice qc nc cc] := by rw [← hW]; exact blk_new (by simp)
  rw [hN]
  have HBL := Lib.hid (show Blk W N #[.bool sa, .slice qa na ca] ∧ Blk W (N + 1) #[.bool sb, .slice qb nb cb] ∧ Blk W (N + 1 + 1) #[.bool sc, .slice qc nc cc] from ⟨hN ▸ BL0, hN ▸ BL1, hN ▸ BL2⟩)
  clear hW BL0 BL1 BL2
  refine (awake_any W).mono ?_
  rintro e u0 ⟨rfl, hb1⟩
  have HB1 : Hid (Below w.heap.size w u0) := Lib.hid (HB0.out.trans (hb1.mono HB0.out.size))
  obtain ⟨B0, B1, B2⟩ := HBL.out
  have B0 := B0.kept hb1
  have B1 := B1.kept hb1
  have B2 := B2.kept hb1
  clear hb1 HB0 HBL
  have HK := Lib.hid (show ∀ w1, Below u0.heap.size u0 w1 → (w1.cell? ⟨N, 0, none⟩ = some (.bool sa) ∧ w1.cell? ⟨N, 1, none⟩ = some (.slice qa na ca)) ∧ (w1.cell? ⟨N + 1, 0, none⟩ = some (.bool sb) ∧ w1.cell? ⟨N + 1, 1, none⟩ = some (.slice qb nb cb)) ∧ (w1.cell? ⟨N + 1 + 1, 0, none⟩ = some (.bool sc) ∧ w1.cell? ⟨N + 1 + 1, 1, none⟩ = some (.slice qc nc cc)) from
    fun w1 h => ⟨Blk2 (B0.kept h), Blk2 (B1.kept h), Blk2 (B2.kept h)⟩)
  obtain ⟨⟨a0, a1⟩, ⟨b0, b1⟩, c0, c1⟩ := HK.out _ (Below.refl _ _)
  clear B0 B1 B2
  have F1 := Lib.hid (fun W => few_any sa qa na ca W)
  have F2 := Lib.hid (fun W => few_any sb qb nb cb W)
  have F3 := Lib.hid (fun W => few_any sc qc nc cc W)
  rw [decide_eq_true la] at F1
  rw [decide_eq_true lb] at F2
  rw [decide_eq_false lc] at F3
  have hq : Below u0.heap.size u0 u0 := Below.refl _ _
  clear la lb lc
  go_wp2_with fail
  refine (F1.out u0).mono ?_
  rintro e u1 ⟨rfl, hx⟩
  have HB2 : Hid (Below w.heap.size w u1) := Lib.hid (HB1.out.trans (hx.mono HB1.out.size))
  have hq2 : Below u0.heap.size u0 u1 := hq.trans (hx.mono hq.size)
  clear hq hx HB1 a0 a1 b0 b1 c0 c1
  have hq := hq2
  have HB1 := HB2
  clear hq2 HB2
  obtain ⟨⟨a0, a1⟩, ⟨b0, b1⟩, c0, c1⟩ := HK.out _ hq
  go_wp2_with fail
  refine (F2.out u1).mono ?_
  rintro e u2 ⟨rfl, hx⟩
  have HB2 : Hid (Below w.heap.size w u2) := Lib.hid (HB1.out.trans (hx.mono HB1.out.size))
  have hq2 : Below u0.heap.size u0 u2 := hq.trans (hx.mono hq.size)
  clear hq hx HB1 a0 a1 b0 b1 c0 c1
  have hq := hq2
  have HB1 := HB2
  clear hq2 HB2
  obtain ⟨⟨a0, a1⟩, ⟨b0, b1⟩, c0, c1⟩ := HK.out _ hq
  go_wp2_with fail
  refine (F3.out u2).mono ?_
  rintro e u3 ⟨rfl, hx⟩
  have HB2 : Hid (Below w.heap.size w u3) := Lib.hid (HB1.out.trans (hx.mono HB1.out.size))
  have hq2 : Below u0.heap.size u0 u3 := hq.trans (hx.mono hq.size)
  clear hq hx HB1 a0 a1 b0 b1 c0 c1
  have hq := hq2
  have HB1 := HB2
  clear hq2 HB2
  obtain ⟨⟨a0, a1⟩, ⟨b0, b1⟩, c0, c1⟩ := HK.out _ hq
  go_wp2_with fail
  refine (awake_any u3).mono ?_
  rintro e u9 ⟨rfl, hx⟩
  have HB2 : Below w.heap.size w u9 := HB1.out.trans (hx.mono HB1.out.size)
  clear hq hx HB1
  go_wp2_with fail
  go_ret
  exact ⟨rfl, HB2⟩
end Go.Proofs.Yteoafijokeoaoaa
