/-
  integer.Of: the number of an int.
-/
import Derived.Test.YteggfjahjanabaaSum
namespace PB
open Go
theorem of_dg0 (X : Nat) : dg X 0 = X % 4294967296 := by simp [dg, B]
theorem of_dg1 {X : Nat} (h : X < 18446744073709551616) : dg X 1 = X / 4294967296 := by unfold dg B; rw [Nat.pow_one]; omega
end PB
namespace Go.Proofs.Yteggfjahjanabaa
open Go.RowKit PB
set_option maxHeartbeats 1600000 in
set_option maxRecDepth 100000 in
theorem of_nonneg (n : Nat) (w : World) (hn : Hid (n < 9223372036854775808)) :
    Calls Try.prog 30 #[.int .i64 n] w (RetInt w n) := by
  have h0 : ¬ ((n : Int) < 0) := by omega
  go_enter Try.func30, Try.ntmps30
  go_wp2_with fail
  have e0 : IntKind.u64.wrap (n : Int) % 4294967296 = (dg n 0 : Nat) := by
    have := hn.out; rw [of_dg0, IntKind.wrap_u64]; omega
  have e1 : IntKind.u64.wrap (n : Int) / 4294967296 % 4294967296 = (dg n 1 : Nat) := by
    have := hn.out; rw [of_dg1 (by omega), IntKind.wrap_u64]; omega
  rw [e0, e1]
  clear e0 e1
  generalize hW : World.alloc _ _ = W
  have B0 : Blk W w.heap.size #[.bool false, .slice none 0 0] := by rw [← hW]; exact (blk_new rfl).alloc _
  have B1 : Blk W (w.heap.size + 1) #[.int .u32 (dg n 0), .int .u32 (dg n 1)] := by rw [← hW]; exact blk_new (by simp)
  have hbW : Below w.heap.size w W := by rw [← hW]; exact ((Below.refl _ _).alloc (Nat.le_refl _) _).alloc (by simp) _
  have HS := Lib.hid (show W.heap.size = w.heap.size + 2 by rw [← hW]; simp)
  have hN : Num W (w.heap.size + 1) 0 2 n := ⟨by have := hn.out; show n < 18446744073709551616; omega, fun i hi => by
    have : i = 0 ∨ i = 1 := by omega
    rcases this with rfl | rfl
    · exact B1.cell 0 _ rfl
    · exact B1.cell 1 _ rfl⟩
  clear hW B1
  refine (number_any false _ (w.heap.size + 1) 0 2 2 n W (fun _ => rfl) hN (Nat.le_refl _) (by omega)).mono ?_
  rintro e w2 ⟨rfl, hb2⟩
  have hbw2 : Below w.heap.size w w2 := hbW.trans (hb2.mono (by have := HS.out; omega))
  obtain ⟨c0, c1⟩ := Blk2 (B0.kept hb2)
  obtain ⟨f0, f1⟩ := Blk2f (B0.kept hb2)
  have hN2 := hN.kept hb2
  obtain ⟨s', q, m, hv⟩ := intv_form false (some ⟨w.heap.size + 1, 0, none⟩) n
  rw [hv]
  have HV := Lib.hid hv
  clear hv B0
  go_wp2_with fail
  refine bodyPost_ret (v := .agg #[.bool s', .slice q m m]) (by simp [results, Try.results30, go_sem, c0, c1]) rfl ⟨_, rfl, ?_, (hbw2.setCell (Nat.le_refl _) _).setCell (Nat.le_refl _) _⟩
  rw [← HV.out]
  exact can_intv (n := 2) (fun _ => rfl) ((hN2.other _ (fun _ => by show w.heap.size + 1 ≠ w.heap.size; omega)).other _ (fun _ => by show w.heap.size + 1 ≠ w.heap.size; omega)) (by have := nl_le hN2.lt; omega) (fun _ => by omega)
set_option maxHeartbeats 1600000 in
set_option maxRecDepth 100000 in
theorem of_neg (n : Nat) (w : World) (h1 : 0 < n) (hn : Hid (n ≤ 9223372036854775808)) :
    Calls Try.prog 30 #[.int .i64 (-(n : Int))] w (RetInt w (-(n : Int))) := by
  have h0 : -(n : Int) < 0 := by omega
  go_enter Try.func30, Try.ntmps30
  go_wp2_with fail
  have e0 : IntKind.u64.wrap (-IntKind.u64.wrap (-(n : Int))) % 4294967296 = (dg n 0 : Nat) := by
    have := hn.out; rw [of_dg0, IntKind.wrap_u64, IntKind.wrap_u64]; omega
  have e1 : IntKind.u64.wrap (-IntKind.u64.wrap (-(n : Int))) / 4294967296 % 4294967296 = (dg n 1 : Nat) := by
    have := hn.out; rw [of_dg1 (by omega), IntKind.wrap_u64, IntKind.wrap_u64]; omega
  rw [e0, e1]
  clear e0 e1
  generalize hW : World.alloc _ _ = W
  have B0 : Blk W w.heap.size #[.bool false, .slice none 0 0] := by rw [← hW]; exact (blk_new rfl).alloc _
  have B1 : Blk W (w.heap.size + 1) #[.int .u32 (dg n 0), .int .u32 (dg n 1)] := by rw [← hW]; exact blk_new (by simp)
  have hbW : Below w.heap.size w W := by rw [← hW]; exact ((Below.refl _ _).alloc (Nat.le_refl _) _).alloc (by simp) _
  have HS := Lib.hid (show W.heap.size = w.heap.size + 2 by rw [← hW]; simp)
  have hN : Num W (w.heap.size + 1) 0 2 n := ⟨by have := hn.out; show n < 18446744073709551616; omega, fun i hi => by
    have : i = 0 ∨ i = 1 := by omega
    rcases this with rfl | rfl
    · exact B1.cell 0 _ rfl
    · exact B1.cell 1 _ rfl⟩
  clear hW B1
  refine (number_any true _ (w.heap.size + 1) 0 2 2 n W (fun _ => rfl) hN (Nat.le_refl _) (by omega)).mono ?_
  rintro e w2 ⟨rfl, hb2⟩
  have hbw2 : Below w.heap.size w w2 := hbW.trans (hb2.mono (by have := HS.out; omega))
  obtain ⟨c0, c1⟩ := Blk2 (B0.kept hb2)
  obtain ⟨f0, f1⟩ := Blk2f (B0.kept hb2)
  have hN2 := hN.kept hb2
  obtain ⟨s', q, m, hv⟩ := intv_form true (some ⟨w.heap.size + 1, 0, none⟩) n
  rw [hv]
  have HV := Lib.hid hv
  clear hv B0
  go_wp2_with fail
  refine bodyPost_ret (v := .agg #[.bool s', .slice q m m]) (by simp [results, Try.results30, go_sem, c0, c1]) rfl ⟨_, rfl, ?_, (hbw2.setCell (Nat.le_refl _) _).setCell (Nat.le_refl _) _⟩
  rw [← HV.out]
  exact can_intv (n := 2) (fun _ => rfl) ((hN2.other _ (fun _ => by show w.heap.size + 1 ≠ w.heap.size; omega)).other _ (fun _ => by show w.heap.size + 1 ≠ w.heap.size; omega)) (by have := nl_le hN2.lt; omega) (fun _ => by omega)
theorem of_any (n : Int) (w : World) (h1 : -9223372036854775808 ≤ n) (h2 : n ≤ 9223372036854775807) :
    Calls Try.prog 30 #[.int .i64 n] w (RetInt w n) := by
  by_cases h : 0 ≤ n
  · obtain ⟨k, rfl⟩ := Int.eq_ofNat_of_zero_le h
    exact of_nonneg k w (Lib.hid (by omega))
  · obtain ⟨k, hk⟩ := Int.eq_ofNat_of_zero_le (show 0 ≤ -n by omega)
    obtain rfl : n = -(k : Int) := by omega
    exact of_neg k w (by omega) (Lib.hid (by omega))
end Go.Proofs.Yteggfjahjanabaa
