/-
  integer.shorten divides limbs by one limb, in place.
-/
import Derived.Test.YteggfjahjanabaaSum
namespace PB
open Go Go.RowKit
/-- Only cells lo to hi - 1 of block b have changed. -/
structure Wr (w w' : World) (b lo hi : Nat) : Prop where
  os : w'.os = w.os
  tape : w'.tape = w.tape
  output : w'.output = w.output
  size : w'.heap.size = w.heap.size
  block : ∀ k, k ≠ b → w'.heap[k]? = w.heap[k]?
  cell : ∀ j, j < lo ∨ hi ≤ j → w'.cell? ⟨b, j, none⟩ = w.cell? ⟨b, j, none⟩
  frozen : ∀ a, w'.frozen? a = w.frozen? a
theorem Wr.refl (w : World) (b lo hi : Nat) : Wr w w b lo hi := ⟨rfl, rfl, rfl, rfl, fun _ _ => rfl, fun _ _ => rfl, fun _ => rfl⟩
theorem Wr.trans {w w' w'' : World} {b lo hi : Nat} (h : Wr w w' b lo hi) (k : Wr w' w'' b lo hi) : Wr w w'' b lo hi :=
  ⟨k.os.trans h.os, k.tape.trans h.tape, k.output.trans h.output, k.size.trans h.size, fun i hi => (k.block i hi).trans (h.block i hi), fun j hj => (k.cell j hj).trans (h.cell j hj), fun a => (k.frozen a).trans (h.frozen a)⟩
theorem Wr.mono {w w' : World} {b lo hi lo' hi' : Nat} (h : Wr w w' b lo hi) (h1 : lo' ≤ lo) (h2 : hi ≤ hi') : Wr w w' b lo' hi' :=
  ⟨h.os, h.tape, h.output, h.size, h.block, fun j hj => h.cell j (by omega), h.frozen⟩
theorem Wr.drewN {w w' : World} {b lo hi : Nat} (h : Wr w w' b lo hi) (n : Nat) : Wr w (w'.drewN n) b lo hi := ⟨h.os, h.tape, h.output, h.size, h.block, h.cell, h.frozen⟩
theorem Wr.drew {w w' : World} {b lo hi : Nat} (h : Wr w w' b lo hi) : Wr w w'.drew b lo hi := ⟨h.os, h.tape, h.output, h.size, h.block, h.cell, h.frozen⟩
theorem Wr.undrew {w w' : World} {b lo hi : Nat} (h : Wr w.drew w' b lo hi) : Wr w w' b lo hi := ⟨h.os, h.tape, h.output, h.size, h.block, h.cell, h.frozen⟩
theorem Wr.undrewN {w w' : World} {b lo hi n : Nat} (h : Wr (w.drewN n) w' b lo hi) : Wr w w' b lo hi := ⟨h.os, h.tape, h.output, h.size, h.block, h.cell, h.frozen⟩
theorem wr_setCell (w : World) (b j : Nat) (v : Value) {lo hi : Nat} (h1 : lo ≤ j) (h2 : j < hi) : Wr w (w.setCell ⟨b, j, none⟩ v) b lo hi := by
  refine ⟨rfl, rfl, rfl, by simp [World.setCell], fun k hk => Below.heap_setCell _ _ _ _ hk, fun i hi => ?_, fun a => frozen_setCell _ _ _ _⟩
  unfold World.cell? World.setCell
  simp only [Array.getElem?_modify, if_true]
  cases hb : w.heap[b]? with
  | none => rfl
  | some o =>
    cases o with
    | cells c t fr => simp only [Option.isSome_none, Bool.false_eq_true, if_false, Option.map_some]; rw [Array.getElem?_setIfInBounds, if_neg (by omega)]
    | _ => rfl
theorem Wr.set {w w' : World} {b lo hi : Nat} (h : Wr w w' b lo hi) (j : Nat) (v : Value) (h1 : lo ≤ j) (h2 : j < hi) : Wr w (w'.setCell ⟨b, j, none⟩ v) b lo hi := h.trans (wr_setCell _ _ _ _ h1 h2)
theorem Wr.below {w w' : World} {b lo hi N : Nat} (h : Wr w w' b lo hi) (hN : N ≤ b) : Below N w w' :=
  ⟨h.os, h.tape, h.output, by rw [h.size]; exact Nat.le_refl _, fun k hk => h.block k (by omega)⟩
theorem Wr.free {w w' : World} {b lo hi b' off n : Nat} (h : Wr w w' b lo hi) (k : Free w b' off n) : Free w' b' off n := fun i hi => by rw [h.frozen]; exact k i hi
/-- Limbs elsewhere stay. -/
theorem Wr.num {w w' : World} {b lo hi b' off n X : Nat} (h : Wr w w' b lo hi) (k : Num w b' off n X) (hd : n ≠ 0 → b' ≠ b ∨ off + n ≤ lo ∨ hi ≤ off) : Num w' b' off n X :=
  ⟨k.1, fun i hi => by
    have hk := k.2 i hi
    rcases hd (by omega) with h1 | h1
    · rw [World.cell?_of_block (w := w) (h.block b' h1)]; exact hk
    · by_cases hb : b' = b
      · subst hb; rw [h.cell _ (by omega)]; exact hk
      · rw [World.cell?_of_block (w := w) (h.block b' hb)]; exact hk⟩
theorem Wr.blk {w w' : World} {b lo hi g : Nat} {cs : Array Value} (h : Wr w w' b lo hi) (k : Blk w g cs) (hg : g ≠ b) : Blk w' g cs := by
  obtain ⟨T, k⟩ := k
  exact ⟨T, by rw [h.block g hg]; exact k⟩
/-- One step of a division by one limb, from the top. -/
theorem short_step {X Q d r k : Nat} (h : X / B^(k+1) = Q * d + r) : X / B^k = (Q * B + (r * B + dg X k) / d) * d + (r * B + dg X k) % d := by
  rw [div_succ X k, h, Nat.add_mul, Nat.add_mul, Nat.add_assoc (Q * B * d), Nat.div_add_mod' (r * B + dg X k) d, Nat.mul_right_comm Q d B]
  omega
theorem short_lt {r x d : Nat} (hr : r < d) (hx : x < B) : (r * B + x) / d < B := by
  apply Nat.div_lt_of_lt_mul
  have : (r + 1) * B ≤ d * B := Nat.mul_le_mul_right _ hr
  rw [Nat.add_mul] at this
  omega
theorem short_put {X Q q k : Nat} : put (X % B^(k+1) + Q * B^(k+1)) k q = X % B^k + (Q * B + q) * B^k := by
  unfold put
  have e1 : (X % B^(k+1) + Q * B^(k+1)) / B^(k+1) = Q := by rw [Nat.add_mul_div_right _ _ (Bp _), Nat.div_eq_of_lt (mod_lt_pow _ _), Nat.zero_add]
  have e2 : (X % B^(k+1) + Q * B^(k+1)) % B^k = X % B^k := by
    rw [show Q * B^(k+1) = (Q * B) * B^k by rw [pow_succ, Nat.mul_comm (B^k) B, ← Nat.mul_assoc], Nat.add_mul_mod_self_right]
    exact Nat.mod_mod_of_dvd _ ⟨B, pow_succ k⟩
  rw [e1, e2, Nat.add_mul, pow_succ, Nat.mul_comm (B^k) B, ← Nat.mul_assoc]
  omega
end PB
namespace Go.Proofs.Yteggfjahjanabaa
open Go.RowKit PB

set_option maxHeartbeats 1600000 in
set_option maxRecDepth 100000 in
theorem shorten_any (base : Option Addr) (b off n c X d : Nat) (w : World) (hb : n ≠ 0 → base = some ⟨b, off, none⟩) (hX : Num w b off n X) (hF : Free w b off n) (hd : 0 < d) (hdB : d < B) (hc : n ≤ 1099511627776) :
    Calls Try.prog 74 #[.slice base n c, .int .u32 d] w fun e w' => e = .returned (.int .u32 (X % d : Nat)) ∧ Num w' b off n (X / d) ∧ Wr w w' b off (off + n) := by
  have HB := Lib.hid hb
  clear hb
  go_enter Try.func74, Try.ntmps74
  go_wp2_with fail
  go_loopw [5, 6] (fun v i wr => ∃ k Q r : Nat, k ≤ n ∧ r < d ∧ v = .int .u32 r ∧ i = .int .i64 ((k : Int) - 1) ∧ Hid (X / B^k = Q * d + r) ∧ Num wr b off n (X % B^k + Q * B^k) ∧ Wr w wr b off (off + n)) (fun _ i _ => (intOf i + 1).toNat)
  case atStart => exact ⟨n, 0, 0, by omega, hd, rfl, rfl, Lib.hid (by rw [Nat.div_eq_of_lt hX.lt]; omega), hX.val (by rw [mod_of_lt hX.lt]; omega), Wr.refl _ _ _ _⟩
  case round =>
    obtain ⟨k, Q, r, hk, hr, rfl, rfl, hE, hN, hw⟩ := hrel
    by_cases h0 : k = 0
    · subst h0
      have hz : decide ((0 : Int) ≤ ((0 : Nat) : Int) - 1) = false := by decide
      go_wp2_with fail
      go_ret
      have h1 : X = Q * d + r := by have := hE.out; simpa using this
      have h2 : X % d = r := by rw [h1, Nat.mul_add_mod_self_right]; exact Nat.mod_eq_of_lt hr
      have h3 : X / d = Q := by rw [h1, Nat.mul_comm, Nat.mul_add_div hd, Nat.div_eq_of_lt hr, Nat.add_zero]
      rw [h2, h3]
      exact ⟨rfl, hN.val (by simp [Nat.mod_one]), hw⟩
    · obtain ⟨j, rfl⟩ : ∃ j, k = j + 1 := ⟨k - 1, by omega⟩
      obtain rfl := HB.out (by omega)
      have e1 : (((j + 1 : Nat) : Int) - 1) = j := by omega
      rw [e1]
      clear e1
      have c1 := hN.cell (i := j) (by omega)
      have hdg : dg (X % B^(j+1) + Q * B^(j+1)) j = dg X j := by rw [dg_add_lo (by omega), dg_mod (by omega)]
      rw [hdg] at c1
      have f1 := (hw.free hF).at (i := j) (by omega)
      have hx := dg_lt X j
      have i1 : (j : Int) < n := by omega
      have i2 : (0 : Int) ≤ j := by omega
      clear hdg
      go_wp2_with (go_at_call 93; refine (div32_any _ _ _ _ hr hx hdB).mono ?_; rintro e w' ⟨rfl, n1, rfl⟩)
      go_roundw
      case rel =>
        refine ⟨j, Q * B + (r * B + dg X j) / d, (r * B + dg X j) % d, by omega, Nat.mod_lt _ hd, rfl, rfl, Lib.hid (short_step hE.out), ?_, ?_⟩
        · rw [← short_put]
          first | exact (hN.set (by omega) (short_lt hr hx)).drewN | exact hN.set (by omega) (short_lt hr hx)
        · first | exact (hw.set _ _ (by omega) (by omega)).drewN _ | exact hw.set _ _ (by omega) (by omega)
      case measure => simp [intOf]
end Go.Proofs.Yteggfjahjanabaa
