/-
  integer.shorten divides limbs by one limb, in place.
  integer.divide: the quotient and the remainder of limbs.
-/
import Derived.Test.YtkokokgmhpkoiaaM09
namespace PB
open Go Go.RowKit
/-- Only cells lo to hi - 1 of block b have changed. -/
structure Wr (w w' : World) (b lo hi : Nat) : Prop where
  os : w'.os = w.os
  tape : w'.tape = w.tape
  output : w'.output = w.output
  size : w'.heap.size = w.heap.size
  block : ∀ k, k ≠ b → w'.heap[k]? = w.heap[k]?
  cell : ∀ j, j < lo ∨ hi ≤ j → w'.cell? ⟨b, j, none⟩ = w.cell? ⟨b, j, none⟩
  frozen : ∀ a, w'.frozen? a = w.frozen? a
theorem Wr.refl (w : World) (b lo hi : Nat) : Wr w w b lo hi := ⟨rfl, rfl, rfl, rfl, fun _ _ => rfl, fun _ _ => rfl, fun _ => rfl⟩
theorem Wr.trans {w w' w'' : World} {b lo hi : Nat} (h : Wr w w' b lo hi) (k : Wr w' w'' b lo hi) : Wr w w'' b lo hi :=
  ⟨k.os.trans h.os, k.tape.trans h.tape, k.output.trans h.output, k.size.trans h.size, fun i hi => (k.block i hi).trans (h.block i hi), fun j hj => (k.cell j hj).trans (h.cell j hj), fun a => (k.frozen a).trans (h.frozen a)⟩
theorem Wr.mono {w w' : World} {b lo hi lo' hi' : Nat} (h : Wr w w' b lo hi) (h1 : lo' ≤ lo) (h2 : hi ≤ hi') : Wr w w' b lo' hi' :=
  ⟨h.os, h.tape, h.output, h.size, h.block, fun j hj => h.cell j (by omega), h.frozen⟩
theorem Wr.drewN {w w' : World} {b lo hi : Nat} (h : Wr w w' b lo hi) (n : Nat) : Wr w (w'.drewN n) b lo hi := ⟨h.os, h.tape, h.output, h.size, h.block, h.cell, h.frozen⟩
theorem Wr.drew {w w' : World} {b lo hi : Nat} (h : Wr w w' b lo hi) : Wr w w'.drew b lo hi := ⟨h.os, h.tape, h.output, h.size, h.block, h.cell, h.frozen⟩
theorem Wr.undrew {w w' : World} {b lo hi : Nat} (h : Wr w.drew w' b lo hi) : Wr w w' b lo hi := ⟨h.os, h.tape, h.output, h.size, h.block, h.cell, h.frozen⟩
theorem Wr.undrewN {w w' : World} {b lo hi n : Nat} (h : Wr (w.drewN n) w' b lo hi) : Wr w w' b lo hi := ⟨h.os, h.tape, h.output, h.size, h.block, h.cell, h.frozen⟩
theorem wr_setCell (w : World) (b j : Nat) (v : Value) {lo hi : Nat} (h1 : lo ≤ j) (h2 : j < hi) : Wr w (w.setCell ⟨b, j, none⟩ v) b lo hi := by
  refine ⟨rfl, rfl, rfl, by simp [World.setCell], fun k hk => Below.heap_setCell _ _ _ _ hk, fun i hi => ?_, fun a => frozen_setCell _ _ _ _⟩
  unfold World.cell? World.setCell
  simp only [Array.getElem?_modify, if_true]
  cases hb : w.heap[b]? with
  | none => rfl
  | some o =>
    cases o with
    | cells c t fr => simp only [Option.isSome_none, Bool.false_eq_true, if_false, Option.map_some]; rw [Array.getElem?_setIfInBounds, if_neg (by omega)]
    | _ => rfl
theorem Wr.set {w w' : World} {b lo hi : Nat} (h : Wr w w' b lo hi) (j : Nat) (v : Value) (h1 : lo ≤ j) (h2 : j < hi) : Wr w (w'.setCell ⟨b, j, none⟩ v) b lo hi := h.trans (wr_setCell _ _ _ _ h1 h2)
theorem Wr.below {w w' : World} {b lo hi N : Nat} (h : Wr w w' b lo hi) (hN : N ≤ b) : Below N w w' :=
  ⟨h.os, h.tape, h.output, by rw [h.size]; exact Nat.le_refl _, fun k hk => h.block k (by omega)⟩
theorem Wr.free {w w' : World} {b lo hi b' off n : Nat} (h : Wr w w' b lo hi) (k : Free w b' off n) : Free w' b' off n := fun i hi => by rw [h.frozen]; exact k i hi
/-- Limbs elsewhere stay. -/
theorem Wr.num {w w' : World} {b lo hi b' off n X : Nat} (h : Wr w w' b lo hi) (k : Num w b' off n X) (hd : n ≠ 0 → b' ≠ b ∨ off + n ≤ lo ∨ hi ≤ off) : Num w' b' off n X :=
  ⟨k.1, fun i hi => by
    have hk := k.2 i hi
    rcases hd (by omega) with h1 | h1
    · rw [World.cell?_of_block (w := w) (h.block b' h1)]; exact hk
    · by_cases hb : b' = b
      · subst hb; rw [h.cell _ (by omega)]; exact hk
      · rw [World.cell?_of_block (w := w) (h.block b' hb)]; exact hk⟩
theorem Wr.blk {w w' : World} {b lo hi g : Nat} {cs : Array Value} (h : Wr w w' b lo hi) (k : Blk w g cs) (hg : g ≠ b) : Blk w' g cs := by
  obtain ⟨T, k⟩ := k
  exact ⟨T, by rw [h.block g hg]; exact k⟩
/-- One step of a division by one limb, from the top. -/
theorem short_step {X Q d r k : Nat} (h : X / B^(k+1) = Q * d + r) : X / B^k = (Q * B + (r * B + dg X k) / d) * d + (r * B + dg X k) % d := by
  rw [div_succ X k, h, Nat.add_mul, Nat.add_mul, Nat.add_assoc (Q * B * d), Nat.div_add_mod' (r * B + dg X k) d, Nat.mul_right_comm Q d B]
  omega
theorem short_lt {r x d : Nat} (hr : r < d) (hx : x < B) : (r * B + x) / d < B := by
  apply Nat.div_lt_of_lt_mul
  have : (r + 1) * B ≤ d * B := Nat.mul_le_mul_right _ hr
  rw [Nat.add_mul] at this
  omega
theorem short_put {X Q q k : Nat} : put (X % B^(k+1) + Q * B^(k+1)) k q = X % B^k + (Q * B + q) * B^k := by
  unfold put
  have e1 : (X % B^(k+1) + Q * B^(k+1)) / B^(k+1) = Q := by rw [Nat.add_mul_div_right _ _ (Bp _), Nat.div_eq_of_lt (mod_lt_pow _ _), Nat.zero_add]
  have e2 : (X % B^(k+1) + Q * B^(k+1)) % B^k = X % B^k := by
    rw [show Q * B^(k+1) = (Q * B) * B^k by rw [pow_succ, Nat.mul_comm (B^k) B, ← Nat.mul_assoc], Nat.add_mul_mod_self_right]
    exact Nat.mod_mod_of_dvd _ ⟨B, pow_succ k⟩
  rw [e1, e2, Nat.add_mul, pow_succ, Nat.mul_comm (B^k) B, ← Nat.mul_assoc]
  omega
end PB
namespace Go.Proofs.Ytkokokgmhpkoiaa
open Go.RowKit PB

set_option maxHeartbeats 1600000 in
set_option maxRecDepth 100000 in
theorem shorten_any (base : Option Addr) (b off n c X d : Nat) (w : World) (hb : n ≠ 0 → base = some ⟨b, off, none⟩) (hX : Num w b off n X) (hF : Free w b off n) (hd : 0 < d) (hdB : d < B) (hc : n ≤ 1099511627776) :
    Calls Try.prog 115 #[.slice base n c, .int .u32 d] w fun e w' => e = .returned (.int .u32 (X % d : Nat)) ∧ Num w' b off n (X / d) ∧ Wr w w' b off (off + n) := by
  have HB := Lib.hid hb
  clear hb
  go_enter Try.func115, Try.ntmps115
  go_wp2_with fail
  go_loopw [5, 6] (fun v i wr => ∃ k Q r : Nat, k ≤ n ∧ r < d ∧ v = .int .u32 r ∧ i = .int .i64 ((k : Int) - 1) ∧ Hid (X / B^k = Q * d + r) ∧ Num wr b off n (X % B^k + Q * B^k) ∧ Wr w wr b off (off + n)) (fun _ i _ => (intOf i + 1).toNat)
  case atStart => exact ⟨n, 0, 0, by omega, hd, rfl, rfl, Lib.hid (by rw [Nat.div_eq_of_lt hX.lt]; omega), hX.val (by rw [mod_of_lt hX.lt]; omega), Wr.refl _ _ _ _⟩
  case round =>
    obtain ⟨k, Q, r, hk, hr, rfl, rfl, hE, hN, hw⟩ := hrel
    by_cases h0 : k = 0
    · subst h0
      have hz : decide ((0 : Int) ≤ ((0 : Nat) : Int) - 1) = false := by decide
      go_wp2_with fail
      go_ret
      have h1 : X = Q * d + r := by have := hE.out; simpa using this
      have h2 : X % d = r := by rw [h1, Nat.mul_add_mod_self_right]; exact Nat.mod_eq_of_lt hr
      have h3 : X / d = Q := by rw [h1, Nat.mul_comm, Nat.mul_add_div hd, Nat.div_eq_of_lt hr, Nat.add_zero]
      rw [h2, h3]
      exact ⟨rfl, hN.val (by simp [Nat.mod_one]), hw⟩
    · obtain ⟨j, rfl⟩ : ∃ j, k = j + 1 := ⟨k - 1, by omega⟩
      obtain rfl := HB.out (by omega)
      have e1 : (((j + 1 : Nat) : Int) - 1) = j := by omega
      rw [e1]
      clear e1
      have c1 := hN.cell (i := j) (by omega)
      have hdg : dg (X % B^(j+1) + Q * B^(j+1)) j = dg X j := by rw [dg_add_lo (by omega), dg_mod (by omega)]
      rw [hdg] at c1
      have f1 := (hw.free hF).at (i := j) (by omega)
      have hx := dg_lt X j
      have i1 : (j : Int) < n := by omega
      have i2 : (0 : Int) ≤ j := by omega
      clear hdg
      go_wp2_with (go_at_call 136; refine (div32_any _ _ _ _ hr hx hdB).mono ?_; rintro e w' ⟨rfl, n1, rfl⟩)
      go_roundw
      case rel =>
        refine ⟨j, Q * B + (r * B + dg X j) / d, (r * B + dg X j) % d, by omega, Nat.mod_lt _ hd, rfl, rfl, Lib.hid (short_step hE.out), ?_, ?_⟩
        · rw [← short_put]
          first | exact (hN.set (by omega) (short_lt hr hx)).drewN | exact hN.set (by omega) (short_lt hr hx)
        · first | exact (hw.set _ _ (by omega) (by omega)).drewN _ | exact hw.set _ _ (by omega) (by omega)
      case measure => simp [intOf]
end Go.Proofs.Ytkokokgmhpkoiaa

namespace PB
open Go Go.RowKit
/-- v is a slice of limbs that hold X, at most lim of them, in a block from N on. -/
def SlN (N : Nat) (w : World) (v : Value) (X lim : Nat) : Prop :=
  ∃ (base : Option Addr) (b off n c : Nat), v = .slice base n c ∧ (n ≠ 0 → base = some ⟨b, off, none⟩) ∧ Num w b off n X ∧ n ≤ c ∧ n ≤ lim ∧ (n ≠ 0 → N ≤ b)
theorem SlN.kept {N : Nat} {w w' : World} {v : Value} {X lim : Nat} (h : SlN N w v X lim) (hb : Below w.heap.size w w') : SlN N w' v X lim := by
  obtain ⟨base, b, off, n, c, h1, h2, h3, h4, h5, h6⟩ := h
  exact ⟨base, b, off, n, c, h1, h2, h3.kept hb, h4, h5, h6⟩
theorem sln_nil (N : Nat) (w : World) (lim : Nat) : SlN N w (.slice none 0 0) 0 lim :=
  ⟨none, 0, 0, 0, 0, rfl, fun h => absurd rfl h, ⟨Bp 0, fun i hi => by omega⟩, Nat.le_refl _, Nat.zero_le _, fun h => absurd rfl h⟩
/-- .. that may be written. -/
def SlW (N : Nat) (w : World) (v : Value) (X lim : Nat) : Prop :=
  ∃ (base : Option Addr) (b off n c : Nat), v = .slice base n c ∧ (n ≠ 0 → base = some ⟨b, off, none⟩) ∧ Num w b off n X ∧ n ≤ c ∧ n ≤ lim ∧ (n ≠ 0 → N ≤ b) ∧ Free w b off n
/-- What divide returns. -/
def RetDiv (w : World) (X Y : Nat) (e : Ending) (w' : World) : Prop :=
  ∃ vq vr, e = .returned (.tuple #[vq, vr]) ∧ SlN w.heap.size w' vq (X / Y) (nl X + 1) ∧ SlW w.heap.size w' vr (X % Y) (nl X + 1) ∧ Below w.heap.size w w'
end PB
namespace Go.Proofs.Ytkokokgmhpkoiaa
open Go.RowKit PB

set_option maxHeartbeats 1600000 in
set_option maxRecDepth 100000 in
theorem divide_lt (basex basey : Option Addr) (bx ox X cx by_ oy Y cy : Nat) (w : World) (hbx : nl X ≠ 0 → basex = some ⟨bx, ox, none⟩) (hby : nl Y ≠ 0 → basey = some ⟨by_, oy, none⟩)
    (hX : Num w bx ox (nl X) X) (hY : Num w by_ oy (nl Y) Y) (hc : nl X ≤ 1000000000) (hc' : nl Y ≤ 1000000000) (hcx : nl X ≤ cx) (hlt : X < Y) :
    Calls Try.prog 76 #[.slice basex (nl X) cx, .slice basey (nl Y) cy] w (RetDiv w X Y) := by
  have hcm : cmpi (X : Int) Y < 0 := by unfold cmpi; rw [if_pos (by omega)]; decide
  go_enter Try.func76, Try.ntmps76
  go_wp2_with (go_at_call 93; refine (order_any basex basey bx ox X _ by_ oy Y _ _ hbx hby hX hY (by omega) (by omega)).mono ?_; rintro e w' ⟨rfl, n1, rfl⟩)
  refine (duplicate_any basex bx ox (nl X) cx X _ hbx hX.drewN hcx (by omega)).mono ?_
  rintro e w1 ⟨rfl, hF⟩
  go_wp2_with fail
  go_ret2
  have hb := below_undrewN hF.below
  refine ⟨_, _, rfl, ?_, ?_, hb⟩
  · rw [Nat.div_eq_of_lt hlt]; exact sln_nil _ _ _
  · rw [Nat.mod_eq_of_lt hlt]; exact ⟨_, _, 0, nl X, nl X, rfl, fun _ => rfl, hF.num, Nat.le_refl _, Nat.le_succ _, fun _ => Nat.le_refl _, hF.free⟩

set_option maxHeartbeats 1600000 in
set_option maxRecDepth 100000 in
/-- By one limb. -/
theorem divide_one (basex : Option Addr) (bx ox X cx by_ oy Y cy : Nat) (w : World) (hbx : nl X ≠ 0 → basex = some ⟨bx, ox, none⟩)
    (hX : Num w bx ox (nl X) X) (hY : Num w by_ oy (nl Y) Y) (hc : nl X ≤ 1000000000) (hY1 : nl Y = 1) (hlt : Y ≤ X) :
    Calls Try.prog 76 #[.slice basex (nl X) cx, .slice (some ⟨by_, oy, none⟩) (nl Y) cy] w (RetDiv w X Y) := by
  have hcm : ¬ cmpi (X : Int) Y < 0 := by unfold cmpi; rw [if_neg (by omega)]; split <;> decide
  have hYB : Y < B := by have := lt_nl Y; rw [hY1, Nat.pow_one] at this; exact this
  have hY0 : 0 < Y := by
    apply Nat.pos_of_ne_zero
    rintro rfl
    rw [nl_zero] at hY1; omega
  have hX0 : ¬ nl X = 0 := by
    intro e
    have := nl_eq_zero.1 e
    omega
  obtain rfl := hbx hX0
  clear hbx
  have kY : w.cell? ⟨by_, oy, none⟩ = some (.int .u32 Y) := by
    have := hY.cell (i := 0) (by omega)
    rwa [Nat.add_zero, show dg Y 0 = Y by unfold dg; rw [Nat.pow_zero, Nat.div_one, Nat.mod_eq_of_lt hYB]] at this
  have hbY := hY.block_lt (by omega)
  rw [hY1]
  have ORD := Lib.hid (fun cx cy => order_any (some ⟨bx, ox, none⟩) (some ⟨by_, oy, none⟩) bx ox X cx by_ oy Y cy w (fun _ => rfl) (fun _ => rfl) hX hY (by omega) (by omega))
  rw [hY1] at ORD
  have HXlt := Lib.hid (lt_nl X)
  clear hY1 hY
  go_enter Try.func76, Try.ntmps76
  go_wp2_with (first | (go_at_call 93; refine (ORD.out _ _).mono ?_; rintro e w' ⟨rfl, n1, rfl⟩) | (at_make; refine wpList_make_num _ rfl _ _ 22 rfl 77 info51 Try.underlying22 .i64 .i64 _ _ (nl X + 1) rfl rfl (by omega) (by omega) (by omega) ?_))
  intro w1 hb1 hz1 hS1 hF1 hR1
  have hbb1 : Below w.heap.size w w1 := below_undrewN hb1
  have HZ := Lib.hid hz1
  clear hz1
  go_wp2_with (with_reducible (show wpList _ _ _ (⟨some 29, _, _, _, _, _⟩ :: _) _ _); refine wpList_copy_num rfl (.tmp 27) (.tmp 28) 22 22 rfl 77 Try.underlying22 size51 _ _ _ _ _ _ rfl rfl w.heap.size 1 (nl X + 1) bx ox X (nl X) (by omega) hR1 hS1 (hX.kept hbb1) (fun _ => rfl) (fun _ => rfl) (by omega) w.heap.size w hbb1 (Nat.le_refl _) ?_)
  intro w2 hb2 hlt2 hS2 hF2
  rw [mod_of_lt HXlt.out] at hS2
  have hq2 : Num w2 w.heap.size 1 (nl X) X := by
    have := (hS2.high (k := 1) (by omega)).val (show X * B / B^1 = X by rw [Nat.pow_one]; exact Nat.mul_div_cancel _ B_pos)
    rwa [Nat.zero_add, Nat.add_sub_cancel] at this
  have hf2 : Free w2 w.heap.size 1 (nl X) := by have := hF2.part (k := 1) (m := nl X) (by omega); rwa [Nat.zero_add] at this
  have k0 : w2.cell? ⟨w.heap.size, 0, none⟩ = some (.int .u32 (0 : Nat)) := by
    have := hS2.cell0 (i := 0) (by omega)
    rwa [show dg (X * B) 0 = 0 by unfold dg; rw [Nat.pow_zero, Nat.div_one, Nat.mul_mod_left]] at this
  have g0 : w2.frozen? ⟨w.heap.size, 0, none⟩ = false := hF2.at0 (by omega)
  have kY2 : w2.cell? ⟨by_, oy, none⟩ = some (.int .u32 Y) := by rw [hb2.cell (p := ⟨by_, oy, none⟩) hbY]; exact kY
  have FR0 := Lib.hid (show Free w2 w.heap.size 0 1 by have := hF2.part (k := 0) (m := 1) (by omega); rwa [Nat.zero_add] at this)
  clear hb1 hbb1 hS1 hF1 hR1 HZ hX kY hS2 hF2
  have i1 : (0 : Int) < nl X + 1 := by omega
  have hcap : ¬ (nl X + 1 = 1) := by omega
  have j1 : (1 : Int) ≤ nl X + 1 := by omega
  have K0 := Lib.hid k0
  have G0 := Lib.hid g0
  clear k0 g0
  go_wp2_with fail
  go_region_held3 (fun w' => w'.cell? ⟨by_, oy, none⟩ = some (.int .u32 Y))
    (first | exact kY2 | exact kY3 | exact cell_other kY3 (Nat.ne_of_lt hbY))
    (first
      | (go_at_call 115; refine (shorten_any _ w.heap.size 1 (nl X) _ X Y _ (fun _ => rfl) (by exact hq2) (by exact hf2) hY0 hYB (by omega)).mono ?_; rintro e w3 ⟨rfl, hq3, hw3⟩
         have hw3' : Wr w2 w3 w.heap.size 1 (1 + nl X) := (by first | exact hw3 | exact hw3.undrew)
         have kY3 : w3.cell? ⟨by_, oy, none⟩ = some (.int .u32 Y) := (by rw [World.cell?_of_block (w := w2) (hw3'.block by_ (Nat.ne_of_lt hbY))]; exact kY2)
         have k0 : w3.cell? ⟨w.heap.size, 0, none⟩ = some (.int .u32 (0 : Nat)) := (hw3'.cell 0 (by omega)).trans K0.out
         have g0 : w3.frozen? ⟨w.heap.size, 0, none⟩ = false := (hw3'.frozen _).trans G0.out))
  have hmod : X % Y < B := Nat.lt_trans (Nat.mod_lt _ hY0) hYB
  have hb3 : Below w.heap.size w (w3.setCell ⟨w.heap.size, 0, none⟩ (.int .u32 (X % Y : Nat))) := (hb2.trans (hw3'.below (Nat.le_refl _))).setCell (Nat.le_refl _) _
  have hq4 : Num (w3.setCell ⟨w.heap.size, 0, none⟩ (.int .u32 (X % Y : Nat))) w.heap.size 1 (nl X) (X / Y) := (wr_setCell w3 w.heap.size 0 _ (Nat.le_refl 0) (Nat.lt_succ_self 0)).num hq3 (fun _ => Or.inr (Or.inr (by omega)))
  have hr4 : Num (w3.setCell ⟨w.heap.size, 0, none⟩ (.int .u32 (X % Y : Nat))) w.heap.size 0 1 (X % Y) := by
    refine ⟨by rw [Nat.pow_one]; exact hmod, fun i hi => ?_⟩
    obtain rfl : i = 0 := by omega
    have h0 : Num w3 w.heap.size 0 1 0 := ⟨Bp 1, fun i hi => by obtain rfl : i = 0 := (by omega); rw [dg_zero]; exact k0⟩
    have := (h0.set0 (k := 0) (by omega) hmod).cell0 (i := 0) (by omega)
    rw [dg_put_same hmod] at this
    rw [show dg (X % Y) 0 = X % Y by unfold dg; rw [Nat.pow_zero, Nat.div_one, Nat.mod_eq_of_lt hmod]]
    exact this
  have hr5 : Free (w3.setCell ⟨w.heap.size, 0, none⟩ (.int .u32 (X % Y : Nat))) w.heap.size 0 1 := (hw3'.free FR0.out).set _ _
  clear hq3 k0 g0 kY3 hw3 hw3' kY2 FR0
  rw [Int.natCast_emod] at hb3 hq4 hr4 hr5
  generalize (w3.setCell ⟨w.heap.size, 0, none⟩ (.int .u32 ((X : Int) % (Y : Int)))) = w4 at *
  go_wp2_with fail
  go_quiet (fail)
  go_wp2_with fail
  go_ret2
  exact ⟨_, _, rfl, ⟨_, _, 1, nl X, nl X, rfl, fun _ => rfl, hq4.drewN, Nat.le_refl _, Nat.le_succ _, fun _ => Nat.le_refl _⟩, ⟨_, _, 0, 1, _, rfl, fun _ => rfl, hr4.drewN, by omega, by omega, fun _ => Nat.le_refl _, hr5⟩, below_drewN hb3 _⟩
end Go.Proofs.Ytkokokgmhpkoiaa
