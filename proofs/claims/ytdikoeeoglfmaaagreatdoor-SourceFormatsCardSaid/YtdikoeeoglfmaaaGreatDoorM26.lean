/-
  Numbers of any size and their texts, as the reference has them: cut out of the texts of stage 1 (slice.py).
-/
import Derived.Deep.QuietTactic
import Derived.BigQuiet
import Derived.Deep.RegionHeld3
import Derived.Deep.DeepCutAuto
import Derived.Handy
import Derived.Lib.Strings
import Derived.Lib.Slices
import Derived.Lib.Small
import Derived.Lib.Walk
import Derived.Lib.BitFns
import Derived.Lib.ItoaNum
import Derived.Laws.ResultCell
import Derived.Laws.Rows
import Derived.BigRegion
import Derived.Lib.SmallJoins
import Derived.Deep.LoopGhost
import Derived.WalkSmall
import Derived.Laws.BytesArg
import Derived.WalkLawsBesides
import Derived.WalkSpells
import Derived.Lib.IndexBytes
import Derived.Deep.Upon
import Derived.Laws.Concat
import Derived.Test.YtdikoeeoglfmaaaGreatDoorProg
import Derived.Test.YtdikoeeoglfmaaaGreatDoorChecked
import Derived.Test.YtdikoeeoglfmaaaGreatDoorM03
import Derived.Test.YtdikoeeoglfmaaaGreatDoorM04
namespace Go.Proofs.YtdikoeeoglfmaaaGreatDoor
open Go.RowKit PB

end Go.Proofs.YtdikoeeoglfmaaaGreatDoor

namespace PB
/-- cmp.Compare. -/
def cmpi (x y : Int) : Int := if x < y then -1 else if y < x then 1 else 0
end PB
namespace Go.Proofs.YtdikoeeoglfmaaaGreatDoor
open Go.RowKit PB

end Go.Proofs.YtdikoeeoglfmaaaGreatDoor

namespace Go.Proofs.YtdikoeeoglfmaaaGreatDoor
open Go.RowKit PB

theorem info51 : (Tryz.prog.info? 118).map (fun i => (i.zero, i.size, i.bytes)) = some (some (.int .u32 0), 1, 4) := by kernel_rfl

end Go.Proofs.YtdikoeeoglfmaaaGreatDoor


namespace Go.Proofs.YtdikoeeoglfmaaaGreatDoor
open Go.RowKit PB

end Go.Proofs.YtdikoeeoglfmaaaGreatDoor

namespace Go.Proofs.YtdikoeeoglfmaaaGreatDoor
open Go.RowKit PB

end Go.Proofs.YtdikoeeoglfmaaaGreatDoor

namespace PB
open Go Go.RowKit

/-- The number that a sign and limbs stand for. -/
def sg (s : Bool) (X : Nat) : Int := if s then -(X : Int) else X
/-- v is an api.Int that stands for z. -/
def IsInt (w : World) (v : Value) (z : Int) : Prop :=
  ∃ (s : Bool) (base : Option Addr) (b off n c X : Nat), v = .agg #[.bool s, .slice base n c] ∧ (n ≠ 0 → base = some ⟨b, off, none⟩) ∧ Num w b off n X ∧ n ≤ c ∧ n ≤ 1000000000 ∧ z = sg s X
/-- .. in canonical form, its limbs in a block from N on. -/
def IsCan (N : Nat) (w : World) (v : Value) (z : Int) : Prop :=
  ∃ (s : Bool) (base : Option Addr) (b off X c : Nat), v = .agg #[.bool s, .slice base (nl X) c] ∧ (nl X ≠ 0 → base = some ⟨b, off, none⟩) ∧ Num w b off (nl X) X ∧ nl X ≤ c ∧ nl X ≤ 1000000000 ∧ z = sg s X ∧ (X = 0 → s = false) ∧ (nl X ≠ 0 → N ≤ b)
theorem IsCan.int {N : Nat} {w : World} {v : Value} {z : Int} (h : IsCan N w v z) : IsInt w v z := by
  obtain ⟨s, base, b, off, X, c, h1, h2, h3, h4, h5, h6, _⟩ := h
  exact ⟨s, base, b, off, nl X, c, X, h1, h2, h3, h4, h5, h6⟩
theorem IsInt.kept {w w' : World} {v : Value} {z : Int} (h : IsInt w v z) (hb : Below w.heap.size w w') : IsInt w' v z := by
  obtain ⟨s, base, b, off, n, c, X, h1, h2, h3, h4, h5, h6⟩ := h
  exact ⟨s, base, b, off, n, c, X, h1, h2, h3.kept hb, h4, h5, h6⟩
theorem IsCan.kept {N : Nat} {w w' : World} {v : Value} {z : Int} (h : IsCan N w v z) (hb : Below w.heap.size w w') : IsCan N w' v z := by
  obtain ⟨s, base, b, off, X, c, h1, h2, h3, h4, h5, h6, h7⟩ := h
  exact ⟨s, base, b, off, X, c, h1, h2, h3.kept hb, h4, h5, h6, h7⟩
theorem IsCan.mono {N N' : Nat} {w : World} {v : Value} {z : Int} (h : IsCan N w v z) (hN : N' ≤ N) : IsCan N' w v z := by
  obtain ⟨s, base, b, off, X, c, h1, h2, h3, h4, h5, h6, h7, h8⟩ := h
  exact ⟨s, base, b, off, X, c, h1, h2, h3, h4, h5, h6, h7, fun h => Nat.le_trans hN (h8 h)⟩
/-- A store below the limbs. -/
theorem IsCan.set {N : Nat} {w : World} {v : Value} {z : Int} (h : IsCan N w v z) {p : Addr} (hp : p.block < N) (u : Value) : IsCan N (w.setCell p u) v z := by
  obtain ⟨s, base, b, off, X, c, h1, h2, h3, h4, h5, h6, h7, h8⟩ := h
  exact ⟨s, base, b, off, X, c, h1, h2, h3.other u (fun hn e => by have := h8 hn; omega), h4, h5, h6, h7, h8⟩
theorem sg_natAbs (s : Bool) (X : Nat) : (sg s X).natAbs = X := by unfold sg; cases s <;> simp
/-- The call returns a canonical Int that stands for z; nothing that was there has changed. -/
def RetInt (w : World) (z : Int) (e : Ending) (w' : World) : Prop := ∃ v, e = .returned v ∧ IsCan w.heap.size w' v z ∧ Below w.heap.size w w'
end PB

namespace Go.Proofs.YtdikoeeoglfmaaaGreatDoor
open Go.RowKit PB

end Go.Proofs.YtdikoeeoglfmaaaGreatDoor

namespace Go.Proofs.YtdikoeeoglfmaaaGreatDoor
open Go.RowKit PB


end Go.Proofs.YtdikoeeoglfmaaaGreatDoor

namespace PB
open Go Go.RowKit
/-- Only cells lo to hi - 1 of block b have changed. -/
structure Wr (w w' : World) (b lo hi : Nat) : Prop where
  os : w'.os = w.os
  tape : w'.tape = w.tape
  output : w'.output = w.output
  size : w'.heap.size = w.heap.size
  block : ∀ k, k ≠ b → w'.heap[k]? = w.heap[k]?
  cell : ∀ j, j < lo ∨ hi ≤ j → w'.cell? ⟨b, j, none⟩ = w.cell? ⟨b, j, none⟩
  frozen : ∀ a, w'.frozen? a = w.frozen? a
theorem Wr.refl (w : World) (b lo hi : Nat) : Wr w w b lo hi := ⟨rfl, rfl, rfl, rfl, fun _ _ => rfl, fun _ _ => rfl, fun _ => rfl⟩
theorem Wr.trans {w w' w'' : World} {b lo hi : Nat} (h : Wr w w' b lo hi) (k : Wr w' w'' b lo hi) : Wr w w'' b lo hi :=
  ⟨k.os.trans h.os, k.tape.trans h.tape, k.output.trans h.output, k.size.trans h.size, fun i hi => (k.block i hi).trans (h.block i hi), fun j hj => (k.cell j hj).trans (h.cell j hj), fun a => (k.frozen a).trans (h.frozen a)⟩
theorem Wr.mono {w w' : World} {b lo hi lo' hi' : Nat} (h : Wr w w' b lo hi) (h1 : lo' ≤ lo) (h2 : hi ≤ hi') : Wr w w' b lo' hi' :=
  ⟨h.os, h.tape, h.output, h.size, h.block, fun j hj => h.cell j (by omega), h.frozen⟩
theorem Wr.drewN {w w' : World} {b lo hi : Nat} (h : Wr w w' b lo hi) (n : Nat) : Wr w (w'.drewN n) b lo hi := ⟨h.os, h.tape, h.output, h.size, h.block, h.cell, h.frozen⟩
theorem wr_setCell (w : World) (b j : Nat) (v : Value) {lo hi : Nat} (h1 : lo ≤ j) (h2 : j < hi) : Wr w (w.setCell ⟨b, j, none⟩ v) b lo hi := by
  refine ⟨rfl, rfl, rfl, by simp [World.setCell], fun k hk => Below.heap_setCell _ _ _ _ hk, fun i hi => ?_, fun a => frozen_setCell _ _ _ _⟩
  unfold World.cell? World.setCell
  simp only [Array.getElem?_modify, if_true]
  cases hb : w.heap[b]? with
  | none => rfl
  | some o =>
    cases o with
    | cells c t fr => simp only [Option.isSome_none, Bool.false_eq_true, if_false, Option.map_some]; rw [Array.getElem?_setIfInBounds, if_neg (by omega)]
    | _ => rfl
theorem Wr.set {w w' : World} {b lo hi : Nat} (h : Wr w w' b lo hi) (j : Nat) (v : Value) (h1 : lo ≤ j) (h2 : j < hi) : Wr w (w'.setCell ⟨b, j, none⟩ v) b lo hi := h.trans (wr_setCell _ _ _ _ h1 h2)
theorem Wr.below {w w' : World} {b lo hi N : Nat} (h : Wr w w' b lo hi) (hN : N ≤ b) : Below N w w' :=
  ⟨h.os, h.tape, h.output, by rw [h.size]; exact Nat.le_refl _, fun k hk => h.block k (by omega)⟩
theorem Wr.free {w w' : World} {b lo hi b' off n : Nat} (h : Wr w w' b lo hi) (k : Free w b' off n) : Free w' b' off n := fun i hi => by rw [h.frozen]; exact k i hi
/-- Limbs elsewhere stay. -/
theorem Wr.num {w w' : World} {b lo hi b' off n X : Nat} (h : Wr w w' b lo hi) (k : Num w b' off n X) (hd : n ≠ 0 → b' ≠ b ∨ off + n ≤ lo ∨ hi ≤ off) : Num w' b' off n X :=
  ⟨k.1, fun i hi => by
    have hk := k.2 i hi
    rcases hd (by omega) with h1 | h1
    · rw [World.cell?_of_block (w := w) (h.block b' h1)]; exact hk
    · by_cases hb : b' = b
      · subst hb; rw [h.cell _ (by omega)]; exact hk
      · rw [World.cell?_of_block (w := w) (h.block b' hb)]; exact hk⟩
/-- One step of a division by one limb, from the top. -/
theorem short_step {X Q d r k : Nat} (h : X / B^(k+1) = Q * d + r) : X / B^k = (Q * B + (r * B + dg X k) / d) * d + (r * B + dg X k) % d := by
  rw [div_succ X k, h, Nat.add_mul, Nat.add_mul, Nat.add_assoc (Q * B * d), Nat.div_add_mod' (r * B + dg X k) d, Nat.mul_right_comm Q d B]
  omega
theorem short_lt {r x d : Nat} (hr : r < d) (hx : x < B) : (r * B + x) / d < B := by
  apply Nat.div_lt_of_lt_mul
  have : (r + 1) * B ≤ d * B := Nat.mul_le_mul_right _ hr
  rw [Nat.add_mul] at this
  omega
theorem short_put {X Q q k : Nat} : put (X % B^(k+1) + Q * B^(k+1)) k q = X % B^k + (Q * B + q) * B^k := by
  unfold put
  have e1 : (X % B^(k+1) + Q * B^(k+1)) / B^(k+1) = Q := by rw [Nat.add_mul_div_right _ _ (Bp _), Nat.div_eq_of_lt (mod_lt_pow _ _), Nat.zero_add]
  have e2 : (X % B^(k+1) + Q * B^(k+1)) % B^k = X % B^k := by
    rw [show Q * B^(k+1) = (Q * B) * B^k by rw [pow_succ, Nat.mul_comm (B^k) B, ← Nat.mul_assoc], Nat.add_mul_mod_self_right]
    exact Nat.mod_mod_of_dvd _ ⟨B, pow_succ k⟩
  rw [e1, e2, Nat.add_mul, pow_succ, Nat.mul_comm (B^k) B, ← Nat.mul_assoc]
  omega
end PB
namespace Go.Proofs.YtdikoeeoglfmaaaGreatDoor
open Go.RowKit PB

end Go.Proofs.YtdikoeeoglfmaaaGreatDoor

namespace PB
open Go Go.RowKit
/-- v is a slice of limbs that hold X, at most lim of them, in a block from N on. -/
def SlN (N : Nat) (w : World) (v : Value) (X lim : Nat) : Prop :=
  ∃ (base : Option Addr) (b off n c : Nat), v = .slice base n c ∧ (n ≠ 0 → base = some ⟨b, off, none⟩) ∧ Num w b off n X ∧ n ≤ c ∧ n ≤ lim ∧ (n ≠ 0 → N ≤ b)
theorem SlN.kept {N : Nat} {w w' : World} {v : Value} {X lim : Nat} (h : SlN N w v X lim) (hb : Below w.heap.size w w') : SlN N w' v X lim := by
  obtain ⟨base, b, off, n, c, h1, h2, h3, h4, h5, h6⟩ := h
  exact ⟨base, b, off, n, c, h1, h2, h3.kept hb, h4, h5, h6⟩
end PB
namespace Go.Proofs.YtdikoeeoglfmaaaGreatDoor
open Go.RowKit PB

end Go.Proofs.YtdikoeeoglfmaaaGreatDoor

namespace Go.Proofs.YtdikoeeoglfmaaaGreatDoor
open Go.RowKit PB

end Go.Proofs.YtdikoeeoglfmaaaGreatDoor

namespace Go.Proofs.YtdikoeeoglfmaaaGreatDoor
open Go.RowKit PB

end Go.Proofs.YtdikoeeoglfmaaaGreatDoor

namespace Go.Proofs.YtdikoeeoglfmaaaGreatDoor
open Go.RowKit PB

end Go.Proofs.YtdikoeeoglfmaaaGreatDoor

namespace Go.Proofs.YtdikoeeoglfmaaaGreatDoor
open Go.RowKit PB

end Go.Proofs.YtdikoeeoglfmaaaGreatDoor



namespace Go.Proofs.YtdikoeeoglfmaaaGreatDoor
open Go.RowKit PB

end Go.Proofs.YtdikoeeoglfmaaaGreatDoor

namespace Go.Proofs.YtdikoeeoglfmaaaGreatDoor
open Go.RowKit PB

end Go.Proofs.YtdikoeeoglfmaaaGreatDoor

namespace Go.Proofs.YtdikoeeoglfmaaaGreatDoor
open Go.RowKit PB

end Go.Proofs.YtdikoeeoglfmaaaGreatDoor

namespace Go.Proofs.YtdikoeeoglfmaaaGreatDoor
open Go.RowKit PB

end Go.Proofs.YtdikoeeoglfmaaaGreatDoor

namespace Go.Proofs.YtdikoeeoglfmaaaGreatDoor
open Go.RowKit PB

end Go.Proofs.YtdikoeeoglfmaaaGreatDoor

namespace Go.Proofs.YtdikoeeoglfmaaaGreatDoor
open Go.RowKit PB

end Go.Proofs.YtdikoeeoglfmaaaGreatDoor

namespace PB
open Go Go.RowKit
/-- Block g is a variable that holds an Int for z. -/
def Var (w : World) (g : Nat) (z : Int) : Prop := ∃ (s : Bool) (base : Option Addr) (n c : Nat), Blk w g #[.bool s, .slice base n c] ∧ IsInt w (.agg #[.bool s, .slice base n c]) z
theorem Var.kept {w w' : World} {g : Nat} {z : Int} (h : Var w g z) (hb : Below w.heap.size w w') : Var w' g z := by
  obtain ⟨s, base, n, c, h1, h2⟩ := h
  exact ⟨s, base, n, c, h1.kept hb, h2.kept hb⟩
theorem Var.lt {w : World} {g : Nat} {z : Int} (h : Var w g z) : g < w.heap.size := by
  obtain ⟨s, base, n, c, h1, h2⟩ := h
  exact h1.lt
end PB

namespace Go.Proofs.YtdikoeeoglfmaaaGreatDoor
open Go.RowKit PB

end Go.Proofs.YtdikoeeoglfmaaaGreatDoor

namespace Go.Proofs.YtdikoeeoglfmaaaGreatDoor
open Go.RowKit PB

end Go.Proofs.YtdikoeeoglfmaaaGreatDoor

namespace Go.Proofs.YtdikoeeoglfmaaaGreatDoor
open Go.RowKit PB

end Go.Proofs.YtdikoeeoglfmaaaGreatDoor

namespace Go.Proofs.YtdikoeeoglfmaaaGreatDoor
open Go.RowKit PB

end Go.Proofs.YtdikoeeoglfmaaaGreatDoor

namespace PB
theorem dg0_small {X : Nat} (h : nl X ≤ 1) : dg X 0 = X := by
  have := lt_nl X
  have h2 : X < B := Nat.lt_of_lt_of_le this (by have := pow_le h; rwa [Nat.pow_one] at this)
  unfold dg; rw [Nat.pow_zero, Nat.div_one, Nat.mod_eq_of_lt h2]
theorem small_lt {X : Nat} (h : nl X ≤ 1) : X < B := by
  have := pow_le h; rw [Nat.pow_one] at this
  exact Nat.lt_of_lt_of_le (lt_nl X) this
end PB
namespace Go.Proofs.YtdikoeeoglfmaaaGreatDoor
open Go.RowKit PB

end Go.Proofs.YtdikoeeoglfmaaaGreatDoor

namespace PB
open Go Go.RowKit
/-- The limbs of X as cells. -/
def limbs (X n : Nat) : List Value := (List.range n).map fun i => .int .u32 (dg X i)
theorem limbs_length (X n : Nat) : (limbs X n).length = n := by simp [limbs]
theorem limbs_get {X n i : Nat} (h : i < n) : (limbs X n)[i]? = some (.int .u32 (dg X i)) := by simp [limbs, h]
/-- The slice v owns a row, in a block from N on, of n limbs that hold X. -/
def OwnL (E : TypeId) (N : Nat) (w : World) (v : Value) (n X : Nat) : Prop := X < B^n ∧ w.ownsRow N E 1 v n (limbs X n)
theorem OwnL.nil (E : TypeId) (N : Nat) (w : World) : OwnL E N w (.slice none 0 0) 0 0 := ⟨Bp 0, World.ownsRow_nil w N E 1⟩
theorem OwnL.num {E : TypeId} {N : Nat} {w : World} {g n c X : Nat} (h : OwnL E N w (.slice (some ⟨g, 0, none⟩) n c) n X) : Num w g 0 n X :=
  ⟨h.1, fun i hi => by rw [Nat.zero_add, h.2.cellAt i (by omega), limbs_get hi]⟩
theorem OwnL.free {E : TypeId} {N : Nat} {w : World} {g n c X : Nat} (h : OwnL E N w (.slice (some ⟨g, 0, none⟩) n c) n X) : Free w g 0 n :=
  fun i _ => by rw [Nat.zero_add]; exact h.2.frozenAt i
end PB
namespace Go.Proofs.YtdikoeeoglfmaaaGreatDoor
open Go.RowKit PB

end Go.Proofs.YtdikoeeoglfmaaaGreatDoor

namespace PB
/-- Decimal digit i of X as a character. -/
def dch (X i : Nat) : Nat := X / 10^i % 10 + 48
theorem ten_pos (i : Nat) : 0 < 10^i := Nat.pow_pos (by decide)
theorem dch_lt (X i : Nat) : dch X i < 256 := by unfold dch; omega
theorem digit_in {X a i : Nat} (hi : i < 9) : X / 10^a % 1000000000 / 10^i % 10 = X / 10^(a+i) % 10 := by
  have h1 : (1000000000 : Nat) = 10^i * 10^(9-i) := by rw [← Nat.pow_add, show i + (9 - i) = 9 by omega]
  rw [h1, Nat.mod_mul_right_div_self, Nat.div_div_eq_div_mul, ← Nat.pow_add]
  have h2 : 10 ∣ 10^(9-i) := ⟨10^(8-i), by rw [← Nat.pow_succ', show (8 - i).succ = 9 - i by omega]⟩
  exact Nat.mod_mod_of_dvd _ h2
theorem group_step {X a : Nat} : X / 10^a / 1000000000 = X / 10^(a+9) := by rw [Nat.div_div_eq_div_mul, show (1000000000:Nat) = 10^9 from rfl, ← Nat.pow_add]
/-- The number of decimal digits, from below and above. -/
def IsND (X m : Nat) : Prop := X < 10^m ∧ (m = 0 ∨ dch X (m-1) ≠ 48)
theorem isND_pos {X m : Nat} (h : IsND X m) (hX : X ≠ 0) : 0 < m := by
  apply Nat.pos_of_ne_zero
  rintro rfl
  have := h.1
  rw [Nat.pow_zero] at this
  omega
theorem isND_ge {X m : Nat} (h : IsND X m) (hm : 0 < m) : 10^(m-1) ≤ X := by
  apply Nat.le_of_not_lt
  intro hlt
  rcases h.2 with h2 | h2
  · omega
  · apply h2
    unfold dch
    rw [Nat.div_eq_of_lt hlt]
theorem isND_unique {X m m' : Nat} (h : IsND X m) (h' : IsND X m') : m = m' := by
  rcases Nat.lt_trichotomy m m' with hlt | heq | hlt
  · have h1 := isND_ge h' (by omega)
    have h2 : 10^m ≤ 10^(m'-1) := Nat.pow_le_pow_right (by decide) (by omega)
    have h3 := h.1
    omega
  · exact heq
  · have h1 := isND_ge h (by omega)
    have h2 : 10^m' ≤ 10^(m-1) := Nat.pow_le_pow_right (by decide) (by omega)
    have h3 := h'.1
    omega
/-- The bytes of the text of a number that is not 0. -/
def txt (neg : Bool) (X m : Nat) : List Nat := (((List.range m).map (dch X)) ++ if neg then [45] else []).reverse
end PB

namespace Go.Proofs.YtdikoeeoglfmaaaGreatDoor
open Go.RowKit PB

end Go.Proofs.YtdikoeeoglfmaaaGreatDoor

namespace PB
open Go Go.RowKit
def dcs (X m : Nat) : List Value := (List.range m).map fun i => .int .u8 (dch X i)
/-- The slice v owns the first m characters of X. -/
def OwnT (E : TypeId) (N : Nat) (w : World) (v : Value) (m X : Nat) : Prop := w.ownsRow N E 1 v m (dcs X m)
/-- What is known of a world behind the beginning of Text. -/
structure TextInv (E : TypeId) (N g c : Nat) (w0 wr : World) (v : Value) (m Y X : Nat) : Prop where
  own : OwnT E N wr v m X
  num : Num wr g 0 (nl Y) Y
  free : Free wr g 0 (nl Y)
  below : Below g w0 wr
  cap : nl Y ≤ c
  lt : g < N
  ge : N ≤ wr.heap.size
end PB

namespace PB
/-- Byte k of a text. -/
def byte (s : ByteArray) (k : Nat) : Nat := if h : k < s.size then (s[k]).toNat else 0
end PB
namespace Go.Proofs.YtdikoeeoglfmaaaGreatDoor
open Go.RowKit PB

end Go.Proofs.YtdikoeeoglfmaaaGreatDoor


namespace PB
open Go
theorem of_dg0 (X : Nat) : dg X 0 = X % 4294967296 := by simp [dg, B]
theorem of_dg1 {X : Nat} (h : X < 18446744073709551616) : dg X 1 = X / 4294967296 := by unfold dg B; rw [Nat.pow_one]; omega
end PB

namespace PB
open Go Go.RowKit
theorem nl_small {X : Nat} (h0 : X ≠ 0) (h : X < B) : nl X = 1 := by
  have h1 : nl X ≤ 1 := nl_le (by rw [Nat.pow_one]; exact h)
  have h2 : nl X ≠ 0 := mt nl_eq_zero.1 h0
  omega
end PB
namespace Go.Proofs.YtdikoeeoglfmaaaGreatDoor
open Go.RowKit PB

end Go.Proofs.YtdikoeeoglfmaaaGreatDoor

namespace PB
theorem sg_sign {s : Bool} {X : Nat} (h : X ≠ 0) : (sg s X).sign = if s then -1 else 1 := by
  unfold sg
  cases s
  · simp; omega
  · simp; omega
end PB
namespace Go.Proofs.YtdikoeeoglfmaaaGreatDoor
open Go.RowKit PB

end Go.Proofs.YtdikoeeoglfmaaaGreatDoor

namespace Go.Proofs.YtdikoeeoglfmaaaGreatDoor
open Go.RowKit PB

end Go.Proofs.YtdikoeeoglfmaaaGreatDoor

namespace Go.Proofs.YtdikoeeoglfmaaaGreatDoor
open Go.RowKit PB

end Go.Proofs.YtdikoeeoglfmaaaGreatDoor

namespace PB
open Go Go.RowKit
/-- These variables hold Ints for these numbers. -/
def Vars (w : World) (L : List (Nat × Int)) : Prop := ∀ q ∈ L, Var w q.1 q.2
theorem Vars.kept {w w' : World} {L : List (Nat × Int)} (h : Vars w L) (hb : Below w.heap.size w w') : Vars w' L := fun q hq => (h q hq).kept hb
/-- Fewer than k limbs. -/
def sm (k : Nat) (z : Int) : Prop := z.natAbs < B^k
end PB

namespace Go.Proofs.YtdikoeeoglfmaaaGreatDoor
open Go.RowKit PB

end Go.Proofs.YtdikoeeoglfmaaaGreatDoor

namespace Go.Proofs.YtdikoeeoglfmaaaGreatDoor
open Go.RowKit PB

end Go.Proofs.YtdikoeeoglfmaaaGreatDoor

namespace Go.Proofs.YtdikoeeoglfmaaaGreatDoor
open Go.RowKit PB

end Go.Proofs.YtdikoeeoglfmaaaGreatDoor

namespace PB
open Go Go.RowKit
theorem bs_alloc {w w' : World} (h : Below w.heap.size w w') (o : Obj) : Below w.heap.size w (w'.alloc o) := h.alloc h.size o
theorem bs_set {w w' : World} {g j : Nat} (h : Below w.heap.size w w') (hg : w.heap.size ≤ g) (v : Value) : Below w.heap.size w (w'.setCell ⟨g, j, none⟩ v) := h.setCell hg v
theorem bs_trans {a b c : World} (h : Below a.heap.size a b) (k : Below b.heap.size b c) : Below a.heap.size a c := h.trans (k.mono h.size)
theorem can_agg {N : Nat} {w : World} {v : Value} {z : Int} (h : IsCan N w v z) : ∃ (s : Bool) (q : Option Addr) (c : Nat), v = .agg #[.bool s, .slice q (nl z.natAbs) c] := by
  obtain ⟨s, base, b, off, X, c, rfl, _, _, _, _, rfl, _⟩ := h
  exact ⟨s, base, c, by rw [sg_natAbs]⟩
end PB
namespace Go.Proofs.YtdikoeeoglfmaaaGreatDoor
open Go.RowKit PB
variable {k : Nat} {neg : Bool} {v1 v2 : Value}
end Go.Proofs.YtdikoeeoglfmaaaGreatDoor

namespace PB
open Go Go.RowKit
/-- A row that is owned, as a slice. -/
theorem own_slice {E : TypeId} {N n X : Nat} {w : World} {v : Value} (h : OwnL E N w v n X) :
    ∃ (base : Option Addr) (g c : Nat), v = .slice base n c ∧ (n ≠ 0 → base = some ⟨g, 0, none⟩) ∧ n ≤ c ∧ Num w g 0 n X ∧ Free w g 0 n ∧ (n ≠ 0 → N ≤ g) := by
  have h' := h
  obtain ⟨hX, h1, h2⟩ := h
  rcases h2 with ⟨rfl, rfl⟩ | ⟨g, cap, cur, rfl, hg, hh, hw, hcap, hsz, htake⟩
  · exact ⟨none, 0, 0, rfl, fun h => absurd rfl h, Nat.le_refl _, ⟨hX, fun i hi => by omega⟩, fun i hi => by omega, fun h => absurd rfl h⟩
  · exact ⟨_, g, cap, rfl, fun _ => rfl, hw, h'.num, h'.free, fun _ => hg⟩
theorem limbs_append {X Y n m : Nat} (hX : X < B^n) : limbs X n ++ limbs Y m = limbs (X + Y * B^n) (n + m) := by
  apply List.ext_getElem?
  intro i
  by_cases h : i < n
  · rw [List.getElem?_append_left (by rw [limbs_length]; exact h), limbs_get h, limbs_get (by omega), dg_add_lo h]
  · rw [List.getElem?_append_right (by rw [limbs_length]; omega), limbs_length]
    by_cases e : i < n + m
    · obtain ⟨j, rfl⟩ : ∃ j, i = n + j := ⟨i - n, by omega⟩
      rw [limbs_get (by omega), limbs_get e, dg_add_hi hX, show n + j - n = j by omega]
    · rw [List.getElem?_eq_none (by rw [limbs_length]; omega), List.getElem?_eq_none (by rw [limbs_length]; omega)]
theorem OwnL.slice {E : TypeId} {N n X : Nat} {w : World} {v : Value} (h : OwnL E N w v n X) : ∃ base c, v = .slice base n c ∧ n ≤ c := by
  obtain ⟨base, g, c, h1, _, h3, _⟩ := own_slice h
  exact ⟨base, c, h1, h3⟩
/-- 'append(own, limbs...)'. -/
theorem run_append_limbs {P : Program} (w : World) (t ty E : TypeId) (i : TypeInfo) (ht : P.underlying t = some (.slice E)) (hi : P.info? E = some i) (hz : i.zero = some (.int .u32 0)) (hsize : i.size = 1) (hby : i.bytes = 4)
    (N : Nat) (v : Value) (n X : Nat) (hown : OwnL E N w v n X) (base : Option Addr) (b off m c Y : Nat) (hb : m ≠ 0 → base = some ⟨b, off, none⟩) (hY : Num w b off m Y) (hnm : n + m ≤ 2000000000) (hN : N ≤ w.heap.size) :
    ∃ v' w', (Builtin.append_ #[t, t] ty #[v, .slice base m c]).run P w = .ok v' w' ∧ OwnL E N w' v' (n + m) (X + Y * B^n) ∧ Below N w w' := by
  by_cases hm : m = 0
  · subst hm
    have hY0 : Y = 0 := by have := hY.lt; rw [Nat.pow_zero] at this; omega
    subst hY0
    obtain ⟨bs, cs, rfl, hcs⟩ := hown.slice
    refine ⟨_, w, run_append_nothing w t t ty E i ht hi bs n cs hcs (.slice base 0 c) ?_, by rw [Nat.zero_mul]; exact hown, Below.refl _ _⟩
    cases base with
    | none => exact Src.ofNil w ht c
    | some a => exact Src.ofSlice w ht a 0 c [] (by simp) (by intro j u h; simp at h) (by intro u h; simp at h)
  · obtain rfl := hb hm
    obtain ⟨v', w', h1, h2, h3, h4⟩ := run_append_own (P := P) w N t ty E i (.int .u32 0) 1 4 ht hi hz hsize hby rfl (by decide) v n (limbs X n) hown.2 ⟨b, off, none⟩ m c (limbs Y m) (by rw [limbs_length, Nat.mul_one])
      (by
        intro l u hu
        have hl := (List.getElem?_eq_some_iff.1 hu).1
        rw [limbs_length] at hl
        rw [limbs_get hl] at hu
        obtain rfl := Option.some.inj hu
        rw [Addr.add_lit]
        exact hY.cell hl)
      (by
        intro u hu
        obtain ⟨l, _, rfl⟩ := List.mem_map.1 hu
        rfl) (by unfold maxLen; omega) (by omega) hN
    rw [limbs_append hown.1] at h2
    refine ⟨v', w', h1, ⟨?_, h2⟩, (Below.refl _ _).grown h3 hN (fun q hq => (World.ownsRow.lt hown.2 q hq).1)⟩
    have a1 : (Y + 1) * B^n ≤ B^m * B^n := Nat.mul_le_mul_right _ hY.lt
    rw [← pow_add, Nat.add_comm m n, Nat.add_mul, Nat.one_mul] at a1
    have := hown.1
    omega
theorem wpList_append_limbs {P : Program} (w : World) {ops : Array Oper} {rest : List Oper} {o : Oper} {a : Act} {Q : Exit → Act → World → Prop} (hgd : o.guard = none) (s x : Operand) (t : TypeId)
    (ho : o.op = .call { callee := .builtin .append, args := #[s, x], argTypes := #[t, t] }) (E : TypeId) (i : TypeInfo) (ht : P.underlying t = some (.slice E)) (hi : P.info? E = some i) (hz : i.zero = some (.int .u32 0)) (hsize : i.size = 1) (hby : i.bytes = 4)
    (N : Nat) (v : Value) (n X : Nat) (hs : a.eval s = v) (hown : OwnL E N w v n X) (base : Option Addr) (b off m c Y : Nat) (hx : a.eval x = .slice base m c) (hb : m ≠ 0 → base = some ⟨b, off, none⟩) (hY : Num w b off m Y) (hnm : n + m ≤ 2000000000) (hN : N ≤ w.heap.size)
    (h : ∀ v' w', OwnL E N w' v' (n + m) (X + Y * B^n) → Below N w w' → wpList P ops Q rest (a.put o.dst v') w') : wpList P ops Q (o :: rest) a w := by
  refine wpList_plain hgd fun K hK => ?_
  obtain ⟨v', w', hr, h2, h3⟩ := run_append_limbs (P := P) w t o.type E i ht hi hz hsize hby N v n X hown base b off m c Y hb hY hnm hN
  unfold Oper.wp execOp
  simp only [ho, resolve, invoke, builtin, Sem.run_bind, Sem.run_pure, Result.andThen_ok, List.map_toArray, List.map_cons, List.map_nil, hs, hx, hr]
  exact hK _ _ (h v' w' h2 h3)
/-- The call returns a row of its own of the limbs of X. -/
def RetRow (E : TypeId) (w : World) (n X : Nat) (e : Ending) (w' : World) : Prop := ∃ v, e = .returned v ∧ OwnL E w.heap.size w' v n X ∧ Below w.heap.size w w'
end PB
namespace Go.Proofs.YtdikoeeoglfmaaaGreatDoor
open Go.RowKit PB

set_option maxHeartbeats 3200000 in
set_option maxRecDepth 100000 in
theorem mag_any (base : Option Addr) (b off n c X : Nat) (w : World) (hb : n ≠ 0 → base = some ⟨b, off, none⟩) (hX : Num w b off n X) (hn : n ≤ c) (hl : n ≤ 1000000000) :
    Calls Tryz.prog 62 #[.slice base n c] w (RetRow 118 w (nl X) X) := by
  obtain ⟨i0, hi, hz0, hz1, hz2⟩ := info_parts info51
  have HB := Lib.hid hb
  have HXL := Lib.hid hX.lt
  clear hb
  go_enter Tryz.func62, Tryz.ntmps62
  go_wp2_with fail
  go_loop [3] (fun i => ∃ k : Nat, k ≤ n ∧ X < B^k ∧ i = .int .i64 k) (fun i => (intOf i).toNat)
  case atStart => exact ⟨n, Nat.le_refl _, HXL.out, rfl⟩
  case round =>
    obtain ⟨k, hk, hXk, rfl⟩ := hrel
    have hnk : nl X ≤ k := nl_le hXk
    by_cases hkn : k = nl X
    · have HD : Hid (k = 0 ∨ ((dg X (k-1) : Int) == 0) = false) := Lib.hid (by
        by_cases h0 : k = 0
        · exact Or.inl h0
        · right
          have := nl_top (X := X) (by rintro rfl; rw [nl_zero] at hkn; omega)
          rw [← hkn] at this
          simp; omega)
      have hXf := hX.fewer (k := k) hk hXk
      have HKN := Lib.hid hkn
      have i1 : (k : Int) ≤ n := by omega
      have i2 : (k : Int) ≤ c := by omega
      clear hkn hnk hXk
      by_cases h0 : k = 0
      · subst h0
        clear HD
        go_wp2_with (at_builtin; refine wpList_append_limbs _ rfl _ _ 99 rfl 118 i0 Tryz.underlying99 hi hz0 hz1 hz2 w.heap.size _ 0 0 rfl (OwnL.nil _ _ _) base b off 0 c X rfl (fun h => absurd rfl h) hXf (by omega) (Nat.le_refl _) ?_)
        intro v' w' hown hbl
        have hown2 : OwnL 118 w.heap.size w' v' 0 X := by simpa using hown
        rw [HKN.out] at hown2
        clear hown
        go_wp2_with fail
        go_ret
        exact ⟨v', rfl, hown2, hbl⟩
      · have hk0 : (0 : Int) < k := by omega
        have c1 := hX.cell (i := k - 1) (by omega)
        have hI : ((k : Int) - 1).toNat = k - 1 := by omega
        have hd := HD.out.resolve_left h0
        obtain rfl := HB.out (by omega)
        clear HD
        go_wp2_with (at_builtin; refine wpList_append_limbs _ rfl _ _ 99 rfl 118 i0 Tryz.underlying99 hi hz0 hz1 hz2 w.heap.size _ 0 0 rfl (OwnL.nil _ _ _) (some ⟨b, off, none⟩) b off k c X rfl (fun _ => rfl) hXf (by omega) (Nat.le_refl _) ?_)
        intro v' w' hown hbl
        have hown2 : OwnL 118 w.heap.size w' v' k X := by simpa using hown
        rw [HKN.out] at hown2
        clear hown
        go_wp2_with fail
        go_ret
        exact ⟨v', rfl, hown2, hbl⟩
    · have hk0 : (0 : Int) < k := by omega
      have c1 := hX.cell (i := k - 1) (by omega)
      have hI : ((k : Int) - 1).toNat = k - 1 := by omega
      have hd : ((dg X (k-1) : Int) == 0) = true := by
        rw [dg_of_lt (lt_nl X) (by omega)]; rfl
      have hlt : X < B^(k-1) := nl_le_iff.1 (by omega)
      have HLT := Lib.hid hlt
      obtain rfl := HB.out (by omega)
      clear hlt hXk
      go_wp2_with fail
      go_round
      case rel => exact ⟨k - 1, by omega, HLT.out, by go_num⟩
      case measure => simp [intOf]; omega

set_option maxHeartbeats 3200000 in
set_option maxRecDepth 100000 in
theorem make1_any (neg : Bool) (base : Option Addr) (b off n c X : Nat) (w : World) (hb : n ≠ 0 → base = some ⟨b, off, none⟩) (hX : Num w b off n X) (hn : n ≤ c) (hl : n ≤ 1000000000) :
    Calls Tryz.prog 65 #[.bool neg, .slice base n c] w (RetInt w (sg neg X)) := by
  have hnl := nl_le hX.lt
  obtain ⟨s, hs⟩ : ∃ s, (if X = 0 then false else neg) = s := ⟨_, rfl⟩
  have HS : Hid (sg s X = sg neg X ∧ (X = 0 → s = false)) := Lib.hid (by
    rw [← hs]
    by_cases h : X = 0
    · subst h; simp [sg]
    · rw [if_neg h]; exact ⟨rfl, fun e => absurd e h⟩)
  have HD : Hid ((X = 0 ∧ s = false) ∨ (0 < nl X ∧ s = neg)) := Lib.hid (by
    rw [← hs]
    by_cases h : X = 0
    · exact Or.inl ⟨h, if_pos h⟩
    · exact Or.inr ⟨by have := mt nl_eq_zero.1 h; omega, if_neg h⟩)
  have HM := Lib.hid (fun W (h : Below w.heap.size w W) => mag_any base b off n c X W hb (hX.kept h) hn hl)
  clear hs hb
  go_enter Tryz.func65, Tryz.ntmps65
  go_upto_region 1 with fail
  generalize hW : World.alloc _ _ = W
  obtain ⟨R, hR⟩ : ∃ R, w.heap.size = R := ⟨_, rfl⟩
  have BR : Blk W R #[.bool false, .slice none 0 0] := by rw [← hW, ← hR]; exact blk_new rfl
  have hbW : Below w.heap.size w W := by rw [← hW]; exact bs_alloc (Below.refl _ _) _
  have HSZ : Hid (W.heap.size = R + 1) := Lib.hid (by rw [← hW, ← hR]; simp)
  rw [hR]
  have HR := Lib.hid hR
  clear hW hR
  go_wp2_with fail
  refine (HM.out W hbW).mono ?_
  rintro e w1 ⟨v, rfl, hown, hb1⟩
  obtain ⟨mb, mg, mc, rfl, hm1, hm2, hm3, hm4, hm5⟩ := own_slice hown
  have BR1 := BR.kept hb1
  have HB1 := Lib.hid (bs_trans hbW hb1)
  have HM1 := Lib.hid hm1
  have HM5 := Lib.hid hm5
  clear hown hb1 hbW BR HM hm1 hm5
  obtain ⟨r0, r1⟩ := Blk2 BR1
  obtain ⟨f0, f1⟩ := Blk2f BR1
  have fin : ∀ Z, Z = ((w1.setCell ⟨R, 0, none⟩ (.bool s)).setCell ⟨R, 1, none⟩ (.slice mb (nl X) mc)) → (Blk Z R #[.bool s, .slice mb (nl X) mc] ∧ IsCan w.heap.size Z (.agg #[.bool s, .slice mb (nl X) mc]) (sg neg X) ∧ Below w.heap.size w Z) := by
    rintro Z rfl
    refine ⟨(BR1.set 0 (.bool s)).set 1 (.slice mb (nl X) mc), ?_, bs_set (bs_set HB1.out (by have := HR.out; omega) _) (by have := HR.out; omega) _⟩
    refine ⟨s, mb, mg, 0, X, mc, rfl, HM1.out, (hm3.other _ (fun h => ?_)).other _ (fun h => ?_), hm2, by omega, HS.out.1.symm, HS.out.2, fun h => ?_⟩
    · have := HM5.out h; have := HSZ.out; show mg ≠ R; omega
    · have := HM5.out h; have := HSZ.out; show mg ≠ R; omega
    · have := HM5.out h; have := HSZ.out; have := HR.out; omega
  have FIN := Lib.hid fin
  clear fin
  rcases HD.out with ⟨h0, hs⟩ | ⟨h0, hs⟩
  · have i1 : decide (0 < nl X) = false := decide_eq_false (by rw [h0, nl_zero]; decide)
    subst hs
    clear h0 HD
    cases neg
    all_goals
      go_wp2_with fail
      obtain ⟨BZ, hC, hZ⟩ := FIN.out _ rfl
      generalize ((w1.setCell ⟨R, 0, none⟩ (.bool false)).setCell ⟨R, 1, none⟩ (.slice mb (nl X) mc)) = Z at *
      obtain ⟨z0, z1⟩ := Blk2 BZ
      exact bodyPost_ret (v := .agg #[.bool false, .slice mb (nl X) mc]) (by simp [results, Tryz.results65, go_sem, z0, z1]) rfl ⟨_, rfl, hC, hZ⟩
  · have i1 : decide (0 < nl X) = true := decide_eq_true (by omega)
    subst hs
    clear h0 HD
    cases s
    all_goals
      go_wp2_with fail
      obtain ⟨BZ, hC, hZ⟩ := FIN.out _ rfl
      generalize ((w1.setCell ⟨R, 0, none⟩ (.bool _)).setCell ⟨R, 1, none⟩ (.slice mb (nl X) mc)) = Z at *
      obtain ⟨z0, z1⟩ := Blk2 BZ
      exact bodyPost_ret (v := .agg #[.bool _, .slice mb (nl X) mc]) (by simp [results, Tryz.results65, go_sem, z0, z1]) rfl ⟨_, rfl, hC, hZ⟩
end Go.Proofs.YtdikoeeoglfmaaaGreatDoor

namespace Go.Proofs.YtdikoeeoglfmaaaGreatDoor
open Go.RowKit PB

set_option maxHeartbeats 1600000 in
set_option maxRecDepth 100000 in
theorem large_ref (v : Value) (z : Int) (w : World) (h : IsInt w v z) :
    Calls Tryz.prog 61 #[v] w fun e w' => e = .returned (.bool (decide (256 < nl z.natAbs))) ∧ Below w.heap.size w w' := by
  obtain ⟨s, base, b, off, n, c, X, rfl, hb, hX, hn, hl, rfl⟩ := h
  rw [sg_natAbs]
  have HM := Lib.hid (fun W (h : Below w.heap.size w W) => mag_any base b off n c X W hb (hX.kept h) hn hl)
  clear hb
  go_enter Tryz.func61, Tryz.ntmps61
  go_wp2_with fail
  have hbW : Below w.heap.size w (w.alloc (Obj.cells #[.bool s, .slice base n c] 101)) := bs_alloc (Below.refl _ _) _
  refine (HM.out _ hbW).mono ?_
  rintro e w1 ⟨v, rfl, hown, hb1⟩
  obtain ⟨mb, mg, mc, rfl, _⟩ := own_slice hown
  have HB1 := bs_trans hbW hb1
  clear hown hb1 hbW HM
  go_wp2_with fail
  go_ret
  exact ⟨by simp; omega, HB1⟩

set_option maxHeartbeats 1600000 in
set_option maxRecDepth 100000 in
theorem sign_ref (v : Value) (z : Int) (w : World) (h : IsInt w v z) :
    Calls Tryz.prog 64 #[v] w fun e w' => e = .returned (.int .i64 z.sign) ∧ Below w.heap.size w w' := by
  obtain ⟨s, base, b, off, n, c, X, rfl, hb, hX, hn, hl, hz⟩ := h
  have HM := Lib.hid (fun W (h : Below w.heap.size w W) => mag_any base b off n c X W hb (hX.kept h) hn hl)
  clear hb
  have hbW : Below w.heap.size w (w.alloc (Obj.cells #[.bool s, .slice base n c] 101)) := bs_alloc (Below.refl _ _) _
  by_cases h0 : X = 0
  · have hz0 : z.sign = 0 := by subst hz h0; cases s <;> rfl
    rw [hz0]
    have ht : ((nl X : Int) == 0) = true := by rw [h0, nl_zero]; rfl
    clear hz hz0 h0
    go_enter Tryz.func64, Tryz.ntmps64
    go_wp2_with fail
    refine (HM.out _ hbW).mono ?_
    rintro e w1 ⟨v, rfl, hown, hb1⟩
    obtain ⟨mb, mg, mc, rfl, _⟩ := own_slice hown
    have HB1 := bs_trans hbW hb1
    clear hown hb1 hbW HM
    go_wp2_with fail
    go_ret
    exact ⟨rfl, HB1⟩
  · have hz0 := sg_sign (s := s) h0
    rw [← hz] at hz0
    rw [hz0]
    have ht : ((nl X : Int) == 0) = false := by have := mt nl_eq_zero.1 h0; simp; omega
    clear hz hz0 h0
    cases s
    all_goals
      go_enter Tryz.func64, Tryz.ntmps64
      go_wp2_with fail
      refine (HM.out _ hbW).mono ?_
      rintro e w1 ⟨v, rfl, hown, hb1⟩
      obtain ⟨mb, mg, mc, rfl, _⟩ := own_slice hown
      have HB1 := bs_trans hbW hb1
      have hbb := (Blk.kept (blk_new rfl) hb1)
      obtain ⟨z0, z1⟩ := Blk2 hbb
      clear hown hb1 hbW HM hbb
      go_wp2_with fail
      go_ret
      exact ⟨rfl, HB1⟩

set_option maxHeartbeats 1600000 in
set_option maxRecDepth 100000 in
theorem cmpmag_any (basex basey : Option Addr) (bx ox X cx by_ oy Y cy : Nat) (w : World) (hbx : nl X ≠ 0 → basex = some ⟨bx, ox, none⟩) (hby : nl Y ≠ 0 → basey = some ⟨by_, oy, none⟩)
    (hX : Num w bx ox (nl X) X) (hY : Num w by_ oy (nl Y) Y) (hc : nl X ≤ 1000000000) (_hc' : nl Y ≤ 1000000000) :
    Calls Tryz.prog 78 #[.slice basex (nl X) cx, .slice basey (nl Y) cy] w fun e w' => e = .returned (.int .i64 (cmpi X Y)) ∧ ∃ m, w' = w.drewN m := by
  by_cases h : nl X = nl Y
  · have hne : ((nl X : Int) != (nl Y : Int)) = false := by simp [h]
    have HB := Lib.hid hbx
    have HB' := Lib.hid hby
    obtain ⟨n, hn⟩ : ∃ n, n = nl X := ⟨_, rfl⟩
    have hX' := lt_nl X
    have hY' := lt_nl Y
    rw [← h] at hY' hY HB' hne ⊢
    rw [← hn] at hX hY hX' hY' HB HB' hne hc ⊢
    clear h hn hbx hby
    go_enter Tryz.func78, Tryz.ntmps78
    go_wp2_with fail
    go_loopw [5] (fun v wr => ∃ k q : Nat, k ≤ n ∧ v = .int .i64 ((k : Int) - 1) ∧ wr = w.drewN q ∧ X / B^k = Y / B^k) (fun v _ => (intOf v + 1).toNat)
    case atStart => exact ⟨n, 0, by omega, rfl, rfl, by rw [Nat.div_eq_of_lt hX', Nat.div_eq_of_lt hY']⟩
    case round =>
      obtain ⟨k, q, hk, rfl, rfl, heq⟩ := hrel
      have HE := Lib.hid heq
      clear heq
      by_cases h0 : k = 0
      · subst h0
        have hEq : X = Y := by simpa using HE.out
        subst hEq
        have hz : decide ((0 : Int) ≤ ((0 : Nat) : Int) - 1) = false := by decide
        go_wp2_with fail
        go_ret
        exact ⟨by rw [cmpi, if_neg (by omega), if_neg (by omega)]; rfl, q, rfl⟩
      · obtain ⟨j, rfl⟩ : ∃ j, k = j + 1 := ⟨k - 1, by omega⟩
        obtain rfl := HB.out (by omega)
        obtain rfl := HB'.out (by omega)
        have e1 : (((j + 1 : Nat) : Int) - 1) = j := by omega
        rw [e1]
        clear e1
        have c1 := hX.cell (i := j) (by omega)
        have c2 := hY.cell (i := j) (by omega)
        have i1 : (j : Int) < n := by omega
        have i2 : (0 : Int) ≤ j := by omega
        by_cases hd : dg X j = dg Y j
        · have ht : ((dg X j : Int) != dg Y j) = false := by simp [hd]
          have HD := Lib.hid hd
          clear hd
          go_wp2_with fail
          go_quiet (fail)
          go_wp2_with fail
          go_roundw
          case rel => exact ⟨j, _, by omega, rfl, rfl, div_eq_of_dg HE.out HD.out⟩
          case measure => simp [intOf]
        · have ht : ((dg X j : Int) != dg Y j) = true := by simp; omega
          rcases Nat.lt_or_gt_of_ne hd with h1 | h1
          · have HC := Lib.hid (show cmpi X Y = -1 by
              have := lt_of_dg HE.out h1
              unfold cmpi
              rw [if_pos (by omega)])
            have t1 : decide (dg X j < dg Y j) = true := decide_eq_true h1
            clear hd
            go_wp2_with fail
            go_quiet (fail)
            go_wp2_with fail
            go_quiet (fail)
            go_wp2_with fail
            go_ret
            exact ⟨by rw [HC.out]; rfl, _, by rw [World.drewN_drewN, World.drewN_drewN]⟩
          · have HC := Lib.hid (show cmpi X Y = 1 by
              have := lt_of_dg HE.out.symm h1
              unfold cmpi
              rw [if_neg (by omega), if_pos (by omega)])
            have t1 : decide (dg X j < dg Y j) = false := decide_eq_false (by omega)
            clear hd h1
            go_wp2_with fail
            go_quiet (fail)
            go_wp2_with fail
            go_quiet (fail)
            go_wp2_with fail
            go_ret
            exact ⟨by rw [HC.out]; rfl, _, by rw [World.drewN_drewN, World.drewN_drewN]⟩
  · have hne : ((nl X : Int) != (nl Y : Int)) = true := by simp; omega
    rcases Nat.lt_or_gt_of_ne h with h1 | h1
    · have HC := Lib.hid (show cmpi X Y = -1 by
        have := lt_of_nl_lt h1
        unfold cmpi
        rw [if_pos (by omega)])
      have t1 : decide (nl X < nl Y) = true := decide_eq_true h1
      clear h
      go_enter Tryz.func78, Tryz.ntmps78
      go_wp2_with fail
      go_ret
      exact ⟨by rw [HC.out]; rfl, 0, rfl⟩
    · have HC := Lib.hid (show cmpi X Y = 1 by
        have := lt_of_nl_lt h1
        unfold cmpi
        rw [if_neg (by omega), if_pos (by omega)])
      have t1 : decide (nl X < nl Y) = false := decide_eq_false (by omega)
      clear h h1
      go_enter Tryz.func78, Tryz.ntmps78
      go_wp2_with fail
      go_ret
      exact ⟨by rw [HC.out]; rfl, 0, rfl⟩
end Go.Proofs.YtdikoeeoglfmaaaGreatDoor

namespace PB
open Go Go.RowKit
/-- v is a slice without zeros at the high end that holds X. -/
def CanSl (w : World) (v : Value) (X : Nat) : Prop := ∃ (base : Option Addr) (b off c : Nat), v = .slice base (nl X) c ∧ (nl X ≠ 0 → base = some ⟨b, off, none⟩) ∧ Num w b off (nl X) X ∧ nl X ≤ c
theorem CanSl.kept {w w' : World} {v : Value} {X : Nat} (h : CanSl w v X) (hb : Below w.heap.size w w') : CanSl w' v X := by
  obtain ⟨base, b, off, c, h1, h2, h3, h4⟩ := h
  exact ⟨base, b, off, c, h1, h2, h3.kept hb, h4⟩
theorem cansl_nil (w : World) : CanSl w (.slice none 0 0) 0 := ⟨none, 0, 0, 0, by rw [nl_zero], fun h => absurd nl_zero h, ⟨Bp _, fun i hi => by rw [nl_zero] at hi; omega⟩, by rw [nl_zero]; omega⟩
theorem cansl_own {E : TypeId} {N X : Nat} {w : World} {v : Value} (h : OwnL E N w v (nl X) X) : CanSl w v X := by
  obtain ⟨base, g, c, h1, h2, h3, h4, _⟩ := own_slice h
  exact ⟨base, g, 0, c, h1, h2, h4, h3⟩
/-- What divMag returns. -/
def RetDM (w : World) (X Y : Nat) (e : Ending) (w' : World) : Prop := ∃ vq vr, e = .returned (.tuple #[vq, vr]) ∧ CanSl w' vq (X / Y) ∧ CanSl w' vr (X % Y) ∧ Below w.heap.size w w'
theorem u64_join {r x : Nat} (hr : r < B) (hx : x < B) : bits BinOp.or IntKind.u64 (IntKind.u64.wrap ((r : Int) * 4294967296)) (x : Int) = ((r * B + x : Nat) : Int) := by
  have e1 : IntKind.u64.wrap ((r : Int) * 4294967296) = ((r * B : Nat) : Int) := by
    rw [IntKind.wrap_u64]; unfold B at *; omega
  rw [e1, u64_or_nat _ _ (by unfold B at *; omega) (by unfold B at *; omega), show r * B ||| x = r * B + x from nat_join 32 (r * B) x (Nat.mul_mod_left _ _) hx]
theorem low_put0 {Q k q : Nat} : put (Q * B^(k+1)) k q = (Q * B + q) * B^k := by
  have h := short_put (X := 0) (Q := Q) (q := q) (k := k)
  rwa [Nat.zero_mod, Nat.zero_mod, Nat.zero_add, Nat.zero_add] at h
end PB
namespace Go.Proofs.YtdikoeeoglfmaaaGreatDoor
open Go.RowKit PB

set_option maxHeartbeats 3200000 in
set_option maxRecDepth 100000 in
theorem divmag_lt (basex basey : Option Addr) (bx ox X cx by_ oy Y cy : Nat) (w : World) (hbx : nl X ≠ 0 → basex = some ⟨bx, ox, none⟩) (hby : nl Y ≠ 0 → basey = some ⟨by_, oy, none⟩)
    (hX : Num w bx ox (nl X) X) (hY : Num w by_ oy (nl Y) Y) (hc : nl X ≤ 1000000000) (hc' : nl Y ≤ 1000000000) (hcx : nl X ≤ cx) (hlt : X < Y) :
    Calls Tryz.prog 63 #[.slice basex (nl X) cx, .slice basey (nl Y) cy] w (RetDM w X Y) := by
  have hcm : cmpi (X : Int) Y < 0 := by unfold cmpi; rw [if_pos (by omega)]; decide
  have HBX := Lib.hid hbx
  have ORD := Lib.hid (cmpmag_any basex basey bx ox X cx by_ oy Y cy w hbx hby hX hY hc hc')
  clear hbx hby
  go_enter Tryz.func63, Tryz.ntmps63
  go_wp2_with (go_at_call 78; refine ORD.out.mono ?_; rintro e w' ⟨rfl, n1, rfl⟩)
  go_ret2
  refine ⟨_, _, rfl, ?_, ?_, below_drewN (Below.refl _ _) _⟩
  · rw [Nat.div_eq_of_lt hlt]; exact cansl_nil _
  · rw [Nat.mod_eq_of_lt hlt]; exact ⟨basex, bx, ox, cx, rfl, HBX.out, hX.drewN, hcx⟩

set_option maxHeartbeats 3200000 in
set_option maxRecDepth 100000 in
theorem divmag_one (basex : Option Addr) (bx ox X cx by_ oy Y cy : Nat) (w : World) (hbx : nl X ≠ 0 → basex = some ⟨bx, ox, none⟩)
    (hX : Num w bx ox (nl X) X) (hY : Num w by_ oy (nl Y) Y) (hc : nl X ≤ 1000000000) (hY1 : nl Y = 1) (hle : Y ≤ X) :
    Calls Tryz.prog 63 #[.slice basex (nl X) cx, .slice (some ⟨by_, oy, none⟩) (nl Y) cy] w (RetDM w X Y) := by
  have hcm : ¬ cmpi (X : Int) Y < 0 := by unfold cmpi; rw [if_neg (by omega)]; split <;> decide
  have hYB : Y < B := small_lt (by omega)
  have hY0 : 0 < Y := by
    apply Nat.pos_of_ne_zero
    rintro rfl
    rw [nl_zero] at hY1; omega
  have hX0 : nl X ≠ 0 := by have := nl_mono hle; omega
  obtain rfl := hbx hX0
  have kY : w.cell? ⟨by_, oy, none⟩ = some (.int .u32 Y) := by
    have := hY.cell (i := 0) (by omega)
    rwa [Nat.add_zero, dg0_small (by omega)] at this
  have hby := hY.block_lt (by omega)
  have ORD := Lib.hid (fun cx cy => cmpmag_any (some ⟨bx, ox, none⟩) (some ⟨by_, oy, none⟩) bx ox X cx by_ oy Y cy w (fun _ => rfl) (fun _ => rfl) hX hY (by omega) (by omega))
  have HXL := Lib.hid (lt_nl X)
  obtain ⟨N, hN⟩ : ∃ N, nl X = N := ⟨_, rfl⟩
  rw [hY1] at ORD ⊢
  rw [hN] at ORD hX hc hX0 HXL ⊢
  clear hN hY1 hY hbx hle
  go_enter Tryz.func63, Tryz.ntmps63
  go_wp2_with (first | (go_at_call 78; refine (ORD.out _ _).mono ?_; rintro e w' ⟨rfl, n1, rfl⟩) | (at_make; refine wpList_make_num _ rfl _ _ 99 rfl 118 info51 Tryz.underlying99 .i64 .i64 _ _ N rfl rfl (by omega) (by omega) (by omega) ?_))
  intro w1 hb1 hz1 hS1 hF1 _
  have hbb1 : Below w.heap.size w w1 := below_undrewN hb1
  have HZ := Lib.hid hz1
  have hX1 := hX.kept hbb1
  have kY1 : w1.cell? ⟨by_, oy, none⟩ = some (.int .u32 Y) := by rw [hbb1.cell (p := ⟨by_, oy, none⟩) hby]; exact kY
  have hbxl := hX.block_lt hX0
  clear hz1 hb1 hX kY
  obtain ⟨G, hG⟩ : ∃ G, w.heap.size = G := ⟨_, rfl⟩
  have hS1' : Num w1 G 0 N 0 := hG ▸ hS1
  have hF1' : Free w1 G 0 N := hG ▸ hF1
  have hne : bx ≠ G := by omega
  have hne2 : by_ ≠ G := by omega
  have HGE := Lib.hid hG
  have HBB := Lib.hid hbb1
  have hz2 : Hid (w1.heap.size = G + 1) := Lib.hid (by rw [HZ.out]; show w.heap.size + 1 = _; omega)
  go_wp2_with fail
  rw [hG]
  clear hG hS1 hF1 hbb1
  go_loopw [7, 8] (fun r i wr => ∃ k : Nat, k ≤ N ∧ i = .int .i64 ((k : Int) - 1) ∧ r = .int .u64 (X / B^k % Y : Nat) ∧ Num wr G 0 N (X / B^k / Y * B^k) ∧ Free wr G 0 N ∧ Wr w1 wr G 0 N) (fun _ i _ => (intOf i + 1).toNat)
  case atStart =>
    have e : X / B^N = 0 := Nat.div_eq_of_lt HXL.out
    exact ⟨N, Nat.le_refl _, rfl, by rw [e, Nat.zero_mod]; rfl, hS1'.val (by rw [e, Nat.zero_div, Nat.zero_mul]), hF1', Wr.refl _ _ _ _⟩
  case round =>
    clear hS1' hF1'
    obtain ⟨k, hk, rfl, rfl, hS, hF, hwr⟩ := hrel
    by_cases h0 : k = 0
    · subst h0
      have hz : decide ((0 : Int) ≤ ((0 : Nat) : Int) - 1) = false := by decide
      have hQ : Num wr G 0 N (X / Y) := hS.val (by rw [Nat.pow_zero, Nat.div_one, Nat.mul_one])
      have hmod : X % Y < Y := Nat.mod_lt _ hY0
      obtain ⟨R, hR⟩ : ∃ R, X % Y = R := ⟨_, rfl⟩
      have hR0 : X / B^0 % Y = R := by rw [Nat.pow_zero, Nat.div_one]; exact hR
      rw [hR0]
      have HR := Lib.hid hR
      have hRB : R < 4294967296 := by have := B_eq; omega
      have HB1 : Hid (Below w.heap.size w wr) := Lib.hid (HBB.out.trans (hwr.below (by have := HGE.out; omega)))
      clear hS hR hR0 hmod hX1 kY1 hwr hF
      go_wp2_with fail
      refine (mag_any (some ⟨G, 0, none⟩) G 0 N N (X / Y) wr (fun _ => rfl) hQ (Nat.le_refl _) hc).mono ?_
      rintro e w2 ⟨vq, rfl, hq, hb2⟩
      have HQ := Lib.hid (cansl_own hq)
      have HB2 := Lib.hid (HB1.out.trans (hb2.mono HB1.out.size))
      clear hq hb2 hQ
      go_wp2_with fail
      generalize hV : World.alloc _ _ = V
      obtain ⟨P, hP⟩ : ∃ P, w2.heap.size = P := ⟨_, rfl⟩
      rw [hP]
      have hbV : Below w2.heap.size w2 V := by rw [← hV]; exact bs_alloc (Below.refl _ _) _
      have hRn : Num V P 0 1 R := by
        rw [← hV, ← hP]
        refine ⟨by rw [Nat.pow_one]; exact hRB, fun i hi => ?_⟩
        obtain rfl : i = 0 := by omega
        rw [show dg R 0 = R by unfold dg B; rw [Nat.pow_zero, Nat.div_one, Nat.mod_eq_of_lt hRB]]
        exact cell_new _ _ _ _ _ _ rfl rfl
      have HQ3 := Lib.hid (HQ.out.kept hbV)
      have HB3 := Lib.hid (HB2.out.trans (hbV.mono HB2.out.size))
      clear hV hP hbV HQ HB2
      refine (mag_any (some ⟨P, 0, none⟩) P 0 1 1 R V (fun _ => rfl) hRn (Nat.le_refl _) (by decide)).mono ?_
      rintro e w3 ⟨vr, rfl, hr, hb3⟩
      have HR3 := Lib.hid (cansl_own hr)
      have HQ4 := Lib.hid (HQ3.out.kept hb3)
      have HB4 := HB3.out.trans (hb3.mono HB3.out.size)
      clear hr hb3 hRn HQ3 HB3
      go_wp2_with fail
      go_ret2
      exact ⟨vq, vr, rfl, HQ4.out, by rw [HR.out]; exact HR3.out, HB4⟩
    · obtain ⟨j, rfl⟩ : ∃ j, k = j + 1 := ⟨k - 1, by omega⟩
      have e1 : (((j + 1 : Nat) : Int) - 1) = j := by omega
      rw [e1]
      clear e1
      have cX := (hwr.num hX1 (fun _ => Or.inl hne)).cell (i := j) (by omega)
      have cY : wr.cell? ⟨by_, oy, none⟩ = some (.int .u32 Y) := by rw [World.cell?_of_block (w := w1) (hwr.block by_ hne2)]; exact kY1
      have cS := hS.cell0 (i := j) (by omega)
      have fS := hF.at0 (i := j) (by omega)
      have i1 : (j : Int) < N := by omega
      have i2 : (0 : Int) ≤ j := by omega
      have i3 : (0 : Int) < Y := by omega
      have hr : X / B^(j+1) % Y < Y := Nat.mod_lt _ hY0
      have hxB := dg_lt X j
      have hst := short_step (X := X) (Q := X / B^(j+1) / Y) (r := X / B^(j+1) % Y) (d := Y) (k := j) (Nat.div_add_mod' _ _).symm
      have hsl := short_lt hr hxB
      obtain ⟨r, hre⟩ : ∃ r, X / B^(j+1) % Y = r := ⟨_, rfl⟩
      rw [hre] at hr hst hsl ⊢
      have hjoin := u64_join (r := r) (x := dg X j) (by omega) hxB
      obtain ⟨T, hT⟩ : ∃ T, r * B + dg X j = T := ⟨_, rfl⟩
      rw [hT] at hst hsl hjoin
      have hT2 : Hid (X / B^j / Y = X / B^(j+1) / Y * B + T / Y ∧ X / B^j % Y = T % Y) := Lib.hid (by
        have hm : T % Y < Y := Nat.mod_lt _ hY0
        constructor
        · rw [hst, Nat.mul_comm _ Y, Nat.mul_add_div hY0, Nat.div_eq_of_lt hm, Nat.add_zero]
        · rw [hst, Nat.mul_comm _ Y, Nat.mul_add_mod, Nat.mod_mod])
      have hTB : T < 18446744073709551616 := by have := B_eq; rw [← hT]; rw [B_eq]; unfold B at hxB hYB; omega
      have hq : T / Y < 4294967296 := hsl
      have i4 : (T : Int) < 18446744073709551616 := by omega
      have i5 : 0 ≤ (T : Int) / (Y : Int) := by rw [← Int.natCast_ediv]; exact Int.natCast_nonneg _
      have i6 : (T : Int) / (Y : Int) < 4294967296 := by rw [← Int.natCast_ediv]; exact Int.ofNat_lt.2 hq
      have i7 : (Y : Int) < 4294967296 := by have := B_eq; omega
      have i8 : (dg X j : Int) < 4294967296 := by have := B_eq; omega
      have HQ := Lib.hid hsl
      clear hst hre hT hr hxB hTB hq hsl
      go_wp2_with fail
      go_roundw
      case rel =>
        have hp := hS.set0 (k := j) (d := T / Y) (by omega) HQ.out
        rw [low_put0, ← hT2.out.1] at hp
        exact ⟨j, by omega, rfl, by rw [hT2.out.2]; rfl, hp, hF.set _ _, hwr.set _ _ (by omega) (by omega)⟩
      case measure => simp [intOf]
end Go.Proofs.YtdikoeeoglfmaaaGreatDoor

namespace PB
open Go Go.RowKit
theorem str_append (a b : List Int) : strOfNums a ++ strOfNums b = strOfNums (a ++ b) := by
  unfold strOfNums
  rw [ByteArray.mk_append_mk, List.map_append]
/-- The text of the low T digits. -/
def dtx (X T : Nat) : ByteArray := strOfNums (((List.range T).map (dch X)).reverse.map Int.ofNat)
theorem dtx_succ (X T : Nat) : strOfNums [((dch X T : Nat) : Int)] ++ dtx X T = dtx X (T+1) := by
  unfold dtx
  rw [str_append, List.range_succ, List.map_append, List.reverse_append]
  rfl
theorem dtx_size (X T : Nat) : (dtx X T).size = T := by unfold dtx; rw [strOfNums_size]; simp
theorem dtx_txt (X M : Nat) : dtx X M = strOfNums ((txt false X M).map Int.ofNat) := by unfold dtx txt; simp
theorem dtx_neg (X M : Nat) : { data := #[45] } ++ dtx X M = strOfNums ((txt true X M).map Int.ofNat) := by
  have e : ({ data := #[45] } : ByteArray) = strOfNums [45] := rfl
  unfold dtx txt
  rw [e, str_append]
  simp
/-- 'string([]byte{x})'. -/
theorem conv_one {P : Program} {w : World} {T src e : TypeId} {x : Nat} (hs : P.underlying src = some (.slice e)) (he : P.underlying e = some (.int .u8)) (_hx : x < 256) :
    ∀ dst, P.underlying dst = some .string → (convert src dst (.slice (some ⟨w.heap.size, 0, none⟩) 1 1)).run P (w.alloc (.cells #[.int .u8 x] T)) = .ok (.string (strOfNums [(x : Int)])) (w.alloc (.cells #[.int .u8 x] T)) := by
  refine run_convert_bytes_arg _ src e hs he w.heap.size 0 1 1 [(x : Int)] rfl fun i hi => ?_
  obtain rfl : i = 0 := by omega
  exact cell_new _ _ _ _ _ _ rfl rfl
/-- What is above the digits that are done. -/
theorem above {X j k : Nat} (hk : k ≤ 9) : X / 10^(9*j+k) = X / 10^(9*j) / 1000000000 * 10^(9-k) + X / 10^(9*j) % 1000000000 / 10^k := by
  have h1 : (1000000000 : Nat) = 10^(9-k) * 10^k := by rw [← Nat.pow_add, show 9 - k + k = 9 by omega]
  rw [Nat.pow_add, ← Nat.div_div_eq_div_mul]
  generalize X / 10^(9*j) = Y
  have e := Nat.div_add_mod Y 1000000000
  conv => lhs; rw [← e]
  rw [show 1000000000 * (Y / 1000000000) = (Y / 1000000000 * 10^(9-k)) * 10^k by rw [Nat.mul_assoc, ← h1, Nat.mul_comm]]
  rw [Nat.add_comm, Nat.add_mul_div_right _ _ (ten_pos k), Nat.add_comm]
theorem nd_le {X M T : Nat} (h : IsND X M) (hX : X / 10^T = 0) (h0 : X ≠ 0) : M ≤ T := by
  have h1 := isND_ge h (isND_pos h h0)
  have h2 : X < 10^T := (Nat.div_eq_zero_iff_lt (ten_pos T)).1 hX
  have h3 : 10^(M-1) < 10^T := Nat.lt_of_le_of_lt h1 h2
  have := (Nat.pow_lt_pow_iff_right (by decide)).1 h3
  omega
theorem nd_gt {X M T : Nat} (h : IsND X M) (hX : X / 10^T ≠ 0) : T < M := by
  apply Nat.lt_of_not_le
  intro hle
  exact hX (Nat.div_eq_of_lt (Nat.lt_of_lt_of_le h.1 (Nat.pow_le_pow_right (by decide) hle)))
end PB
namespace Go.Proofs.YtdikoeeoglfmaaaGreatDoor
open Go.RowKit PB
theorem divmag_small (basex : Option Addr) (bx ox X cx by_ oy Y cy : Nat) (w : World) (hbx : nl X ≠ 0 → basex = some ⟨bx, ox, none⟩)
    (hX : Num w bx ox (nl X) X) (hY : Num w by_ oy 1 Y) (hc : nl X ≤ 1000000000) (hcx : nl X ≤ cx) (hY1 : nl Y = 1) :
    Calls Tryz.prog 63 #[.slice basex (nl X) cx, .slice (some ⟨by_, oy, none⟩) 1 cy] w (RetDM w X Y) := by
  by_cases h : X < Y
  · have := divmag_lt basex (some ⟨by_, oy, none⟩) bx ox X cx by_ oy Y cy w hbx (fun _ => rfl) hX (by rw [hY1]; exact hY) hc (by omega) hcx h
    rwa [hY1] at this
  · have := divmag_one basex bx ox X cx by_ oy Y cy w hbx hX (by rw [hY1]; exact hY) hc hY1 (by omega)
    rwa [hY1] at this
theorem sign_isr {v : Value} {z r : Int} (w : World) (h : IsInt w v z) (hz : z.sign = r) :
    Calls Tryz.prog 64 #[v] w fun e w' => e = .returned (.int .i64 r) ∧ Below w.heap.size w w' := by
  subst hz
  exact sign_ref v z w h

set_option maxHeartbeats 6400000 in
set_option maxRecDepth 100000 in
theorem text_ref (s : Bool) (base : Option Addr) (b off n c X M : Nat) (w : World) (hb : n ≠ 0 → base = some ⟨b, off, none⟩) (hX : Num w b off n X) (hn : n ≤ c) (hl : n ≤ 1000000000)
    (hs : ¬ 256 < nl X) (h0 : X ≠ 0) (hM : IsND X M) (hM2 : M ≤ 3000) (res : ByteArray) (hres : res = strOfNums ((txt s X M).map Int.ofNat)) :
    Calls Tryz.prog 46 #[.agg #[.bool s, .slice base n c]] w fun e w' => e = .returned (.tuple #[.string res, .int .i64 0]) ∧ Below w.heap.size w w' := by
  have hI : IsInt w (.agg #[.bool s, .slice base n c]) (sg s X) := ⟨s, base, b, off, n, c, X, rfl, hb, hX, hn, hl, rfl⟩
  have HI := Lib.hid (fun W (h : Below w.heap.size w W) => hI.kept h)
  have HM := Lib.hid (fun W (h : Below w.heap.size w W) => mag_any base b off n c X W hb (hX.kept h) hn hl)
  have HND := Lib.hid hM
  have HR := Lib.hid hres
  have HX0 := Lib.hid h0
  have HSM := Lib.hid hs
  have t0 : ((nl X : Int) == 0) = false := by have := mt nl_eq_zero.1 h0; simp; omega
  have LRG := Lib.hid (fun W (h : Below w.heap.size w W) => large_ref _ _ W (hI.kept h))
  rw [sg_natAbs, decide_eq_false hs] at LRG
  clear hI hb hX hM hres h0 hs
  go_enter Tryz.func46, Tryz.ntmps46
  go_upto_region 1 with fail
  generalize hW : World.alloc _ _ = W
  have B0 : Blk W w.heap.size #[.bool s, .slice base n c] := by rw [← hW]; exact blk_new rfl
  have hbW : Below w.heap.size w W := by rw [← hW]; exact bs_alloc (Below.refl _ _) _
  have HBL := Lib.hid (show ∀ w1, Below W.heap.size W w1 → w1.cell? ⟨w.heap.size, 0, none⟩ = some (.bool s) ∧ w1.cell? ⟨w.heap.size, 1, none⟩ = some (.slice base n c) from fun w1 h => Blk2 (B0.kept h))
  have HBW := Lib.hid hbW
  obtain ⟨a0, a1⟩ := Blk2 B0
  clear hW B0 hbW
  go_wp2_with fail
  refine (LRG.out W HBW.out).mono ?_
  rintro e w1 ⟨rfl, hx1⟩
  obtain ⟨a0', a1'⟩ := HBL.out w1 hx1
  have HB1 := Lib.hid hx1
  clear a0 a1 hx1 LRG
  go_wp2_with fail
  refine (HM.out w1 (bs_trans HBW.out HB1.out)).mono ?_
  rintro e w2 ⟨v, rfl, hown, hx2⟩
  have HC := Lib.hid (cansl_own hown)
  obtain ⟨mb, mg, mc, rfl, _⟩ := own_slice hown
  have HB2 := Lib.hid (bs_trans HB1.out hx2)
  clear hown hx2 HB1 HM a0' a1'
  go_wp2_with fail
  go_loopg [4, 5] X (fun gk sm ss wr => ∃ j Y T : Nat, gk = Y ∧ CanSl wr sm Y ∧ ss = .string (dtx X T) ∧ Hid (Y = X / 10^(9*j)) ∧ Hid (Y ≠ 0 → T = 9*j) ∧ Hid (Y = 0 → T = M) ∧ Below W.heap.size W wr)
  case atStart => exact ⟨0, X, 0, rfl, HC.out, rfl, Lib.hid (by simp), Lib.hid (fun _ => rfl), Lib.hid (fun h => absurd h HX0.out), HB2.out⟩
  case round =>
    clear HC HB2
    obtain ⟨j, Y, T, rfl, ⟨qb, qg, qo, qc, rfl, hq1, hq2, hq3⟩, rfl, hY, hT1, hT2, hbr⟩ := hrel
    by_cases hY0 : gk = 0
    · have hT := Lib.hid (hT2.out hY0)
      have i1 : ¬ (0 : Int) < nl gk := by rw [hY0, nl_zero]; decide
      have i2 : ¬ 0 < nl gk := by rw [hY0, nl_zero]; decide
      obtain ⟨a0, a1⟩ := HBL.out wr hbr
      have HBR := Lib.hid hbr
      have hII := HI.out wr (bs_trans HBW.out hbr)
      clear hY0 hq1 hq2 hq3 hbr
      have hsg := sg_sign (s := s) HX0.out
      have hsz : (dtx X T).size ≤ 3000 := by rw [dtx_size, hT.out]; exact hM2
      cases s
      · go_wp2_with fail
        refine (sign_isr wr hII (r := 1) hsg).mono ?_
        rintro e w3 ⟨rfl, hx⟩
        have HF := bs_trans HBW.out (bs_trans HBR.out hx)
        clear hII hx a0 a1
        go_wp2_with fail
        go_ret2
        exact ⟨by rw [HR.out, hT.out, ← dtx_txt]; rfl, HF⟩
      · go_wp2_with fail
        refine (sign_isr wr hII (r := -1) hsg).mono ?_
        rintro e w3 ⟨rfl, hx⟩
        have HF := bs_trans HBW.out (bs_trans HBR.out hx)
        clear hII hx a0 a1
        go_wp2_with fail
        go_ret2
        exact ⟨by rw [HR.out, hT.out, ← dtx_neg]; rfl, HF⟩
    · have i1 : (0 : Int) < nl gk := by have := mt nl_eq_zero.1 hY0; omega
      have hT9 := hT1.out hY0
      subst hT9
      have hgkX : gk ≤ X := by rw [hY.out]; exact Nat.div_le_self _ _
      have hnlg : nl gk ≤ 256 := Nat.le_trans (nl_mono hgkX) (by have := HSM.out; omega)
      have HQ1 := Lib.hid hq1
      have HY0 := Lib.hid hY0
      clear hq1 hY0 hT1 hT2
      go_wp2_with fail
      generalize hV : World.alloc _ _ = V
      obtain ⟨P, hP⟩ : ∃ P, wr.heap.size = P := ⟨_, rfl⟩
      rw [hP]
      have hbV : Below wr.heap.size wr V := by rw [← hV]; exact bs_alloc (Below.refl _ _) _
      have hten : Num V P 0 1 1000000000 := by
        rw [← hV, ← hP]
        refine ⟨by rw [Nat.pow_one]; decide, fun i hi => ?_⟩
        obtain rfl : i = 0 := by omega
        exact cell_new _ _ _ _ _ _ rfl rfl
      have hq4 := hq2.kept hbV
      have HBV := Lib.hid (bs_trans hbr hbV)
      clear hV hP hbV hq2 hbr
      refine (divmag_small qb qg qo gk qc P 0 1000000000 1 V HQ1.out hq4 hten (by omega) hq3 (nl_small (by decide) (by decide))).mono ?_
      rintro e w3 ⟨vq, vr, rfl, ⟨b1, g1, o1, c1, rfl, hq11, hq12, hq13⟩, ⟨b2, g2, o2, c2, rfl, hr11, hr12, hr13⟩, hb3⟩
      have HB3 := Lib.hid (bs_trans HBV.out hb3)
      have HQQ := Lib.hid hq11
      have HRR := Lib.hid hr11
      have hR9 : gk % 1000000000 < 1000000000 := Nat.mod_lt _ (by decide)
      clear hq11 hr11 hb3 HBV hq4 hten
      obtain ⟨R, hR⟩ : ∃ R, gk % 1000000000 = R := ⟨_, rfl⟩
      rw [hR] at hR9 hr12 hr13 HRR ⊢
      have HRE := Lib.hid hR
      have hR1 : nl R ≤ 1 := nl_le (by rw [Nat.pow_one]; unfold B; omega)
      clear hR
      go_upto_if 29 with fail
      go_cut [8] from 27 to 32 (fun s8 wx => s8 = .int .u32 R ∧ w3 = wx)
      case first =>
        by_cases hr0 : R = 0
        · have k1 : ¬ 0 < nl R := by rw [hr0, nl_zero]; decide
          subst hr0
          go_wp2_with fail
          go_meet
          exact ⟨rfl, rfl⟩
        · have k0 : nl R = 1 := by have := mt nl_eq_zero.1 hr0; omega
          have cr := hr12.cell (i := 0) (by omega)
          rw [dg0_small hR1, Nat.add_zero] at cr
          obtain rfl := HRR.out (by omega)
          have k1 : 0 < nl R := by omega
          have k2 : (0 : Int) < nl R := by omega
          clear hr0 k0
          go_wp2_with fail
          go_meet
          exact ⟨rfl, rfl⟩
      case rest =>
      obtain ⟨rfl, rfl⟩ := hcut
      have hj9 : 9 * j < M := nd_gt HND.out (by rw [← hY.out]; exact HY0.out)
      go_wp2_with fail
      go_loopw [5, 8, 9] (fun ss sx sk wr2 => ∃ k D : Nat, k ≤ 9 ∧ D < 1000000000 ∧ ss = .string (dtx X (9*j+k)) ∧ sx = .int .u32 D ∧ sk = .int .i64 k ∧ Hid (D = R / 10^k) ∧ Hid (9*j+k ≤ M) ∧ Below w3.heap.size w3 wr2) (fun _ _ sk _ => 9 - (intOf sk).toNat)
      case atStart => exact ⟨0, R, by omega, hR9, rfl, rfl, rfl, Lib.hid (by simp), Lib.hid (by omega), Below.refl _ _⟩
      case round =>
        obtain ⟨k, D, hk, hD, rfl, rfl, rfl, hDe, hkM, hbw⟩ := hrel
        have hab := above (X := X) (j := j) hk
        rw [← hY.out, HRE.out, ← hDe.out] at hab
        have HAB := Lib.hid hab
        have hqn : Hid (gk / 1000000000 = 0 ↔ nl (gk / 1000000000) = 0) := Lib.hid nl_eq_zero.symm
        obtain ⟨q, hq⟩ : ∃ q, gk / 1000000000 = q := ⟨_, rfl⟩
        have hqlt : q < gk := by rw [← hq]; exact Nat.div_lt_self (by have := HY0.out; omega) (by decide)
        have HQE := Lib.hid hq
        rw [hq] at HAB hqn hq12 hq13 HQQ ⊢
        have hq2 := hq12.kept hbw
        have HW2 := Lib.hid (bs_trans HB3.out hbw)
        clear hab hq
        by_cases hend : k = 9 ∨ (D = 0 ∧ q = 0)
        · have HT : Hid (q = 0 → 9*j+k = M) := Lib.hid (fun h0 => by
            have h1 : D = 0 := by
              rcases hend with h | h
              · rw [hDe.out, h]; exact Nat.div_eq_of_lt hR9
              · exact h.1
            have h2 := HAB.out
            rw [h0, h1, Nat.zero_mul] at h2
            have := nd_le HND.out h2 HX0.out
            have := hkM.out
            omega)
          have HT9 : Hid (q ≠ 0 → 9*j+k = 9*(j+1)) := Lib.hid (fun h0 => by
            rcases hend with h | h
            · omega
            · exact absurd h.2 h0)
          have HQX : Hid (q = X / 10^(9*(j+1))) := Lib.hid (by rw [← HQE.out, hY.out, group_step, Nat.mul_add])
          by_cases hk9 : k = 9
          · subst hk9
            clear hend
            go_wp2_with fail
            go_roundg q
            case measure => exact hqlt
            case rel => exact ⟨j + 1, q, _, rfl, ⟨b1, g1, o1, c1, rfl, HQQ.out, hq2, hq13⟩, rfl, HQX, HT9, HT, HW2.out⟩
          · have hz := hend.resolve_left hk9
            have hk8 : (k : Int) < 9 := by omega
            have e1 : ¬ 0 < D := by omega
            have e2 : ¬ (0 : Int) < D := by omega
            have e3 : ¬ 0 < nl q := by rw [hz.2, nl_zero]; decide
            have e4 : ¬ (0 : Int) < nl q := by rw [hz.2, nl_zero]; decide
            clear hend hz hk9
            go_wp2_with fail
            go_roundg q
            case measure => exact hqlt
            case rel => exact ⟨j + 1, q, _, rfl, ⟨b1, g1, o1, c1, rfl, HQQ.out, hq2, hq13⟩, rfl, HQX, HT9, HT, HW2.out⟩
        · have hk8 : k < 9 := by omega
          have i3 : (k : Int) < 9 := by omega
          have hne : X / 10^(9*j+k) ≠ 0 := by
            rw [HAB.out]
            intro h0
            have h1 : D = 0 := by omega
            have h2 : q * 10^(9-k) = 0 := by omega
            have h3 : q = 0 := by
              rcases Nat.mul_eq_zero.1 h2 with h | h
              · exact h
              · have := ten_pos (9-k); omega
            exact hend (Or.inr ⟨h1, h3⟩)
          have HK1 : Hid (9*j+(k+1) ≤ M) := Lib.hid (by have := nd_gt HND.out hne; omega)
          have hch : (48 : Int) + (D : Int) % 10 = (dch X (9 * j + k) : Nat) := by
            unfold dch
            have h1 := hDe.out
            rw [← HRE.out, hY.out] at h1
            have h2 := digit_in (X := X) (a := 9 * j) hk8
            rw [← h1] at h2
            omega
          have hdl := dch_lt X (9 * j + k)
          have HS2 := dtx_succ X (9 * j + k)
          have hsz : (dtx X (9*j+k)).size ≤ 3000 := by rw [dtx_size]; have := hkM.out; omega
          have hcv := conv_one (P := Tryz.prog) (w := wr) (T := 5) (src := 42) (e := 5) (by rfl) (by rfl) hdl
          have HDE := Lib.hid hDe.out
          have HNE := Lib.hid (show 0 < D ∨ (¬ 0 < D ∧ 0 < nl q) by
            by_cases hd0 : 0 < D
            · exact Or.inl hd0
            · refine Or.inr ⟨hd0, ?_⟩
              have : q ≠ 0 := fun h => hend (Or.inr ⟨by omega, h⟩)
              have := mt nl_eq_zero.1 this
              omega)
          obtain ⟨dc, hdc⟩ : ∃ d, dch X (9 * j + k) = d := ⟨_, rfl⟩
          rw [hdc] at hch hdl hcv HS2
          obtain ⟨s1, hs1⟩ : ∃ s, strOfNums [(dc : Int)] = s := ⟨_, rfl⟩
          have hs1z : s1.size ≤ 1 := by rw [← hs1, strOfNums_size]; simp
          rw [hs1] at hcv HS2
          have HCV := Lib.hid hcv
          have HS2' := Lib.hid HS2
          clear hend hne hdc hs1 hcv HS2
          rcases HNE.out with e1 | ⟨e1, e3⟩
          · have e2 : (0 : Int) < D := by omega
            clear HNE
            go_wp2_with fail
            rw [HCV.out _ (by rfl)]
            go_wp2_with fail
            rw [HS2'.out]
            go_roundw
            case rel => exact ⟨k + 1, D / 10, by omega, by omega, rfl, rfl, by go_num, Lib.hid (by rw [HDE.out, Nat.div_div_eq_div_mul, ← Nat.pow_succ]), HK1, bs_alloc hbw _⟩
            case measure => simp [intOf]; omega
          · have e2 : ¬ (0 : Int) < D := by omega
            have e4 : (0 : Int) < nl q := by omega
            clear HNE
            go_wp2_with fail
            rw [HCV.out _ (by rfl)]
            go_wp2_with fail
            rw [HS2'.out]
            go_roundw
            case rel => exact ⟨k + 1, D / 10, by omega, by omega, rfl, rfl, by go_num, Lib.hid (by rw [HDE.out, Nat.div_div_eq_div_mul, ← Nat.pow_succ]), HK1, bs_alloc hbw _⟩
            case measure => simp [intOf]; omega
end Go.Proofs.YtdikoeeoglfmaaaGreatDoor

namespace Go.Proofs.YtdikoeeoglfmaaaGreatDoor
open Go.RowKit PB

end Go.Proofs.YtdikoeeoglfmaaaGreatDoor

namespace Go.Proofs.YtdikoeeoglfmaaaGreatDoor
open Go.RowKit PB

end Go.Proofs.YtdikoeeoglfmaaaGreatDoor

namespace Go.Proofs.YtdikoeeoglfmaaaGreatDoor
open Go.RowKit PB

end Go.Proofs.YtdikoeeoglfmaaaGreatDoor

namespace Go.Proofs.YtdikoeeoglfmaaaGreatDoor
open Go.RowKit PB

set_option maxHeartbeats 1600000 in
set_option maxRecDepth 100000 in
theorem text_ref0 (s : Bool) (base : Option Addr) (b off n c : Nat) (w : World) (hb : n ≠ 0 → base = some ⟨b, off, none⟩) (hX : Num w b off n 0) (hn : n ≤ c) (hl : n ≤ 1000000000) :
    Calls Tryz.prog 46 #[.agg #[.bool s, .slice base n c]] w fun e w' => e = .returned (.tuple #[.string ⟨#[48]⟩, .int .i64 0]) ∧ Below w.heap.size w w' := by
  have hI : IsInt w (.agg #[.bool s, .slice base n c]) (sg s 0) := ⟨s, base, b, off, n, c, 0, rfl, hb, hX, hn, hl, rfl⟩
  have HM := Lib.hid (fun W (h : Below w.heap.size w W) => mag_any base b off n c 0 W hb (hX.kept h) hn hl)
  have LRG := Lib.hid (fun W (h : Below w.heap.size w W) => large_ref _ _ W (hI.kept h))
  rw [sg_natAbs, decide_eq_false (by rw [nl_zero]; decide)] at LRG
  clear hI hb hX
  go_enter Tryz.func46, Tryz.ntmps46
  go_upto_region 1 with fail
  generalize hW : World.alloc _ _ = W
  have B0 : Blk W w.heap.size #[.bool s, .slice base n c] := by rw [← hW]; exact blk_new rfl
  have hbW : Below w.heap.size w W := by rw [← hW]; exact bs_alloc (Below.refl _ _) _
  obtain ⟨a0, a1⟩ := Blk2 B0
  clear hW
  go_wp2_with fail
  refine (LRG.out W hbW).mono ?_
  rintro e w1 ⟨rfl, hx1⟩
  obtain ⟨a0', a1'⟩ := Blk2 (B0.kept hx1)
  have HB1 := bs_trans hbW hx1
  clear a0 a1 hx1 LRG hbW B0
  go_wp2_with fail
  refine (HM.out w1 HB1).mono ?_
  rintro e w2 ⟨v, rfl, hown, hx2⟩
  obtain ⟨mb, mg, mc, rfl, _⟩ := own_slice hown
  have HB2 := bs_trans HB1 hx2
  rw [nl_zero]
  clear hown hx2 HB1 HM a0' a1'
  go_wp2_with fail
  go_ret2
  exact ⟨rfl, HB2⟩
end Go.Proofs.YtdikoeeoglfmaaaGreatDoor

namespace Go.Proofs.YtdikoeeoglfmaaaGreatDoor
open Go.RowKit PB

end Go.Proofs.YtdikoeeoglfmaaaGreatDoor

namespace Go.Proofs.YtdikoeeoglfmaaaGreatDoor
open Go.RowKit PB

end Go.Proofs.YtdikoeeoglfmaaaGreatDoor

namespace Go.Proofs.YtdikoeeoglfmaaaGreatDoor
open Go.RowKit PB

end Go.Proofs.YtdikoeeoglfmaaaGreatDoor

namespace Go.Proofs.YtdikoeeoglfmaaaGreatDoor
open Go.RowKit PB

end Go.Proofs.YtdikoeeoglfmaaaGreatDoor

namespace Go.Proofs.YtdikoeeoglfmaaaGreatDoor
open Go.RowKit PB

end Go.Proofs.YtdikoeeoglfmaaaGreatDoor

namespace Go.Proofs.YtdikoeeoglfmaaaGreatDoor
open Go.RowKit PB

end Go.Proofs.YtdikoeeoglfmaaaGreatDoor

namespace Go.Proofs.YtdikoeeoglfmaaaGreatDoor
open Go.RowKit PB

end Go.Proofs.YtdikoeeoglfmaaaGreatDoor

namespace Go.Proofs.YtdikoeeoglfmaaaGreatDoor
open Go.RowKit PB

end Go.Proofs.YtdikoeeoglfmaaaGreatDoor

namespace Go.Proofs.YtdikoeeoglfmaaaGreatDoor
open Go.RowKit PB

end Go.Proofs.YtdikoeeoglfmaaaGreatDoor

namespace Go.Proofs.YtdikoeeoglfmaaaGreatDoor
open Go.RowKit PB

end Go.Proofs.YtdikoeeoglfmaaaGreatDoor

namespace Go.Proofs.YtdikoeeoglfmaaaGreatDoor
open Go.RowKit PB

end Go.Proofs.YtdikoeeoglfmaaaGreatDoor

namespace Go.Proofs.YtdikoeeoglfmaaaGreatDoor
open Go.RowKit PB
set_option maxHeartbeats 1600000 in
set_option maxRecDepth 100000 in
theorem ofr_nonneg (n : Nat) (w : World) (hn : Hid (n < 9223372036854775808)) :
    Calls Tryz.prog 47 #[.int .i64 n] w (RetInt w n) := by
  have h0 : ¬ ((n : Int) < 0) := by omega
  go_enter Tryz.func47, Tryz.ntmps47
  go_wp2_with fail
  have e0 : IntKind.u64.wrap (n : Int) % 4294967296 = (dg n 0 : Nat) := by
    have := hn.out; rw [of_dg0, IntKind.wrap_u64]; omega
  have e1 : IntKind.u64.wrap (n : Int) / 4294967296 % 4294967296 = (dg n 1 : Nat) := by
    have := hn.out; rw [of_dg1 (by omega), IntKind.wrap_u64]; omega
  rw [e0, e1]
  clear e0 e1
  generalize hW : World.alloc _ _ = W
  have B0 : Blk W w.heap.size #[.bool false, .slice none 0 0] := by rw [← hW]; exact (blk_new rfl).alloc _
  have B1 : Blk W (w.heap.size + 1) #[.int .u32 (dg n 0), .int .u32 (dg n 1)] := by rw [← hW]; exact blk_new (by simp)
  have hbW : Below w.heap.size w W := by rw [← hW]; exact ((Below.refl _ _).alloc (Nat.le_refl _) _).alloc (by simp) _
  have HS := Lib.hid (show W.heap.size = w.heap.size + 2 by rw [← hW]; simp)
  have hN : Num W (w.heap.size + 1) 0 2 n := ⟨by have := hn.out; show n < 18446744073709551616; omega, fun i hi => by
    have : i = 0 ∨ i = 1 := by omega
    rcases this with rfl | rfl
    · exact B1.cell 0 _ rfl
    · exact B1.cell 1 _ rfl⟩
  clear hW B1
  refine (make1_any false _ (w.heap.size + 1) 0 2 2 n W (fun _ => rfl) hN (Nat.le_refl _) (by omega)).mono ?_
  rintro e w2 ⟨u, rfl, hcan, hb2⟩
  have hbw2 : Below w.heap.size w w2 := hbW.trans (hb2.mono (by have := HS.out; omega))
  obtain ⟨r0, r1⟩ := Blk2 (B0.kept hb2)
  obtain ⟨f0, f1⟩ := Blk2f (B0.kept hb2)
  obtain ⟨s1, q1, c1, rfl⟩ := can_agg hcan
  have HC := Lib.hid hcan
  clear hcan B0
  go_wp2_with fail
  have h1 := HS.out
  exact bodyPost_ret (v := .agg #[.bool s1, .slice q1 _ c1]) (by simp [results, Tryz.results47, go_sem, r0, r1]) rfl ⟨_, rfl, ((HC.out.set (by show w.heap.size < W.heap.size; omega) _).set (by show w.heap.size < W.heap.size; omega) _).mono (by omega), (hbw2.setCell (Nat.le_refl _) _).setCell (Nat.le_refl _) _⟩
set_option maxHeartbeats 1600000 in
set_option maxRecDepth 100000 in
theorem ofr_neg (n : Nat) (w : World) (h1 : 0 < n) (hn : Hid (n ≤ 9223372036854775808)) :
    Calls Tryz.prog 47 #[.int .i64 (-(n : Int))] w (RetInt w (-(n : Int))) := by
  have h0 : -(n : Int) < 0 := by omega
  go_enter Tryz.func47, Tryz.ntmps47
  go_wp2_with fail
  have e0 : IntKind.u64.wrap (-IntKind.u64.wrap (-(n : Int))) % 4294967296 = (dg n 0 : Nat) := by
    have := hn.out; rw [of_dg0, IntKind.wrap_u64, IntKind.wrap_u64]; omega
  have e1 : IntKind.u64.wrap (-IntKind.u64.wrap (-(n : Int))) / 4294967296 % 4294967296 = (dg n 1 : Nat) := by
    have := hn.out; rw [of_dg1 (by omega), IntKind.wrap_u64, IntKind.wrap_u64]; omega
  rw [e0, e1]
  clear e0 e1
  generalize hW : World.alloc _ _ = W
  have B0 : Blk W w.heap.size #[.bool false, .slice none 0 0] := by rw [← hW]; exact (blk_new rfl).alloc _
  have B1 : Blk W (w.heap.size + 1) #[.int .u32 (dg n 0), .int .u32 (dg n 1)] := by rw [← hW]; exact blk_new (by simp)
  have hbW : Below w.heap.size w W := by rw [← hW]; exact ((Below.refl _ _).alloc (Nat.le_refl _) _).alloc (by simp) _
  have HS := Lib.hid (show W.heap.size = w.heap.size + 2 by rw [← hW]; simp)
  have hN : Num W (w.heap.size + 1) 0 2 n := ⟨by have := hn.out; show n < 18446744073709551616; omega, fun i hi => by
    have : i = 0 ∨ i = 1 := by omega
    rcases this with rfl | rfl
    · exact B1.cell 0 _ rfl
    · exact B1.cell 1 _ rfl⟩
  clear hW B1
  refine (make1_any true _ (w.heap.size + 1) 0 2 2 n W (fun _ => rfl) hN (Nat.le_refl _) (by omega)).mono ?_
  rintro e w2 ⟨u, rfl, hcan, hb2⟩
  have hbw2 : Below w.heap.size w w2 := hbW.trans (hb2.mono (by have := HS.out; omega))
  obtain ⟨r0, r1⟩ := Blk2 (B0.kept hb2)
  obtain ⟨f0, f1⟩ := Blk2f (B0.kept hb2)
  obtain ⟨s1, q1, c1, rfl⟩ := can_agg hcan
  have HC := Lib.hid hcan
  clear hcan B0
  go_wp2_with fail
  have h1 := HS.out
  exact bodyPost_ret (v := .agg #[.bool s1, .slice q1 _ c1]) (by simp [results, Tryz.results47, go_sem, r0, r1]) rfl ⟨_, rfl, ((HC.out.set (by show w.heap.size < W.heap.size; omega) _).set (by show w.heap.size < W.heap.size; omega) _).mono (by omega), (hbw2.setCell (Nat.le_refl _) _).setCell (Nat.le_refl _) _⟩
theorem of_ref (n : Int) (w : World) (h1 : -9223372036854775808 ≤ n) (h2 : n ≤ 9223372036854775807) :
    Calls Tryz.prog 47 #[.int .i64 n] w (RetInt w n) := by
  by_cases h : 0 ≤ n
  · obtain ⟨k, rfl⟩ := Int.eq_ofNat_of_zero_le h
    exact ofr_nonneg k w (Lib.hid (by omega))
  · obtain ⟨k, hk⟩ := Int.eq_ofNat_of_zero_le (show 0 ≤ -n by omega)
    obtain rfl : n = -(k : Int) := by omega
    exact ofr_neg k w (by omega) (Lib.hid (by omega))
end Go.Proofs.YtdikoeeoglfmaaaGreatDoor

