/-
  integer.widen: m x + n, in the memory of x if that is enough.
  Plain facts on decimal digits.
  slices.Reverse of bytes, in place.
-/
import Derived.BigRegion
import Derived.Test.YtdgfmkideghhaaaM17
import Derived.Test.YtdgfmkideghhaaaM19
namespace PB
open Go Go.RowKit
/-- The limbs of X as cells. -/
def limbs (X n : Nat) : List Value := (List.range n).map fun i => .int .u32 (dg X i)
theorem limbs_length (X n : Nat) : (limbs X n).length = n := by simp [limbs]
theorem limbs_get {X n i : Nat} (h : i < n) : (limbs X n)[i]? = some (.int .u32 (dg X i)) := by simp [limbs, h]
theorem limbs_set {X n k d : Nat} (_hk : k < n) (hd : d < B) : (limbs X n).set k (.int .u32 d) = limbs (put X k d) n := by
  apply List.ext_getElem?
  intro i
  rw [List.getElem?_set]
  by_cases h : i < n
  · rw [limbs_get h, limbs_get h]
    by_cases e : k = i
    · subst e; rw [if_pos rfl, dg_put_same hd, if_pos (by rw [limbs_length]; exact h)]
    · rw [if_neg e, dg_put_other hd (fun h => e h.symm)]
  · rw [List.getElem?_eq_none (by rw [limbs_length]; omega), List.getElem?_eq_none (by rw [limbs_length]; omega)]
    split
    · split <;> first | rfl | (rename_i h1 h2; rw [limbs_length] at h2; omega)
    · rfl
theorem limbs_snoc {X n d : Nat} (hX : X < B^n) (hd : d < B) : limbs X n ++ [.int .u32 d] = limbs (X + d * B^n) (n+1) := by
  apply List.ext_getElem?
  intro i
  by_cases h : i < n
  · rw [List.getElem?_append_left (by rw [limbs_length]; exact h), limbs_get h, limbs_get (by omega), dg_add_lo h]
  · by_cases e : i = n
    · subst e
      rw [List.getElem?_append_right (by rw [limbs_length]; omega), limbs_length, limbs_get (by omega), dg_add_eq hX hd]
      simp
    · rw [List.getElem?_append_right (by rw [limbs_length]; omega), List.getElem?_eq_none (by rw [limbs_length]; simp; omega), List.getElem?_eq_none (by rw [limbs_length]; omega)]
/-- The slice v owns a row, in a block from N on, of n limbs that hold X. -/
def OwnL (E : TypeId) (N : Nat) (w : World) (v : Value) (n X : Nat) : Prop := X < B^n ∧ w.ownsRow N E 1 v n (limbs X n)
theorem OwnL.nil (E : TypeId) (N : Nat) (w : World) : OwnL E N w (.slice none 0 0) 0 0 := ⟨Bp 0, World.ownsRow_nil w N E 1⟩
theorem OwnL.num {E : TypeId} {N : Nat} {w : World} {g n c X : Nat} (h : OwnL E N w (.slice (some ⟨g, 0, none⟩) n c) n X) : Num w g 0 n X :=
  ⟨h.1, fun i hi => by rw [Nat.zero_add, h.2.cellAt i (by omega), limbs_get hi]⟩
theorem OwnL.free {E : TypeId} {N : Nat} {w : World} {g n c X : Nat} (h : OwnL E N w (.slice (some ⟨g, 0, none⟩) n c) n X) : Free w g 0 n :=
  fun i _ => by rw [Nat.zero_add]; exact h.2.frozenAt i
/-- One step of m x + c. -/
theorem widen_step {S c m x d c' P Xl : Nat} {c0 : Nat} (h : S + c * P = Xl * m + c0) (hd : d + c' * B = m * x + c) : (S + d * P) + c' * (P * B) = (Xl + x * P) * m + c0 := by
  have e : (d + c' * B) * P = (m * x + c) * P := by rw [hd]
  rw [Nat.add_mul, Nat.add_mul, Nat.mul_assoc c' B P, Nat.mul_comm B P] at e
  have e2 : (Xl + x * P) * m = Xl * m + m * x * P := by rw [Nat.add_mul]; congr 1; rw [Nat.mul_right_comm, Nat.mul_comm x m]
  omega
theorem widen_put {S X k d : Nat} (hS : S < B^k) : put (S + X / B^k * B^k) k d = S + d * B^k + X / B^(k+1) * B^(k+1) := by
  unfold put
  have e1 : (S + X / B^k * B^k) % B^k = S := by rw [Nat.add_mul_mod_self_right]; exact Nat.mod_eq_of_lt hS
  have e2 : (S + X / B^k * B^k) / B^(k+1) = X / B^(k+1) := by
    rw [pow_succ, ← Nat.div_div_eq_div_mul, Nat.add_mul_div_right _ _ (Bp k), Nat.div_eq_of_lt hS, Nat.zero_add, Nat.div_div_eq_div_mul]
  rw [e1, e2]
theorem widen_wraps {m y c : Nat} (hm : m < B) (hy : y < B) (hc : c < B) :
    IntKind.u64.wrap ((c : Int) + IntKind.u64.wrap (IntKind.u64.wrap (m : Int) * IntKind.u64.wrap (y : Int))) = ((c + m * y : Nat) : Int) := by
  have := mul_le hm hy
  have e : (m : Int) * (y : Int) = ((m * y : Nat) : Int) := (Int.natCast_mul m y).symm
  have e1 : IntKind.u64.wrap (m : Int) = m := by rw [IntKind.wrap_u64]; unfold B at *; omega
  have e2 : IntKind.u64.wrap (y : Int) = y := by rw [IntKind.wrap_u64]; unfold B at *; omega
  rw [e1, e2, e]
  generalize m * y = p at *
  have e4 : IntKind.u64.wrap (p : Int) = p := by rw [IntKind.wrap_u64]; omega
  rw [e4, IntKind.wrap_u64]
  unfold B at *; omega
def wLo (m y c : Nat) : Nat := (c + m * y) % 4294967296
def wHi (m y c : Nat) : Nat := (c + m * y) / 4294967296
theorem w_lo_hi (m y c : Nat) : wLo m y c + wHi m y c * B = m * y + c := by unfold wLo wHi B; omega
theorem wLo_lt (m y c : Nat) : wLo m y c < B := Nat.mod_lt _ (by decide)
theorem wHi_lt {m y c : Nat} (hm : m < B) (hy : y < B) (hc : c < B) : wHi m y c < B := by
  have := mul_le hm hy
  unfold wHi B at *; omega
/-- What widen returns. -/
def RetWid (E : TypeId) (N : Nat) (w : World) (X lim : Nat) (e : Ending) (w' : World) : Prop :=
  ∃ v n, e = .returned v ∧ OwnL E N w' v n X ∧ n ≤ lim ∧ Below N w w'
end PB
namespace Go.Proofs.Ytdgfmkideghhaaa
open Go.RowKit PB

set_option maxHeartbeats 1600000 in
set_option maxRecDepth 100000 in
theorem widen_some (N g n cp X m c0 : Nat) (w : World) (hown : OwnL 77 N w (.slice (some ⟨g, 0, none⟩) n cp) n X) (hN : N ≤ g) (hNw : N ≤ w.heap.size) (hm : m < B) (hc0 : c0 < B) (hn : n ≤ 1000000) :
    Calls Try.prog 114 #[.slice (some ⟨g, 0, none⟩) n cp, .int .u32 m, .int .u32 c0] w (RetWid 77 N w (X * m + c0) (n + 1)) := by
  have hc0' : (c0 : Int) < 4294967296 := by unfold B at hc0; omega
  obtain ⟨i0, hi, hz0, hz1, hz2⟩ := info_parts info51
  have hX := hown.1
  go_enter Try.func114, Try.ntmps114
  go_wp2_with fail
  go_loopw [7, 14] (fun c i wr => ∃ k cc S : Nat, k ≤ n ∧ cc < B ∧ S < B^k ∧ c = .int .u64 cc ∧ i = .int .i64 k ∧ Hid (S + cc * B^k = (X % B^k) * m + c0) ∧ OwnL 77 N wr (.slice (some ⟨g, 0, none⟩) n cp) n (S + X / B^k * B^k) ∧ Below N w wr) (fun _ i _ => n - (intOf i).toNat)
  case atStart => exact ⟨0, c0, 0, by omega, hc0, Bp _, rfl, rfl, Lib.hid (by simp [Nat.mod_one]), by simpa using hown, Below.refl _ _⟩
  case round =>
    obtain ⟨k, cc, S, hk, hcc, hS, rfl, rfl, hE, hO, hb⟩ := hrel
    by_cases hlt : k < n
    · have c1 := hO.num.cell0 (i := k) hlt
      have f1 := hO.free.at0 (i := k) hlt
      have hdg : dg (S + X / B^k * B^k) k = dg X k := by
        have := dg_add_hi (S := S) (d := X / B^k) (i := 0) hS
        rw [Nat.add_zero] at this
        rw [this, dg_div, Nat.add_zero]
      rw [hdg] at c1
      clear hdg
      have hx := dg_lt X k
      have i1 : (k : Int) < n := by omega
      have i2 : (0 : Int) ≤ k := by omega
      go_wp2_with fail
      rw [widen_wraps hm hx hcc]
      go_roundw
      case rel =>
        have e1 : ((cc + m * dg X k : Nat) : Int) / 4294967296 = (wHi m (dg X k) cc : Nat) := (Int.natCast_ediv _ _).symm
        have e2 : ((cc + m * dg X k : Nat) : Int) % 4294967296 = (wLo m (dg X k) cc : Nat) := (Int.natCast_emod _ _).symm
        rw [e1, e2]
        refine ⟨k + 1, wHi m (dg X k) cc, S + wLo m (dg X k) cc * B^k, by omega, wHi_lt hm hx hcc, add_lt_pow hS (wLo_lt _ _ _), rfl, by go_num, Lib.hid ?_, ?_, hb.setCell hN _⟩
        · rw [mod_succ X, pow_succ]; exact widen_step hE.out (w_lo_hi _ _ _)
        · refine ⟨?_, ?_⟩
          · rw [← widen_put hS]; exact put_lt (wLo_lt _ _ _) hO.1 hlt
          · have := hO.2.stored k (.int .u32 (wLo m (dg X k) cc))
            rw [limbs_set hlt (wLo_lt _ _ _), widen_put hS] at this
            exact this.1
      case measure => simp [intOf]; omega
    · obtain rfl : k = n := by omega
      have hE2 : S + cc * B^k = X * m + c0 := by have := hE.out; rwa [mod_of_lt hX] at this
      have hv : S + X / B^k * B^k = S := by rw [Nat.div_eq_of_lt hX]; omega
      rw [hv] at hO
      by_cases hz : cc = 0
      · have ht : ¬ (0 < cc) := by omega
        have HE := Lib.hid (show X * m + c0 = S by rw [← hE2, hz]; omega)
        clear hE2 hv hz hE
        go_wp2_with fail
        go_ret
        rw [HE.out]
        exact ⟨_, k, rfl, hO, by omega, hb⟩
      · have ht : 0 < cc := by omega
        have HE := Lib.hid (show X * m + c0 = S + cc * B^k from hE2.symm)
        have hci : (cc : Int) < 4294967296 := by unfold B at hcc; omega
        clear hE2 hv hz hE
        go_wp2_with (at_builtin; refine wpList_append_own _ rfl _ _ 22 rfl N 77 i0 (.int .u32 0) 1 4 Try.underlying22 hi hz0 hz1 hz2 rfl (by decide) _ k _ rfl (hO.2.alloc _) ⟨wr.heap.size, 0, none⟩ 1 1 [.int .u32 cc] rfl rfl ?c1 ?c2 ?c3 ?c4 ?c5 ?_)
        case c1 =>
          intro j u hu
          obtain rfl : j = 0 := by have := (List.getElem?_eq_some_iff.1 hu).1; simpa using this
          simp at hu
          subst hu
          rw [Addr.add_lit]
          exact cell_new _ _ _ _ _ _ rfl rfl
        case c2 => intro u hu; simp at hu; subst hu; rfl
        case c3 => unfold maxLen; omega
        case c4 => omega
        case c5 => have := hb.size; simp; omega
        intro v' w1 hown1 hgrow _
        rw [limbs_snoc hS hcc] at hown1
        have hb1 : Below N w w1 := (hb.alloc (by have := hb.size; omega) _).grown hgrow (by have := hb.size; simp; omega) (by intro q hq; simp [Value.ownBlock] at hq; omega)
        go_wp2_with fail
        go_ret
        rw [HE.out]
        exact ⟨_, k + 1, rfl, ⟨add_lt_pow hS hcc, hown1⟩, by omega, hb1⟩

set_option maxHeartbeats 1600000 in
set_option maxRecDepth 100000 in
theorem widen_nil (N m c0 : Nat) (w : World) (hNw : N ≤ w.heap.size) (hc0 : c0 < B) :
    Calls Try.prog 114 #[.slice none 0 0, .int .u32 m, .int .u32 c0] w (RetWid 77 N w c0 1) := by
  have hc0' : (c0 : Int) < 4294967296 := by unfold B at hc0; omega
  obtain ⟨i0, hi, hz0, hz1, hz2⟩ := info_parts info51
  go_enter Try.func114, Try.ntmps114
  go_wp2_with fail
  go_loopw [7, 14] (fun c i wr => c = .int .u64 c0 ∧ i = .int .i64 0 ∧ wr = w) (fun _ _ _ => 0)
  case atStart => exact ⟨rfl, rfl, rfl⟩
  case round =>
    obtain ⟨rfl, rfl, rfl⟩ := hrel
    by_cases hz : c0 = 0
    · subst hz
      go_wp2_with fail
      go_ret
      exact ⟨_, 0, rfl, OwnL.nil _ _ _, by omega, Below.refl _ _⟩
    · have ht : 0 < c0 := by omega
      go_wp2_with (at_builtin; refine wpList_append_own _ rfl _ _ 22 rfl N 77 i0 (.int .u32 0) 1 4 Try.underlying22 hi hz0 hz1 hz2 rfl (by decide) _ 0 _ rfl (World.ownsRow_nil _ _ _ _) ⟨wr.heap.size, 0, none⟩ 1 1 [.int .u32 c0] rfl rfl ?c1 ?c2 ?c3 ?c4 ?c5 ?_)
      case c1 =>
        intro j u hu
        obtain rfl : j = 0 := by have := (List.getElem?_eq_some_iff.1 hu).1; simpa using this
        simp at hu
        subst hu
        rw [Addr.add_lit]
        exact cell_new _ _ _ _ _ _ rfl rfl
      case c2 => intro u hu; simp at hu; subst hu; rfl
      case c3 => unfold maxLen; omega
      case c4 => omega
      case c5 => simp; omega
      intro v' w1 hown1 hgrow _
      have hown2 : OwnL 77 N w1 v' 1 c0 := ⟨by rw [Nat.pow_one]; exact hc0, by
        have := limbs_snoc (X := 0) (n := 0) (Bp 0) hc0
        rw [Nat.pow_zero, Nat.mul_one, Nat.zero_add] at this
        rw [← this]; exact hown1⟩
      have hb1 : Below N wr w1 := ((Below.refl _ _).alloc hNw _).grown hgrow (by simp; omega) (by intro q hq; simp [Value.ownBlock] at hq)
      go_wp2_with fail
      go_ret
      exact ⟨_, 1, rfl, hown2, by omega, hb1⟩
/-- integer.widen. -/
theorem widen_any (N : Nat) (v : Value) (n X m c0 : Nat) (w : World) (hown : OwnL 77 N w v n X) (hNw : N ≤ w.heap.size) (hm : m < B) (hc0 : c0 < B) (hn : n ≤ 1000000) :
    Calls Try.prog 114 #[v, .int .u32 m, .int .u32 c0] w (RetWid 77 N w (X * m + c0) (n + 1)) := by
  have h2 := hown.2.2
  rcases h2 with ⟨rfl, rfl⟩ | ⟨g, cap, cur, rfl, hg, _⟩
  · have hX0 : X = 0 := by have := hown.1; rw [Nat.pow_zero] at this; omega
    subst hX0
    rw [Nat.zero_mul, Nat.zero_add]
    exact widen_nil N m c0 w hNw hc0
  · exact widen_some N g n cap X m c0 w hown hg hNw hm hc0 hn
end Go.Proofs.Ytdgfmkideghhaaa

namespace PB
/-- Decimal digit i of X as a character. -/
def dch (X i : Nat) : Nat := X / 10^i % 10 + 48
theorem ten_pos (i : Nat) : 0 < 10^i := Nat.pow_pos (by decide)
theorem dch_lt (X i : Nat) : dch X i < 256 := by unfold dch; omega
theorem digit_in {X a i : Nat} (hi : i < 9) : X / 10^a % 1000000000 / 10^i % 10 = X / 10^(a+i) % 10 := by
  have h1 : (1000000000 : Nat) = 10^i * 10^(9-i) := by rw [← Nat.pow_add, show i + (9 - i) = 9 by omega]
  rw [h1, Nat.mod_mul_right_div_self, Nat.div_div_eq_div_mul, ← Nat.pow_add]
  have h2 : 10 ∣ 10^(9-i) := ⟨10^(8-i), by rw [← Nat.pow_succ', show (8 - i).succ = 9 - i by omega]⟩
  exact Nat.mod_mod_of_dvd _ h2
theorem digits_step {X a i : Nat} : X / 10^a % 1000000000 / 10^i / 10 = X / 10^a % 1000000000 / 10^(i+1) := by rw [Nat.div_div_eq_div_mul, ← Nat.pow_succ]
theorem group_step {X a : Nat} : X / 10^a / 1000000000 = X / 10^(a+9) := by rw [Nat.div_div_eq_div_mul, show (1000000000:Nat) = 10^9 from rfl, ← Nat.pow_add]
/-- One zero less. -/
theorem strip_step {X m : Nat} (h : X < 10^(m+1)) (hd : dch X m = 48) : X < 10^m := by
  unfold dch at hd
  have h1 : X / 10^m < 10 := Nat.div_lt_of_lt_mul (by rw [← Nat.pow_succ]; exact h)
  have h2 : X / 10^m = 0 := by generalize X / 10^m = q at *; omega
  exact (Nat.div_eq_zero_iff_lt (ten_pos m)).1 h2
theorem two_ten {a b : Nat} (h : 32 * a ≤ 3 * b) : (4294967296 : Nat)^a ≤ 10^b := by
  have e : (4294967296 : Nat) = 2^32 := rfl
  rw [e, ← Nat.pow_mul]
  have h1 : (2:Nat)^(32*a) ≤ 2^(3*b) := Nat.pow_le_pow_right (by decide) h
  rw [Nat.pow_mul 2 3 b] at h1
  exact Nat.le_trans h1 (Nat.pow_le_pow_left (by decide) b)
/-- How many digits there can be. -/
theorem digits_few {X a b : Nat} (hb : 32 * 256 ≤ 3 * b) (hX : X < 4294967296^256) (h : X / 10^a ≠ 0) : a < b := by
  have h1 : 10^a ≤ X := by
    apply Nat.le_of_not_lt
    intro hlt
    exact h (Nat.div_eq_of_lt hlt)
  have h2 : 10^a < 10^b := Nat.lt_of_le_of_lt h1 (Nat.lt_of_lt_of_le hX (two_ten hb))
  exact (Nat.pow_lt_pow_iff_right (by decide)).1 h2
/-- The number of decimal digits, from below and above. -/
def IsND (X m : Nat) : Prop := X < 10^m ∧ (m = 0 ∨ dch X (m-1) ≠ 48)
theorem isND_pos {X m : Nat} (h : IsND X m) (hX : X ≠ 0) : 0 < m := by
  apply Nat.pos_of_ne_zero
  rintro rfl
  have := h.1
  rw [Nat.pow_zero] at this
  omega
theorem isND_ge {X m : Nat} (h : IsND X m) (hm : 0 < m) : 10^(m-1) ≤ X := by
  apply Nat.le_of_not_lt
  intro hlt
  rcases h.2 with h2 | h2
  · omega
  · apply h2
    unfold dch
    rw [Nat.div_eq_of_lt hlt]
theorem isND_unique {X m m' : Nat} (h : IsND X m) (h' : IsND X m') : m = m' := by
  rcases Nat.lt_trichotomy m m' with hlt | heq | hlt
  · have h1 := isND_ge h' (by omega)
    have h2 : 10^m ≤ 10^(m'-1) := Nat.pow_le_pow_right (by decide) (by omega)
    have h3 := h.1
    omega
  · exact heq
  · have h1 := isND_ge h (by omega)
    have h2 : 10^m' ≤ 10^(m-1) := Nat.pow_le_pow_right (by decide) (by omega)
    have h3 := h'.1
    omega
/-- The bytes of the text of a number that is not 0. -/
def txt (neg : Bool) (X m : Nat) : List Nat := (((List.range m).map (dch X)) ++ if neg then [45] else []).reverse
end PB

namespace PB
open Go Go.RowKit
/-- The first m cells of block q hold these bytes. -/
def Byt (w : World) (q m : Nat) (f : Nat → Nat) : Prop := ∀ t, t < m → w.cell? ⟨q, t, none⟩ = some (.int .u8 (f t)) ∧ w.frozen? ⟨q, t, none⟩ = false
/-- Places below i and above j have been exchanged. -/
def half (m i j : Nat) (f : Nat → Nat) (t : Nat) : Nat := if t < i ∨ j < t then f (m - 1 - t) else f t
def halfI (m i : Nat) (j : Int) (f : Nat → Nat) (t : Nat) : Nat := if (t : Int) < i ∨ j < t then f (m - 1 - t) else f t
theorem halfI_nat (m i j : Nat) (f : Nat → Nat) : halfI m i j f = half m i j f := by
  funext t
  unfold halfI half
  by_cases h2 : t < i ∨ j < t
  · rw [if_pos (by omega), if_pos h2]
  · rw [if_neg (by omega), if_neg h2]
theorem halfI_start (m : Nat) (f : Nat → Nat) (t : Nat) (h : t < m) : halfI m 0 ((m : Int) - 1) f t = f t := by
  unfold halfI; rw [if_neg (by omega)]
theorem halfI_end {m i : Nat} {j : Int} (f : Nat → Nat) (h : (i : Int) + j = (m : Int) - 1) (h2 : ¬ (i : Int) < j) (t : Nat) (ht : t < m) : halfI m i j f t = f (m - 1 - t) := by
  unfold halfI
  by_cases h3 : (t : Int) < i ∨ j < t
  · rw [if_pos h3]
  · rw [if_neg h3, show m - 1 - t = t by omega]
theorem cell_set_same {w : World} {q i : Nat} {u v : Value} (h : w.cell? ⟨q, i, none⟩ = some u) : (w.setCell ⟨q, i, none⟩ v).cell? ⟨q, i, none⟩ = some v := by
  unfold World.cell? World.setCell at *
  simp only [Array.getElem?_modify, if_true]
  cases hb : w.heap[q]? with
  | none => rw [hb] at h; cases h
  | some o =>
    rw [hb] at h
    cases o with
    | cells c t fr =>
      simp only [Option.isSome_none, Bool.false_eq_true, if_false, Option.map_some] at h ⊢
      have hlt := (Array.getElem?_eq_some_iff.1 h).1
      rw [Array.getElem?_setIfInBounds]
      simp [hlt]
    | _ => cases h
theorem cell_set_ne {w : World} {q i j : Nat} {v : Value} (hne : i ≠ j) : (w.setCell ⟨q, i, none⟩ v).cell? ⟨q, j, none⟩ = w.cell? ⟨q, j, none⟩ :=
  (wr_setCell w q i v (Nat.le_refl i) (Nat.lt_succ_self i)).cell j (by omega)
theorem byt_swap {w : World} {q m i j : Nat} {f : Nat → Nat} (h : Byt w q m (half m i j f)) (hi : i < j) (hj : j < m) (hij : i + j = m - 1) :
    Byt ((w.setCell ⟨q, i, none⟩ (.int .u8 (f j))).setCell ⟨q, j, none⟩ (.int .u8 (f i))) q m (half m (i+1) (j-1) f) := by
  intro t ht
  refine ⟨?_, by rw [frozen_setCell, frozen_setCell]; exact (h t ht).2⟩
  by_cases e1 : t = j
  · subst e1
    have h0 : (w.setCell ⟨q, i, none⟩ (.int .u8 (f t))).cell? ⟨q, t, none⟩ = _ := (cell_set_ne (by omega)).trans (h t ht).1
    rw [cell_set_same h0]
    unfold half
    rw [if_pos (by omega), show m - 1 - t = i by omega]
  · rw [cell_set_ne (by omega)]
    by_cases e2 : t = i
    · subst e2
      rw [cell_set_same (h t ht).1]
      unfold half
      rw [if_pos (by omega), show m - 1 - t = j by omega]
    · rw [cell_set_ne (by omega), (h t ht).1]
      unfold half
      by_cases h3 : t < i ∨ j < t
      · rw [if_pos h3, if_pos (by omega)]
      · rw [if_neg h3, if_neg (by omega)]
end PB
namespace Go.Proofs.Ytdgfmkideghhaaa
open Go.RowKit PB

set_option maxHeartbeats 1600000 in
set_option maxRecDepth 100000 in
theorem reverse_any (q m c : Nat) (f : Nat → Nat) (w : World) (h : Byt w q m f) (hm : m ≤ 1000000) :
    Calls Try.prog 116 #[.slice (some ⟨q, 0, none⟩) m c] w fun e w' => e = .returned (.tuple #[]) ∧ Byt w' q m (fun t => f (m - 1 - t)) ∧ Wr w w' q 0 m := by
  go_enter Try.func116, Try.ntmps116
  go_wp2_with fail
  go_loopw [2, 3] (fun a b wr => ∃ (i : Nat) (j : Int), 0 ≤ j + 1 ∧ (i : Int) + j = (m : Int) - 1 ∧ (i : Int) ≤ j + 2 ∧ a = .int .i64 i ∧ b = .int .i64 j ∧ (Hid (Byt wr q m (halfI m i j f))) ∧ Wr w wr q 0 m) (fun a b _ => (intOf b + 1 - intOf a).toNat)
  case atStart =>
    refine ⟨0, (m : Int) - 1, by omega, by omega, by omega, rfl, rfl, Lib.hid ?_, Wr.refl _ _ _ _⟩
    intro t ht
    have h1 := h t ht
    rw [← halfI_start m f t ht] at h1; exact h1
  case round =>
    obtain ⟨i, j, hj0, hij, hij2, rfl, rfl, hB, hw⟩ := hrel
    by_cases hlt : (i : Int) < j
    · obtain ⟨jn, rfl⟩ := Int.eq_ofNat_of_zero_le (show 0 ≤ j by omega)
      have hjm : jn < m := by omega
      have hBB := hB.out
      have hhalf : Byt wr q m (half m i jn f) := halfI_nat m i jn f ▸ hBB
      have ci := (hhalf i (by omega)).1
      have cj := (hhalf jn hjm).1
      have gi := (hhalf i (by omega)).2
      have gj := (hhalf jn hjm).2
      rw [show half m i jn f i = f i by unfold half; rw [if_neg (by omega)]] at ci
      rw [show half m i jn f jn = f jn by unfold half; rw [if_neg (by omega)]] at cj
      have HH := Lib.hid hhalf
      have i1 : (i : Int) < m := by omega
      have i2 : (jn : Int) < m := by omega
      have i3 : (0 : Int) ≤ i := by omega
      have i4 : (0 : Int) ≤ jn := by omega
      have HIJ := Lib.hid hij
      have hne : i ≠ jn := by omega
      clear hB hBB hhalf hij h
      go_wp2_with fail
      go_region
      go_wp2_with fail
      go_roundw
      case rel =>
        have hwA := hw.trans (wr_setCell wr q i (.int .u8 (f jn)) (Nat.zero_le i) (show i < m by omega))
        have hwB := hwA.trans (wr_setCell (wr.setCell ⟨q, i, none⟩ (.int .u8 (f jn))) q jn (.int .u8 (f i)) (Nat.zero_le jn) hjm)
        have hS := byt_swap HH.out (by omega) hjm (by have := HIJ.out; omega)
        refine ⟨i + 1, (jn : Int) - 1, by omega, by have := HIJ.out; omega, by omega, by go_num, rfl, Lib.hid ?_, hwB.drew⟩
        have e : ((jn : Int) - 1) = ((jn - 1 : Nat) : Int) := by omega
        rw [e, halfI_nat]
        exact hS
      case measure => simp only [intOf]; omega
    · have hB2 := hB.out
      have HQ := Lib.hid (show Byt wr q m (fun t => f (m - 1 - t)) from fun t ht => by have h1 := hB2 t ht; rw [halfI_end f hij hlt t ht] at h1; exact h1)
      clear hB hB2
      go_wp2_with fail
      go_end0
      exact ⟨rfl, HQ.out, hw⟩
end Go.Proofs.Ytdgfmkideghhaaa
