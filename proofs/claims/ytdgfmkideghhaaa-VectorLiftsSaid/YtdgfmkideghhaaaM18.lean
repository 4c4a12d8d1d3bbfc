/-
  integer.divide: the quotient and the remainder of limbs.
  integer.times returns new limbs that hold the product.
-/
import Derived.Test.YtdgfmkideghhaaaM14
import Derived.Test.YtdgfmkideghhaaaM17
namespace PB
open Go Go.RowKit
/-- v is a slice of limbs that hold X, at most lim of them, in a block from N on. -/
def SlN (N : Nat) (w : World) (v : Value) (X lim : Nat) : Prop :=
  ∃ (base : Option Addr) (b off n c : Nat), v = .slice base n c ∧ (n ≠ 0 → base = some ⟨b, off, none⟩) ∧ Num w b off n X ∧ n ≤ c ∧ n ≤ lim ∧ (n ≠ 0 → N ≤ b)
theorem SlN.kept {N : Nat} {w w' : World} {v : Value} {X lim : Nat} (h : SlN N w v X lim) (hb : Below w.heap.size w w') : SlN N w' v X lim := by
  obtain ⟨base, b, off, n, c, h1, h2, h3, h4, h5, h6⟩ := h
  exact ⟨base, b, off, n, c, h1, h2, h3.kept hb, h4, h5, h6⟩
theorem sln_nil (N : Nat) (w : World) (lim : Nat) : SlN N w (.slice none 0 0) 0 lim :=
  ⟨none, 0, 0, 0, 0, rfl, fun h => absurd rfl h, ⟨Bp 0, fun i hi => by omega⟩, Nat.le_refl _, Nat.zero_le _, fun h => absurd rfl h⟩
/-- .. that may be written. -/
def SlW (N : Nat) (w : World) (v : Value) (X lim : Nat) : Prop :=
  ∃ (base : Option Addr) (b off n c : Nat), v = .slice base n c ∧ (n ≠ 0 → base = some ⟨b, off, none⟩) ∧ Num w b off n X ∧ n ≤ c ∧ n ≤ lim ∧ (n ≠ 0 → N ≤ b) ∧ Free w b off n
/-- What divide returns. -/
def RetDiv (w : World) (X Y : Nat) (e : Ending) (w' : World) : Prop :=
  ∃ vq vr, e = .returned (.tuple #[vq, vr]) ∧ SlN w.heap.size w' vq (X / Y) (nl X + 1) ∧ SlW w.heap.size w' vr (X % Y) (nl X + 1) ∧ Below w.heap.size w w'
end PB
namespace Go.Proofs.Ytdgfmkideghhaaa
open Go.RowKit PB

set_option maxHeartbeats 1600000 in
set_option maxRecDepth 100000 in
theorem divide_lt (basex basey : Option Addr) (bx ox X cx by_ oy Y cy : Nat) (w : World) (hbx : nl X ≠ 0 → basex = some ⟨bx, ox, none⟩) (hby : nl Y ≠ 0 → basey = some ⟨by_, oy, none⟩)
    (hX : Num w bx ox (nl X) X) (hY : Num w by_ oy (nl Y) Y) (hc : nl X ≤ 1000000000) (hc' : nl Y ≤ 1000000000) (hcx : nl X ≤ cx) (hlt : X < Y) :
    Calls Try.prog 76 #[.slice basex (nl X) cx, .slice basey (nl Y) cy] w (RetDiv w X Y) := by
  have hcm : cmpi (X : Int) Y < 0 := by unfold cmpi; rw [if_pos (by omega)]; decide
  go_enter Try.func76, Try.ntmps76
  go_wp2_with (go_at_call 93; refine (order_any basex basey bx ox X _ by_ oy Y _ _ hbx hby hX hY (by omega) (by omega)).mono ?_; rintro e w' ⟨rfl, n1, rfl⟩)
  refine (duplicate_any basex bx ox (nl X) cx X _ hbx hX.drewN hcx (by omega)).mono ?_
  rintro e w1 ⟨rfl, hF⟩
  go_wp2_with fail
  go_ret2
  have hb := below_undrewN hF.below
  refine ⟨_, _, rfl, ?_, ?_, hb⟩
  · rw [Nat.div_eq_of_lt hlt]; exact sln_nil _ _ _
  · rw [Nat.mod_eq_of_lt hlt]; exact ⟨_, _, 0, nl X, nl X, rfl, fun _ => rfl, hF.num, Nat.le_refl _, Nat.le_succ _, fun _ => Nat.le_refl _, hF.free⟩

set_option maxHeartbeats 1600000 in
set_option maxRecDepth 100000 in
/-- By one limb. -/
theorem divide_one (basex : Option Addr) (bx ox X cx by_ oy Y cy : Nat) (w : World) (hbx : nl X ≠ 0 → basex = some ⟨bx, ox, none⟩)
    (hX : Num w bx ox (nl X) X) (hY : Num w by_ oy (nl Y) Y) (hc : nl X ≤ 1000000000) (hY1 : nl Y = 1) (hlt : Y ≤ X) :
    Calls Try.prog 76 #[.slice basex (nl X) cx, .slice (some ⟨by_, oy, none⟩) (nl Y) cy] w (RetDiv w X Y) := by
  have hcm : ¬ cmpi (X : Int) Y < 0 := by unfold cmpi; rw [if_neg (by omega)]; split <;> decide
  have hYB : Y < B := by have := lt_nl Y; rw [hY1, Nat.pow_one] at this; exact this
  have hY0 : 0 < Y := by
    apply Nat.pos_of_ne_zero
    rintro rfl
    rw [nl_zero] at hY1; omega
  have hX0 : ¬ nl X = 0 := by
    intro e
    have := nl_eq_zero.1 e
    omega
  obtain rfl := hbx hX0
  clear hbx
  have kY : w.cell? ⟨by_, oy, none⟩ = some (.int .u32 Y) := by
    have := hY.cell (i := 0) (by omega)
    rwa [Nat.add_zero, show dg Y 0 = Y by unfold dg; rw [Nat.pow_zero, Nat.div_one, Nat.mod_eq_of_lt hYB]] at this
  have hbY := hY.block_lt (by omega)
  rw [hY1]
  have ORD := Lib.hid (fun cx cy => order_any (some ⟨bx, ox, none⟩) (some ⟨by_, oy, none⟩) bx ox X cx by_ oy Y cy w (fun _ => rfl) (fun _ => rfl) hX hY (by omega) (by omega))
  rw [hY1] at ORD
  have HXlt := Lib.hid (lt_nl X)
  clear hY1 hY
  go_enter Try.func76, Try.ntmps76
  go_wp2_with (first | (go_at_call 93; refine (ORD.out _ _).mono ?_; rintro e w' ⟨rfl, n1, rfl⟩) | (at_make; refine wpList_make_num _ rfl _ _ 22 rfl 77 info51 Try.underlying22 .i64 .i64 _ _ (nl X + 1) rfl rfl (by omega) (by omega) (by omega) ?_))
  intro w1 hb1 hz1 hS1 hF1 hR1
  have hbb1 : Below w.heap.size w w1 := below_undrewN hb1
  have HZ := Lib.hid hz1
  clear hz1
  go_wp2_with (with_reducible (show wpList _ _ _ (⟨some 29, _, _, _, _, _⟩ :: _) _ _); refine wpList_copy_num rfl (.tmp 27) (.tmp 28) 22 22 rfl 77 Try.underlying22 size51 _ _ _ _ _ _ rfl rfl w.heap.size 1 (nl X + 1) bx ox X (nl X) (by omega) hR1 hS1 (hX.kept hbb1) (fun _ => rfl) (fun _ => rfl) (by omega) w.heap.size w hbb1 (Nat.le_refl _) ?_)
  intro w2 hb2 hlt2 hS2 hF2
  rw [mod_of_lt HXlt.out] at hS2
  have hq2 : Num w2 w.heap.size 1 (nl X) X := by
    have := (hS2.high (k := 1) (by omega)).val (show X * B / B^1 = X by rw [Nat.pow_one]; exact Nat.mul_div_cancel _ B_pos)
    rwa [Nat.zero_add, Nat.add_sub_cancel] at this
  have hf2 : Free w2 w.heap.size 1 (nl X) := by have := hF2.part (k := 1) (m := nl X) (by omega); rwa [Nat.zero_add] at this
  have k0 : w2.cell? ⟨w.heap.size, 0, none⟩ = some (.int .u32 (0 : Nat)) := by
    have := hS2.cell0 (i := 0) (by omega)
    rwa [show dg (X * B) 0 = 0 by unfold dg; rw [Nat.pow_zero, Nat.div_one, Nat.mul_mod_left]] at this
  have g0 : w2.frozen? ⟨w.heap.size, 0, none⟩ = false := hF2.at0 (by omega)
  have kY2 : w2.cell? ⟨by_, oy, none⟩ = some (.int .u32 Y) := by rw [hb2.cell (p := ⟨by_, oy, none⟩) hbY]; exact kY
  have FR0 := Lib.hid (show Free w2 w.heap.size 0 1 by have := hF2.part (k := 0) (m := 1) (by omega); rwa [Nat.zero_add] at this)
  clear hb1 hbb1 hS1 hF1 hR1 HZ hX kY hS2 hF2
  have i1 : (0 : Int) < nl X + 1 := by omega
  have hcap : ¬ (nl X + 1 = 1) := by omega
  have j1 : (1 : Int) ≤ nl X + 1 := by omega
  have K0 := Lib.hid k0
  have G0 := Lib.hid g0
  clear k0 g0
  go_wp2_with fail
  go_region_held3 (fun w' => w'.cell? ⟨by_, oy, none⟩ = some (.int .u32 Y))
    (first | exact kY2 | exact kY3 | exact cell_other kY3 (Nat.ne_of_lt hbY))
    (first
      | (go_at_call 115; refine (shorten_any _ w.heap.size 1 (nl X) _ X Y _ (fun _ => rfl) (by exact hq2) (by exact hf2) hY0 hYB (by omega)).mono ?_; rintro e w3 ⟨rfl, hq3, hw3⟩
         have hw3' : Wr w2 w3 w.heap.size 1 (1 + nl X) := (by first | exact hw3 | exact hw3.undrew)
         have kY3 : w3.cell? ⟨by_, oy, none⟩ = some (.int .u32 Y) := (by rw [World.cell?_of_block (w := w2) (hw3'.block by_ (Nat.ne_of_lt hbY))]; exact kY2)
         have k0 : w3.cell? ⟨w.heap.size, 0, none⟩ = some (.int .u32 (0 : Nat)) := (hw3'.cell 0 (by omega)).trans K0.out
         have g0 : w3.frozen? ⟨w.heap.size, 0, none⟩ = false := (hw3'.frozen _).trans G0.out))
  have hmod : X % Y < B := Nat.lt_trans (Nat.mod_lt _ hY0) hYB
  have hb3 : Below w.heap.size w (w3.setCell ⟨w.heap.size, 0, none⟩ (.int .u32 (X % Y : Nat))) := (hb2.trans (hw3'.below (Nat.le_refl _))).setCell (Nat.le_refl _) _
  have hq4 : Num (w3.setCell ⟨w.heap.size, 0, none⟩ (.int .u32 (X % Y : Nat))) w.heap.size 1 (nl X) (X / Y) := (wr_setCell w3 w.heap.size 0 _ (Nat.le_refl 0) (Nat.lt_succ_self 0)).num hq3 (fun _ => Or.inr (Or.inr (by omega)))
  have hr4 : Num (w3.setCell ⟨w.heap.size, 0, none⟩ (.int .u32 (X % Y : Nat))) w.heap.size 0 1 (X % Y) := by
    refine ⟨by rw [Nat.pow_one]; exact hmod, fun i hi => ?_⟩
    obtain rfl : i = 0 := by omega
    have h0 : Num w3 w.heap.size 0 1 0 := ⟨Bp 1, fun i hi => by obtain rfl : i = 0 := (by omega); rw [dg_zero]; exact k0⟩
    have := (h0.set0 (k := 0) (by omega) hmod).cell0 (i := 0) (by omega)
    rw [dg_put_same hmod] at this
    rw [show dg (X % Y) 0 = X % Y by unfold dg; rw [Nat.pow_zero, Nat.div_one, Nat.mod_eq_of_lt hmod]]
    exact this
  have hr5 : Free (w3.setCell ⟨w.heap.size, 0, none⟩ (.int .u32 (X % Y : Nat))) w.heap.size 0 1 := (hw3'.free FR0.out).set _ _
  clear hq3 k0 g0 kY3 hw3 hw3' kY2 FR0
  rw [Int.natCast_emod] at hb3 hq4 hr4 hr5
  generalize (w3.setCell ⟨w.heap.size, 0, none⟩ (.int .u32 ((X : Int) % (Y : Int)))) = w4 at *
  go_wp2_with fail
  go_quiet (fail)
  go_wp2_with fail
  go_ret2
  exact ⟨_, _, rfl, ⟨_, _, 1, nl X, nl X, rfl, fun _ => rfl, hq4.drewN, Nat.le_refl _, Nat.le_succ _, fun _ => Nat.le_refl _⟩, ⟨_, _, 0, 1, _, rfl, fun _ => rfl, hr4.drewN, by omega, by omega, fun _ => Nat.le_refl _, hr5⟩, below_drewN hb3 _⟩
end Go.Proofs.Ytdgfmkideghhaaa

namespace PB
/-- The low limb and the carry of m y + d + c. -/
def mulLo (m y d c : Nat) : Nat := (c + (m * y + d)) % 4294967296
def mulHi (m y d c : Nat) : Nat := (c + (m * y + d)) / 4294967296
theorem mul_lo_hi (m y d c : Nat) : mulLo m y d c + mulHi m y d c * B = m * y + d + c := by unfold mulLo mulHi B; omega
theorem mulLo_lt (m y d c : Nat) : mulLo m y d c < B := Nat.mod_lt _ (by decide)
theorem mul_le {m y : Nat} (hm : m < B) (hy : y < B) : m * y ≤ 18446744065119617025 := by
  unfold B at *
  have : m * y ≤ 4294967295 * 4294967295 := Nat.mul_le_mul (by omega) (by omega)
  omega
theorem mulHi_lt {m y d c : Nat} (hm : m < B) (hy : y < B) (hd : d < B) (hc : c < B) : mulHi m y d c < B := by
  have := mul_le hm hy
  unfold mulHi B at *; omega
theorem mul_step {P P0 c m y d lo c' p q Yl r P' : Nat} (h : P + c * p = P0 + m * Yl * q) (hd : lo + c' * B = m * y + d + c) (hp : P' + d * p = P + lo * p) (hr : p = q * r) :
    P' + c' * (p * B) = P0 + m * (Yl + y * r) * q := by
  have e : (lo + c' * B) * p = (m * y + d + c) * p := by rw [hd]
  have e1 : m * (Yl + y * r) * q = m * Yl * q + m * y * p := by subst hr; rw [Nat.mul_add, Nat.add_mul]; congr 1; simp only [Nat.mul_comm, Nat.mul_left_comm]
  have e2 : c' * (p * B) = c' * B * p := by rw [Nat.mul_assoc, Nat.mul_comm B p]
  rw [Nat.add_mul, Nat.add_mul, Nat.add_mul] at e
  omega
open Go in
theorem mul_wraps {m y d c : Nat} (hm : m < B) (hy : y < B) (hd : d < B) (hc : c < B) :
    IntKind.u64.wrap ((c : Int) + IntKind.u64.wrap (IntKind.u64.wrap (IntKind.u64.wrap (m : Int) * IntKind.u64.wrap (y : Int)) + IntKind.u64.wrap (d : Int))) = ((c + (m * y + d) : Nat) : Int) := by
  have := mul_le hm hy
  have e : (m : Int) * (y : Int) = ((m * y : Nat) : Int) := (Int.natCast_mul m y).symm
  have e1 : IntKind.u64.wrap (m : Int) = m := by rw [IntKind.wrap_u64]; unfold B at *; omega
  have e2 : IntKind.u64.wrap (y : Int) = y := by rw [IntKind.wrap_u64]; unfold B at *; omega
  have e3 : IntKind.u64.wrap (d : Int) = d := by rw [IntKind.wrap_u64]; unfold B at *; omega
  rw [e1, e2, e3, e]
  generalize m * y = p at *
  have e4 : IntKind.u64.wrap (p : Int) = p := by rw [IntKind.wrap_u64]; omega
  have e5 : IntKind.u64.wrap ((p : Int) + d) = (p : Int) + d := by rw [IntKind.wrap_u64]; unfold B at *; omega
  rw [e4, e5, IntKind.wrap_u64]
  unfold B at *; omega
open Go in
theorem mul_wraps_lo {m y d c : Nat} (hm : m < B) (hy : y < B) (hd : d < B) (hc : c < B) :
    IntKind.u64.wrap ((c : Int) + IntKind.u64.wrap (IntKind.u64.wrap (IntKind.u64.wrap (m : Int) * IntKind.u64.wrap (y : Int)) + IntKind.u64.wrap (d : Int))) % 4294967296 = (mulLo m y d c : Nat) := by
  rw [mul_wraps hm hy hd hc]; exact (Int.natCast_emod _ _).symm
open Go in
theorem mul_wraps_hi {m y d c : Nat} (hm : m < B) (hy : y < B) (hd : d < B) (hc : c < B) :
    IntKind.u64.wrap ((c : Int) + IntKind.u64.wrap (IntKind.u64.wrap (IntKind.u64.wrap (m : Int) * IntKind.u64.wrap (y : Int)) + IntKind.u64.wrap (d : Int))) / 4294967296 = (mulHi m y d c : Nat) := by
  rw [mul_wraps hm hy hd hc]; exact (Int.natCast_ediv _ _).symm
end PB
namespace Go.Proofs.Ytdgfmkideghhaaa
open Go.RowKit PB

set_option maxRecDepth 100000 in
set_option maxHeartbeats 1600000 in
theorem times_any (basex basey : Option Addr) (bx ox nx cx X by_ oy ny cy Y : Nat) (w : World) (hbx : nx ≠ 0 → basex = some ⟨bx, ox, none⟩) (hby : ny ≠ 0 → basey = some ⟨by_, oy, none⟩)
    (hX : Num w bx ox nx X) (hY : Num w by_ oy ny Y) (hc : nx ≤ 500000000000) (hc' : ny ≤ 500000000000) :
    Calls Try.prog 74 #[.slice basex nx cx, .slice basey ny cy] w fun e w' => e = .returned (.slice (some ⟨w.heap.size, 0, none⟩) (nx + ny) (nx + ny)) ∧ Fresh w w' w.heap.size (nx + ny) (X * Y) := by
  have HB := Lib.hid hbx
  have HB' := Lib.hid hby
  clear hbx hby
  go_enter Try.func74, Try.ntmps74
  go_wp2_with (at_make; refine wpList_make_num _ rfl _ _ 22 rfl 77 info51 Try.underlying22 .i64 .i64 _ _ (nx + ny) rfl rfl (by omega) (by omega) (by omega) ?_)
  intro w1 hb1 hz1 hS1 hF1 _
  have HN := Lib.hid hz1
  clear hz1
  go_wp2_with fail
  go_loopw [20] (fun i wr => ∃ k : Nat, k ≤ nx ∧ i = .int .i64 k ∧ Below w.heap.size w wr ∧ Num wr w.heap.size 0 (nx + ny) ((X % B^k) * Y) ∧ Free wr w.heap.size 0 (nx + ny) ∧ Hid (w1.heap.size ≤ wr.heap.size)) (fun i _ => nx - (intOf i).toNat)
  case atStart => exact ⟨0, by omega, rfl, hb1, hS1.val (by simp [Nat.mod_one]), hF1, show _ from Nat.le_refl _⟩
  case round =>
    obtain ⟨k, hk, rfl, hbr, hSr, hFr, hzr⟩ := hrel
    by_cases hlt : k < nx
    · obtain rfl := HB.out (by omega)
      have c1 := (hX.kept hbr).cell (i := k) (by omega)
      have i1 : (k : Int) < nx := by omega
      have i4 : (0 : Int) ≤ k := by omega
      have i5 : ¬ (nx + ny = k) := by omega
      have i6 : (k : Int) ≤ nx + ny := by omega
      obtain ⟨m, hm⟩ : ∃ m, dg X k = m := ⟨_, rfl⟩
      have hmB : m < B := hm ▸ dg_lt X k
      rw [hm] at c1
      have HM := Lib.hid hm
      clear hm
      have hP0 : X % B^k * Y < B^(k + ny) := by
        rw [pow_add]; exact Nat.mul_lt_mul'' (mod_lt_pow _ _) hY.lt
      obtain ⟨P0, hP0e⟩ : ∃ P0, X % B^k * Y = P0 := ⟨_, rfl⟩
      rw [hP0e] at hSr hP0
      have HP := Lib.hid hP0e
      clear hP0e
      go_wp2_with fail
      go_loopw [9, 30] (fun c i wr => ∃ j cc P : Nat, j ≤ ny ∧ cc < B ∧ c = .int .u64 cc ∧ i = .int .i64 j ∧ P < B^(k + ny) ∧ Hid (P + cc * B^(k + j) = P0 + m * (Y % B^j) * B^k) ∧ Below w.heap.size w wr ∧ Num wr w.heap.size 0 (nx + ny) P ∧ Free wr w.heap.size 0 (nx + ny) ∧ Hid (w1.heap.size ≤ wr.heap.size)) (fun _ i _ => ny - (intOf i).toNat)
      case atStart => exact ⟨0, 0, P0, by omega, by decide, rfl, rfl, hP0, Lib.hid (by simp [Nat.mod_one]), hbr, hSr, hFr, hzr⟩
      case round =>
        clear hbr hSr hFr hzr
        obtain ⟨j, cc, P, hj, hcc, rfl, rfl, hP, hE, hbr, hSr, hFr, hzr⟩ := hrel
        by_cases hlt2 : j < ny
        · obtain rfl := HB'.out (by omega)
          have c2 := (hY.kept hbr).cell (i := j) (by omega)
          have c3 := hSr.cell0 (i := k + j) (by omega)
          have f3 := hFr.at0 (i := k + j) (by omega)
          obtain ⟨y, hy⟩ : ∃ y, dg Y j = y := ⟨_, rfl⟩
          have hyB : y < B := hy ▸ dg_lt Y j
          rw [hy] at c2
          obtain ⟨d, hd⟩ : ∃ d, dg P (k + j) = d := ⟨_, rfl⟩
          have hdB : d < B := hd ▸ dg_lt P (k + j)
          rw [hd] at c3
          have HY := Lib.hid hy
          have HD := Lib.hid hd
          clear hy hd
          have j1 : (j : Int) < ny := by omega
          have j2 : (0 : Int) ≤ j := by omega
          have j3 : (j : Int) < nx + ny - k := by omega
          go_wp2_with fail
          go_roundw
          case rel =>
            rw [mul_wraps_lo hmB hyB hdB hcc, mul_wraps_hi hmB hyB hdB hcc]
            refine ⟨j + 1, mulHi m y d cc, put P (k + j) (mulLo m y d cc), by omega, mulHi_lt hmB hyB hdB hcc, rfl, by go_num, put_lt (mulLo_lt _ _ _ _) hP (by omega), Lib.hid ?_,
              hbr.setCell (Nat.le_refl _) _, hSr.set0 (by omega) (mulLo_lt _ _ _ _), hFr.set _ _, Lib.hid ?_⟩
            · rw [mod_succ Y, HY.out, ← Nat.add_assoc, pow_succ (k + j)]
              have hp := put_eq P (k + j) (mulLo m y d cc)
              rw [HD.out] at hp
              exact mul_step hE.out (mul_lo_hi m y d cc) hp (pow_add k j)
            · simpa using hzr.out
          case measure => simp [intOf]; omega
        · obtain rfl : j = ny := by omega
          have c3 := hSr.cell0 (i := k + j) (by omega)
          have f3 := hFr.at0 (i := k + j) (by omega)
          have hd0 : dg P (k + j) = 0 := dg_of_lt hP (by omega)
          have HD := Lib.hid hd0
          clear hd0
          have j1 : (0 : Int) ≤ j := by omega
          have j2 : (j : Int) < nx + j - k := by omega
          have j3 : (cc : Int) < 4294967296 := by unfold B at hcc; omega
          go_wp2_with fail
          go_roundw
          case rel =>
            refine ⟨k + 1, by omega, by go_num, hbr.setCell (Nat.le_refl _) _, ?_, hFr.set _ _, Lib.hid ?_⟩
            · refine (hSr.set0 (by omega) hcc).val ?_
              have hp := put_eq P (k + j) cc
              rw [HD.out, Nat.zero_mul, Nat.add_zero] at hp
              rw [hp, hE.out, mod_succ X, HM.out, mod_of_lt hY.lt, ← HP.out, Nat.add_mul]
              congr 1
              exact Nat.mul_right_comm _ _ _
            · simpa using hzr.out
          case measure => simp [intOf]; omega
    · obtain rfl : k = nx := by omega
      have hv := hSr.val (show (X % B^k) * Y = X * Y by rw [mod_of_lt hX.lt])
      have hlt2 := HN.out
      have hz2 := hzr.out
      clear HN hzr
      go_wp2_with fail
      go_ret
      exact ⟨rfl, hbr, hv, hFr, Nat.le_refl _, by omega⟩
end Go.Proofs.Ytdgfmkideghhaaa
