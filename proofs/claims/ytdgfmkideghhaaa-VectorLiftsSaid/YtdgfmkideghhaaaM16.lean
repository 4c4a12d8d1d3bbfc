/-
  api.Int values: what they stand for, and when they are canonical. Blocks that are known whole.
  integer.minus returns new limbs that hold the difference, where it is not negative.
-/
import Derived.Test.YtdgfmkideghhaaaM02
import Derived.Test.YtdgfmkideghhaaaM14
import Derived.Test.YtdgfmkideghhaaaM15
namespace PB
open Go Go.RowKit

/-- The number that a sign and limbs stand for. -/
def sg (s : Bool) (X : Nat) : Int := if s then -(X : Int) else X
/-- v is an api.Int that stands for z. -/
def IsInt (w : World) (v : Value) (z : Int) : Prop :=
  ∃ (s : Bool) (base : Option Addr) (b off n c X : Nat), v = .agg #[.bool s, .slice base n c] ∧ (n ≠ 0 → base = some ⟨b, off, none⟩) ∧ Num w b off n X ∧ n ≤ c ∧ n ≤ 1000000000 ∧ z = sg s X
/-- .. in canonical form, its limbs in a block from N on. -/
def IsCan (N : Nat) (w : World) (v : Value) (z : Int) : Prop :=
  ∃ (s : Bool) (base : Option Addr) (b off X c : Nat), v = .agg #[.bool s, .slice base (nl X) c] ∧ (nl X ≠ 0 → base = some ⟨b, off, none⟩) ∧ Num w b off (nl X) X ∧ nl X ≤ c ∧ nl X ≤ 1000000000 ∧ z = sg s X ∧ (X = 0 → s = false) ∧ (nl X ≠ 0 → N ≤ b)
theorem IsCan.int {N : Nat} {w : World} {v : Value} {z : Int} (h : IsCan N w v z) : IsInt w v z := by
  obtain ⟨s, base, b, off, X, c, h1, h2, h3, h4, h5, h6, _⟩ := h
  exact ⟨s, base, b, off, nl X, c, X, h1, h2, h3, h4, h5, h6⟩
theorem IsInt.kept {w w' : World} {v : Value} {z : Int} (h : IsInt w v z) (hb : Below w.heap.size w w') : IsInt w' v z := by
  obtain ⟨s, base, b, off, n, c, X, h1, h2, h3, h4, h5, h6⟩ := h
  exact ⟨s, base, b, off, n, c, X, h1, h2, h3.kept hb, h4, h5, h6⟩
theorem IsCan.kept {N : Nat} {w w' : World} {v : Value} {z : Int} (h : IsCan N w v z) (hb : Below w.heap.size w w') : IsCan N w' v z := by
  obtain ⟨s, base, b, off, X, c, h1, h2, h3, h4, h5, h6, h7⟩ := h
  exact ⟨s, base, b, off, X, c, h1, h2, h3.kept hb, h4, h5, h6, h7⟩
theorem IsCan.mono {N N' : Nat} {w : World} {v : Value} {z : Int} (h : IsCan N w v z) (hN : N' ≤ N) : IsCan N' w v z := by
  obtain ⟨s, base, b, off, X, c, h1, h2, h3, h4, h5, h6, h7, h8⟩ := h
  exact ⟨s, base, b, off, X, c, h1, h2, h3, h4, h5, h6, h7, fun h => Nat.le_trans hN (h8 h)⟩
/-- A store below the limbs. -/
theorem IsCan.set {N : Nat} {w : World} {v : Value} {z : Int} (h : IsCan N w v z) {p : Addr} (hp : p.block < N) (u : Value) : IsCan N (w.setCell p u) v z := by
  obtain ⟨s, base, b, off, X, c, h1, h2, h3, h4, h5, h6, h7, h8⟩ := h
  exact ⟨s, base, b, off, X, c, h1, h2, h3.other u (fun hn e => by have := h8 hn; omega), h4, h5, h6, h7, h8⟩
theorem sg_natAbs (s : Bool) (X : Nat) : (sg s X).natAbs = X := by unfold sg; cases s <;> simp
theorem sg_zero {s : Bool} {X : Nat} : sg s X = 0 ↔ X = 0 := by unfold sg; cases s <;> simp
/-- More than 256 limbs. -/
def big (z : Int) : Prop := 256 < nl z.natAbs
instance (z : Int) : Decidable (big z) := by unfold big; exact inferInstance
theorem big_sg (s : Bool) (X : Nat) : big (sg s X) ↔ 256 < nl X := by unfold big; rw [sg_natAbs]

/-- The call returns a canonical Int that stands for z; nothing that was there has changed. -/
def RetInt (w : World) (z : Int) (e : Ending) (w' : World) : Prop := ∃ v, e = .returned v ∧ IsCan w.heap.size w' v z ∧ Below w.heap.size w w'
/-- .. with an error number. -/
def RetIntE (w : World) (z err : Int) (e : Ending) (w' : World) : Prop := ∃ v, e = .returned (.tuple #[v, .int .i64 err]) ∧ IsCan w.heap.size w' v z ∧ Below w.heap.size w w'
end PB
namespace Go.Proofs.Ytdgfmkideghhaaa
open Go.RowKit PB
theorem can_zero (N : Nat) (w : World) : IsCan N w (.agg #[.bool false, .slice none 0 0]) 0 :=
  ⟨false, none, 0, 0, 0, 0, by rw [nl_zero], fun h => absurd nl_zero h, ⟨Bp _, fun i hi => by rw [nl_zero] at hi; omega⟩, by rw [nl_zero]; omega, by rw [nl_zero]; omega, rfl, fun _ => rfl, fun h => absurd nl_zero h⟩
theorem can_intv {N : Nat} {w : World} {s : Bool} {base : Option Addr} {b off n X : Nat} (hb : n ≠ 0 → base = some ⟨b, off, none⟩) (hX : Num w b off n X) (hl : nl X ≤ 1000000000) (hN : n ≠ 0 → N ≤ b) : IsCan N w (intv s base X) (sg s X) := by
  by_cases h : X = 0
  · subst h
    rw [intv_zero, show sg s 0 = 0 from sg_zero.2 rfl]
    exact can_zero N w
  · rw [intv_pos _ _ h]
    have hn := nl_le hX.lt
    exact ⟨s, base, b, off, X, nl X, rfl, fun h => hb (by omega), hX.fewer hn (lt_nl X), Nat.le_refl _, hl, rfl, fun e => absurd e h, fun h => hN (by omega)⟩
theorem intv_form (s : Bool) (base : Option Addr) (X : Nat) : ∃ s' q m, intv s base X = .agg #[.bool s', .slice q m m] := by
  by_cases h : X = 0
  · exact ⟨false, none, 0, by subst h; exact intv_zero _ _⟩
  · exact ⟨s, base, nl X, intv_pos _ _ h⟩
end Go.Proofs.Ytdgfmkideghhaaa

namespace PB
theorem sub_step {S c x y d c' P X Y : Nat} (h : S + Y = X + c * P) (hd : d + y + c = x + c' * B) :
    (S + d * P) + (Y + y * P) = (X + x * P) + c' * (P * B) := by
  have e : (d + y + c) * P = (x + c' * B) * P := by rw [hd]
  rw [Nat.add_mul, Nat.add_mul, Nat.add_mul, Nat.mul_assoc, Nat.mul_comm B P] at e
  omega
end PB
namespace Go.Proofs.Ytdgfmkideghhaaa
open Go.RowKit PB

set_option maxRecDepth 100000 in
set_option maxHeartbeats 800000 in
theorem minus_any (basex basey : Option Addr) (bx ox nx cx X by_ oy ny cy Y : Nat) (w : World) (hbx : nx ≠ 0 → basex = some ⟨bx, ox, none⟩) (hby : ny ≠ 0 → basey = some ⟨by_, oy, none⟩)
    (hX : Num w bx ox nx X) (hY : Num w by_ oy ny Y) (hn : ny ≤ nx) (hc : nx ≤ 1099511627776) (hle : Y ≤ X) :
    Calls Try.prog 118 #[.slice basex nx cx, .slice basey ny cy] w fun e w' => e = .returned (.slice (some ⟨w.heap.size, 0, none⟩) nx nx) ∧ Fresh w w' w.heap.size nx (X-Y) := by
  have HB := Lib.hid hbx
  have HB' := Lib.hid hby
  clear hbx hby
  go_enter Try.func118, Try.ntmps118
  go_wp2_with (at_make; refine wpList_make_num _ rfl _ _ 22 rfl 77 info51 Try.underlying22 .i64 .i64 _ _ nx rfl rfl (by omega) (by omega) (by omega) ?_)
  intro w1 hb1 hz1 hS1 hF1 _
  have HN := Lib.hid hz1
  clear hz1
  go_wp2_with fail
  go_loopw [6, 14] (fun c i wr => ∃ k cc S : Nat, k ≤ ny ∧ cc < 2 ∧ S < B^k ∧ c = .int .u32 cc ∧ i = .int .i64 k ∧ S + Y % B^k = X % B^k + cc * B^k ∧ Below w.heap.size w wr ∧ Num wr w.heap.size 0 nx S ∧ Free wr w.heap.size 0 nx ∧ w1.heap.size ≤ wr.heap.size) (fun _ i _ => ny - (intOf i).toNat)
  case atStart => exact ⟨0, 0, 0, by omega, by omega, Bp _, rfl, rfl, by simp [Nat.mod_one], hb1, hS1, hF1, Nat.le_refl _⟩
  case round =>
    obtain ⟨k, cc, S, hk, hcc, hSk, rfl, rfl, heq, hbr, hSr, hFr, hzr⟩ := hrel
    by_cases hlt : k < ny
    · obtain rfl := HB.out (by omega)
      obtain rfl := HB'.out (by omega)
      have c1 := (hX.kept hbr).cell (i := k) (by omega)
      have c2 := (hY.kept hbr).cell (i := k) (by omega)
      have c3 := hSr.cell0 (i := k) (by omega)
      have f3 := hFr.at0 (i := k) (by omega)
      have b1 := hX.block_lt (by omega)
      have b2 := hY.block_lt (by omega)
      have i1 : (k : Int) < nx := by omega
      have i3 : (k : Int) < ny := by omega
      have i4 : (0 : Int) ≤ k := by omega
      have hx := dg_lt X k
      have hy := dg_lt Y k
      go_wp2_with fail
      go_region_held3 (fun w' => w'.cell? ⟨bx, ox + k, none⟩ = some (.int .u32 (dg X k)) ∧ w'.cell? ⟨by_, oy + k, none⟩ = some (.int .u32 (dg Y k))) (first | exact ⟨c1, c2⟩ | exact ⟨cell_other c1 (Nat.ne_of_lt b1), cell_other c2 (Nat.ne_of_lt b2)⟩)
        (first | (go_at_call 146; refine (sub32_any _ _ _ _ hx hy hcc).mono ?_; rintro e w' ⟨rfl, rfl⟩))
      go_wp2_with fail
      go_roundw
      case rel =>
        refine ⟨k + 1, subHi (dg X k) (dg Y k) cc, S + subLo (dg X k) (dg Y k) cc * B^k, by omega, subHi_lt _ _ _, add_lt_pow hSk (subLo_lt _ _ _), rfl, by go_num, ?_, ?_, ?_, ?_, ?_⟩
        · rw [mod_succ X, mod_succ Y, pow_succ]
          exact sub_step heq (sub_lo_hi hx hy hcc)
        · exact (hbr.setCell (Nat.le_refl _) _).drew
        · rw [← put_new hSk]; exact (hSr.set0 (by omega) (subLo_lt _ _ _)).drew
        · exact hFr.set _ _
        · simpa using hzr
      case measure => simp [intOf]; omega
    · obtain rfl : k = ny := by omega
      go_wp2_with fail
      have hYk : Y % B^k = Y := mod_of_lt hY.lt
      rw [hYk] at heq
      clear hYk
      go_loopw [6, 8] (fun c i wr => ∃ j cc S : Nat, k ≤ j ∧ j ≤ nx ∧ cc < 2 ∧ S < B^j ∧ c = .int .u32 cc ∧ i = .int .i64 j ∧ S + Y = X % B^j + cc * B^j ∧ Below w.heap.size w wr ∧ Num wr w.heap.size 0 nx S ∧ Free wr w.heap.size 0 nx ∧ w1.heap.size ≤ wr.heap.size) (fun _ i _ => nx - (intOf i).toNat)
      case atStart => exact ⟨k, cc, S, by omega, by omega, hcc, hSk, rfl, rfl, heq, hbr, hSr, hFr, hzr⟩
      case round =>
        clear hbr hSr hFr heq hSk hcc hzr
        obtain ⟨j, cc, S, hkj, hj, hcc, hSk, rfl, rfl, heq, hbr, hSr, hFr, hzr⟩ := hrel
        by_cases hlt : j < nx
        · obtain rfl := HB.out (by omega)
          have c1 := (hX.kept hbr).cell (i := j) (by omega)
          have c3 := hSr.cell0 (i := j) (by omega)
          have f3 := hFr.at0 (i := j) (by omega)
          have b1 := hX.block_lt (by omega)
          have i1 : (j : Int) < nx := by omega
          have i4 : (0 : Int) ≤ j := by omega
          have hx := dg_lt X j
          go_wp2_with (go_at_call 146; refine (sub32_zero _ _ _ hx hcc).mono ?_; rintro e w' ⟨rfl, rfl⟩)
          go_roundw
          case rel =>
            refine ⟨j + 1, subHi (dg X j) 0 cc, S + subLo (dg X j) 0 cc * B^j, by omega, by omega, subHi_lt _ _ _, add_lt_pow hSk (subLo_lt _ _ _), rfl, by go_num, ?_, ?_, ?_, ?_, ?_⟩
            · rw [mod_succ X, pow_succ]
              have := sub_step heq (sub_lo_hi (y := 0) hx (by decide) hcc)
              rwa [Nat.zero_mul, Nat.add_zero] at this
            · exact hbr.setCell (Nat.le_refl _) _
            · rw [← put_new hSk]; exact hSr.set0 (by omega) (subLo_lt _ _ _)
            · exact hFr.set _ _
            · simpa using hzr
          case measure => simp [intOf]; omega
        · obtain rfl : j = nx := by omega
          have e : X - Y = S := by
            rw [mod_of_lt hX.lt] at heq
            have h0 : cc = 0 := by
              have hz : cc = 0 ∨ cc = 1 := by omega
              rcases hz with h | h
              · exact h
              · subst h; omega
            subst h0; omega
          have hlt2 := HN.out
          clear HN
          go_wp2_with fail
          go_ret
          rw [e]
          exact ⟨rfl, hbr, hSr, hFr, Nat.le_refl _, by omega⟩
end Go.Proofs.Ytdgfmkideghhaaa
