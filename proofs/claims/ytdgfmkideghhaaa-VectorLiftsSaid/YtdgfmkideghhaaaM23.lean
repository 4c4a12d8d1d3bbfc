/-
  integer.Quo, at any two numbers.
  integer.lower: limbs divided by a power of 2, and whether there was a fraction; integer.floor.
-/
import Derived.Test.YtdgfmkideghhaaaM18
import Derived.Test.YtdgfmkideghhaaaM20
import Derived.Test.YtdgfmkideghhaaaM21
import Derived.Test.YtdgfmkideghhaaaM22
namespace Go.Proofs.Ytdgfmkideghhaaa
open Go.RowKit PB

theorem divide_any (basex basey : Option Addr) (bx ox X cx by_ oy Y cy : Nat) (w : World) (hbx : nl X ≠ 0 → basex = some ⟨bx, ox, none⟩) (hby : nl Y ≠ 0 → basey = some ⟨by_, oy, none⟩)
    (hX : Num w bx ox (nl X) X) (hY : Num w by_ oy (nl Y) Y) (hc : nl X ≤ 1000000) (hc' : nl Y ≤ 1000000) (hcx : nl X ≤ cx) (hY0 : Y ≠ 0) :
    Calls Try.prog 76 #[.slice basex (nl X) cx, .slice basey (nl Y) cy] w (RetDiv w X Y) := by
  by_cases hlt : X < Y
  · exact divide_lt basex basey bx ox X cx by_ oy Y cy w hbx hby hX hY (by omega) (by omega) hcx hlt
  · have hn0 : nl Y ≠ 0 := mt nl_eq_zero.1 hY0
    obtain rfl := hby hn0
    by_cases h1 : nl Y = 1
    · exact divide_one basex bx ox X cx by_ oy Y cy w hbx hX hY (by omega) h1 (by omega)
    · have hx0 : nl X ≠ 0 := by have := nl_mono (show Y ≤ X by omega); omega
      obtain rfl := hbx hx0
      exact divide_many bx ox X cx by_ oy Y cy (nl Y) (nl Y - 2) w rfl (by omega) hX hY hc (by omega)

set_option maxHeartbeats 1600000 in
set_option maxRecDepth 100000 in
theorem quo_large (v1 v2 : Value) (z1 z2 : Int) (w : World) (h1 : IsInt w v1 z1) (h2 : IsInt w v2 z2) (hbig : big z1 ∨ big z2) :
    Calls Try.prog 15 #[v1, v2] w (RetIntIntE w 0 0 2) := by
  obtain ⟨s, base, b, off, n, c, X, rfl, hb, hX, hn, hl, rfl⟩ := h1
  obtain ⟨t, base', b', off', n', c', Y, rfl, hb', hY, hn', hl', rfl⟩ := h2
  rw [big_sg, big_sg] at hbig
  go_enter Try.func15, Try.ntmps15
  go_wp2_with fail
  generalize hW : World.alloc _ _ = W
  have B2 : Blk W (w.heap.size + 1 + 1) #[.bool false, .slice none 0 0] := by rw [← hW]; exact ((blk_new (by simp)).alloc _).alloc _
  have B3 : Blk W (w.heap.size + 1 + 1 + 1) #[.bool false, .slice none 0 0] := by rw [← hW]; exact (blk_new (by simp)).alloc _
  have B4 : Blk W (w.heap.size + 1 + 1 + 1 + 1) #[.bool s, .slice base n c, .bool t, .slice base' n' c'] := by rw [← hW]; exact blk_new (by simp)
  have hbW : Below w.heap.size w W := by rw [← hW]; exact (((((Below.refl _ _).alloc (Nat.le_refl _) _).alloc (by simp) _).alloc (by simp; omega) _).alloc (by simp; omega) _).alloc (by simp; omega) _
  have HS := Lib.hid (show W.heap.size = w.heap.size + 5 by rw [← hW]; simp)
  clear hW
  have call := large_two (w.heap.size + 1 + 1 + 1 + 1) s t base base' b off n c X b' off' n' c' Y W (B4.cell 0 _ rfl) (B4.cell 1 _ rfl) (B4.cell 2 _ rfl) (B4.cell 3 _ rfl) hb (hX.kept hbW) hn (by omega) hb' (hY.kept hbW) hn' (by omega)
  rw [decide_eq_true hbig] at call
  refine call.mono ?_
  clear call
  rintro e w1 ⟨rfl, hb1⟩
  have hbw1 : Below w.heap.size w w1 := hbW.trans (hb1.mono (by have := HS.out; omega))
  obtain ⟨c0, c1⟩ := Blk2 (B2.kept hb1)
  obtain ⟨f0, f1⟩ := Blk2f (B2.kept hb1)
  obtain ⟨d0, d1⟩ := Blk2 (B3.kept hb1)
  obtain ⟨g0, g1⟩ := Blk2f (B3.kept hb1)
  have e0 := setCell_same c0
  have e1 := setCell_same c1
  have e2 := setCell_same d0
  have e3 := setCell_same d1
  go_wp2_with fail
  go_region_held3 (fun w' => (w'.cell? ⟨w.heap.size + 1 + 1, 0, none⟩ = some (.bool false) ∧ w'.cell? ⟨w.heap.size + 1 + 1, 1, none⟩ = some (.slice none 0 0)) ∧ w'.cell? ⟨w.heap.size + 1 + 1 + 1, 0, none⟩ = some (.bool false) ∧ w'.cell? ⟨w.heap.size + 1 + 1 + 1, 1, none⟩ = some (.slice none 0 0))
    (first | exact ⟨⟨c0, c1⟩, d0, d1⟩ | (simp only [e0, e1, e2, e3]; exact ⟨⟨c0, c1⟩, d0, d1⟩)) (fail)
  go_wp2_with fail
  refine bodyPost_ret (v := .tuple #[.agg #[.bool false, .slice none 0 0], .agg #[.bool false, .slice none 0 0], .int .i64 2]) (by simp [results, Try.results15, go_sem, c0, c1, d0, d1]) rfl ⟨_, _, rfl, can_zero _ _, can_zero _ _, ?_⟩
  exact below_drewN hbw1 1

set_option maxHeartbeats 1600000 in
set_option maxRecDepth 100000 in
theorem quo_zero (v1 v2 : Value) (z1 : Int) (w : World) (h1 : IsInt w v1 z1) (h2 : IsInt w v2 0) (hs1 : ¬ big z1) :
    Calls Try.prog 15 #[v1, v2] w (RetIntIntE w 0 0 3) := by
  obtain ⟨s, base, b, off, n, c, X, rfl, hb, hX, hn, hl, rfl⟩ := h1
  obtain ⟨t, base', b', off', n', c', Y, rfl, hb', hY, hn', hl', hz2⟩ := h2
  have hY0 : Y = 0 := sg_zero.1 hz2.symm
  subst hY0
  clear hz2
  rw [big_sg] at hs1
  have hsX : ¬ (256 < nl X ∨ 256 < nl 0) := by rw [nl_zero]; omega
  have hz : ((nl 0 : Int) == 0) = true := by rw [nl_zero]; rfl
  have HB' := Lib.hid hb'
  clear hs1
  go_enter Try.func15, Try.ntmps15
  go_wp2_with fail
  generalize hW : World.alloc _ _ = W
  have B1 : Blk W (w.heap.size + 1) #[.bool t, .slice base' n' c'] := by rw [← hW]; exact (((blk_new (by simp)).alloc _).alloc _).alloc _
  have B2 : Blk W (w.heap.size + 1 + 1) #[.bool false, .slice none 0 0] := by rw [← hW]; exact ((blk_new (by simp)).alloc _).alloc _
  have B3 : Blk W (w.heap.size + 1 + 1 + 1) #[.bool false, .slice none 0 0] := by rw [← hW]; exact (blk_new (by simp)).alloc _
  have B4 : Blk W (w.heap.size + 1 + 1 + 1 + 1) #[.bool s, .slice base n c, .bool t, .slice base' n' c'] := by rw [← hW]; exact blk_new (by simp)
  have hbW : Below w.heap.size w W := by rw [← hW]; exact (((((Below.refl _ _).alloc (Nat.le_refl _) _).alloc (by simp) _).alloc (by simp; omega) _).alloc (by simp; omega) _).alloc (by simp; omega) _
  have HS := Lib.hid (show W.heap.size = w.heap.size + 5 by rw [← hW]; simp)
  clear hW
  have call := large_two (w.heap.size + 1 + 1 + 1 + 1) s t base base' b off n c X b' off' n' c' 0 W (B4.cell 0 _ rfl) (B4.cell 1 _ rfl) (B4.cell 2 _ rfl) (B4.cell 3 _ rfl) hb (hX.kept hbW) hn (by omega) hb' (hY.kept hbW) hn' (by omega)
  rw [decide_eq_false hsX] at call
  refine call.mono ?_
  clear call hb hb' hX
  rintro e w1 ⟨rfl, hb1⟩
  have hbw1 : Below w.heap.size w w1 := hbW.trans (hb1.mono (by have := HS.out; omega))
  obtain ⟨b0, b1⟩ := Blk2 (B1.kept hb1)
  obtain ⟨c0, c1⟩ := Blk2 (B2.kept hb1)
  obtain ⟨f0, f1⟩ := Blk2f (B2.kept hb1)
  obtain ⟨d0, d1⟩ := Blk2 (B3.kept hb1)
  obtain ⟨g0, g1⟩ := Blk2f (B3.kept hb1)
  have e0 := setCell_same c0
  have e1 := setCell_same c1
  have e2 := setCell_same d0
  have e3 := setCell_same d1
  have hY1 := hY.kept hbw1
  clear B1 B2 B3 B4 hb1 hbW HS
  go_wp2_with (first | (go_at_call 75; refine (cut_any base' b' off' n' c' 0 _ HB'.out (by exact hY1) hn' (by omega)).mono ?_; rintro e w' ⟨rfl, rfl⟩))
  go_region_held3 (fun w' => (w'.cell? ⟨w.heap.size + 1 + 1, 0, none⟩ = some (.bool false) ∧ w'.cell? ⟨w.heap.size + 1 + 1, 1, none⟩ = some (.slice none 0 0)) ∧ w'.cell? ⟨w.heap.size + 1 + 1 + 1, 0, none⟩ = some (.bool false) ∧ w'.cell? ⟨w.heap.size + 1 + 1 + 1, 1, none⟩ = some (.slice none 0 0))
    (first | exact ⟨⟨c0, c1⟩, d0, d1⟩ | (simp only [e0, e1, e2, e3]; exact ⟨⟨c0, c1⟩, d0, d1⟩)) (fail)
  go_wp2_with fail
  refine bodyPost_ret (v := .tuple #[.agg #[.bool false, .slice none 0 0], .agg #[.bool false, .slice none 0 0], .int .i64 3]) (by simp [results, Try.results15, go_sem, c0, c1, d0, d1]) rfl ⟨_, _, rfl, can_zero _ _, can_zero _ _, ?_⟩
  exact below_drewN hbw1 1

theorem sg_tdiv (s t : Bool) (X Y : Nat) : sg (!(s == t)) (X / Y) = (sg s X).tdiv (sg t Y) := by
  have e : (X : Int).tdiv Y = (X : Int) / Y := Int.tdiv_eq_ediv_of_nonneg (Int.natCast_nonneg X)
  unfold sg
  cases s <;> cases t <;> simp [Int.neg_tdiv, Int.tdiv_neg, e]
theorem sg_tmod (s t : Bool) (X Y : Nat) : sg s (X % Y) = (sg s X).tmod (sg t Y) := by
  have e : (X : Int).tmod Y = (X : Int) % Y := Int.tmod_eq_emod_of_nonneg (Int.natCast_nonneg X)
  unfold sg
  cases s <;> cases t <;> simp [Int.neg_tmod, Int.tmod_neg, e]
/-- Quo, at two numbers that are not large, the second not 0. -/
theorem quo_fine (v1 v2 : Value) (z1 z2 : Int) (w : World) (h1 : IsInt w v1 z1) (h2 : IsInt w v2 z2) (hs1 : ¬ big z1) (hs2 : ¬ big z2) (h0 : z2 ≠ 0) :
    Calls Try.prog 15 #[v1, v2] w (RetIntIntE w (z1.tdiv z2) (z1.tmod z2) 0) := by
  obtain ⟨s, base, b, off, n, c, X, rfl, hb, hX, hn, hl, rfl⟩ := h1
  obtain ⟨t, base', b', off', n', c', Y, rfl, hb', hY, hn', hl', rfl⟩ := h2
  have hY0 : Y ≠ 0 := fun e => h0 (sg_zero.2 e)
  rw [big_sg] at hs1 hs2
  have hnX := nl_le hX.lt
  have hnY := nl_le hY.lt
  rw [← sg_tdiv, ← sg_tmod]
  exact quo_ok s t base b off n c X base' b' off' n' c' Y w hb hX hn hl hb' hY hn' hl' (by omega) hY0 _ rfl fun W hbW =>
    divide_any base base' b off X _ b' off' Y _ W (fun h => hb (by omega)) (fun h => hb' (by omega)) ((hX.fewer hnX (lt_nl X)).kept hbW) ((hY.fewer hnY (lt_nl Y)).kept hbW) (by omega) (by omega) (Nat.le_refl _) hY0
end Go.Proofs.Ytdgfmkideghhaaa

namespace PB
open Go Go.RowKit
theorem pow_two {s q p : Nat} (hs : s = 32 * q + p) : 2^s = B^q * 2^p := by
  rw [hs, Nat.pow_add, Nat.pow_mul]; rfl
theorem lower_div {X s q p : Nat} (hs : s = 32 * q + p) : X / 2^s = X / B^q / 2^p := by rw [pow_two hs, Nat.div_div_eq_div_mul]
theorem lower_mod {X s q p : Nat} (hs : s = 32 * q + p) (hp : p < 32) : X % 2^s ≠ 0 ↔ (X % B^q ≠ 0 ∨ dg X q % 2^p ≠ 0) := by
  rw [pow_two hs, Nat.mod_mul]
  have hd : dg X q % 2^p = (X / B^q) % 2^p := by unfold dg; exact Nat.mod_mod_of_dvd _ ⟨2^(32-p), (two_split hp).symm⟩
  rw [hd]
  have h1 := Bp q
  generalize X / B^q % 2^p = y
  generalize X % B^q = x
  constructor
  · intro h
    by_cases hx : x = 0
    · subst hx
      refine Or.inr fun hy => h ?_
      subst hy; simp
    · exact Or.inl hx
  · rintro (h | h) e
    · omega
    · have : 0 < B^q * y := Nat.mul_pos h1 (by omega)
      omega
/-- What lower returns. -/
def RetLow (w : World) (X s : Nat) (e : Ending) (w' : World) : Prop :=
  ∃ vq, e = .returned (.tuple #[vq, .bool (decide (X % 2^s ≠ 0))]) ∧ SlN w.heap.size w' vq (X / 2^s) (nl X) ∧ Below w.heap.size w w'
theorem shl_test {x p : Nat} (hp : p < 32) : ((x : Int) * 2^(32-p) % 4294967296 != 0) = decide (x % 2^p ≠ 0) := by
  have e2 : (x : Int) * 2^(32-p) % 4294967296 = ((x * 2^(32-p) % 4294967296 : Nat) : Int) := by rw [Int.natCast_emod, Int.natCast_mul]; rfl
  have h3 : x * 2^(32-p) % 4294967296 = (x % 2^p) * 2^(32-p) := by rw [show 4294967296 = 2^p * 2^(32-p) from (two_split hp).symm, Nat.mul_mod_mul_right]
  rw [e2, h3]
  have h1 : 0 < 2^(32-p) := Nat.pow_pos (by decide)
  rw [Bool.eq_iff_iff]
  simp only [bne_iff_ne, ne_eq, decide_eq_true_eq]
  constructor
  · intro h hx; apply h; rw [hx]; simp
  · intro h hx
    have h4 : x % 2^p * 2^(32-p) = 0 := by exact_mod_cast hx
    rcases Nat.mul_eq_zero.1 h4 with h5 | h5
    · exact h h5
    · omega
end PB
namespace Go.Proofs.Ytdgfmkideghhaaa
open Go.RowKit PB

set_option maxHeartbeats 1600000 in
set_option maxRecDepth 100000 in
theorem lower_none (basex : Option Addr) (X cx s q p : Nat) (w : World) (hc : nl X ≤ 1000000000)
    (hs : s = 32 * q + p) (hp : p < 32) (hq : nl X ≤ q) (hsm : s ≤ 1000000000) :
    Calls Try.prog 125 #[.slice basex (nl X) cx, .int .i64 s] w (RetLow w X s) := by
  have e1 : (s : Int) / 32 = q := by omega
  have e2 : (s : Int) % 32 = p := by omega
  have hlt : X < 2^s := by
    rw [pow_two hs]
    have h1 := lt_nl X
    have h2 := pow_le hq
    have h3 : B^q * 1 ≤ B^q * 2^p := Nat.mul_le_mul_left _ (Nat.pow_pos (by decide))
    omega
  have hd : decide (0 < nl X) = decide (X % 2^s ≠ 0) := by
    rw [Nat.mod_eq_of_lt hlt]
    have := nl_eq_zero (X := X)
    apply decide_eq_decide.2; omega
  have HL := Lib.hid hlt
  have HD := Lib.hid hd
  have i1 : (q : Int) ≥ nl X := by omega
  clear hs hlt hd
  go_enter Try.func125, Try.ntmps125
  go_wp2_with fail
  go_ret2
  exact ⟨_, by rw [← HD.out]; rfl, by rw [Nat.div_eq_of_lt HL.out]; exact sln_nil _ _ _, Below.refl _ _⟩

set_option maxHeartbeats 3200000 in
set_option maxRecDepth 100000 in
theorem lower_some (bx ox X cx s q p : Nat) (w : World) (hX : Num w bx ox (nl X) X) (hcx : nl X ≤ cx) (hc : nl X ≤ 1000000000)
    (hs : s = 32 * q + p) (hp : p < 32) (hq : q < nl X) (hsm : s ≤ 1000000000) :
    Calls Try.prog 125 #[.slice (some ⟨bx, ox, none⟩) (nl X) cx, .int .i64 s] w (RetLow w X s) := by
  have e1 : (s : Int) / 32 = q := by omega
  have e2 : (s : Int) % 32 = p := by omega
  have hlow := lower_mod (X := X) hs hp
  have HV := Lib.hid (lower_div (X := X) hs)
  have c1 := hX.cell (i := q) hq
  have hlow2 := hX.low (k := q) (by omega)
  have hhigh := hX.high (k := q) (by omega)
  have i1 : ¬ ((nl X : Int) ≤ q) := by omega
  have i2 : (q : Int) ≤ cx := by omega
  have i3 : (q : Int) < nl X := by omega
  have i4 : ¬ cx = 0 := by omega
  have i5 : ¬ cx = q := by omega
  have i6 : (0 : Int) ≤ q := by omega
  have i7 : (q : Int) ≤ nl X := by omega
  have i8 : (p : Int) < 32 := by omega
  have i9 : (0 : Int) ≤ p := by omega
  have hcases : (¬ nl (X % B^q) = 0 ∧ true = decide (X % 2^s ≠ 0)) ∨
      (nl (X % B^q) = 0 ∧ ((dg X q : Int) * 2^(32-p) % 4294967296 != 0) = decide (X % 2^s ≠ 0)) := by
    rw [shl_test hp]
    have hz := nl_eq_zero (X := X % B^q)
    by_cases h1 : X % B^q = 0
    · refine Or.inr ⟨by omega, decide_eq_decide.2 ⟨fun h => hlow.2 (Or.inr h), fun h => ?_⟩⟩
      rcases hlow.1 h with h4 | h4
      · exact absurd h1 h4
      · exact h4
    · exact Or.inl ⟨by omega, (decide_eq_true (hlow.2 (Or.inl h1))).symm⟩
  clear hlow hs
  rcases hcases with ⟨t1, t3⟩ | ⟨t1, t3⟩
  all_goals
    have T3 := Lib.hid t3
    clear t3
    go_enter Try.func125, Try.ntmps125
    go_wp2_with (first | (go_at_call 75; refine (cut_any (some ⟨bx, ox, none⟩) bx ox q _ (X % B^q) _ (fun _ => rfl) (by exact hlow2) (by omega) (by omega)).mono ?_; rintro e w' ⟨rfl, rfl⟩) | (at_make; refine wpList_make_num _ rfl _ _ 22 rfl 77 info51 Try.underlying22 .i64 .i64 _ _ (nl X - q) rfl rfl (by omega) (by omega) (by omega) ?_))
    intro w1 hb1 hz1 hS1 hF1 hR1
    have HZ := Lib.hid hz1
    clear hz1
    go_wp2_with (with_reducible (show wpList _ _ _ (⟨some 44, _, _, _, _, _⟩ :: _) _ _); refine wpList_copy_num rfl (.tmp 40) (.tmp 43) 22 22 rfl 77 Try.underlying22 size51 _ _ _ _ _ _ rfl rfl w.heap.size 0 (nl X - q) bx (ox + q) (X / B^q) (nl X - q) (by omega) hR1 hS1 (hhigh.kept hb1) (fun _ => rfl) (fun _ => rfl) (by omega) w.heap.size w hb1 (Nat.le_refl _) ?_)
    intro w2 hb2 hlt2 hS2 hF2
    rw [mod_of_lt hhigh.lt] at hS2
    go_wp2_with fail
    refine (sink_any _ w.heap.size 0 (nl X - q) _ (X / B^q) p w2 (fun _ => rfl) hS2 hF2 hp (by omega)).mono ?_
    rintro e w3 ⟨rfl, hS3, hw3⟩
    go_wp2_with fail
    go_ret2
    exact ⟨_, by rw [← T3.out]; rfl, ⟨_, w.heap.size, 0, nl X - q, _, rfl, fun _ => rfl, hS3.val HV.out.symm, Nat.le_refl _, by omega, fun _ => Nat.le_refl _⟩, hb2.trans (hw3.below (Nat.le_refl _))⟩
theorem lower_any (basex : Option Addr) (bx ox X cx s : Nat) (w : World) (hbx : nl X ≠ 0 → basex = some ⟨bx, ox, none⟩) (hX : Num w bx ox (nl X) X) (hcx : nl X ≤ cx) (hc : nl X ≤ 1000000000) (hsm : s ≤ 1000000000) :
    Calls Try.prog 125 #[.slice basex (nl X) cx, .int .i64 s] w (RetLow w X s) := by
  by_cases h : nl X ≤ s / 32
  · exact lower_none basex X cx s (s / 32) (s % 32) w hc (by omega) (by omega) h hsm
  · obtain rfl := hbx (by omega)
    exact lower_some bx ox X cx s (s / 32) (s % 32) w hX hcx hc (by omega) (by omega) (by omega) hsm

set_option maxHeartbeats 3200000 in
set_option maxRecDepth 100000 in
/-- integer.floor: a number divided by a power of 2, rounded down. -/
theorem floor_any (neg : Bool) (basex : Option Addr) (bx ox X cx s : Nat) (w : World) (hbx : nl X ≠ 0 → basex = some ⟨bx, ox, none⟩) (hX : Num w bx ox (nl X) X) (hcx : nl X ≤ cx) (hc : nl X ≤ 100000000) (hsm : s ≤ 1000000000) :
    Calls Try.prog 80 #[.bool neg, .slice basex (nl X) cx, .int .i64 s] w (RetInt w (sg neg (X / 2^s + if neg && decide (X % 2^s ≠ 0) then 1 else 0))) := by
  have LOW := Lib.hid (fun W (h : Below w.heap.size w W) => lower_any basex bx ox X cx s W hbx (hX.kept h) hcx (by omega) hsm)
  obtain ⟨fr, hfr⟩ : ∃ fr, decide (X % 2^s ≠ 0) = fr := ⟨_, rfl⟩
  unfold RetLow at LOW
  rw [hfr] at LOW ⊢
  clear hfr hX hbx
  have hlX : nl (X / 2^s) ≤ nl X := nl_mono (Nat.div_le_self _ _)
  have HF := Lib.hid hlX
  generalize X / 2^s = Y at *
  clear hlX
  by_cases hplus : (neg && fr) = true
  · rw [if_pos hplus]
    rw [Bool.and_eq_true] at hplus
    obtain ⟨rfl, rfl⟩ := hplus
    go_enter Try.func80, Try.ntmps80
    go_wp2_with fail
    generalize hW : World.alloc _ _ = W
    have B0 : Blk W w.heap.size #[.bool false, .slice none 0 0] := by rw [← hW]; exact blk_new rfl
    have hbW : Below w.heap.size w W := by rw [← hW]; exact (Below.refl _ _).alloc (Nat.le_refl _) _
    have HS := Lib.hid (show W.heap.size = w.heap.size + 1 by rw [← hW]; simp)
    clear hW
    refine (LOW.out W hbW).mono ?_
    rintro e w1 ⟨vq, rfl, ⟨qb, qg, qo, qn, qc, rfl, hq1, hq2, hq3, hq4, hq5⟩, hb1⟩
    have HQ1 := Lib.hid hq1
    have HQ5 := Lib.hid hq5
    have B1 := B0.kept hb1
    have hbw1 : Below w.heap.size w w1 := hbW.trans (hb1.mono (by have := HS.out; omega))
    have HS' := Lib.hid (show w.heap.size + 1 ≤ w1.heap.size by have := HS.out; have := hb1.size; omega)
    clear hq1 hq5 B0
    go_wp2_with fail
    generalize hV : World.alloc _ _ = V
    have hbV : Below w1.heap.size w1 V := by rw [← hV]; exact (Below.refl _ _).alloc (Nat.le_refl _) _
    have hOne : Num V w1.heap.size 0 1 1 := ⟨by decide, fun i hi => by
      obtain rfl : i = 0 := by omega
      rw [← hV]; exact cell_new _ _ _ _ _ _ rfl rfl⟩
    have HV := Lib.hid (show V.heap.size = w1.heap.size + 1 by rw [← hV]; simp)
    clear hV
    refine (plus_any qb _ qg qo qn qc Y _ 0 1 1 1 V HQ1.out (fun _ => rfl) (hq2.kept hbV) hOne (by omega) (by omega)).mono ?_
    rintro e w2 ⟨rfl, hF⟩
    have hbw2 : Below w.heap.size w w2 := hbw1.trans ((hbV.trans (hF.below.mono (by have := HV.out; omega))).mono (by have := HS'.out; omega))
    have B2 := (B1.kept hbV).kept hF.below
    have HS2 := Lib.hid (show w.heap.size + 1 ≤ w2.heap.size by have := HS'.out; have := HV.out; have := hF.below.size; omega)
    have hfn := hF.num
    have HG := Lib.hid (show w.heap.size < V.heap.size by have := HS'.out; have := HV.out; omega)
    clear hF hOne B1 hq2
    obtain ⟨g, hg⟩ : ∃ g, V.heap.size = g := ⟨_, rfl⟩
    rw [hg] at hfn HG ⊢
    clear hg HV
    obtain ⟨M, hM⟩ : ∃ M, max qn 1 + 1 = M := ⟨_, rfl⟩
    rw [hM] at hfn ⊢
    have HMx := Lib.hid (show M ≤ 1000000000 by omega)
    clear hM
    go_wp2_with fail
    refine (number_any true _ g 0 M M (Y + 1) w2 (fun _ => rfl) hfn (Nat.le_refl _) (by have := HMx.out; omega)).mono ?_
    rintro e w3 ⟨rfl, hb3⟩
    have hbw3 : Below w.heap.size w w3 := hbw2.trans (hb3.mono (by have := HS2.out; omega))
    obtain ⟨c0, c1⟩ := Blk2 (B2.kept hb3)
    obtain ⟨f0, f1⟩ := Blk2f (B2.kept hb3)
    obtain ⟨s', q, m, hv⟩ := intv_form true (some ⟨g, 0, none⟩) (Y + 1)
    rw [hv]
    have HVV := Lib.hid hv
    clear hv B2
    go_wp2_with fail
    have hgg := HG.out
    refine bodyPost_ret (v := .agg #[.bool s', .slice q m m]) (by simp [results, Try.results80, go_sem, c0, c1]) rfl ⟨_, rfl, ?_, (hbw3.setCell (Nat.le_refl _) _).setCell (Nat.le_refl _) _⟩
    rw [← HVV.out]
    exact can_intv (n := M) (fun _ => rfl) (((hfn.kept hb3).other _ (fun _ => by show g ≠ w.heap.size; omega)).other _ (fun _ => by show g ≠ w.heap.size; omega)) (by have := nl_le hfn.lt; have := HMx.out; omega) (fun _ => by omega)
  · rw [if_neg hplus, Nat.add_zero]
    have hpl : (neg && fr) = false := by simpa using hplus
    clear hplus
    cases neg
    · have hng : fr = fr := rfl
      clear hpl
      go_enter Try.func80, Try.ntmps80
      go_wp2_with fail
      generalize hW : World.alloc _ _ = W
      have B0 : Blk W w.heap.size #[.bool false, .slice none 0 0] := by rw [← hW]; exact blk_new rfl
      have hbW : Below w.heap.size w W := by rw [← hW]; exact (Below.refl _ _).alloc (Nat.le_refl _) _
      have HS := Lib.hid (show W.heap.size = w.heap.size + 1 by rw [← hW]; simp)
      clear hW
      refine (LOW.out W hbW).mono ?_
      rintro e w1 ⟨vq, rfl, ⟨qb, qg, qo, qn, qc, rfl, hq1, hq2, hq3, hq4, hq5⟩, hb1⟩
      have HQ1 := Lib.hid hq1
      have HQ5 := Lib.hid hq5
      have B1 := B0.kept hb1
      have hbw1 : Below w.heap.size w w1 := hbW.trans (hb1.mono (by have := HS.out; omega))
      have HS' := Lib.hid (show w.heap.size + 1 ≤ w1.heap.size by have := HS.out; have := hb1.size; omega)
      clear hq1 hq5 B0
      go_wp2_with fail
      refine (number_any _ _ qg qo qn qc Y w1 HQ1.out hq2 hq3 (by omega)).mono ?_
      rintro e w3 ⟨rfl, hb3⟩
      have hbw3 : Below w.heap.size w w3 := hbw1.trans (hb3.mono (by have := HS'.out; omega))
      obtain ⟨c0, c1⟩ := Blk2 (B1.kept hb3)
      obtain ⟨f0, f1⟩ := Blk2f (B1.kept hb3)
      have HSS := Lib.hid (show w.heap.size < W.heap.size by have := HS.out; omega)
      obtain ⟨s', q, m, hv⟩ := intv_form false qb Y
      rw [hv]
      have HVV := Lib.hid hv
      clear hv
      go_wp2_with fail
      have hss := HSS.out
      refine bodyPost_ret (v := .agg #[.bool s', .slice q m m]) (by simp [results, Try.results80, go_sem, c0, c1]) rfl ⟨_, rfl, ?_, (hbw3.setCell (Nat.le_refl _) _).setCell (Nat.le_refl _) _⟩
      rw [← HVV.out]
      exact can_intv (n := qn) HQ1.out (((hq2.kept hb3).other _ (fun h => by have := HQ5.out h; show qg ≠ w.heap.size; omega)).other _ (fun h => by have := HQ5.out h; show qg ≠ w.heap.size; omega)) (by have := nl_le hq2.lt; omega) (fun h => by have := HQ5.out h; omega)
    · obtain rfl : fr = false := by simpa using hpl
      clear hpl
      go_enter Try.func80, Try.ntmps80
      go_wp2_with fail
      generalize hW : World.alloc _ _ = W
      have B0 : Blk W w.heap.size #[.bool false, .slice none 0 0] := by rw [← hW]; exact blk_new rfl
      have hbW : Below w.heap.size w W := by rw [← hW]; exact (Below.refl _ _).alloc (Nat.le_refl _) _
      have HS := Lib.hid (show W.heap.size = w.heap.size + 1 by rw [← hW]; simp)
      clear hW
      refine (LOW.out W hbW).mono ?_
      rintro e w1 ⟨vq, rfl, ⟨qb, qg, qo, qn, qc, rfl, hq1, hq2, hq3, hq4, hq5⟩, hb1⟩
      have HQ1 := Lib.hid hq1
      have HQ5 := Lib.hid hq5
      have B1 := B0.kept hb1
      have hbw1 : Below w.heap.size w w1 := hbW.trans (hb1.mono (by have := HS.out; omega))
      have HS' := Lib.hid (show w.heap.size + 1 ≤ w1.heap.size by have := HS.out; have := hb1.size; omega)
      clear hq1 hq5 B0
      go_wp2_with fail
      refine (number_any _ _ qg qo qn qc Y w1 HQ1.out hq2 hq3 (by omega)).mono ?_
      rintro e w3 ⟨rfl, hb3⟩
      have hbw3 : Below w.heap.size w w3 := hbw1.trans (hb3.mono (by have := HS'.out; omega))
      obtain ⟨c0, c1⟩ := Blk2 (B1.kept hb3)
      obtain ⟨f0, f1⟩ := Blk2f (B1.kept hb3)
      have HSS := Lib.hid (show w.heap.size < W.heap.size by have := HS.out; omega)
      obtain ⟨s', q, m, hv⟩ := intv_form true qb Y
      rw [hv]
      have HVV := Lib.hid hv
      clear hv
      go_wp2_with fail
      have hss := HSS.out
      refine bodyPost_ret (v := .agg #[.bool s', .slice q m m]) (by simp [results, Try.results80, go_sem, c0, c1]) rfl ⟨_, rfl, ?_, (hbw3.setCell (Nat.le_refl _) _).setCell (Nat.le_refl _) _⟩
      rw [← HVV.out]
      exact can_intv (n := qn) HQ1.out (((hq2.kept hb3).other _ (fun h => by have := HQ5.out h; show qg ≠ w.heap.size; omega)).other _ (fun h => by have := HQ5.out h; show qg ≠ w.heap.size; omega)) (by have := nl_le hq2.lt; omega) (fun h => by have := HQ5.out h; omega)
end Go.Proofs.Ytdgfmkideghhaaa
