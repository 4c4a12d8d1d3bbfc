/-
  Small functions of package integer: duplicate, number, large, bounded, length, order.
  integer.large and integer.bounded: whether a number has more than 256 limbs.
  math/bits.Len32 and LeadingZeros32; integer.length.
-/
import Derived.Handy
import Derived.Lib.Strings
import Derived.Lib.Slices
import Derived.Lib.Small
import Derived.Lib.Walk
import Derived.Lib.BitFns
import Derived.Lib.ItoaNum
import Derived.Test.YtdgfmkideghhaaaM13
import Derived.Test.YtdgfmkideghhaaaM14
namespace Go.Proofs.Ytdgfmkideghhaaa
open Go.RowKit PB
theorem size51 : (Try.prog.info? 77).map (·.size) = some 1 := by kernel_rfl

set_option maxRecDepth 100000 in
theorem duplicate_any (base : Option Addr) (b off n c X : Nat) (w : World) (hb : n ≠ 0 → base = some ⟨b, off, none⟩) (hX : Num w b off n X) (hn : n ≤ c) (hc : n ≤ 1099511627776) :
    Calls Try.prog 78 #[.slice base n c] w fun e w' => e = .returned (.slice (some ⟨w.heap.size, 0, none⟩) (nl X) (nl X)) ∧ Fresh w w' w.heap.size (nl X) X := by
  have hnl : nl X ≤ n := nl_le hX.lt
  go_enter Try.func78, Try.ntmps78
  go_wp2_with (first | (go_at_call 75; refine (cut_any base b off n c X _ hb hX hn hc).mono ?_; rintro e w' ⟨rfl, rfl⟩) | (at_make; refine wpList_make_num _ rfl _ _ 22 rfl 77 info51 Try.underlying22 .i64 .i64 _ _ (nl X) rfl rfl (by omega) (by omega) (by omega) ?_))
  intro w1 hb1 hz1 hS1 hF1 hR1
  have HN := Lib.hid hz1
  clear hz1
  go_wp2_with (refine wpList_copy_num rfl (.tmp 9) (.tmp 10) 22 22 rfl 77 Try.underlying22 size51 _ _ _ _ _ _ rfl rfl w.heap.size 0 (nl X) b off X (nl X) (by omega) hR1 hS1 ((hX.fewer hnl (lt_nl X)).kept hb1) (fun h => hb (by omega)) (fun _ => rfl) (by omega) w.heap.size w hb1 (Nat.le_refl _) ?_)
  intro w2 hb2 hlt hS2 hF2
  go_wp2_with fail
  go_ret
  refine ⟨rfl, hb2, ?_, hF2, Nat.le_refl _, hlt⟩
  rwa [mod_of_lt (lt_nl X)] at hS2

/-- What number returns: 0 without limbs, or a sign and cut limbs. -/
def intv (neg : Bool) (base : Option Addr) (X : Nat) : Value := if X = 0 then .agg #[.bool false, .slice none 0 0] else .agg #[.bool neg, .slice base (nl X) (nl X)]
theorem intv_zero (neg : Bool) (base : Option Addr) : intv neg base 0 = .agg #[.bool false, .slice none 0 0] := if_pos rfl
theorem intv_pos (neg : Bool) (base : Option Addr) {X : Nat} (h : X ≠ 0) : intv neg base X = .agg #[.bool neg, .slice base (nl X) (nl X)] := if_neg h
set_option maxRecDepth 100000 in
theorem number_any (neg : Bool) (base : Option Addr) (b off n c X : Nat) (w : World) (hb : n ≠ 0 → base = some ⟨b, off, none⟩) (hX : Num w b off n X) (hn : n ≤ c) (hc : n ≤ 1099511627776) :
    Calls Try.prog 73 #[.bool neg, .slice base n c] w fun e w' => e = .returned (intv neg base X) ∧ Below w.heap.size w w' := by
  by_cases h0 : X = 0
  · have HX := Lib.hid h0
    have hz : ((nl X : Int) == 0) = true := by rw [h0, nl_zero]; rfl
    clear h0
    go_enter Try.func73, Try.ntmps73
    go_wp2_with (go_at_call 75; refine (cut_any base b off n c X _ hb (hX.alloc _) hn hc).mono ?_; rintro e w' ⟨rfl, rfl⟩)
    refine bodyPost_ret (v := .agg #[.bool false, .slice none 0 0]) (by simp [results, Try.results73, go_sem]) rfl ⟨by rw [HX.out, intv_zero], ?_⟩
    exact ((Below.refl _ _).alloc (Nat.le_refl _) _)
  · have HX := Lib.hid h0
    have hz : ((nl X : Int) == 0) = false := by have := mt nl_eq_zero.1 h0; simp; omega
    clear h0
    go_enter Try.func73, Try.ntmps73
    go_wp2_with (go_at_call 75; refine (cut_any base b off n c X _ hb (hX.alloc _) hn hc).mono ?_; rintro e w' ⟨rfl, rfl⟩)
    refine bodyPost_ret (v := .agg #[.bool neg, .slice base (nl X) (nl X)]) (by simp [results, Try.results73, go_sem]) rfl ⟨by rw [intv_pos _ _ HX.out], ?_⟩
    exact ((Below.refl _ _).alloc (Nat.le_refl _) _)

set_option maxRecDepth 100000 in
/-- The order of two cut rows. -/
theorem order_any (basex basey : Option Addr) (bx ox X cx by_ oy Y cy : Nat) (w : World) (hbx : nl X ≠ 0 → basex = some ⟨bx, ox, none⟩) (hby : nl Y ≠ 0 → basey = some ⟨by_, oy, none⟩)
    (hX : Num w bx ox (nl X) X) (hY : Num w by_ oy (nl Y) Y) (hc : nl X ≤ 1099511627776) (hc' : nl Y ≤ 1099511627776) :
    Calls Try.prog 93 #[.slice basex (nl X) cx, .slice basey (nl Y) cy] w fun e w' => e = .returned (.int .i64 (cmpi X Y)) ∧ ∃ m, w' = w.drewN m := by
  by_cases h : nl X = nl Y
  · have hne : ((nl X : Int) != (nl Y : Int)) = false := by simp [h]
    have HB := Lib.hid hbx
    have HB' := Lib.hid hby
    obtain ⟨n, hn⟩ : ∃ n, n = nl X := ⟨_, rfl⟩
    have hX' := lt_nl X
    have hY' := lt_nl Y
    rw [← h] at hY' hY HB' hne ⊢
    rw [← hn] at hX hY hX' hY' HB HB' hne hc ⊢
    clear h hn hbx hby hc'
    go_enter Try.func93, Try.ntmps93
    go_wp2_with fail
    go_loopw [5] (fun v wr => ∃ k q : Nat, k ≤ n ∧ v = .int .i64 ((k : Int) - 1) ∧ wr = w.drewN q ∧ X / B^k = Y / B^k) (fun v _ => (intOf v + 1).toNat)
    case atStart => exact ⟨n, 0, by omega, rfl, rfl, by rw [Nat.div_eq_of_lt hX', Nat.div_eq_of_lt hY']⟩
    case round =>
      obtain ⟨k, q, hk, rfl, rfl, heq⟩ := hrel
      have HE := Lib.hid heq
      clear heq
      by_cases h0 : k = 0
      · subst h0
        have hEq : X = Y := by simpa using HE.out
        subst hEq
        have hz : decide ((0 : Int) ≤ ((0 : Nat) : Int) - 1) = false := by decide
        go_wp2_with fail
        go_ret
        exact ⟨by rw [cmpi, if_neg (by omega), if_neg (by omega)]; rfl, q, rfl⟩
      · obtain ⟨j, rfl⟩ : ∃ j, k = j + 1 := ⟨k - 1, by omega⟩
        obtain rfl := HB.out (by omega)
        obtain rfl := HB'.out (by omega)
        have e1 : (((j + 1 : Nat) : Int) - 1) = j := by omega
        rw [e1]
        clear e1
        have c1 := hX.cell (i := j) (by omega)
        have c2 := hY.cell (i := j) (by omega)
        have i1 : (j : Int) < n := by omega
        have i2 : (0 : Int) ≤ j := by omega
        by_cases hd : dg X j = dg Y j
        · have ht : ((dg X j : Int) != dg Y j) = false := by simp [hd]
          have HD := Lib.hid hd
          clear hd
          go_wp2_with fail
          go_quiet (fail)
          go_wp2_with fail
          go_roundw
          case rel => exact ⟨j, _, by omega, rfl, rfl, div_eq_of_dg HE.out HD.out⟩
          case measure => simp [intOf]
        · have ht : ((dg X j : Int) != dg Y j) = true := by simp; omega
          have HC := Lib.hid (show cmpi (dg X j) (dg Y j) = cmpi X Y by
            unfold cmpi
            rcases Nat.lt_or_gt_of_ne hd with h1 | h1
            · have := lt_of_dg HE.out h1
              rw [if_pos (by omega), if_pos (by omega)]
            · have := lt_of_dg HE.out.symm h1
              rw [if_neg (by omega), if_pos (by omega), if_neg (by omega), if_pos (by omega)])
          clear hd
          go_wp2_with fail
          go_quiet (fail)
          go_wp2_with fail
          go_quiet ((go_at_call 132; exact quiet_on (compare_u32 _ _ _)))
          go_wp2_with fail
          go_ret
          exact ⟨by rw [← HC.out]; rfl, _, by rw [World.drewN_drewN, World.drewN_drewN]⟩
  · have hne : ((nl X : Int) != (nl Y : Int)) = true := by simp; omega
    have hcmp : cmpi (nl X) (nl Y) = cmpi X Y := by
      unfold cmpi
      rcases Nat.lt_or_gt_of_ne h with h1 | h1
      · have := lt_of_nl_lt h1
        rw [if_pos (by omega), if_pos (by omega)]
      · have := lt_of_nl_lt h1
        rw [if_neg (by omega), if_pos (by omega), if_neg (by omega), if_pos (by omega)]
    have HC := Lib.hid hcmp
    clear hcmp h
    go_enter Try.func93, Try.ntmps93
    go_wp2_with (go_at_call 131; refine (compare_int _ _ _).mono ?_; rintro e w' ⟨rfl, rfl⟩)
    go_ret
    exact ⟨by rw [← HC.out]; rfl, 0, rfl⟩
end Go.Proofs.Ytdgfmkideghhaaa

namespace Go.Proofs.Ytdgfmkideghhaaa
open Go.RowKit PB

set_option maxHeartbeats 1000000 in
set_option maxRecDepth 100000 in
theorem large_any (g N : Nat) (s : Nat → Bool) (ba : Nat → Option Addr) (bb oo ln cp X : Nat → Nat) (w : World) (hN : N ≤ 100)
    (h0 : ∀ i, i < N → w.cell? ⟨g, i * 2, none⟩ = some (.bool (s i)) ∧ w.cell? ⟨g, i * 2 + 1, none⟩ = some (.slice (ba i) (ln i) (cp i)))
    (hb : ∀ i, i < N → ln i ≠ 0 → ba i = some ⟨bb i, oo i, none⟩) (hX : ∀ i, i < N → Num w (bb i) (oo i) (ln i) (X i)) (hc : ∀ i, i < N → ln i ≤ cp i ∧ ln i ≤ 1099511627776) :
    Calls Try.prog 70 #[.slice (some ⟨g, 0, none⟩) N N] w fun e w' => e = .returned (.bool (decide (∃ i, i < N ∧ 256 < nl (X i)))) ∧ Below w.heap.size w w' := by
  have H0 := Lib.hid h0
  have HB := Lib.hid hb
  have HX := Lib.hid hX
  have HC := Lib.hid hc
  clear h0 hb hX hc
  go_enter Try.func70, Try.ntmps70
  go_wp2_with fail
  go_loopw [7] (fun v wr => ∃ k : Nat, k ≤ N ∧ v = .int .i64 k ∧ Below w.heap.size w wr ∧ Hid (∀ i, i < k → nl (X i) ≤ 256)) (fun v _ => N - (intOf v).toNat)
  case atStart => exact ⟨0, by omega, rfl, Below.refl _ _, show _ from fun i hi => by omega⟩
  case round =>
    obtain ⟨k, hk, rfl, hbr, hle⟩ := hrel
    by_cases hlt : k < N
    · have i1 : (k : Int) < N := by omega
      have i2 : (0 : Int) ≤ k := by omega
      have hbl : g < w.heap.size := by
        have := (H0.out k hlt).1
        unfold World.cell? at this
        apply Nat.lt_of_not_le
        intro hle
        rw [Array.getElem?_eq_none (by exact hle)] at this
        cases this
      have c0 : wr.cell? ⟨g, k * 2, none⟩ = some (.bool (s k)) := by rw [hbr.cell (p := ⟨g, k * 2, none⟩) hbl]; exact (H0.out k hlt).1
      have c1 : wr.cell? ⟨g, k * 2 + 1, none⟩ = some (.slice (ba k) (ln k) (cp k)) := by rw [hbr.cell (p := ⟨g, k * 2 + 1, none⟩) hbl]; exact (H0.out k hlt).2
      have hx := ((HX.out k hlt).kept hbr).alloc
      by_cases hbig : 256 < nl (X k)
      · have ht : (256 : Int) < nl (X k) := by omega
        go_wp2_with (go_at_call 75; refine (cut_any _ _ _ _ _ _ _ (HB.out k hlt) (hx _) (HC.out k hlt).1 (HC.out k hlt).2).mono ?_; rintro e w' ⟨rfl, rfl⟩)
        go_ret
        exact ⟨by rw [show decide (∃ i, i < N ∧ 256 < nl (X i)) = true from decide_eq_true ⟨k, hlt, hbig⟩]; rfl, hbr.alloc hbr.size _⟩
      · have ht : ¬ (256 : Int) < nl (X k) := by omega
        go_wp2_with (go_at_call 75; refine (cut_any _ _ _ _ _ _ _ (HB.out k hlt) (hx _) (HC.out k hlt).1 (HC.out k hlt).2).mono ?_; rintro e w' ⟨rfl, rfl⟩)
        go_roundw
        case rel =>
          refine ⟨k + 1, by omega, by go_num, hbr.alloc hbr.size _, fun i hi => ?_⟩
          by_cases e : i = k
          · subst e; omega
          · exact hle.out i (by omega)
        case measure => simp [intOf]; omega
    · obtain rfl : k = N := by omega
      go_wp2_with fail
      go_ret
      exact ⟨by rw [show decide (∃ i, i < k ∧ 256 < nl (X i)) = false from decide_eq_false (fun ⟨i, hi, hb⟩ => absurd (hle.out i hi) (by omega))]; rfl, hbr⟩

/-- large at one number. -/
theorem large_one (g : Nat) (s : Bool) (ba : Option Addr) (bb oo ln cp X : Nat) (w : World)
    (h0 : w.cell? ⟨g, 0, none⟩ = some (.bool s)) (h1 : w.cell? ⟨g, 1, none⟩ = some (.slice ba ln cp))
    (hb : ln ≠ 0 → ba = some ⟨bb, oo, none⟩) (hX : Num w bb oo ln X) (hc : ln ≤ cp) (hc' : ln ≤ 1099511627776) :
    Calls Try.prog 70 #[.slice (some ⟨g, 0, none⟩) 1 1] w fun e w' => e = .returned (.bool (decide (256 < nl X))) ∧ Below w.heap.size w w' := by
  have h := large_any g 1 (fun _ => s) (fun _ => ba) (fun _ => bb) (fun _ => oo) (fun _ => ln) (fun _ => cp) (fun _ => X) w (by omega)
    (fun i hi => by obtain rfl : i = 0 := (by omega); exact ⟨h0, h1⟩) (fun _ _ => hb) (fun _ _ => hX) (fun _ _ => ⟨hc, hc'⟩)
  rwa [show decide (∃ i, i < 1 ∧ 256 < nl X) = decide (256 < nl X) from decide_eq_decide.2 ⟨fun ⟨_, _, h⟩ => h, fun h => ⟨0, by omega, h⟩⟩] at h
theorem large_two (g : Nat) (s t : Bool) (ba ba' : Option Addr) (bb oo ln cp X bb' oo' ln' cp' Y : Nat) (w : World)
    (h0 : w.cell? ⟨g, 0, none⟩ = some (.bool s)) (h1 : w.cell? ⟨g, 1, none⟩ = some (.slice ba ln cp)) (h2 : w.cell? ⟨g, 2, none⟩ = some (.bool t)) (h3 : w.cell? ⟨g, 3, none⟩ = some (.slice ba' ln' cp'))
    (hb : ln ≠ 0 → ba = some ⟨bb, oo, none⟩) (hX : Num w bb oo ln X) (hc : ln ≤ cp) (hd : ln ≤ 1099511627776)
    (hb' : ln' ≠ 0 → ba' = some ⟨bb', oo', none⟩) (hY : Num w bb' oo' ln' Y) (hc' : ln' ≤ cp') (hd' : ln' ≤ 1099511627776) :
    Calls Try.prog 70 #[.slice (some ⟨g, 0, none⟩) 2 2] w fun e w' => e = .returned (.bool (decide (256 < nl X ∨ 256 < nl Y))) ∧ Below w.heap.size w w' := by
  have h := large_any g 2 (fun i => if i = 0 then s else t) (fun i => if i = 0 then ba else ba') (fun i => if i = 0 then bb else bb') (fun i => if i = 0 then oo else oo') (fun i => if i = 0 then ln else ln')
    (fun i => if i = 0 then cp else cp') (fun i => if i = 0 then X else Y) w (by omega)
    (fun i hi => by
      have : i = 0 ∨ i = 1 := by omega
      rcases this with rfl | rfl
      · exact ⟨h0, h1⟩
      · exact ⟨h2, h3⟩)
    (fun i hi => by
      have : i = 0 ∨ i = 1 := by omega
      rcases this with rfl | rfl
      · exact hb
      · exact hb')
    (fun i hi => by
      have : i = 0 ∨ i = 1 := by omega
      rcases this with rfl | rfl
      · exact hX
      · exact hY)
    (fun i hi => by
      have : i = 0 ∨ i = 1 := by omega
      rcases this with rfl | rfl
      · exact ⟨hc, hd⟩
      · exact ⟨hc', hd'⟩)
  rwa [show decide (∃ i, i < 2 ∧ 256 < nl (if i = 0 then X else Y)) = decide (256 < nl X ∨ 256 < nl Y) from decide_eq_decide.2 (by
    constructor
    · rintro ⟨i, hi, h⟩
      by_cases e : i = 0
      · rw [if_pos e] at h; exact Or.inl h
      · rw [if_neg e] at h; exact Or.inr h
    · rintro (h | h)
      · exact ⟨0, by omega, h⟩
      · exact ⟨1, by omega, h⟩)] at h

/-- What bounded returns: the number, or ErrSize. -/
def bnd (v : Value) (X : Nat) : Value := if 256 < nl X then .tuple #[.agg #[.bool false, .slice none 0 0], .int .i64 2] else .tuple #[v, .int .i64 0]
theorem bnd_big (v : Value) {X : Nat} (h : 256 < nl X) : bnd v X = .tuple #[.agg #[.bool false, .slice none 0 0], .int .i64 2] := if_pos h
theorem bnd_ok (v : Value) {X : Nat} (h : ¬ 256 < nl X) : bnd v X = .tuple #[v, .int .i64 0] := if_neg h
/-- The three blocks that bounded makes. -/
def boxes (w : World) (v0 v1 : Value) : World := ((w.alloc (.cells #[v0, v1] 24)).alloc (.cells #[.bool false, .slice none 0 0] 24)).alloc (.cells #[v0, v1] 24)
theorem boxes_size (w : World) (v0 v1 : Value) : (boxes w v0 v1).heap.size = w.heap.size + 3 := by simp [boxes]
theorem boxes_below (w : World) (v0 v1 : Value) : Below w.heap.size w (boxes w v0 v1) := (((Below.refl _ _).alloc (Nat.le_refl _) _).alloc (by simp) _).alloc (by simp; omega) _
theorem boxes_cell (w : World) (v0 v1 : Value) (j : Nat) (v : Value) (h : #[v0, v1][j]? = some v) :
    (boxes w v0 v1).cell? ⟨w.heap.size, j, none⟩ = some v ∧ (boxes w v0 v1).cell? ⟨w.heap.size + 1 + 1, j, none⟩ = some v := by
  unfold boxes
  refine ⟨?_, cell_new _ _ _ _ _ _ (by simp) h⟩
  rw [World.cell?_of_block (Below.heap_alloc _ _ _ (by simp; omega)), World.cell?_of_block (Below.heap_alloc _ _ _ (by simp))]
  exact cell_new _ _ _ _ _ _ rfl h
theorem boxes_zero (w : World) (v0 v1 : Value) (j : Nat) (v : Value) (h : #[Value.bool false, Value.slice none 0 0][j]? = some v) :
    (boxes w v0 v1).cell? ⟨w.heap.size + 1, j, none⟩ = some v := by
  unfold boxes
  rw [World.cell?_of_block (Below.heap_alloc _ _ _ (by simp))]
  exact cell_new _ _ _ _ _ _ (by simp) h
theorem boxes_free (w : World) (v0 v1 : Value) (j : Nat) : (boxes w v0 v1).frozen? ⟨w.heap.size + 1, j, none⟩ = false := by
  unfold boxes
  rw [World.frozen?_of_block (Below.heap_alloc _ _ _ (by simp))]
  exact free_new _ _ _ _ _ (by simp)
set_option maxHeartbeats 1000000 in
set_option maxRecDepth 100000 in
theorem bounded_any (s : Bool) (ba : Option Addr) (bb oo ln cp X : Nat) (w : World)
    (hb : ln ≠ 0 → ba = some ⟨bb, oo, none⟩) (hX : Num w bb oo ln X) (hc : ln ≤ cp) (hd : ln ≤ 1099511627776) :
    Calls Try.prog 71 #[.agg #[.bool s, .slice ba ln cp]] w fun e w' => e = .returned (bnd (.agg #[.bool s, .slice ba ln cp]) X) ∧ Below w.heap.size w w' := by
  have hX' := hX.kept (boxes_below w (.bool s) (.slice ba ln cp))
  have hw := boxes_below w (.bool s) (.slice ba ln cp)
  have hz := boxes_size w (.bool s) (.slice ba ln cp)
  have a0 := boxes_cell w (.bool s) (.slice ba ln cp) 0 (.bool s) rfl
  have a1 := boxes_cell w (.bool s) (.slice ba ln cp) 1 (.slice ba ln cp) rfl
  have b0 := boxes_zero w (.bool s) (.slice ba ln cp) 0 (.bool false) rfl
  have b1 := boxes_zero w (.bool s) (.slice ba ln cp) 1 (.slice none 0 0) rfl
  have f0 := (boxes_free w (.bool s) (.slice ba ln cp) 0)
  have f1 := (boxes_free w (.bool s) (.slice ba ln cp) 1)
  have HW : ∃ W, W = boxes w (.bool s) (.slice ba ln cp) := ⟨_, rfl⟩
  obtain ⟨W, HW⟩ := HW
  rw [← HW] at hX' hw hz a0 a1 b0 b1 f0 f1
  have call := large_one (w.heap.size + 1 + 1) s ba bb oo ln cp X W a0.2 a1.2 hb hX' hc hd
  have FACTS := Lib.hid (show ∀ w1, Below W.heap.size W w1 → (w1.cell? ⟨w.heap.size, 0, none⟩ = some (.bool s) ∧ w1.cell? ⟨w.heap.size, 1, none⟩ = some (.slice ba ln cp)) ∧ (w1.cell? ⟨w.heap.size + 1, 0, none⟩ = some (.bool false) ∧ w1.cell? ⟨w.heap.size + 1, 1, none⟩ = some (.slice none 0 0)) ∧
      (w1.frozen? ⟨w.heap.size + 1, 0, none⟩ = false ∧ w1.frozen? ⟨w.heap.size + 1, 1, none⟩ = false) ∧ w.heap.size + 1 < w1.heap.size from fun w1 hb1 => by
    have hs := hb1.size
    refine ⟨⟨?_, ?_⟩, ⟨?_, ?_⟩, ⟨?_, ?_⟩, by omega⟩
    · rw [hb1.cell (p := ⟨w.heap.size, 0, none⟩) (by show w.heap.size < _; omega)]; exact a0.1
    · rw [hb1.cell (p := ⟨w.heap.size, 1, none⟩) (by show w.heap.size < _; omega)]; exact a1.1
    · rw [hb1.cell (p := ⟨w.heap.size + 1, 0, none⟩) (by show w.heap.size + 1 < _; omega)]; exact b0
    · rw [hb1.cell (p := ⟨w.heap.size + 1, 1, none⟩) (by show w.heap.size + 1 < _; omega)]; exact b1
    · rw [hb1.frozen (p := ⟨w.heap.size + 1, 0, none⟩) (by show w.heap.size + 1 < _; omega)]; exact f0
    · rw [hb1.frozen (p := ⟨w.heap.size + 1, 1, none⟩) (by show w.heap.size + 1 < _; omega)]; exact f1)
  have HM := Lib.hid (show w.heap.size ≤ W.heap.size by omega)
  have HW' := Lib.hid HW
  clear HW hz a0 a1 b0 b1 f0 f1 hX'
  by_cases hbig : 256 < nl X
  · have HX := Lib.hid hbig
    rw [decide_eq_true hbig] at call
    have CALL := Lib.hid call
    clear hbig call
    go_enter Try.func71, Try.ntmps71
    go_wp2_with fail
    have hW2 := HW'.out
    unfold boxes at hW2
    rw [← hW2]
    clear hW2 HW'
    refine CALL.out.mono ?_
    rintro e w1 ⟨rfl, hb1⟩
    obtain ⟨⟨a0, a1⟩, ⟨b0, b1⟩, ⟨f0, f1⟩, hs⟩ := FACTS.out w1 hb1
    go_wp2_with fail
    refine bodyPost_ret (v := .tuple #[.agg #[.bool false, .slice none 0 0], .int .i64 2]) (by simp [results, Try.results71, go_sem, b0, b1]) rfl ⟨by rw [bnd_big _ HX.out], ?_⟩
    exact ((hw.trans (hb1.mono HM.out)).setCell (by simp) _).setCell (by simp) _
  · have HX := Lib.hid hbig
    rw [decide_eq_false hbig] at call
    have CALL := Lib.hid call
    clear hbig call
    go_enter Try.func71, Try.ntmps71
    go_wp2_with fail
    have hW2 := HW'.out
    unfold boxes at hW2
    rw [← hW2]
    clear hW2 HW'
    refine CALL.out.mono ?_
    rintro e w1 ⟨rfl, hb1⟩
    obtain ⟨⟨a0, a1⟩, ⟨b0, b1⟩, ⟨f0, f1⟩, hs⟩ := FACTS.out w1 hb1
    go_wp2_with fail
    refine bodyPost_ret (v := .tuple #[.agg #[.bool s, .slice ba ln cp], .int .i64 0]) (by simp [results, Try.results71, go_sem, b0, b1]) rfl ⟨by rw [bnd_ok _ HX.out], ?_⟩
    exact ((hw.trans (hb1.mono HM.out)).setCell (by simp) _).setCell (by simp) _
end Go.Proofs.Ytdgfmkideghhaaa

namespace Go.Proofs.Ytdgfmkideghhaaa
open Go.RowKit PB

theorem iret {a b : Int} (h : a = b) (w : World) : Ending.returned (.int .i64 a) = Ending.returned (.int .i64 b) ∧ w = w := ⟨by rw [h], rfl⟩
theorem len8_nat (b : Nat) (h : b ≤ 255) : Lib.len8 (b : Int) = (Lib.bitLen b : Int) := Lib.len8_of b (by omega) (by omega)

set_option maxHeartbeats 4000000 in
set_option maxRecDepth 100000 in
theorem len32_a (x : Int) (w : World) (h0 : 0 ≤ x) (h1 : x ≤ 255) :
    Calls Try.prog 130 #[.int .u32 x] w fun e w' => e = .returned (.int .i64 (Lib.bitLen x.toNat)) ∧ w = w' := by
  have e := Lib.len8_of x h0 h1
  have l := Lib.bitLen_le8' x h0 h1
  generalize Lib.bitLen x.toNat = L at *
  have b0 : 0 ≤ Lib.len8 x := by omega
  have b1 : Lib.len8 x ≤ 8 := by omega
  have E := Lib.hid e
  clear e l
  go_enter Try.func130, Try.ntmps130
  go_wp2
  go_ret
  exact iret E.out _
set_option maxHeartbeats 4000000 in
set_option maxRecDepth 100000 in
theorem len32_b (x : Int) (w : World) (h0 : 256 ≤ x) (h1 : x < 65536) :
    Calls Try.prog 130 #[.int .u32 x] w fun e w' => e = .returned (.int .i64 (Lib.bitLen x.toNat)) ∧ w = w' := by
  have h3 : 0 ≤ x / 256 := by omega
  have h4 : x / 256 ≤ 255 := by omega
  have e := Lib.len8_of (x / 256) h3 h4
  have l := Lib.bitLen_le8' (x / 256) h3 h4
  have s := Lib.bitLen_shift8 x.toNat (by omega) (by omega)
  rw [show x.toNat / 256 = (x / 256).toNat by omega] at s
  have b0 : 0 ≤ Lib.len8 (x / 256) := by omega
  have b1 : Lib.len8 (x / 256) ≤ 8 := by omega
  have E := Lib.hid (show 8 + Lib.len8 (x / 256) = (Lib.bitLen x.toNat : Int) by omega)
  clear e l s
  go_enter Try.func130, Try.ntmps130
  go_wp2
  go_ret
  exact iret E.out _
set_option maxHeartbeats 4000000 in
set_option maxRecDepth 100000 in
theorem len32_c (x : Int) (w : World) (h0 : 65536 ≤ x) (h1 : x < 16777216) :
    Calls Try.prog 130 #[.int .u32 x] w fun e w' => e = .returned (.int .i64 (Lib.bitLen x.toNat)) ∧ w = w' := by
  have h3 : 0 ≤ x / 65536 := by omega
  have h4 : x / 65536 ≤ 255 := by omega
  have e := Lib.len8_of (x / 65536) h3 h4
  have l := Lib.bitLen_le8' (x / 65536) h3 h4
  have s := Lib.bitLen_shift16 x.toNat (by omega) (by omega)
  rw [show x.toNat / 65536 = (x / 65536).toNat by omega] at s
  have b0 : 0 ≤ Lib.len8 (x / 65536) := by omega
  have b1 : Lib.len8 (x / 65536) ≤ 8 := by omega
  have E := Lib.hid (show 16 + Lib.len8 (x / 65536) = (Lib.bitLen x.toNat : Int) by omega)
  clear e l s
  go_enter Try.func130, Try.ntmps130
  go_wp2
  go_ret
  exact iret E.out _
set_option maxHeartbeats 4000000 in
set_option maxRecDepth 100000 in
theorem len32_d (x : Int) (w : World) (h0 : 16777216 ≤ x) (h1 : x < 4294967296) :
    Calls Try.prog 130 #[.int .u32 x] w fun e w' => e = .returned (.int .i64 (Lib.bitLen x.toNat)) ∧ w = w' := by
  have h3 : 0 ≤ x / 65536 / 256 := by omega
  have h4 : x / 65536 / 256 ≤ 255 := by omega
  have h5 : 256 ≤ x / 65536 := by omega
  have e := Lib.len8_of (x / 65536 / 256) h3 h4
  have l := Lib.bitLen_le8' (x / 65536 / 256) h3 h4
  have s := Lib.bitLen_shift24 x.toNat (by omega) (by omega)
  rw [show x.toNat / 16777216 = (x / 65536 / 256).toNat by omega] at s
  have b0 : 0 ≤ Lib.len8 (x / 65536 / 256) := by omega
  have b1 : Lib.len8 (x / 65536 / 256) ≤ 8 := by omega
  have E := Lib.hid (show 24 + Lib.len8 (x / 65536 / 256) = (Lib.bitLen x.toNat : Int) by omega)
  clear e l s
  go_enter Try.func130, Try.ntmps130
  go_wp2
  go_ret
  exact iret E.out _
theorem len32_any (x : Nat) (w : World) (hx : x < B) :
    Calls Try.prog 130 #[.int .u32 x] w fun e w' => e = .returned (.int .i64 (Lib.bitLen x)) ∧ w = w' := by
  unfold B at hx
  have h : (x : Int).toNat = x := by omega
  by_cases h1 : x ≤ 255
  · have := len32_a x w (by omega) (by omega); rwa [h] at this
  · by_cases h2 : x < 65536
    · have := len32_b x w (by omega) (by omega); rwa [h] at this
    · by_cases h3 : x < 16777216
      · have := len32_c x w (by omega) (by omega); rwa [h] at this
      · have := len32_d x w (by omega) (by omega); rwa [h] at this
theorem lz32_any (x : Nat) (w : World) (hx : x < B) :
    Calls Try.prog 119 #[.int .u32 x] w fun e w' => e = .returned (.int .i64 ((32 : Int) - Lib.bitLen x)) ∧ w = w' := by
  have hl : Lib.bitLen x ≤ 32 := Lib.bitLen_le x 32 (by omega) hx
  go_enter Try.func119, Try.ntmps119
  go_wp2_with (go_at_call 130; refine (len32_any x _ hx).mono ?_; rintro e w' ⟨rfl, rfl⟩)
  go_ret
  exact ⟨rfl, rfl⟩
end Go.Proofs.Ytdgfmkideghhaaa
