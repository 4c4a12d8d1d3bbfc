/-
  integer.large and integer.bounded: whether a number has more than 256 limbs.
  math/bits.Len32 and LeadingZeros32; integer.length.
  api.Int values: what they stand for, and when they are canonical. Blocks that are known whole.
-/
import Derived.Handy
import Derived.Lib.Strings
import Derived.Lib.Slices
import Derived.Lib.Small
import Derived.Lib.Walk
import Derived.Lib.BitFns
import Derived.Lib.ItoaNum
import Derived.Test.YtkokokgmhpkoiaaM02
import Derived.Test.YtkokokgmhpkoiaaM06
namespace Go.Proofs.Ytkokokgmhpkoiaa
open Go.RowKit PB

set_option maxHeartbeats 1000000 in
set_option maxRecDepth 100000 in
theorem large_any (g N : Nat) (s : Nat → Bool) (ba : Nat → Option Addr) (bb oo ln cp X : Nat → Nat) (w : World) (hN : N ≤ 100)
    (h0 : ∀ i, i < N → w.cell? ⟨g, i * 2, none⟩ = some (.bool (s i)) ∧ w.cell? ⟨g, i * 2 + 1, none⟩ = some (.slice (ba i) (ln i) (cp i)))
    (hb : ∀ i, i < N → ln i ≠ 0 → ba i = some ⟨bb i, oo i, none⟩) (hX : ∀ i, i < N → Num w (bb i) (oo i) (ln i) (X i)) (hc : ∀ i, i < N → ln i ≤ cp i ∧ ln i ≤ 1099511627776) :
    Calls Try.prog 70 #[.slice (some ⟨g, 0, none⟩) N N] w fun e w' => e = .returned (.bool (decide (∃ i, i < N ∧ 256 < nl (X i)))) ∧ Below w.heap.size w w' := by
  have H0 := Lib.hid h0
  have HB := Lib.hid hb
  have HX := Lib.hid hX
  have HC := Lib.hid hc
  clear h0 hb hX hc
  go_enter Try.func70, Try.ntmps70
  go_wp2_with fail
  go_loopw [7] (fun v wr => ∃ k : Nat, k ≤ N ∧ v = .int .i64 k ∧ Below w.heap.size w wr ∧ Hid (∀ i, i < k → nl (X i) ≤ 256)) (fun v _ => N - (intOf v).toNat)
  case atStart => exact ⟨0, by omega, rfl, Below.refl _ _, show _ from fun i hi => by omega⟩
  case round =>
    obtain ⟨k, hk, rfl, hbr, hle⟩ := hrel
    by_cases hlt : k < N
    · have i1 : (k : Int) < N := by omega
      have i2 : (0 : Int) ≤ k := by omega
      have hbl : g < w.heap.size := by
        have := (H0.out k hlt).1
        unfold World.cell? at this
        apply Nat.lt_of_not_le
        intro hle
        rw [Array.getElem?_eq_none (by exact hle)] at this
        cases this
      have c0 : wr.cell? ⟨g, k * 2, none⟩ = some (.bool (s k)) := by rw [hbr.cell (p := ⟨g, k * 2, none⟩) hbl]; exact (H0.out k hlt).1
      have c1 : wr.cell? ⟨g, k * 2 + 1, none⟩ = some (.slice (ba k) (ln k) (cp k)) := by rw [hbr.cell (p := ⟨g, k * 2 + 1, none⟩) hbl]; exact (H0.out k hlt).2
      have hx := ((HX.out k hlt).kept hbr).alloc
      by_cases hbig : 256 < nl (X k)
      · have ht : (256 : Int) < nl (X k) := by omega
        go_wp2_with (go_at_call 75; refine (cut_any _ _ _ _ _ _ _ (HB.out k hlt) (hx _) (HC.out k hlt).1 (HC.out k hlt).2).mono ?_; rintro e w' ⟨rfl, rfl⟩)
        go_ret
        exact ⟨by rw [show decide (∃ i, i < N ∧ 256 < nl (X i)) = true from decide_eq_true ⟨k, hlt, hbig⟩]; rfl, hbr.alloc hbr.size _⟩
      · have ht : ¬ (256 : Int) < nl (X k) := by omega
        go_wp2_with (go_at_call 75; refine (cut_any _ _ _ _ _ _ _ (HB.out k hlt) (hx _) (HC.out k hlt).1 (HC.out k hlt).2).mono ?_; rintro e w' ⟨rfl, rfl⟩)
        go_roundw
        case rel =>
          refine ⟨k + 1, by omega, by go_num, hbr.alloc hbr.size _, fun i hi => ?_⟩
          by_cases e : i = k
          · subst e; omega
          · exact hle.out i (by omega)
        case measure => simp [intOf]; omega
    · obtain rfl : k = N := by omega
      go_wp2_with fail
      go_ret
      exact ⟨by rw [show decide (∃ i, i < k ∧ 256 < nl (X i)) = false from decide_eq_false (fun ⟨i, hi, hb⟩ => absurd (hle.out i hi) (by omega))]; rfl, hbr⟩

/-- large at one number. -/
theorem large_one (g : Nat) (s : Bool) (ba : Option Addr) (bb oo ln cp X : Nat) (w : World)
    (h0 : w.cell? ⟨g, 0, none⟩ = some (.bool s)) (h1 : w.cell? ⟨g, 1, none⟩ = some (.slice ba ln cp))
    (hb : ln ≠ 0 → ba = some ⟨bb, oo, none⟩) (hX : Num w bb oo ln X) (hc : ln ≤ cp) (hc' : ln ≤ 1099511627776) :
    Calls Try.prog 70 #[.slice (some ⟨g, 0, none⟩) 1 1] w fun e w' => e = .returned (.bool (decide (256 < nl X))) ∧ Below w.heap.size w w' := by
  have h := large_any g 1 (fun _ => s) (fun _ => ba) (fun _ => bb) (fun _ => oo) (fun _ => ln) (fun _ => cp) (fun _ => X) w (by omega)
    (fun i hi => by obtain rfl : i = 0 := (by omega); exact ⟨h0, h1⟩) (fun _ _ => hb) (fun _ _ => hX) (fun _ _ => ⟨hc, hc'⟩)
  rwa [show decide (∃ i, i < 1 ∧ 256 < nl X) = decide (256 < nl X) from decide_eq_decide.2 ⟨fun ⟨_, _, h⟩ => h, fun h => ⟨0, by omega, h⟩⟩] at h
theorem large_two (g : Nat) (s t : Bool) (ba ba' : Option Addr) (bb oo ln cp X bb' oo' ln' cp' Y : Nat) (w : World)
    (h0 : w.cell? ⟨g, 0, none⟩ = some (.bool s)) (h1 : w.cell? ⟨g, 1, none⟩ = some (.slice ba ln cp)) (h2 : w.cell? ⟨g, 2, none⟩ = some (.bool t)) (h3 : w.cell? ⟨g, 3, none⟩ = some (.slice ba' ln' cp'))
    (hb : ln ≠ 0 → ba = some ⟨bb, oo, none⟩) (hX : Num w bb oo ln X) (hc : ln ≤ cp) (hd : ln ≤ 1099511627776)
    (hb' : ln' ≠ 0 → ba' = some ⟨bb', oo', none⟩) (hY : Num w bb' oo' ln' Y) (hc' : ln' ≤ cp') (hd' : ln' ≤ 1099511627776) :
    Calls Try.prog 70 #[.slice (some ⟨g, 0, none⟩) 2 2] w fun e w' => e = .returned (.bool (decide (256 < nl X ∨ 256 < nl Y))) ∧ Below w.heap.size w w' := by
  have h := large_any g 2 (fun i => if i = 0 then s else t) (fun i => if i = 0 then ba else ba') (fun i => if i = 0 then bb else bb') (fun i => if i = 0 then oo else oo') (fun i => if i = 0 then ln else ln')
    (fun i => if i = 0 then cp else cp') (fun i => if i = 0 then X else Y) w (by omega)
    (fun i hi => by
      have : i = 0 ∨ i = 1 := by omega
      rcases this with rfl | rfl
      · exact ⟨h0, h1⟩
      · exact ⟨h2, h3⟩)
    (fun i hi => by
      have : i = 0 ∨ i = 1 := by omega
      rcases this with rfl | rfl
      · exact hb
      · exact hb')
    (fun i hi => by
      have : i = 0 ∨ i = 1 := by omega
      rcases this with rfl | rfl
      · exact hX
      · exact hY)
    (fun i hi => by
      have : i = 0 ∨ i = 1 := by omega
      rcases this with rfl | rfl
      · exact ⟨hc, hd⟩
      · exact ⟨hc', hd'⟩)
  rwa [show decide (∃ i, i < 2 ∧ 256 < nl (if i = 0 then X else Y)) = decide (256 < nl X ∨ 256 < nl Y) from decide_eq_decide.2 (by
    constructor
    · rintro ⟨i, hi, h⟩
      by_cases e : i = 0
      · rw [if_pos e] at h; exact Or.inl h
      · rw [if_neg e] at h; exact Or.inr h
    · rintro (h | h)
      · exact ⟨0, by omega, h⟩
      · exact ⟨1, by omega, h⟩)] at h

/-- What bounded returns: the number, or ErrSize. -/
def bnd (v : Value) (X : Nat) : Value := if 256 < nl X then .tuple #[.agg #[.bool false, .slice none 0 0], .int .i64 2] else .tuple #[v, .int .i64 0]
theorem bnd_big (v : Value) {X : Nat} (h : 256 < nl X) : bnd v X = .tuple #[.agg #[.bool false, .slice none 0 0], .int .i64 2] := if_pos h
theorem bnd_ok (v : Value) {X : Nat} (h : ¬ 256 < nl X) : bnd v X = .tuple #[v, .int .i64 0] := if_neg h
/-- The three blocks that bounded makes. -/
def boxes (w : World) (v0 v1 : Value) : World := ((w.alloc (.cells #[v0, v1] 24)).alloc (.cells #[.bool false, .slice none 0 0] 24)).alloc (.cells #[v0, v1] 24)
theorem boxes_size (w : World) (v0 v1 : Value) : (boxes w v0 v1).heap.size = w.heap.size + 3 := by simp [boxes]
theorem boxes_below (w : World) (v0 v1 : Value) : Below w.heap.size w (boxes w v0 v1) := (((Below.refl _ _).alloc (Nat.le_refl _) _).alloc (by simp) _).alloc (by simp; omega) _
theorem boxes_cell (w : World) (v0 v1 : Value) (j : Nat) (v : Value) (h : #[v0, v1][j]? = some v) :
    (boxes w v0 v1).cell? ⟨w.heap.size, j, none⟩ = some v ∧ (boxes w v0 v1).cell? ⟨w.heap.size + 1 + 1, j, none⟩ = some v := by
  unfold boxes
  refine ⟨?_, cell_new _ _ _ _ _ _ (by simp) h⟩
  rw [World.cell?_of_block (Below.heap_alloc _ _ _ (by simp; omega)), World.cell?_of_block (Below.heap_alloc _ _ _ (by simp))]
  exact cell_new _ _ _ _ _ _ rfl h
theorem boxes_zero (w : World) (v0 v1 : Value) (j : Nat) (v : Value) (h : #[Value.bool false, Value.slice none 0 0][j]? = some v) :
    (boxes w v0 v1).cell? ⟨w.heap.size + 1, j, none⟩ = some v := by
  unfold boxes
  rw [World.cell?_of_block (Below.heap_alloc _ _ _ (by simp))]
  exact cell_new _ _ _ _ _ _ (by simp) h
theorem boxes_free (w : World) (v0 v1 : Value) (j : Nat) : (boxes w v0 v1).frozen? ⟨w.heap.size + 1, j, none⟩ = false := by
  unfold boxes
  rw [World.frozen?_of_block (Below.heap_alloc _ _ _ (by simp))]
  exact free_new _ _ _ _ _ (by simp)
set_option maxHeartbeats 1000000 in
set_option maxRecDepth 100000 in
theorem bounded_any (s : Bool) (ba : Option Addr) (bb oo ln cp X : Nat) (w : World)
    (hb : ln ≠ 0 → ba = some ⟨bb, oo, none⟩) (hX : Num w bb oo ln X) (hc : ln ≤ cp) (hd : ln ≤ 1099511627776) :
    Calls Try.prog 71 #[.agg #[.bool s, .slice ba ln cp]] w fun e w' => e = .returned (bnd (.agg #[.bool s, .slice ba ln cp]) X) ∧ Below w.heap.size w w' := by
  have hX' := hX.kept (boxes_below w (.bool s) (.slice ba ln cp))
  have hw := boxes_below w (.bool s) (.slice ba ln cp)
  have hz := boxes_size w (.bool s) (.slice ba ln cp)
  have a0 := boxes_cell w (.bool s) (.slice ba ln cp) 0 (.bool s) rfl
  have a1 := boxes_cell w (.bool s) (.slice ba ln cp) 1 (.slice ba ln cp) rfl
  have b0 := boxes_zero w (.bool s) (.slice ba ln cp) 0 (.bool false) rfl
  have b1 := boxes_zero w (.bool s) (.slice ba ln cp) 1 (.slice none 0 0) rfl
  have f0 := (boxes_free w (.bool s) (.slice ba ln cp) 0)
  have f1 := (boxes_free w (.bool s) (.slice ba ln cp) 1)
  have HW : ∃ W, W = boxes w (.bool s) (.slice ba ln cp) := ⟨_, rfl⟩
  obtain ⟨W, HW⟩ := HW
  rw [← HW] at hX' hw hz a0 a1 b0 b1 f0 f1
  have call := large_one (w.heap.size + 1 + 1) s ba bb oo ln cp X W a0.2 a1.2 hb hX' hc hd
  have FACTS := Lib.hid (show ∀ w1, Below W.heap.size W w1 → (w1.cell? ⟨w.heap.size, 0, none⟩ = some (.bool s) ∧ w1.cell? ⟨w.heap.size, 1, none⟩ = some (.slice ba ln cp)) ∧ (w1.cell? ⟨w.heap.size + 1, 0, none⟩ = some (.bool false) ∧ w1.cell? ⟨w.heap.size + 1, 1, none⟩ = some (.slice none 0 0)) ∧
      (w1.frozen? ⟨w.heap.size + 1, 0, none⟩ = false ∧ w1.frozen? ⟨w.heap.size + 1, 1, none⟩ = false) ∧ w.heap.size + 1 < w1.heap.size from fun w1 hb1 => by
    have hs := hb1.size
    refine ⟨⟨?_, ?_⟩, ⟨?_, ?_⟩, ⟨?_, ?_⟩, by omega⟩
    · rw [hb1.cell (p := ⟨w.heap.size, 0, none⟩) (by show w.heap.size < _; omega)]; exact a0.1
    · rw [hb1.cell (p := ⟨w.heap.size, 1, none⟩) (by show w.heap.size < _; omega)]; exact a1.1
    · rw [hb1.cell (p := ⟨w.heap.size + 1, 0, none⟩) (by show w.heap.size + 1 < _; omega)]; exact b0
    · rw [hb1.cell (p := ⟨w.heap.size + 1, 1, none⟩) (by show w.heap.size + 1 < _; omega)]; exact b1
    · rw [hb1.frozen (p := ⟨w.heap.size + 1, 0, none⟩) (by show w.heap.size + 1 < _; omega)]; exact f0
    · rw [hb1.frozen (p := ⟨w.heap.size + 1, 1, none⟩) (by show w.heap.size + 1 < _; omega)]; exact f1)
  have HM := Lib.hid (show w.heap.size ≤ W.heap.size by omega)
  have HW' := Lib.hid HW
  clear HW hz a0 a1 b0 b1 f0 f1 hX'
  by_cases hbig : 256 < nl X
  · have HX := Lib.hid hbig
    rw [decide_eq_true hbig] at call
    have CALL := Lib.hid call
    clear hbig call
    go_enter Try.func71, Try.ntmps71
    go_wp2_with fail
    have hW2 := HW'.out
    unfold boxes at hW2
    rw [← hW2]
    clear hW2 HW'
    refine CALL.out.mono ?_
    rintro e w1 ⟨rfl, hb1⟩
    obtain ⟨⟨a0, a1⟩, ⟨b0, b1⟩, ⟨f0, f1⟩, hs⟩ := FACTS.out w1 hb1
    go_wp2_with fail
    refine bodyPost_ret (v := .tuple #[.agg #[.bool false, .slice none 0 0], .int .i64 2]) (by simp [results, Try.results71, go_sem, b0, b1]) rfl ⟨by rw [bnd_big _ HX.out], ?_⟩
    exact ((hw.trans (hb1.mono HM.out)).setCell (by simp) _).setCell (by simp) _
  · have HX := Lib.hid hbig
    rw [decide_eq_false hbig] at call
    have CALL := Lib.hid call
    clear hbig call
    go_enter Try.func71, Try.ntmps71
    go_wp2_with fail
    have hW2 := HW'.out
    unfold boxes at hW2
    rw [← hW2]
    clear hW2 HW'
    refine CALL.out.mono ?_
    rintro e w1 ⟨rfl, hb1⟩
    obtain ⟨⟨a0, a1⟩, ⟨b0, b1⟩, ⟨f0, f1⟩, hs⟩ := FACTS.out w1 hb1
    go_wp2_with fail
    refine bodyPost_ret (v := .tuple #[.agg #[.bool s, .slice ba ln cp], .int .i64 0]) (by simp [results, Try.results71, go_sem, b0, b1]) rfl ⟨by rw [bnd_ok _ HX.out], ?_⟩
    exact ((hw.trans (hb1.mono HM.out)).setCell (by simp) _).setCell (by simp) _
end Go.Proofs.Ytkokokgmhpkoiaa

namespace Go.Proofs.Ytkokokgmhpkoiaa
open Go.RowKit PB

theorem iret {a b : Int} (h : a = b) (w : World) : Ending.returned (.int .i64 a) = Ending.returned (.int .i64 b) ∧ w = w := ⟨by rw [h], rfl⟩
theorem len8_nat (b : Nat) (h : b ≤ 255) : Lib.len8 (b : Int) = (Lib.bitLen b : Int) := Lib.len8_of b (by omega) (by omega)

set_option maxHeartbeats 4000000 in
set_option maxRecDepth 100000 in
theorem len32_a (x : Int) (w : World) (h0 : 0 ≤ x) (h1 : x ≤ 255) :
    Calls Try.prog 130 #[.int .u32 x] w fun e w' => e = .returned (.int .i64 (Lib.bitLen x.toNat)) ∧ w = w' := by
  have e := Lib.len8_of x h0 h1
  have l := Lib.bitLen_le8' x h0 h1
  generalize Lib.bitLen x.toNat = L at *
  have b0 : 0 ≤ Lib.len8 x := by omega
  have b1 : Lib.len8 x ≤ 8 := by omega
  have E := Lib.hid e
  clear e l
  go_enter Try.func130, Try.ntmps130
  go_wp2
  go_ret
  exact iret E.out _
set_option maxHeartbeats 4000000 in
set_option maxRecDepth 100000 in
theorem len32_b (x : Int) (w : World) (h0 : 256 ≤ x) (h1 : x < 65536) :
    Calls Try.prog 130 #[.int .u32 x] w fun e w' => e = .returned (.int .i64 (Lib.bitLen x.toNat)) ∧ w = w' := by
  have h3 : 0 ≤ x / 256 := by omega
  have h4 : x / 256 ≤ 255 := by omega
  have e := Lib.len8_of (x / 256) h3 h4
  have l := Lib.bitLen_le8' (x / 256) h3 h4
  have s := Lib.bitLen_shift8 x.toNat (by omega) (by omega)
  rw [show x.toNat / 256 = (x / 256).toNat by omega] at s
  have b0 : 0 ≤ Lib.len8 (x / 256) := by omega
  have b1 : Lib.len8 (x / 256) ≤ 8 := by omega
  have E := Lib.hid (show 8 + Lib.len8 (x / 256) = (Lib.bitLen x.toNat : Int) by omega)
  clear e l s
  go_enter Try.func130, Try.ntmps130
  go_wp2
  go_ret
  exact iret E.out _
set_option maxHeartbeats 4000000 in
set_option maxRecDepth 100000 in
theorem len32_c (x : Int) (w : World) (h0 : 65536 ≤ x) (h1 : x < 16777216) :
    Calls Try.prog 130 #[.int .u32 x] w fun e w' => e = .returned (.int .i64 (Lib.bitLen x.toNat)) ∧ w = w' := by
  have h3 : 0 ≤ x / 65536 := by omega
  have h4 : x / 65536 ≤ 255 := by omega
  have e := Lib.len8_of (x / 65536) h3 h4
  have l := Lib.bitLen_le8' (x / 65536) h3 h4
  have s := Lib.bitLen_shift16 x.toNat (by omega) (by omega)
  rw [show x.toNat / 65536 = (x / 65536).toNat by omega] at s
  have b0 : 0 ≤ Lib.len8 (x / 65536) := by omega
  have b1 : Lib.len8 (x / 65536) ≤ 8 := by omega
  have E := Lib.hid (show 16 + Lib.len8 (x / 65536) = (Lib.bitLen x.toNat : Int) by omega)
  clear e l s
  go_enter Try.func130, Try.ntmps130
  go_wp2
  go_ret
  exact iret E.out _
set_option maxHeartbeats 4000000 in
set_option maxRecDepth 100000 in
theorem len32_d (x : Int) (w : World) (h0 : 16777216 ≤ x) (h1 : x < 4294967296) :
    Calls Try.prog 130 #[.int .u32 x] w fun e w' => e = .returned (.int .i64 (Lib.bitLen x.toNat)) ∧ w = w' := by
  have h3 : 0 ≤ x / 65536 / 256 := by omega
  have h4 : x / 65536 / 256 ≤ 255 := by omega
  have h5 : 256 ≤ x / 65536 := by omega
  have e := Lib.len8_of (x / 65536 / 256) h3 h4
  have l := Lib.bitLen_le8' (x / 65536 / 256) h3 h4
  have s := Lib.bitLen_shift24 x.toNat (by omega) (by omega)
  rw [show x.toNat / 16777216 = (x / 65536 / 256).toNat by omega] at s
  have b0 : 0 ≤ Lib.len8 (x / 65536 / 256) := by omega
  have b1 : Lib.len8 (x / 65536 / 256) ≤ 8 := by omega
  have E := Lib.hid (show 24 + Lib.len8 (x / 65536 / 256) = (Lib.bitLen x.toNat : Int) by omega)
  clear e l s
  go_enter Try.func130, Try.ntmps130
  go_wp2
  go_ret
  exact iret E.out _
theorem len32_any (x : Nat) (w : World) (hx : x < B) :
    Calls Try.prog 130 #[.int .u32 x] w fun e w' => e = .returned (.int .i64 (Lib.bitLen x)) ∧ w = w' := by
  unfold B at hx
  have h : (x : Int).toNat = x := by omega
  by_cases h1 : x ≤ 255
  · have := len32_a x w (by omega) (by omega); rwa [h] at this
  · by_cases h2 : x < 65536
    · have := len32_b x w (by omega) (by omega); rwa [h] at this
    · by_cases h3 : x < 16777216
      · have := len32_c x w (by omega) (by omega); rwa [h] at this
      · have := len32_d x w (by omega) (by omega); rwa [h] at this
theorem lz32_any (x : Nat) (w : World) (hx : x < B) :
    Calls Try.prog 119 #[.int .u32 x] w fun e w' => e = .returned (.int .i64 ((32 : Int) - Lib.bitLen x)) ∧ w = w' := by
  have hl : Lib.bitLen x ≤ 32 := Lib.bitLen_le x 32 (by omega) hx
  go_enter Try.func119, Try.ntmps119
  go_wp2_with (go_at_call 130; refine (len32_any x _ hx).mono ?_; rintro e w' ⟨rfl, rfl⟩)
  go_ret
  exact ⟨rfl, rfl⟩
end Go.Proofs.Ytkokokgmhpkoiaa

namespace PB
open Go Go.RowKit

/-- The number that a sign and limbs stand for. -/
def sg (s : Bool) (X : Nat) : Int := if s then -(X : Int) else X
/-- v is an api.Int that stands for z. -/
def IsInt (w : World) (v : Value) (z : Int) : Prop :=
  ∃ (s : Bool) (base : Option Addr) (b off n c X : Nat), v = .agg #[.bool s, .slice base n c] ∧ (n ≠ 0 → base = some ⟨b, off, none⟩) ∧ Num w b off n X ∧ n ≤ c ∧ n ≤ 1000000000 ∧ z = sg s X
/-- .. in canonical form, its limbs in a block from N on. -/
def IsCan (N : Nat) (w : World) (v : Value) (z : Int) : Prop :=
  ∃ (s : Bool) (base : Option Addr) (b off X c : Nat), v = .agg #[.bool s, .slice base (nl X) c] ∧ (nl X ≠ 0 → base = some ⟨b, off, none⟩) ∧ Num w b off (nl X) X ∧ nl X ≤ c ∧ nl X ≤ 1000000000 ∧ z = sg s X ∧ (X = 0 → s = false) ∧ (nl X ≠ 0 → N ≤ b)
theorem IsCan.int {N : Nat} {w : World} {v : Value} {z : Int} (h : IsCan N w v z) : IsInt w v z := by
  obtain ⟨s, base, b, off, X, c, h1, h2, h3, h4, h5, h6, _⟩ := h
  exact ⟨s, base, b, off, nl X, c, X, h1, h2, h3, h4, h5, h6⟩
theorem IsInt.kept {w w' : World} {v : Value} {z : Int} (h : IsInt w v z) (hb : Below w.heap.size w w') : IsInt w' v z := by
  obtain ⟨s, base, b, off, n, c, X, h1, h2, h3, h4, h5, h6⟩ := h
  exact ⟨s, base, b, off, n, c, X, h1, h2, h3.kept hb, h4, h5, h6⟩
theorem IsCan.kept {N : Nat} {w w' : World} {v : Value} {z : Int} (h : IsCan N w v z) (hb : Below w.heap.size w w') : IsCan N w' v z := by
  obtain ⟨s, base, b, off, X, c, h1, h2, h3, h4, h5, h6, h7⟩ := h
  exact ⟨s, base, b, off, X, c, h1, h2, h3.kept hb, h4, h5, h6, h7⟩
theorem IsCan.mono {N N' : Nat} {w : World} {v : Value} {z : Int} (h : IsCan N w v z) (hN : N' ≤ N) : IsCan N' w v z := by
  obtain ⟨s, base, b, off, X, c, h1, h2, h3, h4, h5, h6, h7, h8⟩ := h
  exact ⟨s, base, b, off, X, c, h1, h2, h3, h4, h5, h6, h7, fun h => Nat.le_trans hN (h8 h)⟩
/-- A store below the limbs. -/
theorem IsCan.set {N : Nat} {w : World} {v : Value} {z : Int} (h : IsCan N w v z) {p : Addr} (hp : p.block < N) (u : Value) : IsCan N (w.setCell p u) v z := by
  obtain ⟨s, base, b, off, X, c, h1, h2, h3, h4, h5, h6, h7, h8⟩ := h
  exact ⟨s, base, b, off, X, c, h1, h2, h3.other u (fun hn e => by have := h8 hn; omega), h4, h5, h6, h7, h8⟩
theorem sg_natAbs (s : Bool) (X : Nat) : (sg s X).natAbs = X := by unfold sg; cases s <;> simp
theorem sg_zero {s : Bool} {X : Nat} : sg s X = 0 ↔ X = 0 := by unfold sg; cases s <;> simp
/-- More than 256 limbs. -/
def big (z : Int) : Prop := 256 < nl z.natAbs
instance (z : Int) : Decidable (big z) := by unfold big; exact inferInstance
theorem big_sg (s : Bool) (X : Nat) : big (sg s X) ↔ 256 < nl X := by unfold big; rw [sg_natAbs]

/-- The call returns a canonical Int that stands for z; nothing that was there has changed. -/
def RetInt (w : World) (z : Int) (e : Ending) (w' : World) : Prop := ∃ v, e = .returned v ∧ IsCan w.heap.size w' v z ∧ Below w.heap.size w w'
/-- .. with an error number. -/
def RetIntE (w : World) (z err : Int) (e : Ending) (w' : World) : Prop := ∃ v, e = .returned (.tuple #[v, .int .i64 err]) ∧ IsCan w.heap.size w' v z ∧ Below w.heap.size w w'
end PB
namespace Go.Proofs.Ytkokokgmhpkoiaa
open Go.RowKit PB
theorem can_zero (N : Nat) (w : World) : IsCan N w (.agg #[.bool false, .slice none 0 0]) 0 :=
  ⟨false, none, 0, 0, 0, 0, by rw [nl_zero], fun h => absurd nl_zero h, ⟨Bp _, fun i hi => by rw [nl_zero] at hi; omega⟩, by rw [nl_zero]; omega, by rw [nl_zero]; omega, rfl, fun _ => rfl, fun h => absurd nl_zero h⟩
theorem can_intv {N : Nat} {w : World} {s : Bool} {base : Option Addr} {b off n X : Nat} (hb : n ≠ 0 → base = some ⟨b, off, none⟩) (hX : Num w b off n X) (hl : nl X ≤ 1000000000) (hN : n ≠ 0 → N ≤ b) : IsCan N w (intv s base X) (sg s X) := by
  by_cases h : X = 0
  · subst h
    rw [intv_zero, show sg s 0 = 0 from sg_zero.2 rfl]
    exact can_zero N w
  · rw [intv_pos _ _ h]
    have hn := nl_le hX.lt
    exact ⟨s, base, b, off, X, nl X, rfl, fun h => hb (by omega), hX.fewer hn (lt_nl X), Nat.le_refl _, hl, rfl, fun e => absurd e h, fun h => hN (by omega)⟩
theorem intv_form (s : Bool) (base : Option Addr) (X : Nat) : ∃ s' q m, intv s base X = .agg #[.bool s', .slice q m m] := by
  by_cases h : X = 0
  · exact ⟨false, none, 0, by subst h; exact intv_zero _ _⟩
  · exact ⟨s, base, nl X, intv_pos _ _ h⟩
end Go.Proofs.Ytkokokgmhpkoiaa
