/-
  The verifier's Plus (written by wip/genplus.py).
-/
import Derived.Deep.RegionHeld3
import Derived.Test.YtkokokgmhpkoiaaM24
import Derived.Test.YtkokokgmhpkoiaaM30
namespace Go.Proofs.Ytkokokgmhpkoiaa
open Go.RowKit PB

set_option maxHeartbeats 3200000 in
set_option maxRecDepth 100000 in
theorem plusr_same (s : Bool) (base : Option Addr) (b off n c X : Nat) (base' : Option Addr) (b' off' n' c' Y : Nat) (w : World)
    (hb : n ≠ 0 → base = some ⟨b, off, none⟩) (hX : Num w b off n X) (hn : n ≤ c) (hl : n ≤ 1000000000)
    (hb' : n' ≠ 0 → base' = some ⟨b', off', none⟩) (hY : Num w b' off' n' Y) (hn' : n' ≤ c') (hl' : n' ≤ 1000000000)  (hs : nl X ≤ 100000) (hs' : nl Y ≤ 100000) :
    Calls Try.prog 82 #[.agg #[.bool s, .slice base n c], .agg #[.bool s, .slice base' n' c']] w (RetInt w (sg s (X + Y))) := by
  have ht : (s == s) = true := by simp
  have HB := Lib.hid hb
  have HB' := Lib.hid hb'
  clear hb hb'
  go_enter Try.func82, Try.ntmps82
  go_wp2_with fail
  generalize hW : World.alloc _ _ = W
  have B0 : Blk W w.heap.size #[.bool s, .slice base n c] := by rw [← hW]; exact ((blk_new rfl).alloc _).alloc _
  have B1 : Blk W (w.heap.size + 1) #[.bool s, .slice base' n' c'] := by rw [← hW]; exact (blk_new (by simp)).alloc _
  have B2 : Blk W (w.heap.size + 1 + 1) #[.bool false, .slice none 0 0] := by rw [← hW]; exact blk_new (by simp)
  have hbW : Below w.heap.size w W := by rw [← hW]; exact (((Below.refl _ _).alloc (Nat.le_refl _) _).alloc (by simp) _).alloc (by simp; omega) _
  have HS := Lib.hid (show W.heap.size = w.heap.size + 3 by rw [← hW]; simp)
  clear hW
  have HK := Lib.hid (show ∀ w1, Below W.heap.size W w1 → w1.cell? ⟨w.heap.size, 1, none⟩ = some (.slice base n c) ∧ w1.cell? ⟨w.heap.size + 1, 1, none⟩ = some (.slice base' n' c') from
    fun w1 h => ⟨(Blk2 (B0.kept h)).2, (Blk2 (B1.kept h)).2⟩)
  obtain ⟨a1, b1⟩ := HK.out _ (Below.refl _ _)
  have hXW := hX.kept hbW
  have HYW := Lib.hid (fun W1 (h : Below W.heap.size W W1) => (hY.kept hbW).kept h)
  go_region_held3 (fun w' => w'.cell? ⟨w.heap.size, 1, none⟩ = some (.slice base n c) ∧ w'.cell? ⟨w.heap.size + 1, 1, none⟩ = some (.slice base' n' c'))
    (first | exact ⟨a1, b1⟩ | exact HK.out _ hq2 | exact HK.out _ hq1)
    (first
      | (go_at_call_of 91 (Value.slice base n c); refine (mag_any base b off n c X _ HB.out (by exact hXW) hn hl).mono ?_; rintro e w1 ⟨v1, rfl, hown1, hb1⟩
         have hq1 : Below W.heap.size W w1 := (by first | exact hb1 | exact below_undrew hb1)
         obtain ⟨m1, g1, d1, rfl, hm1, hd1, hN1, hF1, hG1⟩ := own_slice hown1
         clear hown1)
      | (go_at_call_of 91 (Value.slice base' n' c'); refine (mag_any base' b' off' n' c' Y _ HB'.out (by exact HYW.out _ hq1) hn' hl').mono ?_; rintro e w2 ⟨v2, rfl, hown2, hb2⟩
         have hq2 : Below W.heap.size W w2 := hq1.trans (hb2.mono hq1.size)
         have hN1' := hN1.kept hb2
         obtain ⟨m2, g2, d2, rfl, hm2, hd2, hN2, hF2, hG2⟩ := own_slice hown2
         clear hown2))
  have HBW := Lib.hid (hbW.trans (hq2.mono (by have := HS.out; omega)))
  have HSZ := Lib.hid (show w.heap.size + 3 ≤ w2.heap.size by have := HS.out; have := hq2.size; omega)
  have B0' := B0.kept hq2
  have B1' := B1.kept hq2
  have B2' := B2.kept hq2
  obtain ⟨a0, a1⟩ := Blk2 B0'
  obtain ⟨b0, b1⟩ := Blk2 B1'
  clear HK HYW hXW HS hbW B0 B1 B2 hq1 hq2 hb1 hb2 hN1 hF1 hG1 hF2 hG2
  have HM1 := Lib.hid hm1
  have HM2 := Lib.hid hm2
  have HN1 := Lib.hid hN1'
  have HN2 := Lib.hid hN2
  clear hm1 hm2 hN1' hN2
  go_wp2_with fail
  have HK := Lib.hid (show ∀ w3, Below w2.heap.size w2 w3 → w3.cell? ⟨w.heap.size, 0, none⟩ = some (.bool s) from fun w3 h => (Blk2 (B0'.kept h)).1)
  have HL := Lib.hid (show ∀ w3, Below w2.heap.size w2 w3 → Blk w3 (w.heap.size + 1 + 1) #[.bool false, .slice none 0 0] from fun w3 h => B2'.kept h)
  have HMAG := Lib.hid (fun W3 (h : Below w2.heap.size w2 W3) => addmag_any m1 m2 g1 0 (nl X) X d1 g2 0 (nl Y) Y d2 W3 HM1.out HM2.out (HN1.out.kept h) (HN2.out.kept h) (by omega) (by omega))
  have ha0 := HK.out _ (Below.refl _ _)
  clear B0' B1' B2'
  go_region_held3 (fun w' => w'.cell? ⟨w.heap.size, 0, none⟩ = some (.bool s))
    (first | exact ha0 | exact HK.out _ hF0 | exact HK.out _ hbb | (refine cell_other (cell_other (HK.out _ hbb) ?_) ?_ <;> (show w.heap.size ≠ w.heap.size + 1 + 1; omega)))
    (first
      | (go_at_call 126; refine (HMAG.out _ (by first | exact Below.refl _ _ | exact (Below.refl _ _).drew)).mono ?_; rintro e w3 ⟨v3, k3, rfl, hown3, hk3, hb3⟩
         have hF0 : Below w2.heap.size w2 w3 := (by first | exact hb3 | exact below_undrew hb3)
         obtain ⟨m3, g3, d3, rfl, hm3, hd3, hN3, hF3, hG3⟩ := own_slice hown3
         clear hown3)
      | (go_at_call 90; refine (make1_any s m3 g3 0 k3 d3 (X + Y) _ hm3 (by exact hN3) hd3 (by omega)).mono ?_; rintro e w4 ⟨u, rfl, hcan, hb4⟩
         have hbb : Below w2.heap.size w2 w4 := hF0.trans (hb4.mono hF0.size)
         obtain ⟨s1, q1, c1, rfl⟩ := can_agg hcan
         obtain ⟨r0, r1⟩ := Blk2 (HL.out _ hbb)
         obtain ⟨f0, f1⟩ := Blk2f (HL.out _ hbb)
         have hw34 : w2.heap.size ≤ w3.heap.size := hF0.size
         have HC := Lib.hid (hcan.mono hw34)
         clear hcan))
  go_wp2_with fail
  have h1 := HSZ.out
  exact bodyPost_ret (v := .agg #[.bool s1, .slice q1 _ c1]) (by simp [results, Try.results82, go_sem, r0, r1]) rfl
    ⟨_, rfl, ((HC.out.set (by show w.heap.size + 1 + 1 < w2.heap.size; omega) _).set (by show w.heap.size + 1 + 1 < w2.heap.size; omega) _).mono (by omega), ((HBW.out.trans (hbb.mono (by omega))).setCell (by show w.heap.size ≤ w.heap.size + 1 + 1; omega) _).setCell (by show w.heap.size ≤ w.heap.size + 1 + 1; omega) _⟩

set_option maxHeartbeats 3200000 in
set_option maxRecDepth 100000 in
theorem plusr_ge (s t : Bool) (base : Option Addr) (b off n c X : Nat) (base' : Option Addr) (b' off' n' c' Y : Nat) (w : World)
    (hb : n ≠ 0 → base = some ⟨b, off, none⟩) (hX : Num w b off n X) (hn : n ≤ c) (hl : n ≤ 1000000000)
    (hb' : n' ≠ 0 → base' = some ⟨b', off', none⟩) (hY : Num w b' off' n' Y) (hn' : n' ≤ c') (hl' : n' ≤ 1000000000) (hst : s ≠ t) (hle : Y ≤ X) (hs : nl X ≤ 100000) (hs' : nl Y ≤ 100000) :
    Calls Try.prog 82 #[.agg #[.bool s, .slice base n c], .agg #[.bool t, .slice base' n' c']] w (RetInt w (sg s (X - Y))) := by
  have ht : (s == t) = false := by simpa using hst
  have hcm : ¬ cmpi (X : Int) Y < 0 := by unfold cmpi; rw [if_neg (by omega)]; split <;> decide
  have hcm2 : 0 ≤ cmpi (X : Int) Y := by omega
  have HB := Lib.hid hb
  have HB' := Lib.hid hb'
  clear hb hb'
  go_enter Try.func82, Try.ntmps82
  go_wp2_with fail
  generalize hW : World.alloc _ _ = W
  have B0 : Blk W w.heap.size #[.bool s, .slice base n c] := by rw [← hW]; exact ((blk_new rfl).alloc _).alloc _
  have B1 : Blk W (w.heap.size + 1) #[.bool t, .slice base' n' c'] := by rw [← hW]; exact (blk_new (by simp)).alloc _
  have B2 : Blk W (w.heap.size + 1 + 1) #[.bool false, .slice none 0 0] := by rw [← hW]; exact blk_new (by simp)
  have hbW : Below w.heap.size w W := by rw [← hW]; exact (((Below.refl _ _).alloc (Nat.le_refl _) _).alloc (by simp) _).alloc (by simp; omega) _
  have HS := Lib.hid (show W.heap.size = w.heap.size + 3 by rw [← hW]; simp)
  clear hW
  have HK := Lib.hid (show ∀ w1, Below W.heap.size W w1 → w1.cell? ⟨w.heap.size, 1, none⟩ = some (.slice base n c) ∧ w1.cell? ⟨w.heap.size + 1, 1, none⟩ = some (.slice base' n' c') from
    fun w1 h => ⟨(Blk2 (B0.kept h)).2, (Blk2 (B1.kept h)).2⟩)
  obtain ⟨a1, b1⟩ := HK.out _ (Below.refl _ _)
  have hXW := hX.kept hbW
  have HYW := Lib.hid (fun W1 (h : Below W.heap.size W W1) => (hY.kept hbW).kept h)
  go_region_held3 (fun w' => w'.cell? ⟨w.heap.size, 1, none⟩ = some (.slice base n c) ∧ w'.cell? ⟨w.heap.size + 1, 1, none⟩ = some (.slice base' n' c'))
    (first | exact ⟨a1, b1⟩ | exact HK.out _ hq2 | exact HK.out _ hq1)
    (first
      | (go_at_call_of 91 (Value.slice base n c); refine (mag_any base b off n c X _ HB.out (by exact hXW) hn hl).mono ?_; rintro e w1 ⟨v1, rfl, hown1, hb1⟩
         have hq1 : Below W.heap.size W w1 := (by first | exact hb1 | exact below_undrew hb1)
         obtain ⟨m1, g1, d1, rfl, hm1, hd1, hN1, hF1, hG1⟩ := own_slice hown1
         clear hown1)
      | (go_at_call_of 91 (Value.slice base' n' c'); refine (mag_any base' b' off' n' c' Y _ HB'.out (by exact HYW.out _ hq1) hn' hl').mono ?_; rintro e w2 ⟨v2, rfl, hown2, hb2⟩
         have hq2 : Below W.heap.size W w2 := hq1.trans (hb2.mono hq1.size)
         have hN1' := hN1.kept hb2
         obtain ⟨m2, g2, d2, rfl, hm2, hd2, hN2, hF2, hG2⟩ := own_slice hown2
         clear hown2))
  have HBW := Lib.hid (hbW.trans (hq2.mono (by have := HS.out; omega)))
  have HSZ := Lib.hid (show w.heap.size + 3 ≤ w2.heap.size by have := HS.out; have := hq2.size; omega)
  have B0' := B0.kept hq2
  have B1' := B1.kept hq2
  have B2' := B2.kept hq2
  obtain ⟨a0, a1⟩ := Blk2 B0'
  obtain ⟨b0, b1⟩ := Blk2 B1'
  clear HK HYW hXW HS hbW B0 B1 B2 hq1 hq2 hb1 hb2 hN1 hF1 hG1 hF2 hG2
  have HM1 := Lib.hid hm1
  have HM2 := Lib.hid hm2
  have HN1 := Lib.hid hN1'
  have HN2 := Lib.hid hN2
  clear hm1 hm2 hN1' hN2
  go_wp2_with (go_at_call 94; refine (cmpmag_any m1 m2 g1 0 X d1 g2 0 Y d2 _ HM1.out HM2.out (by exact HN1.out) (by exact HN2.out) (by omega) (by omega)).mono ?_; rintro e w' ⟨rfl, nq, rfl⟩)
  have HN1' := Lib.hid (HN1.out.drewN (m := nq))
  have HN2' := Lib.hid (HN2.out.drewN (m := nq))
  have HBW' := Lib.hid (below_drewN HBW.out nq)
  have HSZ' := Lib.hid (show w.heap.size + 3 ≤ (w2.drewN nq).heap.size from HSZ.out)
  replace B0' := B0'.drewN (n := nq)
  replace B1' := B1'.drewN (n := nq)
  replace B2' := B2'.drewN (n := nq)
  clear HN1 HN2 HBW HSZ a0 a1 b0 b1
  generalize w2.drewN nq = w2 at *
  have HN1 := HN1'
  have HN2 := HN2'
  have HBW := HBW'
  have HSZ := HSZ'
  clear HN1' HN2' HBW' HSZ'
  have HK := Lib.hid (show ∀ w3, Below w2.heap.size w2 w3 → w3.cell? ⟨w.heap.size, 0, none⟩ = some (.bool s) from fun w3 h => (Blk2 (B0'.kept h)).1)
  have HL := Lib.hid (show ∀ w3, Below w2.heap.size w2 w3 → Blk w3 (w.heap.size + 1 + 1) #[.bool false, .slice none 0 0] from fun w3 h => B2'.kept h)
  have HMAG := Lib.hid (fun W3 (h : Below w2.heap.size w2 W3) => submag_any m1 m2 g1 0 (nl X) X d1 g2 0 (nl Y) Y d2 W3 HM1.out HM2.out (HN1.out.kept h) (HN2.out.kept h) (by omega) hle)
  have ha0 := HK.out _ (Below.refl _ _)
  clear B0' B1' B2'
  go_region_held3 (fun w' => w'.cell? ⟨w.heap.size, 0, none⟩ = some (.bool s))
    (first | exact ha0 | exact HK.out _ hF0 | exact HK.out _ hbb | (refine cell_other (cell_other (HK.out _ hbb) ?_) ?_ <;> (show w.heap.size ≠ w.heap.size + 1 + 1; omega)))
    (first
      | (go_at_call 127; refine (HMAG.out _ (by first | exact Below.refl _ _ | exact (Below.refl _ _).drew)).mono ?_; rintro e w3 ⟨v3, k3, rfl, hown3, hk3, hb3⟩
         have hF0 : Below w2.heap.size w2 w3 := (by first | exact hb3 | exact below_undrew hb3)
         obtain ⟨m3, g3, d3, rfl, hm3, hd3, hN3, hF3, hG3⟩ := own_slice hown3
         clear hown3)
      | (go_at_call 90; refine (make1_any s m3 g3 0 k3 d3 (X - Y) _ hm3 (by exact hN3) hd3 (by omega)).mono ?_; rintro e w4 ⟨u, rfl, hcan, hb4⟩
         have hbb : Below w2.heap.size w2 w4 := hF0.trans (hb4.mono hF0.size)
         obtain ⟨s1, q1, c1, rfl⟩ := can_agg hcan
         obtain ⟨r0, r1⟩ := Blk2 (HL.out _ hbb)
         obtain ⟨f0, f1⟩ := Blk2f (HL.out _ hbb)
         have hw34 : w2.heap.size ≤ w3.heap.size := hF0.size
         have HC := Lib.hid (hcan.mono hw34)
         clear hcan))
  go_wp2_with fail
  have h1 := HSZ.out
  exact bodyPost_ret (v := .agg #[.bool s1, .slice q1 _ c1]) (by simp [results, Try.results82, go_sem, r0, r1]) rfl
    ⟨_, rfl, ((HC.out.set (by show w.heap.size + 1 + 1 < w2.heap.size; omega) _).set (by show w.heap.size + 1 + 1 < w2.heap.size; omega) _).mono (by omega), ((HBW.out.trans (hbb.mono (by omega))).setCell (by show w.heap.size ≤ w.heap.size + 1 + 1; omega) _).setCell (by show w.heap.size ≤ w.heap.size + 1 + 1; omega) _⟩

set_option maxHeartbeats 3200000 in
set_option maxRecDepth 100000 in
theorem plusr_lt (s t : Bool) (base : Option Addr) (b off n c X : Nat) (base' : Option Addr) (b' off' n' c' Y : Nat) (w : World)
    (hb : n ≠ 0 → base = some ⟨b, off, none⟩) (hX : Num w b off n X) (hn : n ≤ c) (hl : n ≤ 1000000000)
    (hb' : n' ≠ 0 → base' = some ⟨b', off', none⟩) (hY : Num w b' off' n' Y) (hn' : n' ≤ c') (hl' : n' ≤ 1000000000) (hst : s ≠ t) (hlt : X < Y) (hs : nl X ≤ 100000) (hs' : nl Y ≤ 100000) :
    Calls Try.prog 82 #[.agg #[.bool s, .slice base n c], .agg #[.bool t, .slice base' n' c']] w (RetInt w (sg t (Y - X))) := by
  have ht : (s == t) = false := by simpa using hst
  have hcm : cmpi (X : Int) Y < 0 := by unfold cmpi; rw [if_pos (by omega)]; decide
  have hcm2 : ¬ 0 ≤ cmpi (X : Int) Y := by omega
  have HB := Lib.hid hb
  have HB' := Lib.hid hb'
  clear hb hb'
  go_enter Try.func82, Try.ntmps82
  go_wp2_with fail
  generalize hW : World.alloc _ _ = W
  have B0 : Blk W w.heap.size #[.bool s, .slice base n c] := by rw [← hW]; exact ((blk_new rfl).alloc _).alloc _
  have B1 : Blk W (w.heap.size + 1) #[.bool t, .slice base' n' c'] := by rw [← hW]; exact (blk_new (by simp)).alloc _
  have B2 : Blk W (w.heap.size + 1 + 1) #[.bool false, .slice none 0 0] := by rw [← hW]; exact blk_new (by simp)
  have hbW : Below w.heap.size w W := by rw [← hW]; exact (((Below.refl _ _).alloc (Nat.le_refl _) _).alloc (by simp) _).alloc (by simp; omega) _
  have HS := Lib.hid (show W.heap.size = w.heap.size + 3 by rw [← hW]; simp)
  clear hW
  have HK := Lib.hid (show ∀ w1, Below W.heap.size W w1 → w1.cell? ⟨w.heap.size, 1, none⟩ = some (.slice base n c) ∧ w1.cell? ⟨w.heap.size + 1, 1, none⟩ = some (.slice base' n' c') from
    fun w1 h => ⟨(Blk2 (B0.kept h)).2, (Blk2 (B1.kept h)).2⟩)
  obtain ⟨a1, b1⟩ := HK.out _ (Below.refl _ _)
  have hXW := hX.kept hbW
  have HYW := Lib.hid (fun W1 (h : Below W.heap.size W W1) => (hY.kept hbW).kept h)
  go_region_held3 (fun w' => w'.cell? ⟨w.heap.size, 1, none⟩ = some (.slice base n c) ∧ w'.cell? ⟨w.heap.size + 1, 1, none⟩ = some (.slice base' n' c'))
    (first | exact ⟨a1, b1⟩ | exact HK.out _ hq2 | exact HK.out _ hq1)
    (first
      | (go_at_call_of 91 (Value.slice base n c); refine (mag_any base b off n c X _ HB.out (by exact hXW) hn hl).mono ?_; rintro e w1 ⟨v1, rfl, hown1, hb1⟩
         have hq1 : Below W.heap.size W w1 := (by first | exact hb1 | exact below_undrew hb1)
         obtain ⟨m1, g1, d1, rfl, hm1, hd1, hN1, hF1, hG1⟩ := own_slice hown1
         clear hown1)
      | (go_at_call_of 91 (Value.slice base' n' c'); refine (mag_any base' b' off' n' c' Y _ HB'.out (by exact HYW.out _ hq1) hn' hl').mono ?_; rintro e w2 ⟨v2, rfl, hown2, hb2⟩
         have hq2 : Below W.heap.size W w2 := hq1.trans (hb2.mono hq1.size)
         have hN1' := hN1.kept hb2
         obtain ⟨m2, g2, d2, rfl, hm2, hd2, hN2, hF2, hG2⟩ := own_slice hown2
         clear hown2))
  have HBW := Lib.hid (hbW.trans (hq2.mono (by have := HS.out; omega)))
  have HSZ := Lib.hid (show w.heap.size + 3 ≤ w2.heap.size by have := HS.out; have := hq2.size; omega)
  have B0' := B0.kept hq2
  have B1' := B1.kept hq2
  have B2' := B2.kept hq2
  obtain ⟨a0, a1⟩ := Blk2 B0'
  obtain ⟨b0, b1⟩ := Blk2 B1'
  clear HK HYW hXW HS hbW B0 B1 B2 hq1 hq2 hb1 hb2 hN1 hF1 hG1 hF2 hG2
  have HM1 := Lib.hid hm1
  have HM2 := Lib.hid hm2
  have HN1 := Lib.hid hN1'
  have HN2 := Lib.hid hN2
  clear hm1 hm2 hN1' hN2
  go_wp2_with (go_at_call 94; refine (cmpmag_any m1 m2 g1 0 X d1 g2 0 Y d2 _ HM1.out HM2.out (by exact HN1.out) (by exact HN2.out) (by omega) (by omega)).mono ?_; rintro e w' ⟨rfl, nq, rfl⟩)
  have HN1' := Lib.hid (HN1.out.drewN (m := nq))
  have HN2' := Lib.hid (HN2.out.drewN (m := nq))
  have HBW' := Lib.hid (below_drewN HBW.out nq)
  have HSZ' := Lib.hid (show w.heap.size + 3 ≤ (w2.drewN nq).heap.size from HSZ.out)
  replace B0' := B0'.drewN (n := nq)
  replace B1' := B1'.drewN (n := nq)
  replace B2' := B2'.drewN (n := nq)
  clear HN1 HN2 HBW HSZ a0 a1 b0 b1
  generalize w2.drewN nq = w2 at *
  have HN1 := HN1'
  have HN2 := HN2'
  have HBW := HBW'
  have HSZ := HSZ'
  clear HN1' HN2' HBW' HSZ'
  have HK := Lib.hid (show ∀ w3, Below w2.heap.size w2 w3 → w3.cell? ⟨w.heap.size + 1, 0, none⟩ = some (.bool t) from fun w3 h => (Blk2 (B1'.kept h)).1)
  have HL := Lib.hid (show ∀ w3, Below w2.heap.size w2 w3 → Blk w3 (w.heap.size + 1 + 1) #[.bool false, .slice none 0 0] from fun w3 h => B2'.kept h)
  have HMAG := Lib.hid (fun W3 (h : Below w2.heap.size w2 W3) => submag_any m2 m1 g2 0 (nl Y) Y d2 g1 0 (nl X) X d1 W3 HM2.out HM1.out (HN2.out.kept h) (HN1.out.kept h) (by omega) (by omega))
  have ha0 := HK.out _ (Below.refl _ _)
  clear B0' B1' B2'
  go_region_held3 (fun w' => w'.cell? ⟨w.heap.size + 1, 0, none⟩ = some (.bool t))
    (first | exact ha0 | exact HK.out _ hF0 | exact HK.out _ hbb | (refine cell_other (cell_other (HK.out _ hbb) ?_) ?_ <;> (show w.heap.size + 1 ≠ w.heap.size + 1 + 1; omega)))
    (first
      | (go_at_call 127; refine (HMAG.out _ (by first | exact Below.refl _ _ | exact (Below.refl _ _).drew)).mono ?_; rintro e w3 ⟨v3, k3, rfl, hown3, hk3, hb3⟩
         have hF0 : Below w2.heap.size w2 w3 := (by first | exact hb3 | exact below_undrew hb3)
         obtain ⟨m3, g3, d3, rfl, hm3, hd3, hN3, hF3, hG3⟩ := own_slice hown3
         clear hown3)
      | (go_at_call 90; refine (make1_any t m3 g3 0 k3 d3 (Y - X) _ hm3 (by exact hN3) hd3 (by omega)).mono ?_; rintro e w4 ⟨u, rfl, hcan, hb4⟩
         have hbb : Below w2.heap.size w2 w4 := hF0.trans (hb4.mono hF0.size)
         obtain ⟨s1, q1, c1, rfl⟩ := can_agg hcan
         obtain ⟨r0, r1⟩ := Blk2 (HL.out _ hbb)
         obtain ⟨f0, f1⟩ := Blk2f (HL.out _ hbb)
         have hw34 : w2.heap.size ≤ w3.heap.size := hF0.size
         have HC := Lib.hid (hcan.mono hw34)
         clear hcan))
  go_wp2_with fail
  have h1 := HSZ.out
  exact bodyPost_ret (v := .agg #[.bool s1, .slice q1 _ c1]) (by simp [results, Try.results82, go_sem, r0, r1]) rfl
    ⟨_, rfl, ((HC.out.set (by show w.heap.size + 1 + 1 < w2.heap.size; omega) _).set (by show w.heap.size + 1 + 1 < w2.heap.size; omega) _).mono (by omega), ((HBW.out.trans (hbb.mono (by omega))).setCell (by show w.heap.size ≤ w.heap.size + 1 + 1; omega) _).setCell (by show w.heap.size ≤ w.heap.size + 1 + 1; omega) _⟩
end Go.Proofs.Ytkokokgmhpkoiaa
