/-
  The verifier's Plus (written by wip/genplus.py).
  The verifier's Plus of any two numbers, Minus, Times.
-/
import Derived.Deep.RegionHeld3
import Derived.Test.YtdgfmkideghhaaaM29
import Derived.Test.YtdgfmkideghhaaaM34
namespace Go.Proofs.Ytdgfmkideghhaaa
open Go.RowKit PB

set_option maxHeartbeats 3200000 in
set_option maxRecDepth 100000 in
theorem plusr_same (s : Bool) (base : Option Addr) (b off n c X : Nat) (base' : Option Addr) (b' off' n' c' Y : Nat) (w : World)
    (hb : n ≠ 0 → base = some ⟨b, off, none⟩) (hX : Num w b off n X) (hn : n ≤ c) (hl : n ≤ 1000000000)
    (hb' : n' ≠ 0 → base' = some ⟨b', off', none⟩) (hY : Num w b' off' n' Y) (hn' : n' ≤ c') (hl' : n' ≤ 1000000000)  (hs : nl X ≤ 100000) (hs' : nl Y ≤ 100000) :
    Calls Try.prog 82 #[.agg #[.bool s, .slice base n c], .agg #[.bool s, .slice base' n' c']] w (RetInt w (sg s (X + Y))) := by
  have ht : (s == s) = true := by simp
  have HB := Lib.hid hb
  have HB' := Lib.hid hb'
  clear hb hb'
  go_enter Try.func82, Try.ntmps82
  go_wp2_with fail
  generalize hW : World.alloc _ _ = W
  have B0 : Blk W w.heap.size #[.bool s, .slice base n c] := by rw [← hW]; exact ((blk_new rfl).alloc _).alloc _
  have B1 : Blk W (w.heap.size + 1) #[.bool s, .slice base' n' c'] := by rw [← hW]; exact (blk_new (by simp)).alloc _
  have B2 : Blk W (w.heap.size + 1 + 1) #[.bool false, .slice none 0 0] := by rw [← hW]; exact blk_new (by simp)
  have hbW : Below w.heap.size w W := by rw [← hW]; exact (((Below.refl _ _).alloc (Nat.le_refl _) _).alloc (by simp) _).alloc (by simp; omega) _
  have HS := Lib.hid (show W.heap.size = w.heap.size + 3 by rw [← hW]; simp)
  clear hW
  have HK := Lib.hid (show ∀ w1, Below W.heap.size W w1 → w1.cell? ⟨w.heap.size, 1, none⟩ = some (.slice base n c) ∧ w1.cell? ⟨w.heap.size + 1, 1, none⟩ = some (.slice base' n' c') from
    fun w1 h => ⟨(Blk2 (B0.kept h)).2, (Blk2 (B1.kept h)).2⟩)
  obtain ⟨a1, b1⟩ := HK.out _ (Below.refl _ _)
  have hXW := hX.kept hbW
  have HYW := Lib.hid (fun W1 (h : Below W.heap.size W W1) => (hY.kept hbW).kept h)
  go_region_held3 (fun w' => w'.cell? ⟨w.heap.size, 1, none⟩ = some (.slice base n c) ∧ w'.cell? ⟨w.heap.size + 1, 1, none⟩ = some (.slice base' n' c'))
    (first | exact ⟨a1, b1⟩ | exact HK.out _ hq2 | exact HK.out _ hq1)
    (first
      | (go_at_call_of 91 (Value.slice base n c); refine (mag_any base b off n c X _ HB.out (by exact hXW) hn hl).mono ?_; rintro e w1 ⟨v1, rfl, hown1, hb1⟩
         have hq1 : Below W.heap.size W w1 := (by first | exact hb1 | exact below_undrew hb1)
         obtain ⟨m1, g1, d1, rfl, hm1, hd1, hN1, hF1, hG1⟩ := own_slice hown1
         clear hown1)
      | (go_at_call_of 91 (Value.slice base' n' c'); refine (mag_any base' b' off' n' c' Y _ HB'.out (by exact HYW.out _ hq1) hn' hl').mono ?_; rintro e w2 ⟨v2, rfl, hown2, hb2⟩
         have hq2 : Below W.heap.size W w2 := hq1.trans (hb2.mono hq1.size)
         have hN1' := hN1.kept hb2
         obtain ⟨m2, g2, d2, rfl, hm2, hd2, hN2, hF2, hG2⟩ := own_slice hown2
         clear hown2))
  have HBW := Lib.hid (hbW.trans (hq2.mono (by have := HS.out; omega)))
  have HSZ := Lib.hid (show w.heap.size + 3 ≤ w2.heap.size by have := HS.out; have := hq2.size; omega)
  have B0' := B0.kept hq2
  have B1' := B1.kept hq2
  have B2' := B2.kept hq2
  obtain ⟨a0, a1⟩ := Blk2 B0'
  obtain ⟨b0, b1⟩ := Blk2 B1'
  clear HK HYW hXW HS hbW B0 B1 B2 hq1 hq2 hb1 hb2 hN1 hF1 hG1 hF2 hG2
  have HM1 := Lib.hid hm1
  have HM2 := Lib.hid hm2
  have HN1 := Lib.hid hN1'
  have HN2 := Lib.hid hN2
  clear hm1 hm2 hN1' hN2
  go_wp2_with fail
  have HK := Lib.hid (show ∀ w3, Below w2.heap.size w2 w3 → w3.cell? ⟨w.heap.size, 0, none⟩ = some (.bool s) from fun w3 h => (Blk2 (B0'.kept h)).1)
  have HL := Lib.hid (show ∀ w3, Below w2.heap.size w2 w3 → Blk w3 (w.heap.size + 1 + 1) #[.bool false, .slice none 0 0] from fun w3 h => B2'.kept h)
  have HMAG := Lib.hid (fun W3 (h : Below w2.heap.size w2 W3) => addmag_any m1 m2 g1 0 (nl X) X d1 g2 0 (nl Y) Y d2 W3 HM1.out HM2.out (HN1.out.kept h) (HN2.out.kept h) (by omega) (by omega))
  have ha0 := HK.out _ (Below.refl _ _)
  clear B0' B1' B2'
  go_region_held3 (fun w' => w'.cell? ⟨w.heap.size, 0, none⟩ = some (.bool s))
    (first | exact ha0 | exact HK.out _ hF0 | exact HK.out _ hbb | (refine cell_other (cell_other (HK.out _ hbb) ?_) ?_ <;> (show w.heap.size ≠ w.heap.size + 1 + 1; omega)))
    (first
      | (go_at_call 126; refine (HMAG.out _ (by first | exact Below.refl _ _ | exact (Below.refl _ _).drew)).mono ?_; rintro e w3 ⟨v3, k3, rfl, hown3, hk3, hb3⟩
         have hF0 : Below w2.heap.size w2 w3 := (by first | exact hb3 | exact below_undrew hb3)
         obtain ⟨m3, g3, d3, rfl, hm3, hd3, hN3, hF3, hG3⟩ := own_slice hown3
         clear hown3)
      | (go_at_call 90; refine (make1_any s m3 g3 0 k3 d3 (X + Y) _ hm3 (by exact hN3) hd3 (by omega)).mono ?_; rintro e w4 ⟨u, rfl, hcan, hb4⟩
         have hbb : Below w2.heap.size w2 w4 := hF0.trans (hb4.mono hF0.size)
         obtain ⟨s1, q1, c1, rfl⟩ := can_agg hcan
         obtain ⟨r0, r1⟩ := Blk2 (HL.out _ hbb)
         obtain ⟨f0, f1⟩ := Blk2f (HL.out _ hbb)
         have hw34 : w2.heap.size ≤ w3.heap.size := hF0.size
         have HC := Lib.hid (hcan.mono hw34)
         clear hcan))
  go_wp2_with fail
  have h1 := HSZ.out
  exact bodyPost_ret (v := .agg #[.bool s1, .slice q1 _ c1]) (by simp [results, Try.results82, go_sem, r0, r1]) rfl
    ⟨_, rfl, ((HC.out.set (by show w.heap.size + 1 + 1 < w2.heap.size; omega) _).set (by show w.heap.size + 1 + 1 < w2.heap.size; omega) _).mono (by omega), ((HBW.out.trans (hbb.mono (by omega))).setCell (by show w.heap.size ≤ w.heap.size + 1 + 1; omega) _).setCell (by show w.heap.size ≤ w.heap.size + 1 + 1; omega) _⟩

set_option maxHeartbeats 3200000 in
set_option maxRecDepth 100000 in
theorem plusr_ge (s t : Bool) (base : Option Addr) (b off n c X : Nat) (base' : Option Addr) (b' off' n' c' Y : Nat) (w : World)
    (hb : n ≠ 0 → base = some ⟨b, off, none⟩) (hX : Num w b off n X) (hn : n ≤ c) (hl : n ≤ 1000000000)
    (hb' : n' ≠ 0 → base' = some ⟨b', off', none⟩) (hY : Num w b' off' n' Y) (hn' : n' ≤ c') (hl' : n' ≤ 1000000000) (hst : s ≠ t) (hle : Y ≤ X) (hs : nl X ≤ 100000) (hs' : nl Y ≤ 100000) :
    Calls Try.prog 82 #[.agg #[.bool s, .slice base n c], .agg #[.bool t, .slice base' n' c']] w (RetInt w (sg s (X - Y))) := by
  have ht : (s == t) = false := by simpa using hst
  have hcm : ¬ cmpi (X : Int) Y < 0 := by unfold cmpi; rw [if_neg (by omega)]; split <;> decide
  have hcm2 : 0 ≤ cmpi (X : Int) Y := by omega
  have HB := Lib.hid hb
  have HB' := Lib.hid hb'
  clear hb hb'
  go_enter Try.func82, Try.ntmps82
  go_wp2_with fail
  generalize hW : World.alloc _ _ = W
  have B0 : Blk W w.heap.size #[.bool s, .slice base n c] := by rw [← hW]; exact ((blk_new rfl).alloc _).alloc _
  have B1 : Blk W (w.heap.size + 1) #[.bool t, .slice base' n' c'] := by rw [← hW]; exact (blk_new (by simp)).alloc _
  have B2 : Blk W (w.heap.size + 1 + 1) #[.bool false, .slice none 0 0] := by rw [← hW]; exact blk_new (by simp)
  have hbW : Below w.heap.size w W := by rw [← hW]; exact (((Below.refl _ _).alloc (Nat.le_refl _) _).alloc (by simp) _).alloc (by simp; omega) _
  have HS := Lib.hid (show W.heap.size = w.heap.size + 3 by rw [← hW]; simp)
  clear hW
  have HK := Lib.hid (show ∀ w1, Below W.heap.size W w1 → w1.cell? ⟨w.heap.size, 1, none⟩ = some (.slice base n c) ∧ w1.cell? ⟨w.heap.size + 1, 1, none⟩ = some (.slice base' n' c') from
    fun w1 h => ⟨(Blk2 (B0.kept h)).2, (Blk2 (B1.kept h)).2⟩)
  obtain ⟨a1, b1⟩ := HK.out _ (Below.refl _ _)
  have hXW := hX.kept hbW
  have HYW := Lib.hid (fun W1 (h : Below W.heap.size W W1) => (hY.kept hbW).kept h)
  go_region_held3 (fun w' => w'.cell? ⟨w.heap.size, 1, none⟩ = some (.slice base n c) ∧ w'.cell? ⟨w.heap.size + 1, 1, none⟩ = some (.slice base' n' c'))
    (first | exact ⟨a1, b1⟩ | exact HK.out _ hq2 | exact HK.out _ hq1)
    (first
      | (go_at_call_of 91 (Value.slice base n c); refine (mag_any base b off n c X _ HB.out (by exact hXW) hn hl).mono ?_; rintro e w1 ⟨v1, rfl, hown1, hb1⟩
         have hq1 : Below W.heap.size W w1 := (by first | exact hb1 | exact below_undrew hb1)
         obtain ⟨m1, g1, d1, rfl, hm1, hd1, hN1, hF1, hG1⟩ := own_slice hown1
         clear hown1)
      | (go_at_call_of 91 (Value.slice base' n' c'); refine (mag_any base' b' off' n' c' Y _ HB'.out (by exact HYW.out _ hq1) hn' hl').mono ?_; rintro e w2 ⟨v2, rfl, hown2, hb2⟩
         have hq2 : Below W.heap.size W w2 := hq1.trans (hb2.mono hq1.size)
         have hN1' := hN1.kept hb2
         obtain ⟨m2, g2, d2, rfl, hm2, hd2, hN2, hF2, hG2⟩ := own_slice hown2
         clear hown2))
  have HBW := Lib.hid (hbW.trans (hq2.mono (by have := HS.out; omega)))
  have HSZ := Lib.hid (show w.heap.size + 3 ≤ w2.heap.size by have := HS.out; have := hq2.size; omega)
  have B0' := B0.kept hq2
  have B1' := B1.kept hq2
  have B2' := B2.kept hq2
  obtain ⟨a0, a1⟩ := Blk2 B0'
  obtain ⟨b0, b1⟩ := Blk2 B1'
  clear HK HYW hXW HS hbW B0 B1 B2 hq1 hq2 hb1 hb2 hN1 hF1 hG1 hF2 hG2
  have HM1 := Lib.hid hm1
  have HM2 := Lib.hid hm2
  have HN1 := Lib.hid hN1'
  have HN2 := Lib.hid hN2
  clear hm1 hm2 hN1' hN2
  go_wp2_with (go_at_call 94; refine (cmpmag_any m1 m2 g1 0 X d1 g2 0 Y d2 _ HM1.out HM2.out (by exact HN1.out) (by exact HN2.out) (by omega) (by omega)).mono ?_; rintro e w' ⟨rfl, nq, rfl⟩)
  have HN1' := Lib.hid (HN1.out.drewN (m := nq))
  have HN2' := Lib.hid (HN2.out.drewN (m := nq))
  have HBW' := Lib.hid (below_drewN HBW.out nq)
  have HSZ' := Lib.hid (show w.heap.size + 3 ≤ (w2.drewN nq).heap.size from HSZ.out)
  replace B0' := B0'.drewN (n := nq)
  replace B1' := B1'.drewN (n := nq)
  replace B2' := B2'.drewN (n := nq)
  clear HN1 HN2 HBW HSZ a0 a1 b0 b1
  generalize w2.drewN nq = w2 at *
  have HN1 := HN1'
  have HN2 := HN2'
  have HBW := HBW'
  have HSZ := HSZ'
  clear HN1' HN2' HBW' HSZ'
  have HK := Lib.hid (show ∀ w3, Below w2.heap.size w2 w3 → w3.cell? ⟨w.heap.size, 0, none⟩ = some (.bool s) from fun w3 h => (Blk2 (B0'.kept h)).1)
  have HL := Lib.hid (show ∀ w3, Below w2.heap.size w2 w3 → Blk w3 (w.heap.size + 1 + 1) #[.bool false, .slice none 0 0] from fun w3 h => B2'.kept h)
  have HMAG := Lib.hid (fun W3 (h : Below w2.heap.size w2 W3) => submag_any m1 m2 g1 0 (nl X) X d1 g2 0 (nl Y) Y d2 W3 HM1.out HM2.out (HN1.out.kept h) (HN2.out.kept h) (by omega) hle)
  have ha0 := HK.out _ (Below.refl _ _)
  clear B0' B1' B2'
  go_region_held3 (fun w' => w'.cell? ⟨w.heap.size, 0, none⟩ = some (.bool s))
    (first | exact ha0 | exact HK.out _ hF0 | exact HK.out _ hbb | (refine cell_other (cell_other (HK.out _ hbb) ?_) ?_ <;> (show w.heap.size ≠ w.heap.size + 1 + 1; omega)))
    (first
      | (go_at_call 127; refine (HMAG.out _ (by first | exact Below.refl _ _ | exact (Below.refl _ _).drew)).mono ?_; rintro e w3 ⟨v3, k3, rfl, hown3, hk3, hb3⟩
         have hF0 : Below w2.heap.size w2 w3 := (by first | exact hb3 | exact below_undrew hb3)
         obtain ⟨m3, g3, d3, rfl, hm3, hd3, hN3, hF3, hG3⟩ := own_slice hown3
         clear hown3)
      | (go_at_call 90; refine (make1_any s m3 g3 0 k3 d3 (X - Y) _ hm3 (by exact hN3) hd3 (by omega)).mono ?_; rintro e w4 ⟨u, rfl, hcan, hb4⟩
         have hbb : Below w2.heap.size w2 w4 := hF0.trans (hb4.mono hF0.size)
         obtain ⟨s1, q1, c1, rfl⟩ := can_agg hcan
         obtain ⟨r0, r1⟩ := Blk2 (HL.out _ hbb)
         obtain ⟨f0, f1⟩ := Blk2f (HL.out _ hbb)
         have hw34 : w2.heap.size ≤ w3.heap.size := hF0.size
         have HC := Lib.hid (hcan.mono hw34)
         clear hcan))
  go_wp2_with fail
  have h1 := HSZ.out
  exact bodyPost_ret (v := .agg #[.bool s1, .slice q1 _ c1]) (by simp [results, Try.results82, go_sem, r0, r1]) rfl
    ⟨_, rfl, ((HC.out.set (by show w.heap.size + 1 + 1 < w2.heap.size; omega) _).set (by show w.heap.size + 1 + 1 < w2.heap.size; omega) _).mono (by omega), ((HBW.out.trans (hbb.mono (by omega))).setCell (by show w.heap.size ≤ w.heap.size + 1 + 1; omega) _).setCell (by show w.heap.size ≤ w.heap.size + 1 + 1; omega) _⟩

set_option maxHeartbeats 3200000 in
set_option maxRecDepth 100000 in
theorem plusr_lt (s t : Bool) (base : Option Addr) (b off n c X : Nat) (base' : Option Addr) (b' off' n' c' Y : Nat) (w : World)
    (hb : n ≠ 0 → base = some ⟨b, off, none⟩) (hX : Num w b off n X) (hn : n ≤ c) (hl : n ≤ 1000000000)
    (hb' : n' ≠ 0 → base' = some ⟨b', off', none⟩) (hY : Num w b' off' n' Y) (hn' : n' ≤ c') (hl' : n' ≤ 1000000000) (hst : s ≠ t) (hlt : X < Y) (hs : nl X ≤ 100000) (hs' : nl Y ≤ 100000) :
    Calls Try.prog 82 #[.agg #[.bool s, .slice base n c], .agg #[.bool t, .slice base' n' c']] w (RetInt w (sg t (Y - X))) := by
  have ht : (s == t) = false := by simpa using hst
  have hcm : cmpi (X : Int) Y < 0 := by unfold cmpi; rw [if_pos (by omega)]; decide
  have hcm2 : ¬ 0 ≤ cmpi (X : Int) Y := by omega
  have HB := Lib.hid hb
  have HB' := Lib.hid hb'
  clear hb hb'
  go_enter Try.func82, Try.ntmps82
  go_wp2_with fail
  generalize hW : World.alloc _ _ = W
  have B0 : Blk W w.heap.size #[.bool s, .slice base n c] := by rw [← hW]; exact ((blk_new rfl).alloc _).alloc _
  have B1 : Blk W (w.heap.size + 1) #[.bool t, .slice base' n' c'] := by rw [← hW]; exact (blk_new (by simp)).alloc _
  have B2 : Blk W (w.heap.size + 1 + 1) #[.bool false, .slice none 0 0] := by rw [← hW]; exact blk_new (by simp)
  have hbW : Below w.heap.size w W := by rw [← hW]; exact (((Below.refl _ _).alloc (Nat.le_refl _) _).alloc (by simp) _).alloc (by simp; omega) _
  have HS := Lib.hid (show W.heap.size = w.heap.size + 3 by rw [← hW]; simp)
  clear hW
  have HK := Lib.hid (show ∀ w1, Below W.heap.size W w1 → w1.cell? ⟨w.heap.size, 1, none⟩ = some (.slice base n c) ∧ w1.cell? ⟨w.heap.size + 1, 1, none⟩ = some (.slice base' n' c') from
    fun w1 h => ⟨(Blk2 (B0.kept h)).2, (Blk2 (B1.kept h)).2⟩)
  obtain ⟨a1, b1⟩ := HK.out _ (Below.refl _ _)
  have hXW := hX.kept hbW
  have HYW := Lib.hid (fun W1 (h : Below W.heap.size W W1) => (hY.kept hbW).kept h)
  go_region_held3 (fun w' => w'.cell? ⟨w.heap.size, 1, none⟩ = some (.slice base n c) ∧ w'.cell? ⟨w.heap.size + 1, 1, none⟩ = some (.slice base' n' c'))
    (first | exact ⟨a1, b1⟩ | exact HK.out _ hq2 | exact HK.out _ hq1)
    (first
      | (go_at_call_of 91 (Value.slice base n c); refine (mag_any base b off n c X _ HB.out (by exact hXW) hn hl).mono ?_; rintro e w1 ⟨v1, rfl, hown1, hb1⟩
         have hq1 : Below W.heap.size W w1 := (by first | exact hb1 | exact below_undrew hb1)
         obtain ⟨m1, g1, d1, rfl, hm1, hd1, hN1, hF1, hG1⟩ := own_slice hown1
         clear hown1)
      | (go_at_call_of 91 (Value.slice base' n' c'); refine (mag_any base' b' off' n' c' Y _ HB'.out (by exact HYW.out _ hq1) hn' hl').mono ?_; rintro e w2 ⟨v2, rfl, hown2, hb2⟩
         have hq2 : Below W.heap.size W w2 := hq1.trans (hb2.mono hq1.size)
         have hN1' := hN1.kept hb2
         obtain ⟨m2, g2, d2, rfl, hm2, hd2, hN2, hF2, hG2⟩ := own_slice hown2
         clear hown2))
  have HBW := Lib.hid (hbW.trans (hq2.mono (by have := HS.out; omega)))
  have HSZ := Lib.hid (show w.heap.size + 3 ≤ w2.heap.size by have := HS.out; have := hq2.size; omega)
  have B0' := B0.kept hq2
  have B1' := B1.kept hq2
  have B2' := B2.kept hq2
  obtain ⟨a0, a1⟩ := Blk2 B0'
  obtain ⟨b0, b1⟩ := Blk2 B1'
  clear HK HYW hXW HS hbW B0 B1 B2 hq1 hq2 hb1 hb2 hN1 hF1 hG1 hF2 hG2
  have HM1 := Lib.hid hm1
  have HM2 := Lib.hid hm2
  have HN1 := Lib.hid hN1'
  have HN2 := Lib.hid hN2
  clear hm1 hm2 hN1' hN2
  go_wp2_with (go_at_call 94; refine (cmpmag_any m1 m2 g1 0 X d1 g2 0 Y d2 _ HM1.out HM2.out (by exact HN1.out) (by exact HN2.out) (by omega) (by omega)).mono ?_; rintro e w' ⟨rfl, nq, rfl⟩)
  have HN1' := Lib.hid (HN1.out.drewN (m := nq))
  have HN2' := Lib.hid (HN2.out.drewN (m := nq))
  have HBW' := Lib.hid (below_drewN HBW.out nq)
  have HSZ' := Lib.hid (show w.heap.size + 3 ≤ (w2.drewN nq).heap.size from HSZ.out)
  replace B0' := B0'.drewN (n := nq)
  replace B1' := B1'.drewN (n := nq)
  replace B2' := B2'.drewN (n := nq)
  clear HN1 HN2 HBW HSZ a0 a1 b0 b1
  generalize w2.drewN nq = w2 at *
  have HN1 := HN1'
  have HN2 := HN2'
  have HBW := HBW'
  have HSZ := HSZ'
  clear HN1' HN2' HBW' HSZ'
  have HK := Lib.hid (show ∀ w3, Below w2.heap.size w2 w3 → w3.cell? ⟨w.heap.size + 1, 0, none⟩ = some (.bool t) from fun w3 h => (Blk2 (B1'.kept h)).1)
  have HL := Lib.hid (show ∀ w3, Below w2.heap.size w2 w3 → Blk w3 (w.heap.size + 1 + 1) #[.bool false, .slice none 0 0] from fun w3 h => B2'.kept h)
  have HMAG := Lib.hid (fun W3 (h : Below w2.heap.size w2 W3) => submag_any m2 m1 g2 0 (nl Y) Y d2 g1 0 (nl X) X d1 W3 HM2.out HM1.out (HN2.out.kept h) (HN1.out.kept h) (by omega) (by omega))
  have ha0 := HK.out _ (Below.refl _ _)
  clear B0' B1' B2'
  go_region_held3 (fun w' => w'.cell? ⟨w.heap.size + 1, 0, none⟩ = some (.bool t))
    (first | exact ha0 | exact HK.out _ hF0 | exact HK.out _ hbb | (refine cell_other (cell_other (HK.out _ hbb) ?_) ?_ <;> (show w.heap.size + 1 ≠ w.heap.size + 1 + 1; omega)))
    (first
      | (go_at_call 127; refine (HMAG.out _ (by first | exact Below.refl _ _ | exact (Below.refl _ _).drew)).mono ?_; rintro e w3 ⟨v3, k3, rfl, hown3, hk3, hb3⟩
         have hF0 : Below w2.heap.size w2 w3 := (by first | exact hb3 | exact below_undrew hb3)
         obtain ⟨m3, g3, d3, rfl, hm3, hd3, hN3, hF3, hG3⟩ := own_slice hown3
         clear hown3)
      | (go_at_call 90; refine (make1_any t m3 g3 0 k3 d3 (Y - X) _ hm3 (by exact hN3) hd3 (by omega)).mono ?_; rintro e w4 ⟨u, rfl, hcan, hb4⟩
         have hbb : Below w2.heap.size w2 w4 := hF0.trans (hb4.mono hF0.size)
         obtain ⟨s1, q1, c1, rfl⟩ := can_agg hcan
         obtain ⟨r0, r1⟩ := Blk2 (HL.out _ hbb)
         obtain ⟨f0, f1⟩ := Blk2f (HL.out _ hbb)
         have hw34 : w2.heap.size ≤ w3.heap.size := hF0.size
         have HC := Lib.hid (hcan.mono hw34)
         clear hcan))
  go_wp2_with fail
  have h1 := HSZ.out
  exact bodyPost_ret (v := .agg #[.bool s1, .slice q1 _ c1]) (by simp [results, Try.results82, go_sem, r0, r1]) rfl
    ⟨_, rfl, ((HC.out.set (by show w.heap.size + 1 + 1 < w2.heap.size; omega) _).set (by show w.heap.size + 1 + 1 < w2.heap.size; omega) _).mono (by omega), ((HBW.out.trans (hbb.mono (by omega))).setCell (by show w.heap.size ≤ w.heap.size + 1 + 1; omega) _).setCell (by show w.heap.size ≤ w.heap.size + 1 + 1; omega) _⟩
end Go.Proofs.Ytdgfmkideghhaaa

namespace PB
open Go Go.RowKit
theorem int_form {w : World} {v : Value} {z : Int} (h : IsInt w v z) : ∃ (s : Bool) (base : Option Addr) (n c : Nat), v = .agg #[.bool s, .slice base n c] ∧ IsInt w (.agg #[.bool s, .slice base n c]) z := by
  have h' := h
  obtain ⟨s, base, b, off, n, c, X, rfl, _⟩ := h
  exact ⟨s, base, n, c, rfl, h'⟩
end PB
namespace Go.Proofs.Ytdgfmkideghhaaa
open Go.RowKit PB

theorem plus_ref (v1 v2 : Value) (z1 z2 : Int) (w : World) (h1 : IsInt w v1 z1) (h2 : IsInt w v2 z2) (hs : nl z1.natAbs ≤ 100000) (hs' : nl z2.natAbs ≤ 100000) :
    Calls Try.prog 82 #[v1, v2] w (RetInt w (z1 + z2)) := by
  obtain ⟨s, base, b, off, n, c, X, rfl, hb, hX, hn, hl, rfl⟩ := h1
  obtain ⟨t, base', b', off', n', c', Y, rfl, hb', hY, hn', hl', rfl⟩ := h2
  rw [sg_natAbs] at hs hs'
  by_cases hst : s = t
  · subst hst
    have e : sg s X + sg s Y = sg s (X + Y) := by unfold sg; cases s <;> simp <;> omega
    rw [e]
    exact plusr_same s base b off n c X base' b' off' n' c' Y w hb hX hn hl hb' hY hn' hl' hs hs'
  · by_cases hle : Y ≤ X
    · have e : sg s X + sg t Y = sg s (X - Y) := by unfold sg; cases s <;> cases t <;> simp at hst ⊢ <;> omega
      rw [e]
      exact plusr_ge s t base b off n c X base' b' off' n' c' Y w hb hX hn hl hb' hY hn' hl' hst hle hs hs'
    · have e : sg s X + sg t Y = sg t (Y - X) := by unfold sg; cases s <;> cases t <;> simp at hst ⊢ <;> omega
      rw [e]
      exact plusr_lt s t base b off n c X base' b' off' n' c' Y w hb hX hn hl hb' hY hn' hl' hst (by omega) hs hs'

set_option maxHeartbeats 3200000 in
set_option maxRecDepth 100000 in
theorem minus_ref (v1 v2 : Value) (z1 z2 : Int) (w : World) (h1 : IsInt w v1 z1) (h2 : IsInt w v2 z2) (hs : nl z1.natAbs ≤ 100000) (hs' : nl z2.natAbs ≤ 100000) :
    Calls Try.prog 83 #[v1, v2] w (RetInt w (z1 - z2)) := by
  obtain ⟨s, base, n, c, rfl, h1⟩ := int_form h1
  obtain ⟨t, base', n', c', rfl, h2⟩ := int_form h2
  rw [show z1 - z2 = z1 + -z2 from Int.sub_eq_add_neg]
  have HN := Lib.hid (fun W (h : Below w.heap.size w W) => neg_ref _ z2 W (h2.kept h))
  have HP := Lib.hid (fun W (h : Below w.heap.size w W) (u : Value) (hu : IsInt W u (-z2)) => plus_ref _ u z1 (-z2) W (h1.kept h) hu hs (by rw [Int.natAbs_neg]; exact hs'))
  clear h1 h2 hs hs'
  go_enter Try.func83, Try.ntmps83
  go_wp2_with fail
  generalize hW : World.alloc _ _ = W
  have B0 : Blk W w.heap.size #[.bool s, .slice base n c] := by rw [← hW]; exact ((blk_new rfl).alloc _).alloc _
  have B1 : Blk W (w.heap.size + 1) #[.bool t, .slice base' n' c'] := by rw [← hW]; exact (blk_new (by simp)).alloc _
  have B2 : Blk W (w.heap.size + 1 + 1) #[.bool false, .slice none 0 0] := by rw [← hW]; exact blk_new (by simp)
  have hbW : Below w.heap.size w W := by rw [← hW]; exact (((Below.refl _ _).alloc (Nat.le_refl _) _).alloc (by simp) _).alloc (by simp; omega) _
  have HS := Lib.hid (show W.heap.size = w.heap.size + 3 by rw [← hW]; simp)
  clear hW
  have HK := Lib.hid (show ∀ w1, Below W.heap.size W w1 → (w1.cell? ⟨w.heap.size, 0, none⟩ = some (.bool s) ∧ w1.cell? ⟨w.heap.size, 1, none⟩ = some (.slice base n c)) ∧ (w1.cell? ⟨w.heap.size + 1, 0, none⟩ = some (.bool t) ∧ w1.cell? ⟨w.heap.size + 1, 1, none⟩ = some (.slice base' n' c')) from
    fun w1 h => ⟨Blk2 (B0.kept h), Blk2 (B1.kept h)⟩)
  have HL := Lib.hid (show ∀ w3, Below W.heap.size W w3 → Blk w3 (w.heap.size + 1 + 1) #[.bool false, .slice none 0 0] from fun w3 h => B2.kept h)
  have HK4 := Lib.hid (show ∀ (w4 : World) (u0 u1 : Value), ((w4.cell? ⟨w.heap.size, 0, none⟩ = some (.bool s) ∧ w4.cell? ⟨w.heap.size, 1, none⟩ = some (.slice base n c)) ∧ (w4.cell? ⟨w.heap.size + 1, 0, none⟩ = some (.bool t) ∧ w4.cell? ⟨w.heap.size + 1, 1, none⟩ = some (.slice base' n' c'))) → ((((w4.setCell ⟨w.heap.size + 1 + 1, 0, none⟩ u0).setCell ⟨w.heap.size + 1 + 1, 1, none⟩ u1).cell? ⟨w.heap.size, 0, none⟩ = some (.bool s) ∧ ((w4.setCell ⟨w.heap.size + 1 + 1, 0, none⟩ u0).setCell ⟨w.heap.size + 1 + 1, 1, none⟩ u1).cell? ⟨w.heap.size, 1, none⟩ = some (.slice base n c)) ∧ (((w4.setCell ⟨w.heap.size + 1 + 1, 0, none⟩ u0).setCell ⟨w.heap.size + 1 + 1, 1, none⟩ u1).cell? ⟨w.heap.size + 1, 0, none⟩ = some (.bool t) ∧ ((w4.setCell ⟨w.heap.size + 1 + 1, 0, none⟩ u0).setCell ⟨w.heap.size + 1 + 1, 1, none⟩ u1).cell? ⟨w.heap.size + 1, 1, none⟩ = some (.slice base' n' c'))) from fun w4 u0 u1 h =>
    ⟨⟨cell_other (cell_other h.1.1 (show w.heap.size ≠ w.heap.size + 1 + 1 by omega)) (show w.heap.size ≠ w.heap.size + 1 + 1 by omega), cell_other (cell_other h.1.2 (show w.heap.size ≠ w.heap.size + 1 + 1 by omega)) (show w.heap.size ≠ w.heap.size + 1 + 1 by omega)⟩,
      cell_other (cell_other h.2.1 (show w.heap.size + 1 ≠ w.heap.size + 1 + 1 by omega)) (show w.heap.size + 1 ≠ w.heap.size + 1 + 1 by omega), cell_other (cell_other h.2.2 (show w.heap.size + 1 ≠ w.heap.size + 1 + 1 by omega)) (show w.heap.size + 1 ≠ w.heap.size + 1 + 1 by omega)⟩)
  obtain ⟨⟨a0, a1⟩, b0, b1⟩ := HK.out _ (Below.refl _ _)
  have HBW := Lib.hid hbW
  clear B0 B1 B2 hbW
  go_region_held3 (fun w' => (w'.cell? ⟨w.heap.size, 0, none⟩ = some (.bool s) ∧ w'.cell? ⟨w.heap.size, 1, none⟩ = some (.slice base n c)) ∧ (w'.cell? ⟨w.heap.size + 1, 0, none⟩ = some (.bool t) ∧ w'.cell? ⟨w.heap.size + 1, 1, none⟩ = some (.slice base' n' c')))
    (first | exact ⟨⟨a0, a1⟩, b0, b1⟩ | exact HK.out _ hq2 | exact HK.out _ hq1 | exact HK4.out _ _ _ (HK.out _ hq2))
    (first
      | (go_at_call 29; refine (HN.out _ (by first | exact HBW.out | exact HBW.out.drew)).mono ?_; rintro e w1 ⟨u1, rfl, hcan1, hb1⟩
         have hq1 : Below W.heap.size W w1 := (by first | exact hb1 | exact below_undrew hb1)
         obtain ⟨s1, q1, c1, rfl⟩ := can_agg hcan1
         have HU := Lib.hid hcan1.int
         clear hcan1)
      | (go_at_call 82; refine (HP.out _ (by exact HBW.out.trans (hq1.mono (by have := HS.out; omega))) _ (by have h := HU.out; rw [Int.natAbs_neg] at h; exact h)).mono ?_; rintro e w2 ⟨u2, rfl, hcan2, hb2⟩
         have hq2 : Below W.heap.size W w2 := hq1.trans (hb2.mono hq1.size)
         obtain ⟨s2, q2, c2, rfl⟩ := can_agg hcan2
         obtain ⟨r0, r1⟩ := Blk2 (HL.out _ hq2)
         obtain ⟨f0, f1⟩ := Blk2f (HL.out _ hq2)
         have HC := Lib.hid (hcan2.mono (show W.heap.size ≤ _ from hq1.size))
         clear hcan2))
  go_wp2_with fail
  have h1 := HS.out
  exact bodyPost_ret (v := .agg #[.bool s2, .slice q2 _ c2]) (by simp [results, Try.results83, go_sem, r0, r1]) rfl
    ⟨_, rfl, ((HC.out.set (by show w.heap.size + 1 + 1 < W.heap.size; omega) _).set (by show w.heap.size + 1 + 1 < W.heap.size; omega) _).mono (by omega), ((HBW.out.trans (hq2.mono (by omega))).setCell (by show w.heap.size ≤ w.heap.size + 1 + 1; omega) _).setCell (by show w.heap.size ≤ w.heap.size + 1 + 1; omega) _⟩
end Go.Proofs.Ytdgfmkideghhaaa
