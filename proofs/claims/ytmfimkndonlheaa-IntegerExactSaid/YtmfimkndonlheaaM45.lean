/-
  The verifier's Div.
  The verifier's Quo, where the numbers are not large (written by wip/genquor.py).
-/
import Derived.Test.YtmfimkndonlheaaM23
import Derived.Test.YtmfimkndonlheaaM33
import Derived.Test.YtmfimkndonlheaaM44
namespace PB
open Go Go.RowKit
/-- The call returns two canonical Ints. -/
def RetIntInt (w : World) (z1 z2 : Int) (e : Ending) (w' : World) : Prop :=
  ∃ v1 v2, e = .returned (.tuple #[v1, v2]) ∧ IsCan w.heap.size w' v1 z1 ∧ IsCan w.heap.size w' v2 z2 ∧ Below w.heap.size w w'
theorem nl_div_le (X Y : Nat) : nl (X / Y) ≤ nl X := nl_mono (Nat.div_le_self X Y)
theorem nl_mod_le (X Y : Nat) : nl (X % Y) ≤ nl X := nl_mono (Nat.mod_le X Y)
end PB
namespace Go.Proofs.Ytmfimkndonlheaa
open Go.RowKit PB

set_option maxHeartbeats 3200000 in
set_option maxRecDepth 100000 in
theorem div_ref (v1 v2 : Value) (z1 z2 : Int) (w : World) (h1 : IsInt w v1 z1) (h2 : IsInt w v2 z2) (hs : nl z1.natAbs ≤ 90000) (hs' : nl z2.natAbs ≤ 90000) (h0 : z2 ≠ 0) :
    Calls Try.prog 62 #[v1, v2] w (RetIntInt w (z1.tdiv z2) (z1.tmod z2)) := by
  obtain ⟨s, base, b, off, n, c, X, rfl, hb, hX, hn, hl, rfl⟩ := h1
  obtain ⟨t, base', b', off', n', c', Y, rfl, hb', hY, hn', hl', rfl⟩ := h2
  rw [sg_natAbs] at hs hs'
  have hY0 : Y ≠ 0 := fun h => h0 (sg_zero.2 h)
  rw [← sg_tdiv, ← sg_tmod]
  obtain ⟨st, hst⟩ : ∃ st, (!(s == t)) = st := ⟨_, rfl⟩
  rw [hst]
  have HB := Lib.hid hb
  have HB' := Lib.hid hb'
  have HD := Lib.hid (fun vx vy W (hx : CanSl W vx X) (hy : CanSl W vy Y) => divmag_ref vx vy X Y W hx hy hs hs' hY0)
  have HQL := Lib.hid (nl_div_le X Y)
  have HRL := Lib.hid (nl_mod_le X Y)
  clear hb hb' h0
  obtain ⟨Q, hQ⟩ : ∃ Q, X / Y = Q := ⟨_, rfl⟩
  obtain ⟨R, hR⟩ : ∃ R, X % Y = R := ⟨_, rfl⟩
  have HDQ : Hid (∀ (W : World) (e : Ending) (w' : World), RetDM W X Y e w' → ∃ vq vr, e = .returned (.tuple #[vq, vr]) ∧ CanSl w' vq Q ∧ CanSl w' vr R ∧ Below W.heap.size W w') := Lib.hid (fun W e w' h => by unfold RetDM at h; rwa [hQ, hR] at h)
  rw [hQ] at HQL ⊢
  rw [hR] at HRL ⊢
  clear hQ hR
  go_enter Try.func62, Try.ntmps62
  go_wp2_with fail
  generalize hW : World.alloc _ _ = W
  have B0 : Blk W w.heap.size #[.bool s, .slice base n c] := by rw [← hW]; exact (((blk_new rfl).alloc _).alloc _).alloc _
  have B1 : Blk W (w.heap.size + 1) #[.bool t, .slice base' n' c'] := by rw [← hW]; exact ((blk_new (by simp)).alloc _).alloc _
  have B2 : Blk W (w.heap.size + 1 + 1) #[.bool false, .slice none 0 0] := by rw [← hW]; exact (blk_new (by simp)).alloc _
  have B3 : Blk W (w.heap.size + 1 + 1 + 1) #[.bool false, .slice none 0 0] := by rw [← hW]; exact blk_new (by simp)
  have hbW : Below w.heap.size w W := by rw [← hW]; exact ((((Below.refl _ _).alloc (Nat.le_refl _) _).alloc (by simp) _).alloc (by simp; omega) _).alloc (by simp; omega) _
  have HS := Lib.hid (show W.heap.size = w.heap.size + 4 by rw [← hW]; simp)
  clear hW
  have HK := Lib.hid (show ∀ w1, Below W.heap.size W w1 → (w1.cell? ⟨w.heap.size, 0, none⟩ = some (.bool s) ∧ w1.cell? ⟨w.heap.size, 1, none⟩ = some (.slice base n c)) ∧ (w1.cell? ⟨w.heap.size + 1, 0, none⟩ = some (.bool t) ∧ w1.cell? ⟨w.heap.size + 1, 1, none⟩ = some (.slice base' n' c')) from
    fun w1 h => ⟨Blk2 (B0.kept h), Blk2 (B1.kept h)⟩)
  have HL := Lib.hid (show ∀ w3, Below W.heap.size W w3 → Blk w3 (w.heap.size + 1 + 1) #[.bool false, .slice none 0 0] ∧ Blk w3 (w.heap.size + 1 + 1 + 1) #[.bool false, .slice none 0 0] from fun w3 h => ⟨B2.kept h, B3.kept h⟩)
  obtain ⟨⟨a0, a1⟩, b0, b1⟩ := HK.out _ (Below.refl _ _)
  have HXW := Lib.hid (fun W1 (h : Below W.heap.size W W1) => (hX.kept hbW).kept h)
  have HYW := Lib.hid (fun W1 (h : Below W.heap.size W W1) => (hY.kept hbW).kept h)
  have HBW := Lib.hid hbW
  clear B0 B1 B2 B3 hbW
  go_region_held3 (fun w' => (w'.cell? ⟨w.heap.size, 0, none⟩ = some (.bool s) ∧ w'.cell? ⟨w.heap.size, 1, none⟩ = some (.slice base n c)) ∧ (w'.cell? ⟨w.heap.size + 1, 0, none⟩ = some (.bool t) ∧ w'.cell? ⟨w.heap.size + 1, 1, none⟩ = some (.slice base' n' c')))
    (first | exact ⟨⟨a0, a1⟩, b0, b1⟩ | exact HK.out _ hq3 | exact HK.out _ hq2 | exact HK.out _ hq1)
    (first
      | (go_at_call_of 67 (Value.slice base n c); refine (mag_any base b off n c X _ HB.out (HXW.out _ (by first | exact Below.refl _ _ | exact (Below.refl _ _).drew)) hn hl).mono ?_; rintro e w1 ⟨v1, rfl, hown1, hb1⟩
         have hq1 : Below W.heap.size W w1 := (by first | exact hb1 | exact below_undrew hb1)
         have HC1 := Lib.hid (cansl_own hown1)
         clear hown1)
      | (go_at_call_of 67 (Value.slice base' n' c'); refine (mag_any base' b' off' n' c' Y _ HB'.out (HYW.out _ (by exact hq1)) hn' hl').mono ?_; rintro e w2 ⟨v2, rfl, hown2, hb2⟩
         have hq2 : Below W.heap.size W w2 := hq1.trans (hb2.mono hq1.size)
         have HC2 := Lib.hid (cansl_own hown2)
         have HC3 := Lib.hid (HC1.out.kept hb2)
         clear hown2)
      | (go_at_call 76; refine (HD.out _ _ _ (by exact HC3.out) (by exact HC2.out)).mono ?_; intro e w3 hret; obtain ⟨vq, vr, rfl, hq, hr, hb3⟩ := HDQ.out _ _ _ hret; clear hret
         have hq3 : Below W.heap.size W w3 := hq2.trans ((by first | exact hb3.mono hq2.size | exact (below_undrew hb3).mono hq2.size))))
  obtain ⟨qb, qg, qo, qc, rfl, hQ1, hQ2, hQ3⟩ := hq
  obtain ⟨rb, rg, ro, rc, rfl, hR1, hR2, hR3⟩ := hr
  have HQ1 := Lib.hid hQ1
  have HR1 := Lib.hid hR1
  obtain ⟨⟨a0, a1⟩, b0, b1⟩ := HK.out _ hq3
  have HM := Lib.hid hq3.size
  have HK' := Lib.hid (fun w4 (h : Below w3.heap.size w3 w4) => HK.out w4 (hq3.trans (h.mono hq3.size)))
  have HL' := Lib.hid (fun w4 (h : Below w3.heap.size w3 w4) => HL.out w4 (hq3.trans (h.mono hq3.size)))
  have HB3 := Lib.hid (HBW.out.trans (hq3.mono (by have := HS.out; omega)))
  have HR2 := Lib.hid (fun w4 (h : Below w3.heap.size w3 w4) => hR2.kept h)
  have HST := Lib.hid (show ∀ (w4 : World) (g j : Nat) (u : Value), ((w4.cell? ⟨w.heap.size, 0, none⟩ = some (.bool s) ∧ w4.cell? ⟨w.heap.size, 1, none⟩ = some (.slice base n c)) ∧ (w4.cell? ⟨w.heap.size + 1, 0, none⟩ = some (.bool t) ∧ w4.cell? ⟨w.heap.size + 1, 1, none⟩ = some (.slice base' n' c'))) → w.heap.size + 1 < g → (((w4.setCell ⟨g, j, none⟩ u).cell? ⟨w.heap.size, 0, none⟩ = some (.bool s) ∧ (w4.setCell ⟨g, j, none⟩ u).cell? ⟨w.heap.size, 1, none⟩ = some (.slice base n c)) ∧ ((w4.setCell ⟨g, j, none⟩ u).cell? ⟨w.heap.size + 1, 0, none⟩ = some (.bool t) ∧ (w4.setCell ⟨g, j, none⟩ u).cell? ⟨w.heap.size + 1, 1, none⟩ = some (.slice base' n' c'))) from
    fun w4 g j u h hg => ⟨⟨cell_other h.1.1 (show w.heap.size ≠ g by omega), cell_other h.1.2 (show w.heap.size ≠ g by omega)⟩, cell_other h.2.1 (show w.heap.size + 1 ≠ g by omega), cell_other h.2.2 (show w.heap.size + 1 ≠ g by omega)⟩)
  clear hq3 hb3 hq2 hb2 hq1 hb1 HC1 HC2 HC3 HK HL HXW HYW HD HDQ HB HB' hX hY hQ1 hR1 hR2
  go_wp2_with fail
  go_region_held3 (fun w' => (w'.cell? ⟨w.heap.size, 0, none⟩ = some (.bool s) ∧ w'.cell? ⟨w.heap.size, 1, none⟩ = some (.slice base n c)) ∧ (w'.cell? ⟨w.heap.size + 1, 0, none⟩ = some (.bool t) ∧ w'.cell? ⟨w.heap.size + 1, 1, none⟩ = some (.slice base' n' c')))
    (first | exact ⟨⟨a0, a1⟩, b0, b1⟩ | exact HK'.out _ hk4 | exact HK'.out _ hk3 | exact HST.out _ _ _ _ (HST.out _ _ _ _ (HK'.out _ hk4) (by omega)) (by omega) | exact HST.out _ _ _ _ (HST.out _ _ _ _ (HST.out _ _ _ _ (HST.out _ _ _ _ (HK'.out _ hk4) (by omega)) (by omega)) (by omega)) (by omega))
    (first
      | (go_at_call_of 66 (Value.slice qb (nl Q) qc); refine (make1_any st qb qg qo (nl Q) qc Q _ HQ1.out (by exact hQ2) hQ3 (by have := HQL.out; omega)).mono ?_; rintro e w4 ⟨u1, rfl, hcan1, hb4⟩
         have hk3 : Below w3.heap.size w3 w4 := (by first | exact hb4 | exact below_undrew hb4)
         obtain ⟨s1, p1, m1, rfl⟩ := can_agg hcan1
         have HV1 := Lib.hid (hcan1.mono (show w3.heap.size ≤ _ from Nat.le_refl _))
         clear hcan1)
      | (go_at_call_of 66 (Value.slice rb (nl R) rc); refine (make1_any s rb rg ro (nl R) rc R _ HR1.out (HR2.out _ hk3) hR3 (by have := HRL.out; omega)).mono ?_; rintro e w5 ⟨u2, rfl, hcan2, hb5⟩
         have hk4 : Below w3.heap.size w3 w5 := hk3.trans (hb5.mono hk3.size)
         obtain ⟨s2, p2, m2, rfl⟩ := can_agg hcan2
         have HV2 := Lib.hid (hcan2.mono (show w3.heap.size ≤ _ from hk3.size))
         have HV3 := Lib.hid (HV1.out.kept hb5)
         clear hcan2
         obtain ⟨c0, c1⟩ := Blk2 (HL'.out _ hk4).1
         obtain ⟨f0, f1⟩ := Blk2f (HL'.out _ hk4).1
         obtain ⟨d0, d1⟩ := Blk2 (HL'.out _ hk4).2
         obtain ⟨g0, g1⟩ := Blk2f (HL'.out _ hk4).2))
  go_wp2_with fail
  have h1 := HS.out
  have h2 := HM.out
  refine bodyPost_ret (v := .tuple #[.agg #[.bool s1, .slice p1 (nl (sg st Q).natAbs) m1], .agg #[.bool s2, .slice p2 (nl (sg s R).natAbs) m2]]) (by simp [results, Try.results62, go_sem, c0, c1, d0, d1]) rfl ⟨_, _, rfl, ?_, ?_, ?_⟩
  · exact ((((HV3.out.set (by show w.heap.size + 1 + 1 < w3.heap.size; omega) _).set (by show w.heap.size + 1 + 1 < w3.heap.size; omega) _).set (by show w.heap.size + 1 + 1 + 1 < w3.heap.size; omega) _).set (by show w.heap.size + 1 + 1 + 1 < w3.heap.size; omega) _).mono (by omega)
  · exact ((((HV2.out.set (by show w.heap.size + 1 + 1 < w3.heap.size; omega) _).set (by show w.heap.size + 1 + 1 < w3.heap.size; omega) _).set (by show w.heap.size + 1 + 1 + 1 < w3.heap.size; omega) _).set (by show w.heap.size + 1 + 1 + 1 < w3.heap.size; omega) _).mono (by omega)
  · exact ((((HB3.out.trans (hk4.mono (by omega))).setCell (by show w.heap.size ≤ w.heap.size + 1 + 1; omega) _).setCell (by show w.heap.size ≤ w.heap.size + 1 + 1; omega) _).setCell (by show w.heap.size ≤ w.heap.size + 1 + 1 + 1; omega) _).setCell (by show w.heap.size ≤ w.heap.size + 1 + 1 + 1; omega) _
end Go.Proofs.Ytmfimkndonlheaa

namespace Go.Proofs.Ytmfimkndonlheaa
open Go.RowKit PB

set_option maxHeartbeats 3200000 in
set_option maxRecDepth 100000 in
theorem quor_zero (v1 v2 : Value) (z1 z2 : Int) (w : World) (h1 : IsInt w v1 z1) (h2 : IsInt w v2 z2) (g1 : ¬ 256 < nl z1.natAbs) (g2 : ¬ 256 < nl z2.natAbs) (h0 : z2 = 0) :
    Calls Try.prog 21 #[v1, v2] w (RetIntIntE w 0 0 3) := by
  obtain ⟨s, base, n, c, rfl, h1⟩ := int_form h1
  obtain ⟨t, base', n', c', rfl, h2⟩ := int_form h2
  have L1 : Hid (∀ W, Below w.heap.size w W → Calls Try.prog 60 #[.agg #[.bool s, .slice base n c]] W (fun e w' => e = .returned (.bool false) ∧ Below W.heap.size W w')) := Lib.hid (fun W h => by
    have := large_ref _ z1 W (h1.kept h)
    rwa [decide_eq_false g1] at this)
  have L2 : Hid (∀ W, Below w.heap.size w W → Calls Try.prog 60 #[.agg #[.bool t, .slice base' n' c']] W (fun e w' => e = .returned (.bool false) ∧ Below W.heap.size W w')) := Lib.hid (fun W h => by
    have := large_ref _ z2 W (h2.kept h)
    rwa [decide_eq_false g2] at this)
  have L3 := Lib.hid (fun W (h : Below w.heap.size w W) => sign_ref _ z2 W (h2.kept h))
  have hz : (z2.sign == 0) = true := by rw [h0]; rfl
  clear h0
  clear h1 h2 g1 g2
  go_enter Try.func21, Try.ntmps21
  go_wp2_with fail
  generalize hW : World.alloc _ _ = W
  have B0 : Blk W w.heap.size #[.bool s, .slice base n c] := by rw [← hW]; exact (((blk_new rfl).alloc _).alloc _).alloc _
  have B1 : Blk W (w.heap.size + 1) #[.bool t, .slice base' n' c'] := by rw [← hW]; exact ((blk_new (by simp)).alloc _).alloc _
  have B2 : Blk W (w.heap.size + 1 + 1) #[.bool false, .slice none 0 0] := by rw [← hW]; exact (blk_new (by simp)).alloc _
  have B3 : Blk W (w.heap.size + 1 + 1 + 1) #[.bool false, .slice none 0 0] := by rw [← hW]; exact blk_new (by simp)
  have hbW : Below w.heap.size w W := by rw [← hW]; exact ((((Below.refl _ _).alloc (Nat.le_refl _) _).alloc (by simp) _).alloc (by simp; omega) _).alloc (by simp; omega) _
  have HS := Lib.hid (show w.heap.size + 4 ≤ W.heap.size by rw [← hW]; simp)
  clear hW
  obtain ⟨a0, a1⟩ := Blk2 B0
  obtain ⟨b0, b1⟩ := Blk2 B1
  go_wp2_with fail
  refine (L1.out W hbW).mono ?_
  rintro e w1 ⟨rfl, hb1⟩
  have Bel1 : Below w.heap.size w w1 := bs_trans hbW hb1
  replace HS := Lib.hid (Nat.le_trans HS.out hb1.size)
  replace B0 := B0.kept hb1
  replace B1 := B1.kept hb1
  replace B2 := B2.kept hb1
  replace B3 := B3.kept hb1
  obtain ⟨a0, a1⟩ := Blk2 B0
  obtain ⟨b0, b1⟩ := Blk2 B1
  obtain ⟨r0, r1⟩ := Blk2 B2
  obtain ⟨f0, f1⟩ := Blk2f B2
  obtain ⟨d0, d1⟩ := Blk2 B3
  obtain ⟨g0, g1⟩ := Blk2f B3
  clear hb1
  go_wp2_with fail
  refine (L2.out w1 Bel1).mono ?_
  rintro e w2 ⟨rfl, hb2⟩
  have Bel2 : Below w.heap.size w w2 := bs_trans Bel1 hb2
  replace HS := Lib.hid (Nat.le_trans HS.out hb2.size)
  replace B0 := B0.kept hb2
  replace B1 := B1.kept hb2
  replace B2 := B2.kept hb2
  replace B3 := B3.kept hb2
  obtain ⟨a0, a1⟩ := Blk2 B0
  obtain ⟨b0, b1⟩ := Blk2 B1
  obtain ⟨r0, r1⟩ := Blk2 B2
  obtain ⟨f0, f1⟩ := Blk2f B2
  obtain ⟨d0, d1⟩ := Blk2 B3
  obtain ⟨g0, g1⟩ := Blk2f B3
  clear hb2
  go_wp2_with fail
  refine (L3.out w2 Bel2).mono ?_
  rintro e w3 ⟨rfl, hb3⟩
  have Bel3 : Below w.heap.size w w3 := bs_trans Bel2 hb3
  replace HS := Lib.hid (Nat.le_trans HS.out hb3.size)
  replace B0 := B0.kept hb3
  replace B1 := B1.kept hb3
  replace B2 := B2.kept hb3
  replace B3 := B3.kept hb3
  obtain ⟨a0, a1⟩ := Blk2 B0
  obtain ⟨b0, b1⟩ := Blk2 B1
  obtain ⟨r0, r1⟩ := Blk2 B2
  obtain ⟨f0, f1⟩ := Blk2f B2
  obtain ⟨d0, d1⟩ := Blk2 B3
  obtain ⟨g0, g1⟩ := Blk2f B3
  clear hb3
  go_wp2_with fail
  have hle := HS.out
  exact bodyPost_ret (v := .tuple #[.agg #[.bool false, .slice none 0 0], .agg #[.bool false, .slice none 0 0], .int .i64 3]) (by simp [results, Try.results21, go_sem, r0, r1, d0, d1]) rfl
    ⟨_, _, rfl, can_zero _ _, can_zero _ _, (((Bel3.setCell (by show w.heap.size ≤ w.heap.size + 1 + 1; omega) _).setCell (by show w.heap.size ≤ w.heap.size + 1 + 1; omega) _).setCell (by show w.heap.size ≤ w.heap.size + 1 + 1 + 1; omega) _).setCell (by show w.heap.size ≤ w.heap.size + 1 + 1 + 1; omega) _⟩

set_option maxHeartbeats 3200000 in
set_option maxRecDepth 100000 in
theorem quor_fine (v1 v2 : Value) (z1 z2 : Int) (w : World) (h1 : IsInt w v1 z1) (h2 : IsInt w v2 z2) (g1 : ¬ 256 < nl z1.natAbs) (g2 : ¬ 256 < nl z2.natAbs) (h0 : z2 ≠ 0) :
    Calls Try.prog 21 #[v1, v2] w (RetIntIntE w (z1.tdiv z2) (z1.tmod z2) 0) := by
  obtain ⟨s, base, n, c, rfl, h1⟩ := int_form h1
  obtain ⟨t, base', n', c', rfl, h2⟩ := int_form h2
  have L1 : Hid (∀ W, Below w.heap.size w W → Calls Try.prog 60 #[.agg #[.bool s, .slice base n c]] W (fun e w' => e = .returned (.bool false) ∧ Below W.heap.size W w')) := Lib.hid (fun W h => by
    have := large_ref _ z1 W (h1.kept h)
    rwa [decide_eq_false g1] at this)
  have L2 : Hid (∀ W, Below w.heap.size w W → Calls Try.prog 60 #[.agg #[.bool t, .slice base' n' c']] W (fun e w' => e = .returned (.bool false) ∧ Below W.heap.size W w')) := Lib.hid (fun W h => by
    have := large_ref _ z2 W (h2.kept h)
    rwa [decide_eq_false g2] at this)
  have L3 := Lib.hid (fun W (h : Below w.heap.size w W) => sign_ref _ z2 W (h2.kept h))
  have HD := Lib.hid (fun W (h : Below w.heap.size w W) => div_ref _ _ z1 z2 W (h1.kept h) (h2.kept h) (by omega) (by omega) h0)
  have hz : (z2.sign == 0) = false := by have : z2.sign ≠ 0 := fun h => h0 (Int.sign_eq_zero_iff_zero.1 h); simpa using this
  obtain ⟨Q, hQ⟩ : ∃ Q, z1.tdiv z2 = Q := ⟨_, rfl⟩
  obtain ⟨R, hR⟩ : ∃ R, z1.tmod z2 = R := ⟨_, rfl⟩
  rw [hQ, hR] at HD ⊢
  clear h0 hQ hR
  clear h1 h2 g1 g2
  go_enter Try.func21, Try.ntmps21
  go_wp2_with fail
  generalize hW : World.alloc _ _ = W
  have B0 : Blk W w.heap.size #[.bool s, .slice base n c] := by rw [← hW]; exact (((blk_new rfl).alloc _).alloc _).alloc _
  have B1 : Blk W (w.heap.size + 1) #[.bool t, .slice base' n' c'] := by rw [← hW]; exact ((blk_new (by simp)).alloc _).alloc _
  have B2 : Blk W (w.heap.size + 1 + 1) #[.bool false, .slice none 0 0] := by rw [← hW]; exact (blk_new (by simp)).alloc _
  have B3 : Blk W (w.heap.size + 1 + 1 + 1) #[.bool false, .slice none 0 0] := by rw [← hW]; exact blk_new (by simp)
  have hbW : Below w.heap.size w W := by rw [← hW]; exact ((((Below.refl _ _).alloc (Nat.le_refl _) _).alloc (by simp) _).alloc (by simp; omega) _).alloc (by simp; omega) _
  have HS := Lib.hid (show w.heap.size + 4 ≤ W.heap.size by rw [← hW]; simp)
  clear hW
  obtain ⟨a0, a1⟩ := Blk2 B0
  obtain ⟨b0, b1⟩ := Blk2 B1
  go_wp2_with fail
  refine (L1.out W hbW).mono ?_
  rintro e w1 ⟨rfl, hb1⟩
  have Bel1 : Below w.heap.size w w1 := bs_trans hbW hb1
  replace HS := Lib.hid (Nat.le_trans HS.out hb1.size)
  replace B0 := B0.kept hb1
  replace B1 := B1.kept hb1
  replace B2 := B2.kept hb1
  replace B3 := B3.kept hb1
  obtain ⟨a0, a1⟩ := Blk2 B0
  obtain ⟨b0, b1⟩ := Blk2 B1
  obtain ⟨r0, r1⟩ := Blk2 B2
  obtain ⟨f0, f1⟩ := Blk2f B2
  obtain ⟨d0, d1⟩ := Blk2 B3
  obtain ⟨g0, g1⟩ := Blk2f B3
  clear hb1
  go_wp2_with fail
  refine (L2.out w1 Bel1).mono ?_
  rintro e w2 ⟨rfl, hb2⟩
  have Bel2 : Below w.heap.size w w2 := bs_trans Bel1 hb2
  replace HS := Lib.hid (Nat.le_trans HS.out hb2.size)
  replace B0 := B0.kept hb2
  replace B1 := B1.kept hb2
  replace B2 := B2.kept hb2
  replace B3 := B3.kept hb2
  obtain ⟨a0, a1⟩ := Blk2 B0
  obtain ⟨b0, b1⟩ := Blk2 B1
  obtain ⟨r0, r1⟩ := Blk2 B2
  obtain ⟨f0, f1⟩ := Blk2f B2
  obtain ⟨d0, d1⟩ := Blk2 B3
  obtain ⟨g0, g1⟩ := Blk2f B3
  clear hb2
  go_wp2_with fail
  refine (L3.out w2 Bel2).mono ?_
  rintro e w3 ⟨rfl, hb3⟩
  have Bel3 : Below w.heap.size w w3 := bs_trans Bel2 hb3
  replace HS := Lib.hid (Nat.le_trans HS.out hb3.size)
  replace B0 := B0.kept hb3
  replace B1 := B1.kept hb3
  replace B2 := B2.kept hb3
  replace B3 := B3.kept hb3
  obtain ⟨a0, a1⟩ := Blk2 B0
  obtain ⟨b0, b1⟩ := Blk2 B1
  obtain ⟨r0, r1⟩ := Blk2 B2
  obtain ⟨f0, f1⟩ := Blk2f B2
  obtain ⟨d0, d1⟩ := Blk2 B3
  obtain ⟨g0, g1⟩ := Blk2f B3
  clear hb3
  go_wp2_with fail
  refine (HD.out w3 Bel3).mono ?_
  rintro e w4 ⟨u1, u2, rfl, hc1, hc2, hb4⟩
  have Bel4 : Below w.heap.size w w4 := bs_trans Bel3 hb4
  have HS3 := Lib.hid (show w3.heap.size ≤ w4.heap.size from hb4.size)
  replace B0 := B0.kept hb4
  replace B1 := B1.kept hb4
  replace B2 := B2.kept hb4
  replace B3 := B3.kept hb4
  obtain ⟨a0, a1⟩ := Blk2 B0
  obtain ⟨b0, b1⟩ := Blk2 B1
  obtain ⟨r0, r1⟩ := Blk2 B2
  obtain ⟨f0, f1⟩ := Blk2f B2
  obtain ⟨d0, d1⟩ := Blk2 B3
  obtain ⟨g0, g1⟩ := Blk2f B3
  obtain ⟨s1, q1, c1, rfl⟩ := can_agg hc1
  obtain ⟨s2, q2, c2, rfl⟩ := can_agg hc2
  have HC1 := Lib.hid hc1
  have HC2 := Lib.hid hc2
  have HB4 := Lib.hid Bel4
  have e1 := HS.out
  have e2 := HS3.out
  obtain ⟨P7, hP7⟩ : ∃ P7, w4.heap.size = P7 := ⟨_, rfl⟩
  have hPw : w.heap.size + 4 ≤ P7 := by omega
  have hP3 : w3.heap.size ≤ P7 := by omega
  clear hb4 hc1 hc2 Bel1 Bel2 Bel3 Bel4 B0 B1 e1 e2 HS3 L1 L2 L3 HD hbW a0 a1 b0 b1 r0 r1 f0 f1 d0 d1 g0 g1
  go_wp2_with fail
  generalize hW5 : World.alloc (World.alloc _ _) _ = W5
  have B7 : Blk W5 P7 #[.bool s1, .slice q1 (nl Q.natAbs) c1] := by rw [← hW5]; exact (blk_new hP7.symm).alloc _
  have B8 : Blk W5 (P7 + 1) #[.bool s2, .slice q2 (nl R.natAbs) c2] := by rw [← hW5]; exact blk_new (by simp [hP7])
  replace B2 : Blk W5 (w.heap.size + 1 + 1) #[.bool false, .slice none 0 0] := by rw [← hW5]; exact (B2.alloc _).alloc _
  replace B3 : Blk W5 (w.heap.size + 1 + 1 + 1) #[.bool false, .slice none 0 0] := by rw [← hW5]; exact (B3.alloc _).alloc _
  have hb5 : Below w4.heap.size w4 W5 := by rw [← hW5]; exact bs_alloc (bs_alloc (Below.refl _ _) _) _
  have HB5 := Lib.hid (bs_trans HB4.out hb5)
  replace HC1 := Lib.hid (HC1.out.kept hb5)
  replace HC2 := Lib.hid (HC2.out.kept hb5)
  try rw [hP7]
  clear hW5 hb5 HB4 hP7
  obtain ⟨a0, a1⟩ := Blk2 B7
  obtain ⟨b0, b1⟩ := Blk2 B8
  obtain ⟨r0, r1⟩ := Blk2 B2
  obtain ⟨f0, f1⟩ := Blk2f B2
  obtain ⟨d0, d1⟩ := Blk2 B3
  obtain ⟨g0, g1⟩ := Blk2f B3
  have e1 := HS.out
  have HST := Lib.hid (show ∀ (w4 : World) (g j : Nat) (u : Value), ((w4.cell? ⟨P7, 0, none⟩ = some (.bool s1) ∧ w4.cell? ⟨P7, 1, none⟩ = some (.slice q1 (nl Q.natAbs) c1)) ∧ (w4.cell? ⟨P7 + 1, 0, none⟩ = some (.bool s2) ∧ w4.cell? ⟨P7 + 1, 1, none⟩ = some (.slice q2 (nl R.natAbs) c2))) → g < P7 → (((w4.setCell ⟨g, j, none⟩ u).cell? ⟨P7, 0, none⟩ = some (.bool s1) ∧ (w4.setCell ⟨g, j, none⟩ u).cell? ⟨P7, 1, none⟩ = some (.slice q1 (nl Q.natAbs) c1)) ∧ ((w4.setCell ⟨g, j, none⟩ u).cell? ⟨P7 + 1, 0, none⟩ = some (.bool s2) ∧ (w4.setCell ⟨g, j, none⟩ u).cell? ⟨P7 + 1, 1, none⟩ = some (.slice q2 (nl R.natAbs) c2))) from
    fun w4 g j u h hg => ⟨⟨cell_other h.1.1 (show P7 ≠ g by omega), cell_other h.1.2 (show P7 ≠ g by omega)⟩, cell_other h.2.1 (show P7 + 1 ≠ g by omega), cell_other h.2.2 (show P7 + 1 ≠ g by omega)⟩)
  go_region_held3 (fun w' => (w'.cell? ⟨P7, 0, none⟩ = some (.bool s1) ∧ w'.cell? ⟨P7, 1, none⟩ = some (.slice q1 (nl Q.natAbs) c1)) ∧ (w'.cell? ⟨P7 + 1, 0, none⟩ = some (.bool s2) ∧ w'.cell? ⟨P7 + 1, 1, none⟩ = some (.slice q2 (nl R.natAbs) c2)))
    (first | exact ⟨⟨a0, a1⟩, b0, b1⟩ | exact HST.out _ _ _ _ (HST.out _ _ _ _ ⟨⟨a0, a1⟩, b0, b1⟩ (by omega)) (by omega) | exact HST.out _ _ _ _ (HST.out _ _ _ _ (HST.out _ _ _ _ (HST.out _ _ _ _ ⟨⟨a0, a1⟩, b0, b1⟩ (by omega)) (by omega)) (by omega)) (by omega))
    (fail)
  go_wp2_with fail
  refine bodyPost_ret (v := .tuple #[.agg #[.bool s1, .slice q1 (nl Q.natAbs) c1], .agg #[.bool s2, .slice q2 (nl R.natAbs) c2], .int .i64 0]) (by simp [results, Try.results21, go_sem, r0, r1, d0, d1]) rfl ⟨_, _, rfl, ?_, ?_, ?_⟩
  · exact ((((HC1.out.set (by show w.heap.size + 1 + 1 < w3.heap.size; omega) _).set (by show w.heap.size + 1 + 1 < w3.heap.size; omega) _).set (by show w.heap.size + 1 + 1 + 1 < w3.heap.size; omega) _).set (by show w.heap.size + 1 + 1 + 1 < w3.heap.size; omega) _).mono (by omega)
  · exact ((((HC2.out.set (by show w.heap.size + 1 + 1 < w3.heap.size; omega) _).set (by show w.heap.size + 1 + 1 < w3.heap.size; omega) _).set (by show w.heap.size + 1 + 1 + 1 < w3.heap.size; omega) _).set (by show w.heap.size + 1 + 1 + 1 < w3.heap.size; omega) _).mono (by omega)
  · refine bs_drew (bs_set (bs_set (bs_set (bs_set HB5.out ?_ _) ?_ _) ?_ _) ?_ _) <;> (try dsimp only) <;> omega
end Go.Proofs.Ytmfimkndonlheaa
