/-
  The verifier's Div.
  Number and MulDiv of the reference.
-/
import Derived.Laws.BitsAllLaws
import Derived.Test.YtkokokgmhpkoiaaM04
import Derived.Test.YtkokokgmhpkoiaaM17
import Derived.Test.YtkokokgmhpkoiaaM29
import Derived.Test.YtkokokgmhpkoiaaM32
import Derived.Test.YtkokokgmhpkoiaaM35
import Derived.Test.YtkokokgmhpkoiaaM44
namespace PB
open Go Go.RowKit
/-- The call returns two canonical Ints. -/
def RetIntInt (w : World) (z1 z2 : Int) (e : Ending) (w' : World) : Prop :=
  ∃ v1 v2, e = .returned (.tuple #[v1, v2]) ∧ IsCan w.heap.size w' v1 z1 ∧ IsCan w.heap.size w' v2 z2 ∧ Below w.heap.size w w'
theorem nl_div_le (X Y : Nat) : nl (X / Y) ≤ nl X := nl_mono (Nat.div_le_self X Y)
theorem nl_mod_le (X Y : Nat) : nl (X % Y) ≤ nl X := nl_mono (Nat.mod_le X Y)
end PB
namespace Go.Proofs.Ytkokokgmhpkoiaa
open Go.RowKit PB

set_option maxHeartbeats 3200000 in
set_option maxRecDepth 100000 in
theorem div_ref (v1 v2 : Value) (z1 z2 : Int) (w : World) (h1 : IsInt w v1 z1) (h2 : IsInt w v2 z2) (hs : nl z1.natAbs ≤ 90000) (hs' : nl z2.natAbs ≤ 90000) (h0 : z2 ≠ 0) :
    Calls Try.prog 86 #[v1, v2] w (RetIntInt w (z1.tdiv z2) (z1.tmod z2)) := by
  obtain ⟨s, base, b, off, n, c, X, rfl, hb, hX, hn, hl, rfl⟩ := h1
  obtain ⟨t, base', b', off', n', c', Y, rfl, hb', hY, hn', hl', rfl⟩ := h2
  rw [sg_natAbs] at hs hs'
  have hY0 : Y ≠ 0 := fun h => h0 (sg_zero.2 h)
  rw [← sg_tdiv, ← sg_tmod]
  obtain ⟨st, hst⟩ : ∃ st, (!(s == t)) = st := ⟨_, rfl⟩
  rw [hst]
  have HB := Lib.hid hb
  have HB' := Lib.hid hb'
  have HD := Lib.hid (fun vx vy W (hx : CanSl W vx X) (hy : CanSl W vy Y) => divmag_ref vx vy X Y W hx hy hs hs' hY0)
  have HQL := Lib.hid (nl_div_le X Y)
  have HRL := Lib.hid (nl_mod_le X Y)
  clear hb hb' h0
  obtain ⟨Q, hQ⟩ : ∃ Q, X / Y = Q := ⟨_, rfl⟩
  obtain ⟨R, hR⟩ : ∃ R, X % Y = R := ⟨_, rfl⟩
  have HDQ : Hid (∀ (W : World) (e : Ending) (w' : World), RetDM W X Y e w' → ∃ vq vr, e = .returned (.tuple #[vq, vr]) ∧ CanSl w' vq Q ∧ CanSl w' vr R ∧ Below W.heap.size W w') := Lib.hid (fun W e w' h => by unfold RetDM at h; rwa [hQ, hR] at h)
  rw [hQ] at HQL ⊢
  rw [hR] at HRL ⊢
  clear hQ hR
  go_enter Try.func86, Try.ntmps86
  go_wp2_with fail
  generalize hW : World.alloc _ _ = W
  have B0 : Blk W w.heap.size #[.bool s, .slice base n c] := by rw [← hW]; exact (((blk_new rfl).alloc _).alloc _).alloc _
  have B1 : Blk W (w.heap.size + 1) #[.bool t, .slice base' n' c'] := by rw [← hW]; exact ((blk_new (by simp)).alloc _).alloc _
  have B2 : Blk W (w.heap.size + 1 + 1) #[.bool false, .slice none 0 0] := by rw [← hW]; exact (blk_new (by simp)).alloc _
  have B3 : Blk W (w.heap.size + 1 + 1 + 1) #[.bool false, .slice none 0 0] := by rw [← hW]; exact blk_new (by simp)
  have hbW : Below w.heap.size w W := by rw [← hW]; exact ((((Below.refl _ _).alloc (Nat.le_refl _) _).alloc (by simp) _).alloc (by simp; omega) _).alloc (by simp; omega) _
  have HS := Lib.hid (show W.heap.size = w.heap.size + 4 by rw [← hW]; simp)
  clear hW
  have HK := Lib.hid (show ∀ w1, Below W.heap.size W w1 → (w1.cell? ⟨w.heap.size, 0, none⟩ = some (.bool s) ∧ w1.cell? ⟨w.heap.size, 1, none⟩ = some (.slice base n c)) ∧ (w1.cell? ⟨w.heap.size + 1, 0, none⟩ = some (.bool t) ∧ w1.cell? ⟨w.heap.size + 1, 1, none⟩ = some (.slice base' n' c')) from
    fun w1 h => ⟨Blk2 (B0.kept h), Blk2 (B1.kept h)⟩)
  have HL := Lib.hid (show ∀ w3, Below W.heap.size W w3 → Blk w3 (w.heap.size + 1 + 1) #[.bool false, .slice none 0 0] ∧ Blk w3 (w.heap.size + 1 + 1 + 1) #[.bool false, .slice none 0 0] from fun w3 h => ⟨B2.kept h, B3.kept h⟩)
  obtain ⟨⟨a0, a1⟩, b0, b1⟩ := HK.out _ (Below.refl _ _)
  have HXW := Lib.hid (fun W1 (h : Below W.heap.size W W1) => (hX.kept hbW).kept h)
  have HYW := Lib.hid (fun W1 (h : Below W.heap.size W W1) => (hY.kept hbW).kept h)
  have HBW := Lib.hid hbW
  clear B0 B1 B2 B3 hbW
  go_region_held3 (fun w' => (w'.cell? ⟨w.heap.size, 0, none⟩ = some (.bool s) ∧ w'.cell? ⟨w.heap.size, 1, none⟩ = some (.slice base n c)) ∧ (w'.cell? ⟨w.heap.size + 1, 0, none⟩ = some (.bool t) ∧ w'.cell? ⟨w.heap.size + 1, 1, none⟩ = some (.slice base' n' c')))
    (first | exact ⟨⟨a0, a1⟩, b0, b1⟩ | exact HK.out _ hq3 | exact HK.out _ hq2 | exact HK.out _ hq1)
    (first
      | (go_at_call_of 91 (Value.slice base n c); refine (mag_any base b off n c X _ HB.out (HXW.out _ (by first | exact Below.refl _ _ | exact (Below.refl _ _).drew)) hn hl).mono ?_; rintro e w1 ⟨v1, rfl, hown1, hb1⟩
         have hq1 : Below W.heap.size W w1 := (by first | exact hb1 | exact below_undrew hb1)
         have HC1 := Lib.hid (cansl_own hown1)
         clear hown1)
      | (go_at_call_of 91 (Value.slice base' n' c'); refine (mag_any base' b' off' n' c' Y _ HB'.out (HYW.out _ (by exact hq1)) hn' hl').mono ?_; rintro e w2 ⟨v2, rfl, hown2, hb2⟩
         have hq2 : Below W.heap.size W w2 := hq1.trans (hb2.mono hq1.size)
         have HC2 := Lib.hid (cansl_own hown2)
         have HC3 := Lib.hid (HC1.out.kept hb2)
         clear hown2)
      | (go_at_call 129; refine (HD.out _ _ _ (by exact HC3.out) (by exact HC2.out)).mono ?_; intro e w3 hret; obtain ⟨vq, vr, rfl, hq, hr, hb3⟩ := HDQ.out _ _ _ hret; clear hret
         have hq3 : Below W.heap.size W w3 := hq2.trans ((by first | exact hb3.mono hq2.size | exact (below_undrew hb3).mono hq2.size))))
  obtain ⟨qb, qg, qo, qc, rfl, hQ1, hQ2, hQ3⟩ := hq
  obtain ⟨rb, rg, ro, rc, rfl, hR1, hR2, hR3⟩ := hr
  have HQ1 := Lib.hid hQ1
  have HR1 := Lib.hid hR1
  obtain ⟨⟨a0, a1⟩, b0, b1⟩ := HK.out _ hq3
  have HM := Lib.hid hq3.size
  have HK' := Lib.hid (fun w4 (h : Below w3.heap.size w3 w4) => HK.out w4 (hq3.trans (h.mono hq3.size)))
  have HL' := Lib.hid (fun w4 (h : Below w3.heap.size w3 w4) => HL.out w4 (hq3.trans (h.mono hq3.size)))
  have HB3 := Lib.hid (HBW.out.trans (hq3.mono (by have := HS.out; omega)))
  have HR2 := Lib.hid (fun w4 (h : Below w3.heap.size w3 w4) => hR2.kept h)
  have HST := Lib.hid (show ∀ (w4 : World) (g j : Nat) (u : Value), ((w4.cell? ⟨w.heap.size, 0, none⟩ = some (.bool s) ∧ w4.cell? ⟨w.heap.size, 1, none⟩ = some (.slice base n c)) ∧ (w4.cell? ⟨w.heap.size + 1, 0, none⟩ = some (.bool t) ∧ w4.cell? ⟨w.heap.size + 1, 1, none⟩ = some (.slice base' n' c'))) → w.heap.size + 1 < g → (((w4.setCell ⟨g, j, none⟩ u).cell? ⟨w.heap.size, 0, none⟩ = some (.bool s) ∧ (w4.setCell ⟨g, j, none⟩ u).cell? ⟨w.heap.size, 1, none⟩ = some (.slice base n c)) ∧ ((w4.setCell ⟨g, j, none⟩ u).cell? ⟨w.heap.size + 1, 0, none⟩ = some (.bool t) ∧ (w4.setCell ⟨g, j, none⟩ u).cell? ⟨w.heap.size + 1, 1, none⟩ = some (.slice base' n' c'))) from
    fun w4 g j u h hg => ⟨⟨cell_other h.1.1 (show w.heap.size ≠ g by omega), cell_other h.1.2 (show w.heap.size ≠ g by omega)⟩, cell_other h.2.1 (show w.heap.size + 1 ≠ g by omega), cell_other h.2.2 (show w.heap.size + 1 ≠ g by omega)⟩)
  clear hq3 hb3 hq2 hb2 hq1 hb1 HC1 HC2 HC3 HK HL HXW HYW HD HDQ HB HB' hX hY hQ1 hR1 hR2
  go_wp2_with fail
  go_region_held3 (fun w' => (w'.cell? ⟨w.heap.size, 0, none⟩ = some (.bool s) ∧ w'.cell? ⟨w.heap.size, 1, none⟩ = some (.slice base n c)) ∧ (w'.cell? ⟨w.heap.size + 1, 0, none⟩ = some (.bool t) ∧ w'.cell? ⟨w.heap.size + 1, 1, none⟩ = some (.slice base' n' c')))
    (first | exact ⟨⟨a0, a1⟩, b0, b1⟩ | exact HK'.out _ hk4 | exact HK'.out _ hk3 | exact HST.out _ _ _ _ (HST.out _ _ _ _ (HK'.out _ hk4) (by omega)) (by omega) | exact HST.out _ _ _ _ (HST.out _ _ _ _ (HST.out _ _ _ _ (HST.out _ _ _ _ (HK'.out _ hk4) (by omega)) (by omega)) (by omega)) (by omega))
    (first
      | (go_at_call_of 90 (Value.slice qb (nl Q) qc); refine (make1_any st qb qg qo (nl Q) qc Q _ HQ1.out (by exact hQ2) hQ3 (by have := HQL.out; omega)).mono ?_; rintro e w4 ⟨u1, rfl, hcan1, hb4⟩
         have hk3 : Below w3.heap.size w3 w4 := (by first | exact hb4 | exact below_undrew hb4)
         obtain ⟨s1, p1, m1, rfl⟩ := can_agg hcan1
         have HV1 := Lib.hid (hcan1.mono (show w3.heap.size ≤ _ from Nat.le_refl _))
         clear hcan1)
      | (go_at_call_of 90 (Value.slice rb (nl R) rc); refine (make1_any s rb rg ro (nl R) rc R _ HR1.out (HR2.out _ hk3) hR3 (by have := HRL.out; omega)).mono ?_; rintro e w5 ⟨u2, rfl, hcan2, hb5⟩
         have hk4 : Below w3.heap.size w3 w5 := hk3.trans (hb5.mono hk3.size)
         obtain ⟨s2, p2, m2, rfl⟩ := can_agg hcan2
         have HV2 := Lib.hid (hcan2.mono (show w3.heap.size ≤ _ from hk3.size))
         have HV3 := Lib.hid (HV1.out.kept hb5)
         clear hcan2
         obtain ⟨c0, c1⟩ := Blk2 (HL'.out _ hk4).1
         obtain ⟨f0, f1⟩ := Blk2f (HL'.out _ hk4).1
         obtain ⟨d0, d1⟩ := Blk2 (HL'.out _ hk4).2
         obtain ⟨g0, g1⟩ := Blk2f (HL'.out _ hk4).2))
  go_wp2_with fail
  have h1 := HS.out
  have h2 := HM.out
  refine bodyPost_ret (v := .tuple #[.agg #[.bool s1, .slice p1 (nl (sg st Q).natAbs) m1], .agg #[.bool s2, .slice p2 (nl (sg s R).natAbs) m2]]) (by simp [results, Try.results86, go_sem, c0, c1, d0, d1]) rfl ⟨_, _, rfl, ?_, ?_, ?_⟩
  · exact ((((HV3.out.set (by show w.heap.size + 1 + 1 < w3.heap.size; omega) _).set (by show w.heap.size + 1 + 1 < w3.heap.size; omega) _).set (by show w.heap.size + 1 + 1 + 1 < w3.heap.size; omega) _).set (by show w.heap.size + 1 + 1 + 1 < w3.heap.size; omega) _).mono (by omega)
  · exact ((((HV2.out.set (by show w.heap.size + 1 + 1 < w3.heap.size; omega) _).set (by show w.heap.size + 1 + 1 < w3.heap.size; omega) _).set (by show w.heap.size + 1 + 1 + 1 < w3.heap.size; omega) _).set (by show w.heap.size + 1 + 1 + 1 < w3.heap.size; omega) _).mono (by omega)
  · exact ((((HB3.out.trans (hk4.mono (by omega))).setCell (by show w.heap.size ≤ w.heap.size + 1 + 1; omega) _).setCell (by show w.heap.size ≤ w.heap.size + 1 + 1; omega) _).setCell (by show w.heap.size ≤ w.heap.size + 1 + 1 + 1; omega) _).setCell (by show w.heap.size ≤ w.heap.size + 1 + 1 + 1; omega) _
end Go.Proofs.Ytkokokgmhpkoiaa

namespace VB
open Go Go.RowKit PB
theorem nl_i64 {n : Int} (h : I64 n) : nl n.natAbs ≤ 2 := nl_le (by show n.natAbs < 18446744073709551616; unfold I64 at h; omega)
/-- One limb more of a word that wraps around. -/
theorem limb_word (u x : Nat) (hx : x < 4294967296) : bits BinOp.or IntKind.u64 (IntKind.u64.wrap ((u : Int) * 4294967296)) (x : Int) = ((u * 4294967296 % 18446744073709551616 + x : Nat) : Int) := by
  have e : IntKind.u64.wrap ((u : Int) * 4294967296) = ((u * 4294967296 % 18446744073709551616 : Nat) : Int) := by rw [IntKind.wrap_u64]; omega
  rw [e, u64_or_nat _ _ (by omega) (by omega), nat_join 32 _ _ (by omega) hx]
theorem limb_next (X j : Nat) : X / B^(j+1) % 18446744073709551616 * 4294967296 % 18446744073709551616 + dg X j = X / B^j % 18446744073709551616 := by
  have h := div_succ X j
  have hd := dg_lt' X j
  unfold B at h
  have hB : B^(j+1) = 4294967296^(j+1) := rfl
  have hB' : B^j = 4294967296^j := rfl
  rw [hB, hB', h]
  generalize X / 4294967296^(j+1) = A at *
  omega
def numOk (z : Int) : Prop := -9223372036854775808 ≤ z ∧ z ≤ 9223372036854775807
instance (z : Int) : Decidable (numOk z) := by unfold numOk; exact inferInstance
def numV (z : Int) : Int := if numOk z then z else 0
end VB
namespace Go.Proofs.Ytkokokgmhpkoiaa
open Go.RowKit PB VB
set_option maxHeartbeats 4000000 in
set_option maxRecDepth 100000 in
theorem number_can (s0 : Bool) (q0 : Option Addr) (n0 c0 : Nat) (z : Int) (w : World) (h : IsInt w (.agg #[.bool s0, .slice q0 n0 c0]) z) :
    Calls Try.prog 102 #[.agg #[.bool s0, .slice q0 n0 c0]] w fun e w' => e = .returned (.tuple #[.int .i64 (numV z), .bool (decide (numOk z))]) ∧ Below w.heap.size w w' := by
  have HT := Lib.hid (fun W (hW : Below w.heap.size w W) => trim_ref _ z W (h.kept hW))
  clear h
  go_enter Try.func102, Try.ntmps102
  go_wp2_with fail
  refine (HT.out _ ((Below.refl _ _).alloc (Nat.le_refl _) _)).mono ?_
  rintro e w1 ⟨v1, rfl, hc, hb⟩
  obtain ⟨s, base, b, off, X, c, rfl, hp, hX, hcap, hl9, hz, hs0, hge⟩ := hc
  have q1 := in1 hb
  have hX2 := hX.kept ((Below.refl _ _).alloc (Nat.le_refl w1.heap.size) (.cells #[.bool s, .slice base (nl X) c] 24))
  have T2 : Blk (w1.alloc (.cells #[.bool s, .slice base (nl X) c] 24)) w1.heap.size #[.bool s, .slice base (nl X) c] := blk_new rfl
  have q2 : Below w.heap.size w (w1.alloc (.cells #[.bool s, .slice base (nl X) c] 24)) := next q1 ((Below.refl _ _).alloc (Nat.le_refl _) _)
  have HX := Lib.hid hX2
  have HP := Lib.hid hp
  have HZ := Lib.hid hz
  have HQ := Lib.hid q2
  have HS0 := Lib.hid hs0
  clear hb hp hX hX2 hz q1 q2 HT hge hs0
  go_wp2_with fail
  generalize World.alloc w1 _ = W at *
  obtain ⟨t, ht⟩ : ∃ t, w1.heap.size = t := ⟨_, rfl⟩
  rw [ht] at T2 ⊢
  clear ht
  obtain ⟨c0', c1'⟩ := Blk2 T2
  have HN := Lib.hid (show nl X = nl X from rfl)
  obtain ⟨n, hn⟩ : ∃ n, nl X = n := ⟨_, rfl⟩
  rw [hn] at c1' HX HP hcap hl9 ⊢
  have HNN := Lib.hid hn
  clear hn HN T2
  go_loop [5, 6] (fun u i => ∃ k : Nat, k ≤ n ∧ i = .int .i64 ((k : Int) - 1) ∧ u = .int .u64 ((X / B^k % 18446744073709551616 : Nat) : Int)) (fun _ i => (intOf i + 1).toNat)
  case atStart => exact ⟨n, Nat.le_refl _, rfl, congrArg (Value.int .u64) (by
      have h1 : X < B^n := by rw [← HNN.out]; exact lt_nl X
      rw [Nat.div_eq_of_lt h1]; rfl)⟩
  case round =>
    obtain ⟨k, hk, rfl, rfl⟩ := hrel
    cases k with
    | zero =>
      have hu : ((X / B^0 % 18446744073709551616 : Nat) : Int) = ((X % 18446744073709551616 : Nat) : Int) := by rw [Nat.pow_zero, Nat.div_one]
      rw [hu]
      clear hu
      have e0 : ((0 : Nat) : Int) - 1 = -1 := by decide
      rw [e0]
      clear e0
      by_cases h2 : 2 < n
      · have hbig : 18446744073709551616 ≤ X := by
          have : 2 < nl X := by rw [HNN.out]; exact h2
          apply Nat.le_of_not_lt; intro hlt
          have : nl X ≤ 2 := nl_le (show X < B^2 from hlt)
          omega
        have E : Hid (numV z = 0 ∧ decide (numOk z) = false) := by
          have hno : ¬ numOk z := by
            rw [HZ.out]; unfold numOk sg; cases s <;> simp <;> omega
          unfold numV; rw [if_neg hno]; exact Lib.hid ⟨rfl, decide_eq_false hno⟩
        clear hbig
        generalize X % 18446744073709551616 = u at *
        go_wp2_with fail
        go_ret2
        exact nbret E.out.1.symm E.out.2.symm HQ.out
      · have hsm : X < 18446744073709551616 := by
          have h3 := lt_nl X
          rw [HNN.out] at h3
          exact Nat.lt_of_lt_of_le h3 (pow_le (show n ≤ 2 by omega))
        rw [Nat.mod_eq_of_lt hsm]
        have hx1 : (X : Int) ≤ 18446744073709551615 := by omega
        cases s with
        | true =>
          have hz : z = -(X : Int) := by rw [HZ.out]; rfl
          by_cases h3 : X ≤ 9223372036854775808
          · have hok : numOk z := by unfold numOk; omega
            have E1 := Lib.hid (show wrap64 (IntKind.u64.wrap (-(X : Int))) = numV z by
              unfold numV; rw [if_pos hok, hz, IntKind.wrap_u64]; unfold wrap64; omega)
            have E2 := Lib.hid (decide_eq_true hok)
            have i1 : (X : Int) ≤ 9223372036854775808 := by omega
            clear hok hz h3 hsm
            go_wp2_with fail
            go_ret2
            exact nbret E1.out E2.out.symm HQ.out
          · have hno : ¬ numOk z := by unfold numOk; omega
            have E1 := Lib.hid (show (0 : Int) = numV z by unfold numV; rw [if_neg hno])
            have E2 := Lib.hid (decide_eq_false hno)
            have i1 : ¬ (X : Int) ≤ 9223372036854775808 := by omega
            clear hno hz h3 hsm
            go_wp2_with fail
            go_ret2
            exact nbret E1.out E2.out.symm HQ.out
        | false =>
          have hz : z = (X : Int) := by rw [HZ.out]; rfl
          by_cases h3 : X < 9223372036854775808
          · have hok : numOk z := by unfold numOk; omega
            have E1 := Lib.hid (show (X : Int) = numV z by unfold numV; rw [if_pos hok, hz])
            have E2 := Lib.hid (decide_eq_true hok)
            have i1 : (X : Int) < 9223372036854775808 := by omega
            have i0 : (0 : Int) ≤ (X : Int) := by omega
            clear hok hz h3 hsm
            clear HNN HX HP HZ HS0
            generalize (X : Int) = x at *
            go_wp2_with fail
            go_ret2
            exact nbret E1.out E2.out.symm HQ.out
          · have hno : ¬ numOk z := by unfold numOk; omega
            have E1 := Lib.hid (show (0 : Int) = numV z by unfold numV; rw [if_neg hno])
            have E2 := Lib.hid (decide_eq_false hno)
            have i1 : ¬ (X : Int) < 9223372036854775808 := by omega
            have i0 : (0 : Int) ≤ (X : Int) := by omega
            clear hno hz h3 hsm
            clear HNN HX HP HZ HS0
            generalize (X : Int) = x at *
            go_wp2_with fail
            go_ret2
            exact nbret E1.out E2.out.symm HQ.out
    | succ j =>
      obtain rfl := HP.out (by omega)
      have e0 : (((j + 1 : Nat) : Int) - 1) = (j : Int) := by omega
      rw [e0]
      clear e0
      have hcell := HX.out.cell (i := j) (by omega)
      have hd := dg_lt' X j
      have hnx := limb_next X j
      have hlw := limb_word (X / B^(j+1) % 18446744073709551616) (dg X j) hd
      rw [hnx] at hlw
      have g1 : ((X / B^(j+1) % 18446744073709551616 : Nat) : Int) ≤ 18446744073709551615 := by have := Nat.mod_lt (X / B^(j+1)) (show 0 < 18446744073709551616 by decide); omega
      have HNX := Lib.hid (show ((X / B^j % 18446744073709551616 : Nat) : Int) = ((X / B^j % 18446744073709551616 : Nat) : Int) from rfl)
      obtain ⟨u', hu'⟩ : ∃ u', X / B^j % 18446744073709551616 = u' := ⟨_, rfl⟩
      rw [hu'] at hlw
      have HU := Lib.hid hu'
      clear hu' hnx HNX
      generalize X / B^(j+1) % 18446744073709551616 = u at *
      have g2 : (dg X j : Int) ≤ 4294967295 := by omega
      have hk2 : j < n := by omega
      have HJ := Lib.hid (show j ≤ n by omega)
      generalize dg X j = d at *
      clear hd hk
      go_wp2_with fail
      go_round
      case rel => exact ⟨j, HJ.out, rfl, by rw [HU.out]⟩
      case measure => simp [intOf]
end Go.Proofs.Ytkokokgmhpkoiaa
