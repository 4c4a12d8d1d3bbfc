/-
  integer.Gcd, where one of the numbers has at most one limb.
-/
import Derived.Test.YtmfimkndonlheaaM09
namespace PB
theorem dg0_small {X : Nat} (h : nl X ≤ 1) : dg X 0 = X := by
  have := lt_nl X
  have h2 : X < B := Nat.lt_of_lt_of_le this (by have := pow_le h; rwa [Nat.pow_one] at this)
  unfold dg; rw [Nat.pow_zero, Nat.div_one, Nat.mod_eq_of_lt h2]
theorem small_lt {X : Nat} (h : nl X ≤ 1) : X < B := by
  have := pow_le h; rw [Nat.pow_one] at this
  exact Nat.lt_of_lt_of_le (lt_nl X) this
open Go Go.RowKit in
/-- What common returns. -/
def RetCom (w : World) (G lim : Nat) (e : Ending) (w' : World) : Prop :=
  ∃ v, e = .returned v ∧ SlN w.heap.size w' v G lim ∧ Below w.heap.size w w'
end PB
namespace Go.Proofs.Ytmfimkndonlheaa
open Go.RowKit PB

set_option maxHeartbeats 1600000 in
set_option maxRecDepth 100000 in
theorem head_small (base : Option Addr) (b off X c : Nat) (w : World) (hb : nl X ≠ 0 → base = some ⟨b, off, none⟩) (hX : Num w b off (nl X) X) (hs : nl X ≤ 1) :
    Calls Try.prog 84 #[.slice base (nl X) c, .int .i64 0] w fun e w' => e = .returned (.int .u64 X) ∧ w = w' := by
  have hB := small_lt hs
  unfold B at hB
  by_cases h0 : nl X = 0
  · have hx := nl_eq_zero.1 h0
    subst hx
    rw [nl_zero]
    go_enter Try.func84, Try.ntmps84
    go_wp2
    go_ret
    exact ⟨rfl, rfl⟩
  · have h1 : nl X = 1 := by omega
    obtain rfl := hb h0
    have c1 := hX.cell (i := 0) (by omega)
    rw [dg0_small hs, Nat.add_zero] at c1
    rw [h1]
    clear hX hb h0 h1 hs
    go_enter Try.func84, Try.ntmps84
    go_wp2_with fail
    go_loop [7, 8] (fun h i => h = .int .u64 X ∧ i = .int .i64 1) (fun _ _ => 0)
    case atStart => exact ⟨rfl, rfl⟩
    case round =>
      obtain ⟨rfl, rfl⟩ := hrel
      go_wp2
      go_ret
      exact ⟨rfl, rfl⟩

set_option maxHeartbeats 3200000 in
set_option maxRecDepth 100000 in
theorem common_ge (basex basey : Option Addr) (bx ox X cx by_ oy Y cy : Nat) (w : World) (hbx : nl X ≠ 0 → basex = some ⟨bx, ox, none⟩) (hby : nl Y ≠ 0 → basey = some ⟨by_, oy, none⟩)
    (hX : Num w bx ox (nl X) X) (hY : Num w by_ oy (nl Y) Y) (hc : nl X ≤ 1000000000) (hcx : nl X ≤ cx) (hY1 : nl Y ≤ 1) (hle : Y ≤ X) :
    Calls Try.prog 53 #[.slice basex (nl X) cx, .slice basey (nl Y) cy] w (fun e w' => ∃ base c b off n, e = .returned (.slice base n c) ∧ (n ≠ 0 → base = some ⟨b, off, none⟩) ∧ Num w' b off n (Nat.gcd X Y) ∧ n ≤ c ∧ n ≤ 1000000000 ∧ (n ≠ 0 → b = bx ∨ w.heap.size ≤ b) ∧ Below w.heap.size w w') := by
  have hcm : ¬ cmpi (X : Int) Y < 0 := by unfold cmpi; rw [if_neg (by omega)]; split <;> decide
  have i1 : ¬ (2 : Int) < nl Y := by omega
  have HBX := Lib.hid hbx
  have HBY := Lib.hid hby
  by_cases h0 : nl Y = 0
  · have hy := nl_eq_zero.1 h0
    have hG : Nat.gcd X Y = X := by rw [hy]; exact Nat.gcd_zero_right _
    rw [hG]
    have h0' : ((nl Y : Int) == 0) = true := by rw [h0]; rfl
    clear hy hG hbx hby h0 hle
    go_enter Try.func53, Try.ntmps53
    go_wp2_with (go_at_call 69; refine (order_any basex basey bx ox X _ by_ oy Y _ _ HBX.out HBY.out hX hY (by omega) (by omega)).mono ?_; rintro e w' ⟨rfl, n1, rfl⟩)
    go_loopw [0, 1] (fun a b wr => a = .slice basex (nl X) cx ∧ b = .slice basey (nl Y) cy ∧ wr = w.drewN n1) (fun _ _ _ => 0)
    case atStart => exact ⟨rfl, rfl, rfl⟩
    case round =>
      obtain ⟨rfl, rfl, rfl⟩ := hrel
      go_wp2_with fail
      go_ret
      exact ⟨basex, cx, bx, ox, nl X, rfl, HBX.out, hX, hcx, hc, fun _ => Or.inl rfl, below_drewN (Below.refl _ _) _⟩
  · have hY1' : nl Y = 1 := by omega
    obtain rfl := hby h0
    have h0' : ((nl Y : Int) == 0) = false := by simp; omega
    have hYB := small_lt hY1
    have hY0 : 0 < Y := by
      apply Nat.pos_of_ne_zero
      rintro rfl
      rw [nl_zero] at hY1'; omega
    have HD := Lib.hid (fun n1 => divide_one basex bx ox X cx by_ oy Y cy (w.drewN n1) hbx hX.drewN hY.drewN hc hY1' hle)
    have HH := Lib.hid (fun W (h : Below w.heap.size w W) c => head_small (some ⟨by_, oy, none⟩) by_ oy Y c W (fun _ => rfl) (hY.kept h) hY1)
    have hmod : X % Y < Y := Nat.mod_lt _ hY0
    have hR1 : nl (X % Y) ≤ 1 := nl_le (by rw [Nat.pow_one]; omega)
    clear hbx hby h0 hY1'
    go_enter Try.func53, Try.ntmps53
    go_wp2_with (go_at_call 69; refine (order_any basex _ bx ox X _ by_ oy Y _ _ HBX.out HBY.out hX hY (by omega) (by omega)).mono ?_; rintro e w' ⟨rfl, n1, rfl⟩)
    go_loopw [0, 1] (fun a b wr => a = .slice basex (nl X) cx ∧ b = .slice (some ⟨by_, oy, none⟩) (nl Y) cy ∧ wr = w.drewN n1) (fun _ _ _ => 0)
    case atStart => exact ⟨rfl, rfl, rfl⟩
    case round =>
      obtain ⟨rfl, rfl, rfl⟩ := hrel
      go_wp2_with fail
      refine (HD.out n1).mono ?_
      rintro e w1 ⟨vq, vr, rfl, ⟨qb, qg, qo, qn, qc, rfl, hq1, hq2, hq3, hq4, hq5⟩, ⟨rb, rg, ro, rn, rc, rfl, hr1, hr2, hr3, hr4, hr5, _⟩, hb1⟩
      have hb1' : Below w.heap.size w w1 := below_undrewN hb1
      have HR1 := Lib.hid hr1
      have hRle := nl_le hr2.lt
      clear hq1 hq2 hq3 hq4 hq5 hr1 hr5
      go_wp2_with (first
        | (go_at_call 51; refine (cut_any rb rg ro rn rc (X % Y) _ HR1.out (by exact hr2) hr3 (by omega)).mono ?_; rintro e w' ⟨rfl, rfl⟩)
        | (go_at_call_of 84 (Value.slice (some ⟨by_, oy, none⟩) (nl Y) cy); refine (HH.out _ (by exact hb1') _).mono ?_; rintro e w' ⟨rfl, rfl⟩)
        | (go_at_call 84; refine (head_small rb rg ro (X % Y) _ _ (fun h => HR1.out (by omega)) (by exact hr2.fewer hRle (lt_nl _)) hR1).mono ?_; rintro e w' ⟨rfl, rfl⟩))
      clear hr2 hRle HR1 hr3 hr4
      go_loopw [10, 11] (fun a b wr => ∃ m n k : Nat, m < 4294967296 ∧ n < 4294967296 ∧ a = .int .u64 m ∧ b = .int .u64 n ∧ Hid (Nat.gcd m n = Nat.gcd X Y) ∧ wr = w1.drewN k) (fun _ b _ => (intOf b).toNat)
      case atStart => exact ⟨Y, X % Y, 0, hYB, Nat.lt_trans hmod hYB, rfl, rfl, Lib.hid (by rw [Nat.gcd_comm X Y, Nat.gcd_rec Y X, Nat.gcd_comm]), rfl⟩
      case round =>
        obtain ⟨m, n, k, hm, hn, rfl, rfl, hG, rfl⟩ := hrel
        by_cases hn0 : n = 0
        · have hm2 : m = Nat.gcd X Y := by have := hG.out; rwa [hn0, Nat.gcd_zero_right] at this
          have ht : ((n : Int) != 0) = false := by simp [hn0]
          clear hn0
          have e1 : (m : Int) % 4294967296 = m := by omega
          have e2 : (m : Int) / 4294967296 = 0 := by omega
          have HM := Lib.hid hm2
          clear hm2 hG
          go_wp2_with fail
          go_ret
          refine ⟨_, 2, w1.heap.size, 0, 2, rfl, fun _ => rfl, ?_, Nat.le_refl _, by omega, fun _ => Or.inr hb1'.size, ?_⟩
          · rw [← HM.out]
            refine ⟨by have : m < 18446744073709551616 := (by omega); exact this, fun i hi => ?_⟩
            have : i = 0 ∨ i = 1 := by omega
            rcases this with rfl | rfl
            · rw [show dg m 0 = m by unfold dg B; rw [Nat.pow_zero, Nat.div_one, Nat.mod_eq_of_lt hm]]
              exact cell_new _ _ _ _ _ _ rfl rfl
            · rw [show dg m 1 = 0 by unfold dg B; rw [Nat.pow_one, Nat.div_eq_of_lt hm]]
              exact cell_new _ _ _ _ _ _ rfl rfl
          · exact below_drewN (hb1'.alloc hb1'.size _) _
        · have ht : ((n : Int) != 0) = true := by simp; omega
          have hnp : (0 : Int) < n := by omega
          have hlt := Nat.mod_lt m (show 0 < n by omega)
          have hG2 := Lib.hid (show Nat.gcd n (m % n) = Nat.gcd X Y by rw [← hG.out, Nat.gcd_comm m n, Nat.gcd_rec n m, Nat.gcd_comm])
          go_wp2_with fail
          go_quiet (fail)
          go_wp2_with fail
          go_roundw
          case rel => exact ⟨n, m % n, _, hn, by omega, rfl, rfl, hG2, by rw [World.drewN_drewN]⟩
          case measure => simp [intOf]; omega
set_option maxHeartbeats 3200000 in
set_option maxRecDepth 100000 in
theorem common_lt (basex basey : Option Addr) (bx ox X cx by_ oy Y cy : Nat) (w : World) (hbx : nl X ≠ 0 → basex = some ⟨bx, ox, none⟩) (hby : nl Y ≠ 0 → basey = some ⟨by_, oy, none⟩)
    (hX : Num w bx ox (nl X) X) (hY : Num w by_ oy (nl Y) Y) (hc : nl X ≤ 1000000000) (hcx : nl X ≤ cx) (hY1 : nl Y ≤ 1) (hlt : Y < X) :
    Calls Try.prog 53 #[.slice basey (nl Y) cy, .slice basex (nl X) cx] w (fun e w' => ∃ base c b off n, e = .returned (.slice base n c) ∧ (n ≠ 0 → base = some ⟨b, off, none⟩) ∧ Num w' b off n (Nat.gcd X Y) ∧ n ≤ c ∧ n ≤ 1000000000 ∧ (n ≠ 0 → b = bx ∨ w.heap.size ≤ b) ∧ Below w.heap.size w w') := by
  have hle : Y ≤ X := Nat.le_of_lt hlt
  have hcm : cmpi (Y : Int) X < 0 := by unfold cmpi; rw [if_pos (by omega)]; decide
  have i1 : ¬ (2 : Int) < nl Y := by omega
  have HBX := Lib.hid hbx
  have HBY := Lib.hid hby
  by_cases h0 : nl Y = 0
  · have hy := nl_eq_zero.1 h0
    have hG : Nat.gcd X Y = X := by rw [hy]; exact Nat.gcd_zero_right _
    rw [hG]
    have h0' : ((nl Y : Int) == 0) = true := by rw [h0]; rfl
    clear hy hG hbx hby h0 hle
    go_enter Try.func53, Try.ntmps53
    go_wp2_with (go_at_call 69; refine (order_any basey basex by_ oy Y _ bx ox X _ _ HBY.out HBX.out hY hX (by omega) (by omega)).mono ?_; rintro e w' ⟨rfl, n1, rfl⟩)
    go_loopw [0, 1] (fun a b wr => a = .slice basex (nl X) cx ∧ b = .slice basey (nl Y) cy ∧ wr = w.drewN n1) (fun _ _ _ => 0)
    case atStart => exact ⟨rfl, rfl, rfl⟩
    case round =>
      obtain ⟨rfl, rfl, rfl⟩ := hrel
      go_wp2_with fail
      go_ret
      exact ⟨basex, cx, bx, ox, nl X, rfl, HBX.out, hX, hcx, hc, fun _ => Or.inl rfl, below_drewN (Below.refl _ _) _⟩
  · have hY1' : nl Y = 1 := by omega
    obtain rfl := hby h0
    have h0' : ((nl Y : Int) == 0) = false := by simp; omega
    have hYB := small_lt hY1
    have hY0 : 0 < Y := by
      apply Nat.pos_of_ne_zero
      rintro rfl
      rw [nl_zero] at hY1'; omega
    have HD := Lib.hid (fun n1 => divide_one basex bx ox X cx by_ oy Y cy (w.drewN n1) hbx hX.drewN hY.drewN hc hY1' hle)
    have HH := Lib.hid (fun W (h : Below w.heap.size w W) c => head_small (some ⟨by_, oy, none⟩) by_ oy Y c W (fun _ => rfl) (hY.kept h) hY1)
    have hmod : X % Y < Y := Nat.mod_lt _ hY0
    have hR1 : nl (X % Y) ≤ 1 := nl_le (by rw [Nat.pow_one]; omega)
    clear hbx hby h0 hY1' hlt
    go_enter Try.func53, Try.ntmps53
    go_wp2_with (go_at_call 69; refine (order_any _ basex by_ oy Y _ bx ox X _ _ HBY.out HBX.out hY hX (by omega) (by omega)).mono ?_; rintro e w' ⟨rfl, n1, rfl⟩)
    go_loopw [0, 1] (fun a b wr => a = .slice basex (nl X) cx ∧ b = .slice (some ⟨by_, oy, none⟩) (nl Y) cy ∧ wr = w.drewN n1) (fun _ _ _ => 0)
    case atStart => exact ⟨rfl, rfl, rfl⟩
    case round =>
      obtain ⟨rfl, rfl, rfl⟩ := hrel
      go_wp2_with fail
      refine (HD.out n1).mono ?_
      rintro e w1 ⟨vq, vr, rfl, ⟨qb, qg, qo, qn, qc, rfl, hq1, hq2, hq3, hq4, hq5⟩, ⟨rb, rg, ro, rn, rc, rfl, hr1, hr2, hr3, hr4, hr5, _⟩, hb1⟩
      have hb1' : Below w.heap.size w w1 := below_undrewN hb1
      have HR1 := Lib.hid hr1
      have hRle := nl_le hr2.lt
      clear hq1 hq2 hq3 hq4 hq5 hr1 hr5
      go_wp2_with (first
        | (go_at_call 51; refine (cut_any rb rg ro rn rc (X % Y) _ HR1.out (by exact hr2) hr3 (by omega)).mono ?_; rintro e w' ⟨rfl, rfl⟩)
        | (go_at_call_of 84 (Value.slice (some ⟨by_, oy, none⟩) (nl Y) cy); refine (HH.out _ (by exact hb1') _).mono ?_; rintro e w' ⟨rfl, rfl⟩)
        | (go_at_call 84; refine (head_small rb rg ro (X % Y) _ _ (fun h => HR1.out (by omega)) (by exact hr2.fewer hRle (lt_nl _)) hR1).mono ?_; rintro e w' ⟨rfl, rfl⟩))
      clear hr2 hRle HR1 hr3 hr4
      go_loopw [10, 11] (fun a b wr => ∃ m n k : Nat, m < 4294967296 ∧ n < 4294967296 ∧ a = .int .u64 m ∧ b = .int .u64 n ∧ Hid (Nat.gcd m n = Nat.gcd X Y) ∧ wr = w1.drewN k) (fun _ b _ => (intOf b).toNat)
      case atStart => exact ⟨Y, X % Y, 0, hYB, Nat.lt_trans hmod hYB, rfl, rfl, Lib.hid (by rw [Nat.gcd_comm X Y, Nat.gcd_rec Y X, Nat.gcd_comm]), rfl⟩
      case round =>
        obtain ⟨m, n, k, hm, hn, rfl, rfl, hG, rfl⟩ := hrel
        by_cases hn0 : n = 0
        · have hm2 : m = Nat.gcd X Y := by have := hG.out; rwa [hn0, Nat.gcd_zero_right] at this
          have ht : ((n : Int) != 0) = false := by simp [hn0]
          clear hn0
          have e1 : (m : Int) % 4294967296 = m := by omega
          have e2 : (m : Int) / 4294967296 = 0 := by omega
          have HM := Lib.hid hm2
          clear hm2 hG
          go_wp2_with fail
          go_ret
          refine ⟨_, 2, w1.heap.size, 0, 2, rfl, fun _ => rfl, ?_, Nat.le_refl _, by omega, fun _ => Or.inr hb1'.size, ?_⟩
          · rw [← HM.out]
            refine ⟨by have : m < 18446744073709551616 := (by omega); exact this, fun i hi => ?_⟩
            have : i = 0 ∨ i = 1 := by omega
            rcases this with rfl | rfl
            · rw [show dg m 0 = m by unfold dg B; rw [Nat.pow_zero, Nat.div_one, Nat.mod_eq_of_lt hm]]
              exact cell_new _ _ _ _ _ _ rfl rfl
            · rw [show dg m 1 = 0 by unfold dg B; rw [Nat.pow_one, Nat.div_eq_of_lt hm]]
              exact cell_new _ _ _ _ _ _ rfl rfl
          · exact below_drewN (hb1'.alloc hb1'.size _) _
        · have ht : ((n : Int) != 0) = true := by simp; omega
          have hnp : (0 : Int) < n := by omega
          have hlt := Nat.mod_lt m (show 0 < n by omega)
          have hG2 := Lib.hid (show Nat.gcd n (m % n) = Nat.gcd X Y by rw [← hG.out, Nat.gcd_comm m n, Nat.gcd_rec n m, Nat.gcd_comm])
          go_wp2_with fail
          go_quiet (fail)
          go_wp2_with fail
          go_roundw
          case rel => exact ⟨n, m % n, _, hn, by omega, rfl, rfl, hG2, by rw [World.drewN_drewN]⟩
          case measure => simp [intOf]; omega
end Go.Proofs.Ytmfimkndonlheaa
