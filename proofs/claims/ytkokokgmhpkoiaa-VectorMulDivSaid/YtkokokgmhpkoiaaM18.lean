/-
  integer.lower: limbs divided by a power of 2, and whether there was a fraction; integer.floor.
  integer.Shift.
-/
import Derived.Test.YtkokokgmhpkoiaaM10
import Derived.Test.YtkokokgmhpkoiaaM11
import Derived.Test.YtkokokgmhpkoiaaM14
namespace PB
open Go Go.RowKit
theorem pow_two {s q p : Nat} (hs : s = 32 * q + p) : 2^s = B^q * 2^p := by
  rw [hs, Nat.pow_add, Nat.pow_mul]; rfl
theorem lower_div {X s q p : Nat} (hs : s = 32 * q + p) : X / 2^s = X / B^q / 2^p := by rw [pow_two hs, Nat.div_div_eq_div_mul]
theorem lower_mod {X s q p : Nat} (hs : s = 32 * q + p) (hp : p < 32) : X % 2^s ≠ 0 ↔ (X % B^q ≠ 0 ∨ dg X q % 2^p ≠ 0) := by
  rw [pow_two hs, Nat.mod_mul]
  have hd : dg X q % 2^p = (X / B^q) % 2^p := by unfold dg; exact Nat.mod_mod_of_dvd _ ⟨2^(32-p), (two_split hp).symm⟩
  rw [hd]
  have h1 := Bp q
  generalize X / B^q % 2^p = y
  generalize X % B^q = x
  constructor
  · intro h
    by_cases hx : x = 0
    · subst hx
      refine Or.inr fun hy => h ?_
      subst hy; simp
    · exact Or.inl hx
  · rintro (h | h) e
    · omega
    · have : 0 < B^q * y := Nat.mul_pos h1 (by omega)
      omega
/-- What lower returns. -/
def RetLow (w : World) (X s : Nat) (e : Ending) (w' : World) : Prop :=
  ∃ vq, e = .returned (.tuple #[vq, .bool (decide (X % 2^s ≠ 0))]) ∧ SlN w.heap.size w' vq (X / 2^s) (nl X) ∧ Below w.heap.size w w'
theorem shl_test {x p : Nat} (hp : p < 32) : ((x : Int) * 2^(32-p) % 4294967296 != 0) = decide (x % 2^p ≠ 0) := by
  have e2 : (x : Int) * 2^(32-p) % 4294967296 = ((x * 2^(32-p) % 4294967296 : Nat) : Int) := by rw [Int.natCast_emod, Int.natCast_mul]; rfl
  have h3 : x * 2^(32-p) % 4294967296 = (x % 2^p) * 2^(32-p) := by rw [show 4294967296 = 2^p * 2^(32-p) from (two_split hp).symm, Nat.mul_mod_mul_right]
  rw [e2, h3]
  have h1 : 0 < 2^(32-p) := Nat.pow_pos (by decide)
  rw [Bool.eq_iff_iff]
  simp only [bne_iff_ne, ne_eq, decide_eq_true_eq]
  constructor
  · intro h hx; apply h; rw [hx]; simp
  · intro h hx
    have h4 : x % 2^p * 2^(32-p) = 0 := by exact_mod_cast hx
    rcases Nat.mul_eq_zero.1 h4 with h5 | h5
    · exact h h5
    · omega
end PB
namespace Go.Proofs.Ytkokokgmhpkoiaa
open Go.RowKit PB

set_option maxHeartbeats 1600000 in
set_option maxRecDepth 100000 in
theorem lower_none (basex : Option Addr) (X cx s q p : Nat) (w : World) (hc : nl X ≤ 1000000000)
    (hs : s = 32 * q + p) (hp : p < 32) (hq : nl X ≤ q) (hsm : s ≤ 1000000000) :
    Calls Try.prog 125 #[.slice basex (nl X) cx, .int .i64 s] w (RetLow w X s) := by
  have e1 : (s : Int) / 32 = q := by omega
  have e2 : (s : Int) % 32 = p := by omega
  have hlt : X < 2^s := by
    rw [pow_two hs]
    have h1 := lt_nl X
    have h2 := pow_le hq
    have h3 : B^q * 1 ≤ B^q * 2^p := Nat.mul_le_mul_left _ (Nat.pow_pos (by decide))
    omega
  have hd : decide (0 < nl X) = decide (X % 2^s ≠ 0) := by
    rw [Nat.mod_eq_of_lt hlt]
    have := nl_eq_zero (X := X)
    apply decide_eq_decide.2; omega
  have HL := Lib.hid hlt
  have HD := Lib.hid hd
  have i1 : (q : Int) ≥ nl X := by omega
  clear hs hlt hd
  go_enter Try.func125, Try.ntmps125
  go_wp2_with fail
  go_ret2
  exact ⟨_, by rw [← HD.out]; rfl, by rw [Nat.div_eq_of_lt HL.out]; exact sln_nil _ _ _, Below.refl _ _⟩

set_option maxHeartbeats 3200000 in
set_option maxRecDepth 100000 in
theorem lower_some (bx ox X cx s q p : Nat) (w : World) (hX : Num w bx ox (nl X) X) (hcx : nl X ≤ cx) (hc : nl X ≤ 1000000000)
    (hs : s = 32 * q + p) (hp : p < 32) (hq : q < nl X) (hsm : s ≤ 1000000000) :
    Calls Try.prog 125 #[.slice (some ⟨bx, ox, none⟩) (nl X) cx, .int .i64 s] w (RetLow w X s) := by
  have e1 : (s : Int) / 32 = q := by omega
  have e2 : (s : Int) % 32 = p := by omega
  have hlow := lower_mod (X := X) hs hp
  have HV := Lib.hid (lower_div (X := X) hs)
  have c1 := hX.cell (i := q) hq
  have hlow2 := hX.low (k := q) (by omega)
  have hhigh := hX.high (k := q) (by omega)
  have i1 : ¬ ((nl X : Int) ≤ q) := by omega
  have i2 : (q : Int) ≤ cx := by omega
  have i3 : (q : Int) < nl X := by omega
  have i4 : ¬ cx = 0 := by omega
  have i5 : ¬ cx = q := by omega
  have i6 : (0 : Int) ≤ q := by omega
  have i7 : (q : Int) ≤ nl X := by omega
  have i8 : (p : Int) < 32 := by omega
  have i9 : (0 : Int) ≤ p := by omega
  have hcases : (¬ nl (X % B^q) = 0 ∧ true = decide (X % 2^s ≠ 0)) ∨
      (nl (X % B^q) = 0 ∧ ((dg X q : Int) * 2^(32-p) % 4294967296 != 0) = decide (X % 2^s ≠ 0)) := by
    rw [shl_test hp]
    have hz := nl_eq_zero (X := X % B^q)
    by_cases h1 : X % B^q = 0
    · refine Or.inr ⟨by omega, decide_eq_decide.2 ⟨fun h => hlow.2 (Or.inr h), fun h => ?_⟩⟩
      rcases hlow.1 h with h4 | h4
      · exact absurd h1 h4
      · exact h4
    · exact Or.inl ⟨by omega, (decide_eq_true (hlow.2 (Or.inl h1))).symm⟩
  clear hlow hs
  rcases hcases with ⟨t1, t3⟩ | ⟨t1, t3⟩
  all_goals
    have T3 := Lib.hid t3
    clear t3
    go_enter Try.func125, Try.ntmps125
    go_wp2_with (first | (go_at_call 75; refine (cut_any (some ⟨bx, ox, none⟩) bx ox q _ (X % B^q) _ (fun _ => rfl) (by exact hlow2) (by omega) (by omega)).mono ?_; rintro e w' ⟨rfl, rfl⟩) | (at_make; refine wpList_make_num _ rfl _ _ 22 rfl 77 info51 Try.underlying22 .i64 .i64 _ _ (nl X - q) rfl rfl (by omega) (by omega) (by omega) ?_))
    intro w1 hb1 hz1 hS1 hF1 hR1
    have HZ := Lib.hid hz1
    clear hz1
    go_wp2_with (with_reducible (show wpList _ _ _ (⟨some 44, _, _, _, _, _⟩ :: _) _ _); refine wpList_copy_num rfl (.tmp 40) (.tmp 43) 22 22 rfl 77 Try.underlying22 size51 _ _ _ _ _ _ rfl rfl w.heap.size 0 (nl X - q) bx (ox + q) (X / B^q) (nl X - q) (by omega) hR1 hS1 (hhigh.kept hb1) (fun _ => rfl) (fun _ => rfl) (by omega) w.heap.size w hb1 (Nat.le_refl _) ?_)
    intro w2 hb2 hlt2 hS2 hF2
    rw [mod_of_lt hhigh.lt] at hS2
    go_wp2_with fail
    refine (sink_any _ w.heap.size 0 (nl X - q) _ (X / B^q) p w2 (fun _ => rfl) hS2 hF2 hp (by omega)).mono ?_
    rintro e w3 ⟨rfl, hS3, hw3⟩
    go_wp2_with fail
    go_ret2
    exact ⟨_, by rw [← T3.out]; rfl, ⟨_, w.heap.size, 0, nl X - q, _, rfl, fun _ => rfl, hS3.val HV.out.symm, Nat.le_refl _, by omega, fun _ => Nat.le_refl _⟩, hb2.trans (hw3.below (Nat.le_refl _))⟩
theorem lower_any (basex : Option Addr) (bx ox X cx s : Nat) (w : World) (hbx : nl X ≠ 0 → basex = some ⟨bx, ox, none⟩) (hX : Num w bx ox (nl X) X) (hcx : nl X ≤ cx) (hc : nl X ≤ 1000000000) (hsm : s ≤ 1000000000) :
    Calls Try.prog 125 #[.slice basex (nl X) cx, .int .i64 s] w (RetLow w X s) := by
  by_cases h : nl X ≤ s / 32
  · exact lower_none basex X cx s (s / 32) (s % 32) w hc (by omega) (by omega) h hsm
  · obtain rfl := hbx (by omega)
    exact lower_some bx ox X cx s (s / 32) (s % 32) w hX hcx hc (by omega) (by omega) (by omega) hsm

set_option maxHeartbeats 3200000 in
set_option maxRecDepth 100000 in
/-- integer.floor: a number divided by a power of 2, rounded down. -/
theorem floor_any (neg : Bool) (basex : Option Addr) (bx ox X cx s : Nat) (w : World) (hbx : nl X ≠ 0 → basex = some ⟨bx, ox, none⟩) (hX : Num w bx ox (nl X) X) (hcx : nl X ≤ cx) (hc : nl X ≤ 100000000) (hsm : s ≤ 1000000000) :
    Calls Try.prog 80 #[.bool neg, .slice basex (nl X) cx, .int .i64 s] w (RetInt w (sg neg (X / 2^s + if neg && decide (X % 2^s ≠ 0) then 1 else 0))) := by
  have LOW := Lib.hid (fun W (h : Below w.heap.size w W) => lower_any basex bx ox X cx s W hbx (hX.kept h) hcx (by omega) hsm)
  obtain ⟨fr, hfr⟩ : ∃ fr, decide (X % 2^s ≠ 0) = fr := ⟨_, rfl⟩
  unfold RetLow at LOW
  rw [hfr] at LOW ⊢
  clear hfr hX hbx
  have hlX : nl (X / 2^s) ≤ nl X := nl_mono (Nat.div_le_self _ _)
  have HF := Lib.hid hlX
  generalize X / 2^s = Y at *
  clear hlX
  by_cases hplus : (neg && fr) = true
  · rw [if_pos hplus]
    rw [Bool.and_eq_true] at hplus
    obtain ⟨rfl, rfl⟩ := hplus
    go_enter Try.func80, Try.ntmps80
    go_wp2_with fail
    generalize hW : World.alloc _ _ = W
    have B0 : Blk W w.heap.size #[.bool false, .slice none 0 0] := by rw [← hW]; exact blk_new rfl
    have hbW : Below w.heap.size w W := by rw [← hW]; exact (Below.refl _ _).alloc (Nat.le_refl _) _
    have HS := Lib.hid (show W.heap.size = w.heap.size + 1 by rw [← hW]; simp)
    clear hW
    refine (LOW.out W hbW).mono ?_
    rintro e w1 ⟨vq, rfl, ⟨qb, qg, qo, qn, qc, rfl, hq1, hq2, hq3, hq4, hq5⟩, hb1⟩
    have HQ1 := Lib.hid hq1
    have HQ5 := Lib.hid hq5
    have B1 := B0.kept hb1
    have hbw1 : Below w.heap.size w w1 := hbW.trans (hb1.mono (by have := HS.out; omega))
    have HS' := Lib.hid (show w.heap.size + 1 ≤ w1.heap.size by have := HS.out; have := hb1.size; omega)
    clear hq1 hq5 B0
    go_wp2_with fail
    generalize hV : World.alloc _ _ = V
    have hbV : Below w1.heap.size w1 V := by rw [← hV]; exact (Below.refl _ _).alloc (Nat.le_refl _) _
    have hOne : Num V w1.heap.size 0 1 1 := ⟨by decide, fun i hi => by
      obtain rfl : i = 0 := by omega
      rw [← hV]; exact cell_new _ _ _ _ _ _ rfl rfl⟩
    have HV := Lib.hid (show V.heap.size = w1.heap.size + 1 by rw [← hV]; simp)
    clear hV
    refine (plus_any qb _ qg qo qn qc Y _ 0 1 1 1 V HQ1.out (fun _ => rfl) (hq2.kept hbV) hOne (by omega) (by omega)).mono ?_
    rintro e w2 ⟨rfl, hF⟩
    have hbw2 : Below w.heap.size w w2 := hbw1.trans ((hbV.trans (hF.below.mono (by have := HV.out; omega))).mono (by have := HS'.out; omega))
    have B2 := (B1.kept hbV).kept hF.below
    have HS2 := Lib.hid (show w.heap.size + 1 ≤ w2.heap.size by have := HS'.out; have := HV.out; have := hF.below.size; omega)
    have hfn := hF.num
    have HG := Lib.hid (show w.heap.size < V.heap.size by have := HS'.out; have := HV.out; omega)
    clear hF hOne B1 hq2
    obtain ⟨g, hg⟩ : ∃ g, V.heap.size = g := ⟨_, rfl⟩
    rw [hg] at hfn HG ⊢
    clear hg HV
    obtain ⟨M, hM⟩ : ∃ M, max qn 1 + 1 = M := ⟨_, rfl⟩
    rw [hM] at hfn ⊢
    have HMx := Lib.hid (show M ≤ 1000000000 by omega)
    clear hM
    go_wp2_with fail
    refine (number_any true _ g 0 M M (Y + 1) w2 (fun _ => rfl) hfn (Nat.le_refl _) (by have := HMx.out; omega)).mono ?_
    rintro e w3 ⟨rfl, hb3⟩
    have hbw3 : Below w.heap.size w w3 := hbw2.trans (hb3.mono (by have := HS2.out; omega))
    obtain ⟨c0, c1⟩ := Blk2 (B2.kept hb3)
    obtain ⟨f0, f1⟩ := Blk2f (B2.kept hb3)
    obtain ⟨s', q, m, hv⟩ := intv_form true (some ⟨g, 0, none⟩) (Y + 1)
    rw [hv]
    have HVV := Lib.hid hv
    clear hv B2
    go_wp2_with fail
    have hgg := HG.out
    refine bodyPost_ret (v := .agg #[.bool s', .slice q m m]) (by simp [results, Try.results80, go_sem, c0, c1]) rfl ⟨_, rfl, ?_, (hbw3.setCell (Nat.le_refl _) _).setCell (Nat.le_refl _) _⟩
    rw [← HVV.out]
    exact can_intv (n := M) (fun _ => rfl) (((hfn.kept hb3).other _ (fun _ => by show g ≠ w.heap.size; omega)).other _ (fun _ => by show g ≠ w.heap.size; omega)) (by have := nl_le hfn.lt; have := HMx.out; omega) (fun _ => by omega)
  · rw [if_neg hplus, Nat.add_zero]
    have hpl : (neg && fr) = false := by simpa using hplus
    clear hplus
    cases neg
    · have hng : fr = fr := rfl
      clear hpl
      go_enter Try.func80, Try.ntmps80
      go_wp2_with fail
      generalize hW : World.alloc _ _ = W
      have B0 : Blk W w.heap.size #[.bool false, .slice none 0 0] := by rw [← hW]; exact blk_new rfl
      have hbW : Below w.heap.size w W := by rw [← hW]; exact (Below.refl _ _).alloc (Nat.le_refl _) _
      have HS := Lib.hid (show W.heap.size = w.heap.size + 1 by rw [← hW]; simp)
      clear hW
      refine (LOW.out W hbW).mono ?_
      rintro e w1 ⟨vq, rfl, ⟨qb, qg, qo, qn, qc, rfl, hq1, hq2, hq3, hq4, hq5⟩, hb1⟩
      have HQ1 := Lib.hid hq1
      have HQ5 := Lib.hid hq5
      have B1 := B0.kept hb1
      have hbw1 : Below w.heap.size w w1 := hbW.trans (hb1.mono (by have := HS.out; omega))
      have HS' := Lib.hid (show w.heap.size + 1 ≤ w1.heap.size by have := HS.out; have := hb1.size; omega)
      clear hq1 hq5 B0
      go_wp2_with fail
      refine (number_any _ _ qg qo qn qc Y w1 HQ1.out hq2 hq3 (by omega)).mono ?_
      rintro e w3 ⟨rfl, hb3⟩
      have hbw3 : Below w.heap.size w w3 := hbw1.trans (hb3.mono (by have := HS'.out; omega))
      obtain ⟨c0, c1⟩ := Blk2 (B1.kept hb3)
      obtain ⟨f0, f1⟩ := Blk2f (B1.kept hb3)
      have HSS := Lib.hid (show w.heap.size < W.heap.size by have := HS.out; omega)
      obtain ⟨s', q, m, hv⟩ := intv_form false qb Y
      rw [hv]
      have HVV := Lib.hid hv
      clear hv
      go_wp2_with fail
      have hss := HSS.out
      refine bodyPost_ret (v := .agg #[.bool s', .slice q m m]) (by simp [results, Try.results80, go_sem, c0, c1]) rfl ⟨_, rfl, ?_, (hbw3.setCell (Nat.le_refl _) _).setCell (Nat.le_refl _) _⟩
      rw [← HVV.out]
      exact can_intv (n := qn) HQ1.out (((hq2.kept hb3).other _ (fun h => by have := HQ5.out h; show qg ≠ w.heap.size; omega)).other _ (fun h => by have := HQ5.out h; show qg ≠ w.heap.size; omega)) (by have := nl_le hq2.lt; omega) (fun h => by have := HQ5.out h; omega)
    · obtain rfl : fr = false := by simpa using hpl
      clear hpl
      go_enter Try.func80, Try.ntmps80
      go_wp2_with fail
      generalize hW : World.alloc _ _ = W
      have B0 : Blk W w.heap.size #[.bool false, .slice none 0 0] := by rw [← hW]; exact blk_new rfl
      have hbW : Below w.heap.size w W := by rw [← hW]; exact (Below.refl _ _).alloc (Nat.le_refl _) _
      have HS := Lib.hid (show W.heap.size = w.heap.size + 1 by rw [← hW]; simp)
      clear hW
      refine (LOW.out W hbW).mono ?_
      rintro e w1 ⟨vq, rfl, ⟨qb, qg, qo, qn, qc, rfl, hq1, hq2, hq3, hq4, hq5⟩, hb1⟩
      have HQ1 := Lib.hid hq1
      have HQ5 := Lib.hid hq5
      have B1 := B0.kept hb1
      have hbw1 : Below w.heap.size w w1 := hbW.trans (hb1.mono (by have := HS.out; omega))
      have HS' := Lib.hid (show w.heap.size + 1 ≤ w1.heap.size by have := HS.out; have := hb1.size; omega)
      clear hq1 hq5 B0
      go_wp2_with fail
      refine (number_any _ _ qg qo qn qc Y w1 HQ1.out hq2 hq3 (by omega)).mono ?_
      rintro e w3 ⟨rfl, hb3⟩
      have hbw3 : Below w.heap.size w w3 := hbw1.trans (hb3.mono (by have := HS'.out; omega))
      obtain ⟨c0, c1⟩ := Blk2 (B1.kept hb3)
      obtain ⟨f0, f1⟩ := Blk2f (B1.kept hb3)
      have HSS := Lib.hid (show w.heap.size < W.heap.size by have := HS.out; omega)
      obtain ⟨s', q, m, hv⟩ := intv_form true qb Y
      rw [hv]
      have HVV := Lib.hid hv
      clear hv
      go_wp2_with fail
      have hss := HSS.out
      refine bodyPost_ret (v := .agg #[.bool s', .slice q m m]) (by simp [results, Try.results80, go_sem, c0, c1]) rfl ⟨_, rfl, ?_, (hbw3.setCell (Nat.le_refl _) _).setCell (Nat.le_refl _) _⟩
      rw [← HVV.out]
      exact can_intv (n := qn) HQ1.out (((hq2.kept hb3).other _ (fun h => by have := HQ5.out h; show qg ≠ w.heap.size; omega)).other _ (fun h => by have := HQ5.out h; show qg ≠ w.heap.size; omega)) (by have := nl_le hq2.lt; omega) (fun h => by have := HQ5.out h; omega)
end Go.Proofs.Ytkokokgmhpkoiaa

namespace PB
theorem floor_sg (neg : Bool) (X s : Nat) : sg neg (X / 2^s + if neg && decide (X % 2^s ≠ 0) then 1 else 0) = (sg neg X) / (2^s : Nat) := by
  have hpos : (0 : Nat) < 2^s := Nat.pow_pos (by decide)
  have h := Nat.div_add_mod X (2^s)
  have hm := Nat.mod_lt X hpos
  generalize 2^s = P at *
  cases neg
  · simp only [Bool.false_and, Bool.false_eq_true, if_false, Nat.add_zero]
    show ((X / P : Nat) : Int) = (X : Int) / (P : Int)
    exact Int.natCast_ediv X P
  · show -(((X / P + if (true && decide (X % P ≠ 0)) = true then 1 else 0 : Nat) : Nat) : Int) = (-(X : Int)) / (P : Int)
    symm
    by_cases hz : X % P = 0
    · rw [if_neg (by simp [hz]), Nat.add_zero]
      apply Int.ediv_eq_of_eq_mul_left (by omega)
      have : X = X / P * P := by rw [Nat.mul_comm]; omega
      rw [Int.neg_mul, ← Int.natCast_mul, ← this]
    · rw [if_pos (by simp [hz])]
      have e : -(X : Int) = ((P : Int) - (X % P : Nat)) + P * (-((X / P + 1 : Nat) : Int)) := by
        have h2 : (X : Int) = (P : Int) * (X / P : Nat) + (X % P : Nat) := by
          have h3 : ((P * (X / P) + X % P : Nat) : Int) = X := by rw [h]
          rw [← h3]; simp
        rw [Int.natCast_add, Int.mul_neg, Int.mul_add]
        omega
      rw [e, Int.add_mul_ediv_left _ _ (by omega), Int.ediv_eq_zero_of_lt (by omega) (by omega), Int.zero_add]
end PB
namespace Go.Proofs.Ytkokokgmhpkoiaa
open Go.RowKit PB

set_option maxHeartbeats 3200000 in
set_option maxRecDepth 100000 in
/-- Shift to the right, of a number that is not large and not 0. -/
theorem shift_down (s : Bool) (base : Option Addr) (b off n c X : Nat) (k : Nat) (w : World) (hb : n ≠ 0 → base = some ⟨b, off, none⟩) (hX : Num w b off n X) (hn : n ≤ c) (hl : n ≤ 1000000000)
    (hs : ¬ 256 < nl X) (h0 : X ≠ 0) (hk : 0 < k) (hk2 : k ≤ 8192) :
    Calls Try.prog 17 #[.agg #[.bool s, .slice base n c], .int .i64 (-(k : Int))] w (RetIntE w (sg s X / (2^k : Nat)) 0) := by
  have hnX := nl_le hX.lt
  have hz : ((nl X : Int) == 0) = false := by have := mt nl_eq_zero.1 h0; simp; omega
  have HB := Lib.hid hb
  rw [← floor_sg]
  have HH : ∃ v, v = sg s (X / 2^k + if s && decide (X % 2^k ≠ 0) then 1 else 0) := ⟨_, rfl⟩
  obtain ⟨z, hzz⟩ := HH
  have FL := Lib.hid (fun W (hw : Below w.heap.size w W) => floor_any s base b off X (nl X) k W (fun h => hb (by omega)) ((hX.fewer hnX (lt_nl X)).kept hw) (Nat.le_refl _) (by omega) (by omega))
  rw [← hzz] at FL ⊢
  clear hzz hb h0
  have i1 : ¬ (8192 < -(k : Int)) := by omega
  have i2 : ¬ (0 ≤ -(k : Int)) := by omega
  go_enter Try.func17, Try.ntmps17
  go_wp2_with fail
  generalize hW : World.alloc _ _ = W
  have B0 : Blk W w.heap.size #[.bool s, .slice base n c] := by rw [← hW]; exact (blk_new rfl).alloc _
  have B1 : Blk W (w.heap.size + 1) #[.bool false, .slice none 0 0] := by rw [← hW]; exact blk_new (by simp)
  have hbW : Below w.heap.size w W := by rw [← hW]; exact ((Below.refl _ _).alloc (Nat.le_refl _) _).alloc (by simp) _
  have HS := Lib.hid (show W.heap.size = w.heap.size + 2 by rw [← hW]; simp)
  clear hW
  obtain ⟨a0, a1⟩ := Blk2 B0
  have hXW := hX.kept hbW
  go_wp2_with (go_at_call 75; refine (cut_any base b off n c X _ HB.out (by exact hXW) hn (by omega)).mono ?_; rintro e w' ⟨rfl, rfl⟩)
  generalize hV : World.alloc _ _ = V
  have hbV : Below W.heap.size W V := by rw [← hV]; exact (Below.refl _ _).alloc (Nat.le_refl _) _
  have B2 : Blk V W.heap.size #[.bool s, .slice base n c] := by rw [← hV]; exact blk_new rfl
  clear hV
  have call := large_one W.heap.size s base b off n c X V (B2.cell 0 _ rfl) (B2.cell 1 _ rfl) HB.out (hXW.kept hbV) hn (by omega)
  rw [decide_eq_false hs] at call
  refine call.mono ?_
  clear call
  rintro e w1 ⟨rfl, hb1⟩
  have hbw1 : Below w.heap.size w w1 := hbW.trans ((hbV.trans (hb1.mono hbV.size)).mono (by have := HS.out; omega))
  obtain ⟨a0, a1⟩ := Blk2 ((B0.kept hbV).kept hb1)
  have B1' := (B1.kept hbV).kept hb1
  have HS' := Lib.hid (show w.heap.size + 2 ≤ w1.heap.size by have := HS.out; have := hbV.size; have := hb1.size; omega)
  clear B0 B1 B2 hb1 hbV hbW hXW
  go_wp2_with fail
  rw [show min (k : Int) 8192 = k by omega]
  refine (FL.out w1 hbw1).mono ?_
  rintro e w3 ⟨v, rfl, hcan, hb3⟩
  obtain ⟨r, q, g, o, Z, m, rfl, hq, hZ, hm, hml, hzz, hsz, hgN⟩ := hcan
  have hbw3 : Below w.heap.size w w3 := hbw1.trans (hb3.mono (by have := HS'.out; omega))
  obtain ⟨c0, c1⟩ := Blk2 (B1'.kept hb3)
  obtain ⟨f0, f1⟩ := Blk2f (B1'.kept hb3)
  have HZ := Lib.hid hzz
  clear hzz B1' a0 a1
  go_wp2_with fail
  have hsize := HS'.out
  refine bodyPost_ret (v := .tuple #[.agg #[.bool r, .slice q (nl Z) m], .int .i64 0]) (by simp [results, Try.results17, go_sem, c0, c1]) rfl ?_
  have hcan : IsCan w1.heap.size w3 (.agg #[.bool r, .slice q (nl Z) m]) z := ⟨r, q, g, o, Z, m, rfl, hq, hZ, hm, hml, HZ.out, hsz, hgN⟩
  exact ⟨_, rfl, ((hcan.set (by show w.heap.size + 1 < _; omega) _).set (by show w.heap.size + 1 < _; omega) _).mono (by omega), (hbw3.setCell (by show w.heap.size ≤ w.heap.size + 1; omega) _).setCell (by show w.heap.size ≤ w.heap.size + 1; omega) _⟩
end Go.Proofs.Ytkokokgmhpkoiaa
