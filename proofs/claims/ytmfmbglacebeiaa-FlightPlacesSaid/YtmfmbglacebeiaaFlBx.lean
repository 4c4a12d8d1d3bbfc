/-
  Motions: the walks of extent, floor and span.
-/
import Derived.Test.YtmfmbglacebeiaaFlBxM
namespace Go.Proofs.Ytmfmbglacebeiaa
open Go.RowKit PB VB FL
set_option maxRecDepth 100000 in
theorem tret2 {a b c d : Int} {w : World} (h : a = c) (h' : b = d) : Ending.returned (.tuple #[.int .i64 a, .int .i64 b]) = Ending.returned (.tuple #[.int .i64 c, .int .i64 d]) ∧ w = w := ⟨by rw [h, h'], rfl⟩
set_option maxRecDepth 100000 in
theorem iretw {a b : Int} {w : World} (h : a = b) : Ending.returned (.int .i64 a) = Ending.returned (.int .i64 b) ∧ w = w := ⟨by rw [h], rfl⟩
set_option maxRecDepth 100000 in
set_option maxHeartbeats 4000000 in
theorem extent_pos (p v h : Int) (w : World) (p1 : -8388608 ≤ p) (p2 : p ≤ 8388608) (v1 : -262144 ≤ v) (v2 : v ≤ 262144) (h1 : 0 ≤ h) (h2 : h ≤ 4096) :
    Calls Try.prog 28 #[.int .i64 p, .int .i64 v, .int .i64 h] w fun e w' => e = .returned (.tuple #[.int .i64 (loE p v h), .int .i64 (hiE p v h)]) ∧ w' = w := by
  have t0 : decide (h < 0) = false := decide_eq_false (by omega)
  have E2 := Lib.hid (show max p (p + v + h) = hiE p v h from rfl)
  by_cases c1 : v < 0
  · by_cases c2 : -v < 2 * h
    · obtain ⟨s1, s2⟩ := sq_bd v1 v2
      obtain ⟨g1, g2⟩ := vtx_quo v1 v2 (show 0 < h by omega) h2
      have gt : (v * v + 4 * h - 1).tdiv (4 * h) = (v * v + 4 * h - 1) / (4 * h) := tdiv_pos' (by omega)
      have hd : (0 : Int) < 4 * h := by omega
      have E1 := Lib.hid (show p - (v * v + 4 * h - 1) / (4 * h) = loE p v h by unfold loE vtx; rw [if_pos ⟨c1, c2⟩])
      go_enter Try.func28, Try.ntmps28
      go_wp2_with fail
      all_goals (go_ret2; exact tret2 (by have := E1.out; omega) (by have := E2.out; omega))
    · have c2' : decide (-v < 2 * h) = false := decide_eq_false c2
      have E1 := Lib.hid (show min p (p + v + h) = loE p v h by unfold loE; rw [if_neg (fun q => c2 q.2)])
      clear c2
      go_enter Try.func28, Try.ntmps28
      go_wp2_with fail
      all_goals (go_ret2; exact tret2 (by have := E1.out; omega) (by have := E2.out; omega))
  · have c1' : decide (v < 0) = false := decide_eq_false c1
    have E1 := Lib.hid (show min p (p + v + h) = loE p v h by unfold loE; rw [if_neg (fun q => c1 q.1)])
    clear c1
    go_enter Try.func28, Try.ntmps28
    go_wp2_with fail
    all_goals (go_ret2; exact tret2 (by have := E1.out; omega) (by have := E2.out; omega))
set_option maxRecDepth 100000 in
set_option maxHeartbeats 4000000 in
theorem rfloor_any (n d : Int) (w : World) (n1 : -1099511627776 ≤ n) (n2 : n ≤ 1099511627776) (d1 : 0 < d) (d2 : d ≤ 1099511627776) :
    Calls Try.prog 44 #[.int .i64 n, .int .i64 d] w fun e w' => e = .returned (.int .i64 (n / d)) ∧ w' = w := by
  obtain ⟨f1, f2⟩ := fl_t (a := n) d1
  have b1 : -1099511627776 ≤ n.tdiv d ∧ n.tdiv d ≤ 1099511627776 := by
    have h : (n.tdiv d).natAbs ≤ n.natAbs := by rw [Int.natAbs_tdiv]; exact Nat.div_le_self _ _
    omega
  obtain ⟨b1, b2⟩ := b1
  have b3 : -1099511627776 ≤ n.tmod d ∧ n.tmod d ≤ 1099511627776 := by
    have h : (n.tmod d).natAbs < d.natAbs := by rw [Int.natAbs_tmod]; exact Nat.mod_lt _ (by omega)
    omega
  obtain ⟨b3, b4⟩ := b3
  by_cases c : n.tmod d < 0
  · have E := Lib.hid (f1 c)
    clear f1 f2
    go_enter Try.func44, Try.ntmps44
    go_wp2_with fail
    go_ret
    exact iretw E.out
  · have c' : decide (n.tmod d < 0) = false := decide_eq_false c
    have E := Lib.hid (f2 c)
    clear f1 f2 c
    go_enter Try.func44, Try.ntmps44
    go_wp2_with fail
    go_ret
    exact iretw E.out
set_option maxRecDepth 100000 in
set_option maxHeartbeats 4000000 in
theorem extent_any (p v h : Int) (w : World) (p1 : -8388608 ≤ p) (p2 : p ≤ 8388608) (v1 : -262144 ≤ v) (v2 : v ≤ 262144) (h1 : -4096 ≤ h) (h2 : h ≤ 4096) :
    Calls Try.prog 28 #[.int .i64 p, .int .i64 v, .int .i64 h] w fun e w' => e = .returned (.tuple #[.int .i64 (exL p v h), .int .i64 (exH p v h)]) ∧ w' = w := by
  by_cases c : h < 0
  · have H := Lib.hid (fun W => extent_pos (-p) (-v) (-h) W (by omega) (by omega) (by omega) (by omega) (by omega) (by omega))
    have b1 : -9007199254740992 ≤ loE (-p) (-v) (-h) ∧ loE (-p) (-v) (-h) ≤ 9007199254740992 := by
      unfold loE vtx
      have := vtx_quo (v := -v) (h := -h) (by omega) (by omega) (by omega) (by omega)
      split <;> omega
    have b2 : -9007199254740992 ≤ hiE (-p) (-v) (-h) ∧ hiE (-p) (-v) (-h) ≤ 9007199254740992 := by unfold hiE; omega
    obtain ⟨b1, b1'⟩ := b1
    obtain ⟨b2, b2'⟩ := b2
    have E1 := Lib.hid (show -(hiE (-p) (-v) (-h)) = exL p v h by unfold exL; rw [if_pos c])
    have E2 := Lib.hid (show -(loE (-p) (-v) (-h)) = exH p v h by unfold exH; rw [if_pos c])
    generalize loE (-p) (-v) (-h) = lo at *
    generalize hiE (-p) (-v) (-h) = hi at *
    go_enter Try.func28, Try.ntmps28
    go_wp2_with fail
    refine (H.out _).mono ?_
    rintro e w1 ⟨rfl, rfl⟩
    go_wp2_with fail
    all_goals (go_ret2; exact tret2 (by have := E1.out; omega) (by have := E2.out; omega))
  · rw [show exL p v h = loE p v h by unfold exL; rw [if_neg c], show exH p v h = hiE p v h by unfold exH; rw [if_neg c]]
    exact extent_pos p v h w p1 p2 v1 v2 (by omega) h2
set_option maxRecDepth 100000 in
set_option maxHeartbeats 4000000 in
theorem span_any (p v h : Int) (w : World) (p1 : -8388608 ≤ p) (p2 : p ≤ 8388608) (v1 : -262144 ≤ v) (v2 : v ≤ 262144) (h1 : -4096 ≤ h) (h2 : h ≤ 4096) :
    Calls Try.prog 29 #[.int .i64 p, .int .i64 v, .int .i64 h] w fun e w' => e = .returned (.tuple #[.int .i64 (exL p v h), .int .i64 (exH p v h)]) ∧ w' = w := by
  obtain ⟨s1, s2⟩ := sq_bd v1 v2
  have m0 := mul_le (a := 4 * h) (b := p) (A := 16384) (C := 8388608) (by omega) (by omega) (by omega) (by omega)
  obtain ⟨m1, m2⟩ := m0
  by_cases c : h < 0
  · have t1 : decide (h > 0) = false := decide_eq_false (by omega)
    have E1 := Lib.hid (show min p (p + v + h) = exL p v h by unfold exL hiE; rw [if_pos c]; omega)
    by_cases c1 : v > 0
    · by_cases c2 : v < -2 * h
      · have E2 := Lib.hid (show max (max p (p + v + h)) (-((4 * h * p - v * v) / (-4 * h))) = exH p v h by
          have e0 : 4 * (-h) * (-p) - (-v) * (-v) = 4 * h * p - v * v := by grind
          have e := vtx_floor (p := -p) (v := -v) (h := -h) (by omega)
          rw [e0, show 4 * -h = -4 * h by omega] at e
          have hl := vtx_le (p := -p) (v := -v) (h := -h) (by omega)
          unfold exH loE
          rw [if_pos c, if_pos ⟨by omega, by omega⟩, e]
          omega)
        have H := Lib.hid (fun W => rfloor_any (4 * h * p - v * v) (-4 * h) W (by omega) (by omega) (by omega) (by omega))
        have b0 : -9007199254740992 ≤ (4 * h * p - v * v) / (-4 * h) ∧ (4 * h * p - v * v) / (-4 * h) ≤ 9007199254740992 := by
          have h3 := Int.mul_ediv_add_emod (4 * h * p - v * v) (-4 * h)
          have e0 : 4 * (-h) * (-p) - (-v) * (-v) = 4 * h * p - v * v := by grind
          have e := vtx_floor (p := -p) (v := -v) (h := -h) (by omega)
          rw [e0, show 4 * -h = -4 * h by omega] at e
          rw [e]
          have hq := vtx_quo (v := -v) (h := -h) (by omega) (by omega) (by omega) (by omega)
          unfold vtx
          omega
        obtain ⟨b1, b2⟩ := b0
        generalize (4 * h * p - v * v) / (-4 * h) = R at *
        go_enter Try.func29, Try.ntmps29
        go_wp2_with fail
        all_goals (refine (H.out _).mono ?_; rintro e w1 ⟨rfl, rfl⟩; go_wp2_with fail)
        all_goals (go_ret2; exact tret2 (by have := E1.out; omega) (by have := E2.out; omega))
      · have c2' : decide (v < -2 * h) = false := decide_eq_false c2
        have E2 := Lib.hid (show max p (p + v + h) = exH p v h by unfold exH loE; rw [if_pos c, if_neg (fun q => c2 (by omega))]; omega)
        clear c2
        go_enter Try.func29, Try.ntmps29
        go_wp2_with fail
        all_goals (go_ret2; exact tret2 (by have := E1.out; omega) (by have := E2.out; omega))
    · have c1' : decide (v > 0) = false := decide_eq_false c1
      have E2 := Lib.hid (show max p (p + v + h) = exH p v h by unfold exH loE; rw [if_pos c, if_neg (fun q => c1 (by omega))]; omega)
      clear c1
      go_enter Try.func29, Try.ntmps29
      go_wp2_with fail
      all_goals (go_ret2; exact tret2 (by have := E1.out; omega) (by have := E2.out; omega))
  · have t2 : decide (h < 0) = false := decide_eq_false c
    have E2 := Lib.hid (show max p (p + v + h) = exH p v h by unfold exH hiE; rw [if_neg c])
    by_cases c0 : h > 0
    · by_cases c1 : v < 0
      · by_cases c2 : -v < 2 * h
        · have E1 := Lib.hid (show min (min p (p + v + h)) ((4 * h * p - v * v) / (4 * h)) = exL p v h by
            have hl := vtx_le (p := p) (v := v) (h := h) (by omega)
            unfold exL loE
            rw [if_neg c, if_pos ⟨c1, c2⟩, vtx_floor (by omega)]
            omega)
          have H := Lib.hid (fun W => rfloor_any (4 * h * p - v * v) (4 * h) W (by omega) (by omega) (by omega) (by omega))
          have b0 : -9007199254740992 ≤ (4 * h * p - v * v) / (4 * h) ∧ (4 * h * p - v * v) / (4 * h) ≤ 9007199254740992 := by
            rw [vtx_floor (by omega)]
            have hq := vtx_quo (v := v) (h := h) (by omega) (by omega) (by omega) (by omega)
            unfold vtx
            omega
          obtain ⟨b1, b2⟩ := b0
          generalize (4 * h * p - v * v) / (4 * h) = R at *
          clear c
          go_enter Try.func29, Try.ntmps29
          go_wp2_with fail
          all_goals (refine (H.out _).mono ?_; rintro e w1 ⟨rfl, rfl⟩; go_wp2_with fail)
          all_goals (go_ret2; exact tret2 (by have := E1.out; omega) (by have := E2.out; omega))
        · have c2' : decide (-v < 2 * h) = false := decide_eq_false c2
          have E1 := Lib.hid (show min p (p + v + h) = exL p v h by unfold exL loE; rw [if_neg c, if_neg (fun q => c2 q.2)])
          clear c2 c
          go_enter Try.func29, Try.ntmps29
          go_wp2_with fail
          all_goals (go_ret2; exact tret2 (by have := E1.out; omega) (by have := E2.out; omega))
      · have c1' : decide (v < 0) = false := decide_eq_false c1
        have E1 := Lib.hid (show min p (p + v + h) = exL p v h by unfold exL loE; rw [if_neg c, if_neg (fun q => c1 q.1)])
        clear c1 c
        go_enter Try.func29, Try.ntmps29
        go_wp2_with fail
        all_goals (go_ret2; exact tret2 (by have := E1.out; omega) (by have := E2.out; omega))
    · have t1 : decide (h > 0) = false := decide_eq_false c0
      have E1 := Lib.hid (show min p (p + v + h) = exL p v h by unfold exL loE; rw [if_neg c, if_neg (fun q => by omega)])
      clear c c0
      go_enter Try.func29, Try.ntmps29
      go_wp2_with fail
      all_goals (go_ret2; exact tret2 (by have := E1.out; omega) (by have := E2.out; omega))
end Go.Proofs.Ytmfmbglacebeiaa
