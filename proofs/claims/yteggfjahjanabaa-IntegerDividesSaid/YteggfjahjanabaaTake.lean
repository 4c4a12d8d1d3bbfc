/-
  integer.takeAway subtracts a multiple in place; integer.giveBack adds in place.
-/
import Derived.Test.YteggfjahjanabaaEst
import Derived.Test.YteggfjahjanabaaMinus
namespace PB
open Go
theorem take_wrap {q y c : Nat} (hq : q < B) (hy : y < B) (hc : c < B) : IntKind.u64.wrap ((c : Int) + IntKind.u64.wrap (IntKind.u64.wrap (q : Int) * IntKind.u64.wrap (y : Int))) = ((c + (q * y + 0) : Nat) : Int) := by
  have h := mul_le hq hy
  rw [est_r hq hy, IntKind.wrap_u64]
  generalize q * y = p at *
  unfold B at *
  omega
theorem take_lo {q y c : Nat} (hq : q < B) (hy : y < B) (hc : c < B) : IntKind.u64.wrap ((c : Int) + IntKind.u64.wrap (IntKind.u64.wrap (q : Int) * IntKind.u64.wrap (y : Int))) % 4294967296 = (mulLo q y 0 c : Nat) := by
  rw [take_wrap hq hy hc]; exact (Int.natCast_emod _ _).symm
theorem take_hi {q y c : Nat} (hq : q < B) (hy : y < B) (hc : c < B) : IntKind.u64.wrap ((c : Int) + IntKind.u64.wrap (IntKind.u64.wrap (q : Int) * IntKind.u64.wrap (y : Int))) / 4294967296 = (mulHi q y 0 c : Nat) := by
  rw [take_wrap hq hy hc]; exact (Int.natCast_ediv _ _).symm
theorem sub_neg {x y c : Nat} (hx : x < B) (hy : y < B) (hc : c < 2) : ((subHi x y c : Int) != 0) = decide (x < y + c) := by
  have h1 := sub_lo_hi hx hy hc
  have h2 := subHi_lt x y c
  have h3 := subLo_lt x y c
  by_cases h : x < y + c
  · have : subHi x y c = 1 := by
      have : subHi x y c = 0 ∨ subHi x y c = 1 := by omega
      rcases this with e | e
      · rw [e] at h1; omega
      · exact e
    rw [this, decide_eq_true h]; rfl
  · have : subHi x y c = 0 := by
      have : subHi x y c = 0 ∨ subHi x y c = 1 := by omega
      rcases this with e | e
      · exact e
      · rw [e] at h1; unfold B at *; omega
    rw [this, decide_eq_false h]; rfl
theorem low_put {S P k d : Nat} (hS : S < B^k) : put (S + P / B^k * B^k) k d = (S + d * B^k) + P / B^(k+1) * B^(k+1) := by
  unfold put
  rw [Nat.add_mul_mod_self_right, mod_of_lt hS]
  have : (S + P / B^k * B^k) / B^(k+1) = P / B^(k+1) := by
    rw [pow_succ, ← Nat.div_div_eq_div_mul, Nat.add_mul_div_right _ _ (Bp k), Nat.div_eq_of_lt hS, Nat.zero_add, Nat.div_div_eq_div_mul]
  rw [this]
theorem low_dg {S P k : Nat} (hS : S < B^k) : dg (S + P / B^k * B^k) k = dg P k := by
  have h := dg_add_hi (i := 0) (d := P / B^k) hS
  rwa [Nat.add_zero, dg_div, Nat.add_zero] at h
theorem low_val {S P k : Nat} (hS : S < B^k) : (S + P / B^k * B^k) % B^k = S := by
  rw [Nat.add_mul_mod_self_right, mod_of_lt hS]
end PB
namespace Go.Proofs.Yteggfjahjanabaa
open Go.RowKit PB

set_option maxHeartbeats 1600000 in
set_option maxRecDepth 100000 in
theorem takeAway_any (b off n cp P by_ oy cy Y q : Nat) (w : World) (hP : Num w b off (n + 1) P) (hF : Free w b off n) (hY : Num w by_ oy n Y) (hne : by_ ≠ b) (hq : q < B) (hn : n ≤ 1000000000) :
    Calls Try.prog 97 #[.slice (some ⟨b, off, none⟩) (n + 1 : Nat) cp, .slice (some ⟨by_, oy, none⟩) n cy, .int .u32 q] w fun e w' => ∃ S c, e = .returned (.bool (decide (dg P n < c))) ∧ S < B^n ∧ S + q * Y = P % B^n + c * B^n ∧ Num w' b off n S ∧ Wr w w' b off (off + n) := by
  go_enter Try.func97, Try.ntmps97
  go_wp2_with fail
  go_loopw [8, 9, 16] (fun c bo i wr => ∃ k cc bb S : Nat, k ≤ n ∧ cc < B ∧ bb < 2 ∧ S < B^k ∧ c = .int .u64 cc ∧ bo = .int .u32 bb ∧ i = .int .i64 k ∧ Hid (S + q * (Y % B^k) = P % B^k + (cc + bb) * B^k) ∧ Num wr b off (n + 1) (S + P / B^k * B^k) ∧ Wr w wr b off (off + n)) (fun _ _ i _ => n - (intOf i).toNat)
  case atStart => exact ⟨0, 0, 0, 0, by omega, by decide, by omega, Bp _, rfl, rfl, rfl, Lib.hid (by simp [Nat.mod_one]), hP.val (by simp), Wr.refl _ _ _ _⟩
  case round =>
    obtain ⟨k, cc, bb, S, hk, hcc, hbb, hSk, rfl, rfl, rfl, hE, hN, hw⟩ := hrel
    by_cases hlt : k < n
    · have c1 := hN.cell (i := k) (by omega)
      rw [low_dg hSk] at c1
      have c2 := (hw.num hY (fun _ => Or.inl hne)).cell (i := k) (by omega)
      have f1 := (hw.free hF).at (i := k) (by omega)
      obtain ⟨p, hp⟩ : ∃ p, dg P k = p := ⟨_, rfl⟩
      obtain ⟨y, hy⟩ : ∃ y, dg Y k = y := ⟨_, rfl⟩
      have hpB : p < B := hp ▸ dg_lt P k
      have hyB : y < B := hy ▸ dg_lt Y k
      rw [hp] at c1
      rw [hy] at c2
      have HP := Lib.hid hp
      have HY := Lib.hid hy
      have HS := Lib.hid hSk
      clear hp hy hSk
      have i1 : (k : Int) < n := by omega
      have i2 : (0 : Int) ≤ k := by omega
      have i3 : (k : Int) < n + 1 := by omega
      go_wp2_with (go_at_call 95; rw [take_lo hq hyB hcc]; refine (sub32_any _ _ _ _ hpB (mulLo_lt _ _ _ _) hbb).mono ?_; rintro e w' ⟨rfl, rfl⟩)
      go_roundw
      case rel =>
        rw [take_hi hq hyB hcc]
        refine ⟨k + 1, mulHi q y 0 cc, subHi p (mulLo q y 0 cc) bb, S + subLo p (mulLo q y 0 cc) bb * B^k, by omega, mulHi_lt hq hyB (by decide) hcc, subHi_lt _ _ _, add_lt_pow HS.out (subLo_lt _ _ _), rfl, rfl, by go_num, Lib.hid ?_, ?_, ?_⟩
        · rw [mod_succ P, mod_succ Y, HP.out, HY.out, pow_succ]
          exact take_step hE.out (mul_lo_hi q y 0 cc) (sub_lo_hi hpB (mulLo_lt _ _ _ _) hbb)
        · rw [← low_put HS.out]
          exact hN.set (by omega) (subLo_lt _ _ _)
        · exact hw.set _ _ (by omega) (by omega)
      case measure => simp [intOf]; omega
    · obtain rfl : k = n := by omega
      have c1 := hN.cell (i := k) (by omega)
      rw [low_dg hSk] at c1
      have hpB := dg_lt P k
      have i2 : (0 : Int) ≤ k := by omega
      have i3 : (k : Int) < k + 1 := by omega
      have j3 : (cc : Int) % 4294967296 = cc := by unfold B at hcc; omega
      go_wp2_with (go_at_call 95; refine (sub32_any _ _ _ _ hpB hcc hbb).mono ?_; rintro e w' ⟨rfl, rfl⟩)
      go_ret
      have h0 := hN.low (k := k) (by omega)
      rw [low_val hSk] at h0
      have h1 := hE.out
      rw [mod_of_lt hY.lt] at h1
      refine ⟨S, cc + bb, ?_, hSk, h1, h0, hw⟩
      rw [sub_neg hpB hcc hbb]
      rfl

set_option maxHeartbeats 1600000 in
set_option maxRecDepth 100000 in
theorem giveBack_any (b off n cp T by_ oy cy Y : Nat) (w : World) (hT : Num w b off n T) (hF : Free w b off n) (hY : Num w by_ oy n Y) (hne : by_ ≠ b) (hn : n ≤ 1000000000) :
    Calls Try.prog 98 #[.slice (some ⟨b, off, none⟩) (n + 1 : Nat) cp, .slice (some ⟨by_, oy, none⟩) n cy] w fun e w' => ∃ S c, e = .returned (.tuple #[]) ∧ S < B^n ∧ c < 2 ∧ S + c * B^n = T + Y ∧ Num w' b off n S ∧ Wr w w' b off (off + n) := by
  go_enter Try.func98, Try.ntmps98
  go_wp2_with fail
  go_loopw [4, 9] (fun c i wr => ∃ k cc S : Nat, k ≤ n ∧ cc < 2 ∧ S < B^k ∧ c = .int .u32 cc ∧ i = .int .i64 k ∧ Hid (S + cc * B^k = T % B^k + Y % B^k) ∧ Num wr b off n (S + T / B^k * B^k) ∧ Wr w wr b off (off + n)) (fun _ i _ => n - (intOf i).toNat)
  case atStart => exact ⟨0, 0, 0, by omega, by omega, Bp _, rfl, rfl, Lib.hid (by simp [Nat.mod_one]), hT.val (by simp), Wr.refl _ _ _ _⟩
  case round =>
    obtain ⟨k, cc, S, hk, hcc, hSk, rfl, rfl, hE, hN, hw⟩ := hrel
    by_cases hlt : k < n
    · have c1 := hN.cell (i := k) (by omega)
      rw [low_dg hSk] at c1
      have c2 := (hw.num hY (fun _ => Or.inl hne)).cell (i := k) (by omega)
      have f1 := (hw.free hF).at (i := k) (by omega)
      have hx := dg_lt T k
      have hy := dg_lt Y k
      have HS := Lib.hid hSk
      clear hSk
      have i1 : (k : Int) < n := by omega
      have i2 : (0 : Int) ≤ k := by omega
      have i3 : (k : Int) < n + 1 := by omega
      go_wp2_with (go_at_call 94; refine (add32_any _ _ _ _ hx hy hcc).mono ?_; rintro e w' ⟨rfl, rfl⟩)
      go_roundw
      case rel =>
        refine ⟨k + 1, addHi (dg T k) (dg Y k) cc, S + addLo (dg T k) (dg Y k) cc * B^k, by omega, addHi_lt hx hy hcc, add_lt_pow HS.out (addLo_lt _ _ _), rfl, by go_num, Lib.hid ?_, ?_, ?_⟩
        · rw [mod_succ T, mod_succ Y, pow_succ]
          exact add_step hE.out (add_lo_hi _ _ _)
        · rw [← low_put HS.out]
          exact hN.set (by omega) (addLo_lt _ _ _)
        · exact hw.set _ _ (by omega) (by omega)
      case measure => simp [intOf]; omega
    · obtain rfl : k = n := by omega
      go_wp2_with fail
      go_end0
      have h0 := hN
      rw [Nat.div_eq_of_lt hT.lt, Nat.zero_mul, Nat.add_zero] at h0
      have h1 := hE.out
      rw [mod_of_lt hY.lt, mod_of_lt hT.lt] at h1
      exact ⟨S, cc, rfl, hSk, hcc, h1, h0, hw⟩
end Go.Proofs.Yteggfjahjanabaa
