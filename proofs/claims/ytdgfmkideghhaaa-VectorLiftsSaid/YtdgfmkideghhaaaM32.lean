/-
  What IntegerLimits calls, at numbers of k full limbs: which error each call returns.
-/
import Derived.Test.YtdgfmkideghhaaaM27
import Derived.Test.YtdgfmkideghhaaaM30
import Derived.Test.YtdgfmkideghhaaaM31
namespace PB
open Go Go.RowKit
theorem nl_between {X j : Nat} (h1 : B^j ≤ X) (h2 : X < B^(j+1)) : nl X = j + 1 := by
  have h3 := nl_le h2
  have h4 : ¬ nl X ≤ j := fun h => by have := nl_le_iff.1 h; omega
  omega
theorem B_two (j : Nat) : B^j * 2 ≤ B^(j+1) := by rw [pow_succ]; exact Nat.mul_le_mul_left _ (by decide)
theorem B_ge {j : Nat} (h : 1 ≤ j) : 4294967296 ≤ B^j := by
  have := pow_le h
  rwa [Nat.pow_one, B_eq] at this
theorem bs_drew {w w' : World} (h : Below w.heap.size w w') : Below w.heap.size w w'.drew := below_drewN h 1
theorem bs_alloc {w w' : World} (h : Below w.heap.size w w') (o : Obj) : Below w.heap.size w (w'.alloc o) := h.alloc h.size o
theorem bs_set {w w' : World} {g j : Nat} (h : Below w.heap.size w w') (hg : w.heap.size ≤ g) (v : Value) : Below w.heap.size w (w'.setCell ⟨g, j, none⟩ v) := h.setCell hg v
theorem bs_trans {a b c : World} (h : Below a.heap.size a b) (k : Below b.heap.size b c) : Below a.heap.size a c := h.trans (k.mono h.size)
/-- The greatest number of k limbs. -/
def full (k : Nat) : Nat := B^k - 1
theorem nl_full {k : Nat} (hk : 2 ≤ k) : nl (full k) = k := by
  obtain ⟨j, rfl⟩ : ∃ j, k = j + 1 := ⟨k - 1, by omega⟩
  have a := B_two j
  have b := Bp j
  exact nl_between (by unfold full; omega) (by unfold full; omega)
theorem nl_full_less {k : Nat} (hk : 2 ≤ k) : nl (full k - 1) = k := by
  obtain ⟨j, rfl⟩ : ∃ j, k = j + 1 := ⟨k - 1, by omega⟩
  have a := B_two j
  have b := B_ge (j := j) (by omega)
  exact nl_between (by unfold full; omega) (by unfold full; omega)
theorem nl_full_more {k : Nat} (_hk : 2 ≤ k) : nl (full k + 1) = k + 1 := by
  have a := B_two k
  have b := Bp k
  exact nl_between (by unfold full; omega) (by unfold full; omega)
theorem nl_full_two {k : Nat} (hk : 2 ≤ k) : nl (full k * 2) = k + 1 := by
  have a := B_two k
  have b := B_ge (j := k) (by omega)
  exact nl_between (by unfold full; omega) (by unfold full; omega)
theorem full_pos {k : Nat} (hk : 2 ≤ k) : full k ≠ 0 := by
  have b := B_ge (j := k) (by omega)
  unfold full; omega
theorem dg_full {k i : Nat} (hi : i < k) : dg (full k) i = 4294967295 := by
  obtain ⟨j, rfl⟩ : ∃ j, k = i + (j + 1) := ⟨k - i - 1, by omega⟩
  have e : full (i + (j + 1)) = full i + full (j + 1) * B^i := by
    have h1 := Bp i
    have h2 := Bp (j + 1)
    unfold full
    rw [pow_add, Nat.sub_mul, Nat.one_mul, Nat.mul_comm (B^i)]
    have : B^i ≤ B^(j+1) * B^i := Nat.le_mul_of_pos_left _ h2
    omega
  have hlt : full i < B^i := by have := Bp i; unfold full; omega
  rw [e]
  have := dg_add_hi (i := 0) (d := full (j + 1)) hlt
  simp only [Nat.add_zero] at this
  rw [this]
  unfold dg full
  rw [Nat.pow_zero, Nat.div_one, pow_succ]
  have h3 := Bp j
  generalize B^j = q at *
  unfold B
  omega
theorem full_lt (k : Nat) : full k < B^k := by have := Bp k; unfold full; omega
theorem full_next (k : Nat) : full k + 4294967295 * B^k = full (k + 1) := by
  have h := Bp k
  unfold full
  rw [pow_succ]
  generalize B^k = q at *
  unfold B
  omega
/-- The error of a number of n limbs. -/
def lerr (n : Nat) : Int := if 256 < n then 2 else 0
/-- The call returns an Int and this error; nothing that was there has changed. -/
def RetE (w : World) (err : Int) (e : Ending) (w' : World) : Prop := ∃ (s : Bool) (q : Option Addr) (n c : Nat), e = .returned (.tuple #[.agg #[.bool s, .slice q n c], .int .i64 err]) ∧ Below w.heap.size w w'
theorem can_agg {N : Nat} {w : World} {v : Value} {z : Int} (h : IsCan N w v z) : ∃ (s : Bool) (q : Option Addr) (c : Nat), v = .agg #[.bool s, .slice q (nl z.natAbs) c] := by
  obtain ⟨s, base, b, off, X, c, rfl, _, _, _, _, rfl, _⟩ := h
  exact ⟨s, base, c, by rw [sg_natAbs]⟩
theorem RetIntE.toE {w : World} {z err err' : Int} {e : Ending} {w' : World} (h : RetIntE w z err e w') (he : err = err') : RetE w err' e w' := by
  obtain ⟨v, rfl, hc, hb⟩ := h
  obtain ⟨s, q, c, rfl⟩ := can_agg hc
  exact ⟨s, q, _, c, by rw [he], hb⟩
def RetE2 (w : World) (err : Int) (e : Ending) (w' : World) : Prop := ∃ (s : Bool) (q : Option Addr) (n c : Nat) (t : Bool) (r : Option Addr) (m d : Nat), e = .returned (.tuple #[.agg #[.bool s, .slice q n c], .agg #[.bool t, .slice r m d], .int .i64 err]) ∧ Below w.heap.size w w'
theorem RetIntIntE.toE {w : World} {z1 z2 err err' : Int} {e : Ending} {w' : World} (h : RetIntIntE w z1 z2 err e w') (he : err = err') : RetE2 w err' e w' := by
  obtain ⟨v, v', rfl, hc, hc', hb⟩ := h
  obtain ⟨s, q, c, rfl⟩ := can_agg hc
  obtain ⟨t, r, d, rfl⟩ := can_agg hc'
  exact ⟨s, q, _, c, t, r, _, d, by rw [he], hb⟩
theorem or3 {a b c : Prop} [Decidable a] [Decidable b] [Decidable c] (n m : Nat) (hmn : n ≤ m) (ha : a ↔ 256 < n) (hb : ¬ b) (hc : c ↔ 256 < m) : (if a ∨ b ∨ c then (2 : Int) else 0) = lerr m := by
  unfold lerr
  have : (a ∨ b ∨ c) ↔ 256 < m := by
    constructor
    · rintro (h | h | h)
      · have := ha.1 h; omega
      · exact absurd h hb
      · exact hc.1 h
    · exact fun h => Or.inr (Or.inr (hc.2 h))
  by_cases h : 256 < m
  · rw [if_pos h, if_pos (this.2 h)]
  · rw [if_neg h, if_neg (fun h' => h (this.1 h'))]
theorem big_nl {z : Int} {n : Nat} (h : nl z.natAbs = n) : big z ↔ 256 < n := by unfold big; rw [h]
theorem one_small (neg : Bool) : ¬ big (sg neg 1) := by rw [big_sg, nl_small (by decide) (by decide)]; decide
theorem two_small : ¬ big 2 := by unfold big; rw [nl_small (by decide) (by decide)]; decide
theorem sg_full_add (neg : Bool) (k : Nat) : (sg neg (full k) + sg neg 1).natAbs = full k + 1 := by unfold sg; cases neg <;> simp <;> omega
theorem sg_full_sub (neg : Bool) {k : Nat} (hk : 2 ≤ k) : (sg neg (full k) - sg neg 1).natAbs = full k - 1 := by
  have := full_pos hk
  unfold sg; cases neg <;> simp <;> omega
theorem sg_full_one (neg : Bool) (k : Nat) : (sg neg (full k) * sg neg 1).natAbs = full k := by rw [Int.natAbs_mul, sg_natAbs, sg_natAbs, Nat.mul_one]
theorem sg_full_mul (neg : Bool) (k : Nat) : (sg neg (full k) * 2).natAbs = full k * 2 := by rw [Int.natAbs_mul, sg_natAbs]; rfl
theorem own_int {E : TypeId} {N n X : Nat} {w : World} {v : Value} (neg : Bool) (h : w.ownsRow N E 1 v n (limbs X n)) (hX : X < B^n) (hn : 0 < n) (hl : n ≤ 1000000000) :
    ∃ (g c : Nat), v = .slice (some ⟨g, 0, none⟩) n c ∧ IsInt w (.agg #[.bool neg, .slice (some ⟨g, 0, none⟩) n c]) (sg neg X) := by
  have h' := h
  obtain ⟨h1, h2⟩ := h
  rcases h2 with ⟨_, h0⟩ | ⟨g, cap, cur, rfl, hg, hh, hw, hcap, hsz, htake⟩
  · omega
  · have ho : OwnL E N w (.slice (some ⟨g, 0, none⟩) n cap) n X := ⟨hX, h'⟩
    exact ⟨g, cap, rfl, neg, some ⟨g, 0, none⟩, g, 0, n, cap, X, rfl, fun _ => rfl, ho.num, hw, hl, rfl⟩
theorem limbs_two {X n : Nat} (hX : X < B^n) : limbs X n ++ [.int .u32 0, .int .u32 0] = limbs X (n + 2) := by
  have h1 := limbs_snoc (d := 0) hX (by decide)
  have h2 := limbs_snoc (X := X) (n := n + 1) (d := 0) (Nat.lt_of_lt_of_le hX (pow_le (by omega))) (by decide)
  simp only [Nat.zero_mul, Nat.add_zero] at h1 h2
  rw [show n + 2 = n + 1 + 1 from rfl, ← h2, ← h1]
  simp
/-- Every number has a number of decimal digits. -/
theorem nd_from (X m : Nat) (h : X < 10^m) : ∃ M, M ≤ m ∧ IsND X M := by
  induction m with
  | zero => exact ⟨0, Nat.le_refl _, h, Or.inl rfl⟩
  | succ m ih =>
    by_cases h1 : X < 10^m
    · obtain ⟨M, h2, h3⟩ := ih h1
      exact ⟨M, by omega, h3⟩
    · refine ⟨m + 1, Nat.le_refl _, h, Or.inr fun hd => h1 (strip_step h hd)⟩
theorem nd_of {X : Nat} (h : nl X ≤ 256) : ∃ M, M ≤ 3000 ∧ IsND X M := by
  have h1 : X < 4294967296^256 := nl_le_iff.1 h
  obtain ⟨b, hb⟩ : ∃ b : Nat, b = 2731 := ⟨_, rfl⟩
  obtain ⟨M, h2, h3⟩ := nd_from X b (Nat.lt_of_lt_of_le h1 (two_ten (by omega)))
  exact ⟨M, by omega, h3⟩
theorem bl_full {k : Nat} (hk : 2 ≤ k) : bl (full k) = 32 * k := by
  unfold bl
  rw [if_neg (full_pos hk), nl_full hk, dg_full (by omega)]
  have : Lib.bitLen 4294967295 = 32 := by decide
  rw [this]
  omega
end PB
namespace Go.Proofs.Ytdgfmkideghhaaa
open Go.RowKit PB
variable {k : Nat} {neg : Bool} {v1 v2 : Value}
theorem lim_add (w : World) (hk : 2 ≤ k) (h1 : IsInt w v1 (sg neg (full k))) (h2 : IsInt w v2 (sg neg 1)) :
    Calls Try.prog 12 #[v1, v2] w (RetE w (lerr (k + 1))) :=
  (add_any v1 v2 _ _ w h1 h2).mono fun _ _ h => h.toE (or3 k (k + 1) (by omega) (big_nl (by rw [sg_natAbs]; exact nl_full hk)) (one_small neg) (big_nl (by rw [sg_full_add]; exact nl_full_more hk)))
theorem lim_sub (w : World) (hk : 2 ≤ k) (h1 : IsInt w v1 (sg neg (full k))) (h2 : IsInt w v2 (sg neg 1)) :
    Calls Try.prog 13 #[v1, v2] w (RetE w (lerr k)) :=
  (sub_any v1 v2 _ _ w h1 h2).mono fun _ _ h => h.toE (or3 k k (by omega) (big_nl (by rw [sg_natAbs]; exact nl_full hk)) (one_small neg) (big_nl (by rw [sg_full_sub neg hk]; exact nl_full_less hk)))
theorem lim_mul (w : World) (hk : 2 ≤ k) (h1 : IsInt w v1 (sg neg (full k))) (h2 : IsInt w v2 (sg neg 1)) :
    Calls Try.prog 14 #[v1, v2] w (RetE w (lerr k)) :=
  (mul_any v1 v2 _ _ w h1 h2).mono fun _ _ h => h.toE (or3 k k (by omega) (big_nl (by rw [sg_natAbs]; exact nl_full hk)) (one_small neg) (big_nl (by rw [sg_full_one]; exact nl_full hk)))
theorem lim_two (w : World) (hk : 2 ≤ k) (h1 : IsInt w v1 (sg neg (full k))) (h2 : IsInt w v2 2) :
    Calls Try.prog 14 #[v1, v2] w (RetE w (lerr (k + 1))) :=
  (mul_any v1 v2 _ _ w h1 h2).mono fun _ _ h => h.toE (or3 k (k + 1) (by omega) (big_nl (by rw [sg_natAbs]; exact nl_full hk)) two_small (big_nl (by rw [sg_full_mul]; exact nl_full_two hk)))
theorem lim_quo (w : World) (hk : 2 ≤ k) (h1 : IsInt w v1 (sg neg (full k))) (h2 : IsInt w v2 (sg neg 1)) :
    Calls Try.prog 15 #[v1, v2] w (RetE2 w (lerr k)) := by
  have hb : big (sg neg (full k)) ↔ 256 < k := big_nl (by rw [sg_natAbs]; exact nl_full hk)
  by_cases h : 256 < k
  · exact (quo_large v1 v2 _ _ w h1 h2 (Or.inl (hb.2 h))).mono fun _ _ h' => h'.toE (by unfold lerr; rw [if_pos h])
  · exact (quo_fine v1 v2 _ _ w h1 h2 (fun h' => h (hb.1 h')) (one_small neg) (fun h' => by have := sg_zero.1 h'; omega)).mono fun _ _ h' => h'.toE (by unfold lerr; rw [if_neg h])
theorem lim_gcd (w : World) (hk : 2 ≤ k) (h1 : IsInt w v1 (sg neg (full k))) (h2 : IsInt w v2 (sg neg 1)) :
    Calls Try.prog 16 #[v1, v2] w (RetE w (lerr k)) := by
  have hb : big (sg neg (full k)) ↔ 256 < k := big_nl (by rw [sg_natAbs]; exact nl_full hk)
  by_cases h : 256 < k
  · exact (gcd_large v1 v2 _ _ w h1 h2 (Or.inl (hb.2 h))).mono fun _ _ h' => h'.toE (by unfold lerr; rw [if_pos h])
  · obtain ⟨s, base, b, off, n, c, X, rfl, hb1, hX, hn, hl, hz⟩ := h1
    obtain ⟨t, base', b', off', n', c', Y, rfl, hb', hY, hn', hl', hz'⟩ := h2
    have hXX : nl X = k := by have := sg_natAbs s X; rw [← hz, sg_natAbs] at this; rw [← this]; exact nl_full hk
    have hYY : nl Y = 1 := by have := sg_natAbs t Y; rw [← hz', sg_natAbs] at this; rw [← this]; exact nl_small (by decide) (by decide)
    refine (gcd_ok _ _ base b off n c _ base' b' off' n' c' _ w hb1 hX hn hl hb' hY hn' hl' (by omega) fun gx gy W _ _ hx hy _ _ _ _ _ => ?_).mono fun _ _ h' => h'.toE (by unfold lerr; rw [if_neg h])
    refine (common_any gx gy _ _ W hx hy (by omega) (by omega) (by omega)).mono ?_
    rintro e w' ⟨base, c, b, off, n, h1, h2, h3, h4, h5, h6, h7⟩
    exact ⟨base, c, b, off, n, h1, h2, h3, h4, h5, fun hn => by have := h6 hn; have := hx.block_lt (by omega); omega, h7.mono (by have := hx.block_lt (by omega); omega)⟩
theorem lim_up (w : World) (hk : 2 ≤ k) (h1 : IsInt w v1 (sg neg (full k))) :
    Calls Try.prog 17 #[v1, .int .i64 1] w (RetE w (lerr (k + 1))) := by
  have hb : big (sg neg (full k)) ↔ 256 < k := big_nl (by rw [sg_natAbs]; exact nl_full hk)
  by_cases h : 256 < k
  · exact (shift_large v1 _ 1 w h1 (hb.2 h)).mono fun _ _ h' => h'.toE (by unfold lerr; rw [if_pos (by omega)])
  · obtain ⟨s, base, b, off, n, c, X, rfl, hb1, hX, hn, hl, hz⟩ := h1
    have hXX : X = full k := by have := sg_natAbs s X; rw [← hz, sg_natAbs] at this; exact this.symm
    have h2 := nl_full_two hk
    have hc : (256 < nl (X * 2^1) ∧ lerr (k + 1) = 2 ∧ (if 256 < k + 1 then 0 else sg s (X * 2^1)) = 0) ∨ (¬ 256 < nl (X * 2^1) ∧ lerr (k + 1) = 0 ∧ (if 256 < k + 1 then 0 else sg s (X * 2^1)) = sg s (X * 2^1)) := by
      rw [hXX, Nat.pow_one, h2]
      unfold lerr
      by_cases h3 : 256 < k + 1
      · left; refine ⟨h3, if_pos h3, if_pos h3⟩
      · right; refine ⟨h3, if_neg h3, if_neg h3⟩
    exact (shift_up s base b off n c X 1 w hb1 hX hn hl (by rw [hXX, nl_full hk]; exact h) (by rw [hXX]; exact full_pos hk) (by omega) _ _ hc).mono fun _ _ h' => h'.toE rfl
theorem lim_down (w : World) (hk : 2 ≤ k) (h1 : IsInt w v1 (sg neg (full k))) :
    Calls Try.prog 17 #[v1, .int .i64 (-1)] w (RetE w (lerr k)) := by
  have hb : big (sg neg (full k)) ↔ 256 < k := big_nl (by rw [sg_natAbs]; exact nl_full hk)
  by_cases h : 256 < k
  · exact (shift_large v1 _ (-1) w h1 (hb.2 h)).mono fun _ _ h' => h'.toE (by unfold lerr; rw [if_pos h])
  · exact (shift_down_sm (j := k) (k := 1) w h1 (by unfold sm; rw [sg_natAbs]; have := Bp k; unfold full; omega) (by omega) (by decide)).mono fun _ _ h' => h'.toE (by unfold lerr; rw [if_neg h])
theorem lim_text (w : World) (hk : 2 ≤ k) (h1 : IsInt w v1 (sg neg (full k))) :
    Calls Try.prog 69 #[v1] w (fun e w' => ∃ s, e = .returned (.tuple #[.string s, .int .i64 (lerr k)]) ∧ Below w.heap.size w w') := by
  have hb : big (sg neg (full k)) ↔ 256 < k := big_nl (by rw [sg_natAbs]; exact nl_full hk)
  by_cases h : 256 < k
  · have he : lerr k = 2 := by unfold lerr; rw [if_pos h]
    rw [he]
    exact (text_large v1 _ w h1 (hb.2 h)).mono fun _ _ h' => ⟨_, h'⟩
  · have he : lerr k = 0 := by unfold lerr; rw [if_neg h]
    rw [he]
    obtain ⟨s, base, b, off, n, c, X, rfl, hb1, hX, hn, hl, hz⟩ := h1
    have hXX : X = full k := by have := sg_natAbs s X; rw [← hz, sg_natAbs] at this; exact this.symm
    obtain ⟨M, hM, hnd⟩ := nd_of (X := X) (by rw [hXX, nl_full hk]; omega)
    exact (text_any s base b off n c X M w hb1 hX hn hl (by rw [hXX, nl_full hk]; exact h) (by rw [hXX]; exact full_pos hk) hnd hM _ rfl).mono fun _ _ h' => ⟨_, h'⟩
theorem lim_bits (w : World) (hk : 2 ≤ k) (h1 : IsInt w v1 (sg neg (full k))) :
    Calls Try.prog 34 #[v1] w (fun e w' => e = .returned (.int .i64 (32 * (k : Int))) ∧ Below w.heap.size w w') := by
  have h := bits_any v1 _ w h1
  rw [sg_natAbs, bl_full hk] at h
  exact h
theorem lim_trim (w : World) (hk : 2 ≤ k) (h1 : IsInt w v1 (sg neg (full k))) :
    Calls Try.prog 26 #[v1] w (fun e w' => ∃ (s : Bool) (q : Option Addr) (c : Nat), e = .returned (.agg #[.bool s, .slice q k c]) ∧ Below w.heap.size w w') := by
  refine (trim_any v1 _ w h1).mono fun e w' h => ?_
  obtain ⟨v, rfl, hc, hb⟩ := h
  obtain ⟨s, q, c, rfl⟩ := can_agg hc
  rw [sg_natAbs, nl_full hk]
  exact ⟨s, q, c, rfl, hb⟩
end Go.Proofs.Ytdgfmkideghhaaa
