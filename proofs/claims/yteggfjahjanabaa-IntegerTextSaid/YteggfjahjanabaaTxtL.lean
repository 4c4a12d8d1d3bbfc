/-
  TxtL Txt
-/
import Derived.Test.YteggfjahjanabaaRefP
/- Both Texts of a number, and what both Parses make of them; the verifier's same. -/
namespace PB
open Go Go.RowKit
theorem str_size (xs : List Nat) : (strOfNums (xs.map Int.ofNat)).size = xs.length := by rw [strOfNums_size, List.length_map]
theorem byte_str {xs : List Nat} (h : ∀ x ∈ xs, x < 256) {k : Nat} (hk : k < xs.length) : byte (strOfNums (xs.map Int.ofNat)) k = xs.getD k 0 := by
  have hs := str_size xs
  unfold byte
  rw [dif_pos (by omega)]
  have hx : xs.getD k 0 < 256 := by
    rw [List.getD_eq_getElem?_getD, List.getElem?_eq_getElem hk]
    exact h _ (List.getElem_mem hk)
  have e : (strOfNums (xs.map Int.ofNat))[k]'(by omega) = UInt8.ofNat (xs.getD k 0) := by
    have e1 := Lib.data_getElem? (strOfNums (xs.map Int.ofNat)) k (by omega)
    rw [strOfNums_data] at e1
    rw [List.getElem?_map, List.getElem?_map, List.getElem?_eq_getElem hk] at e1
    have e2 := Option.some.inj e1
    rw [← e2, List.getD_eq_getElem?_getD, List.getElem?_eq_getElem hk]
    rfl
  rw [e, UInt8.toNat_ofNat']
  exact Nat.mod_eq_of_lt hx
theorem digs_get {X M k : Nat} (hk : k < M) : ((List.range M).map (dch X)).reverse.getD k 0 = dch X (M - 1 - k) := by
  rw [List.getD_eq_getElem?_getD, List.getElem?_reverse (by simpa using hk)]
  simp [show M - 1 - k < M by omega]
theorem dch_ge (X i : Nat) : 48 ≤ dch X i ∧ dch X i ≤ 57 := by unfold dch; omega
theorem byte_dtx {X M k : Nat} (hk : k < M) : byte (dtx X M) k = dch X (M - 1 - k) := by
  unfold dtx
  rw [byte_str (by intro x hx; simp at hx; obtain ⟨i, _, rfl⟩ := hx; exact dch_lt X i) (by simpa using hk), digs_get hk]
theorem dv_dtx {X M : Nat} (hX : X < 10^M) : ∀ k, k ≤ M → dv (dtx X M) k = X / 10^(M - k) := by
  intro k
  induction k with
  | zero => intro _; show 0 = _; rw [Nat.sub_zero, Nat.div_eq_of_lt hX]
  | succ k ih =>
    intro hk
    show dv (dtx X M) k * 10 + (byte (dtx X M) k - 48) = _
    rw [ih (by omega), byte_dtx (by omega)]
    unfold dch
    rw [show M - 1 - k = M - (k + 1) by omega, show M - k = (M - (k + 1)) + 1 by omega, Nat.pow_succ, ← Nat.div_div_eq_div_mul]
    generalize X / 10^(M - (k + 1)) = q
    omega
theorem all_dtx (X M : Nat) : AllDigits (dtx X M) := by
  intro k hk
  rw [dtx_size] at hk
  rw [byte_dtx hk]
  exact dch_ge _ _
/-- Parse of the text of a number that is not 0 is the number. -/
theorem txt_back (s : Bool) {X M : Nat} (h0 : X ≠ 0) (hM : IsND X M) (hM2 : M ≤ 2999) (hl : nl X ≤ 256) : pz (strOfNums ((txt s X M).map Int.ofNat)) = sg s X ∧ pe (strOfNums ((txt s X M).map Int.ofNat)) = 0 ∧ (strOfNums ((txt s X M).map Int.ofNat)).size ≤ 3000 := by
  have hpos := isND_pos hM h0
  have hdv : dv (dtx X M) M = X := by rw [dv_dtx hM.1 M (Nat.le_refl _), Nat.sub_self, Nat.pow_zero, Nat.div_one]
  have key : ∀ r : ByteArray, tl r = dtx X M → ng r = s → r.size ≤ 3000 → pz r = sg s X ∧ pe r = 0 ∧ r.size ≤ 3000 := by
    intro r h1 h2 h3
    have hp : pok r := by unfold pok; rw [h1, dtx_size]; exact ⟨all_dtx X M, hpos⟩
    have hd : dv (tl r) (tl r).size = X := by rw [h1, dtx_size, hdv]
    refine ⟨?_, ?_, h3⟩
    · unfold pz
      rw [hd, if_pos ⟨hp, h3, by omega⟩, h2]
    · unfold pe
      rw [hd, if_pos hp, if_pos ⟨h3, by omega⟩]
  cases s
  · rw [← dtx_txt]
    have hb : ¬ (0 < (dtx X M).size ∧ byte (dtx X M) 0 = 45) := by
      rintro ⟨_, h⟩
      rw [byte_dtx hpos] at h
      have := dch_ge X (M - 1 - 0)
      omega
    exact key _ (by unfold tl; rw [if_neg hb]) (by unfold ng; exact decide_eq_false hb) (by rw [dtx_size]; omega)
  · rw [← dtx_neg]
    have hsz : ({ data := #[45] } ++ dtx X M : ByteArray).size = M + 1 := by rw [ByteArray.size_append, dtx_size]; show 1 + M = _; omega
    have hb : 0 < ({ data := #[45] } ++ dtx X M : ByteArray).size ∧ byte ({ data := #[45] } ++ dtx X M) 0 = 45 := by
      refine ⟨by omega, ?_⟩
      rw [dtx_neg]
      rw [byte_str]
      · unfold txt; simp
      · intro x hx
        unfold txt at hx
        simp at hx
        rcases hx with rfl | ⟨i, _, rfl⟩
        · decide
        · exact dch_lt X i
      · unfold txt; simp
    refine key _ ?_ (by unfold ng; exact decide_eq_true hb) (by omega)
    unfold tl
    rw [if_pos hb]
    apply ByteArray.ext
    rw [hsz, ByteArray.data_extract, ByteArray.data_append]
    have hd : (dtx X M).data.size = M := dtx_size X M
    apply Array.ext
    · simp [hd]
    · intro i h1 h2
      simp
end PB
namespace Go.Proofs.Yteggfjahjanabaa
open Go.RowKit PB

set_option maxHeartbeats 1600000 in
set_option maxRecDepth 100000 in
theorem text_zero (s : Bool) (base : Option Addr) (b off n c : Nat) (w : World) (hb : n ≠ 0 → base = some ⟨b, off, none⟩) (hX : Num w b off n 0) (hn : n ≤ c) (hl : n ≤ 1000000000) :
    Calls Try.prog 40 #[.agg #[.bool s, .slice base n c]] w fun e w' => e = .returned (.tuple #[.string ⟨#[48]⟩, .int .i64 0]) ∧ Below w.heap.size w w' := by
  have HB := Lib.hid hb
  clear hb
  go_enter Try.func40, Try.ntmps40
  go_wp2_with fail
  generalize hW : World.alloc _ _ = W
  have B0 : Blk W w.heap.size #[.bool s, .slice base n c] := by rw [← hW]; exact (blk_new rfl).alloc _
  have B1 : Blk W (w.heap.size + 1) #[.bool s, .slice base n c] := by rw [← hW]; exact blk_new (by simp)
  have hbW : Below w.heap.size w W := by rw [← hW]; exact bs_alloc (bs_alloc (Below.refl _ _) _) _
  clear hW
  have call := large_one (w.heap.size + 1) s base b off n c 0 W (B1.cell 0 _ rfl) (B1.cell 1 _ rfl) HB.out (hX.kept hbW) hn (by omega)
  rw [decide_eq_false (by rw [nl_zero]; decide)] at call
  refine call.mono ?_
  clear call
  rintro e w1 ⟨rfl, hb1⟩
  have hbw1 := bs_trans hbW hb1
  obtain ⟨a0, a1⟩ := Blk2 (B0.kept hb1)
  have hX1 := hX.kept hbw1
  clear B0 B1 hbW hb1
  go_wp2_with fail
  refine (duplicate_any base b off n c 0 w1 HB.out hX1 hn (by omega)).mono ?_
  rintro e w2 ⟨rfl, hF⟩
  rw [nl_zero] at hF ⊢
  have hb2 := bs_trans hbw1 hF.below
  clear hF hX1 hbw1 a0 a1
  go_wp2_with fail
  go_loop [4, 5] (fun a v => a = .slice (some ⟨w1.heap.size, 0, none⟩) 0 0 ∧ v = .slice none 0 0) (fun _ _ => 0)
  case atStart => exact ⟨rfl, rfl⟩
  case round =>
    obtain ⟨rfl, rfl⟩ := hrel
    go_wp2_with fail
    go_loop [5] (fun v => v = .slice none 0 0) (fun _ => 0)
    case atStart => exact rfl
    case round =>
      obtain rfl := hrel
      go_wp2_with fail
      go_ret2
      exact ⟨rfl, hb2⟩

set_option maxHeartbeats 1600000 in
set_option maxRecDepth 100000 in
theorem text_ref0 (s : Bool) (base : Option Addr) (b off n c : Nat) (w : World) (hb : n ≠ 0 → base = some ⟨b, off, none⟩) (hX : Num w b off n 0) (hn : n ≤ c) (hl : n ≤ 1000000000) :
    Calls Try.prog 41 #[.agg #[.bool s, .slice base n c]] w fun e w' => e = .returned (.tuple #[.string ⟨#[48]⟩, .int .i64 0]) ∧ Below w.heap.size w w' := by
  have hI : IsInt w (.agg #[.bool s, .slice base n c]) (sg s 0) := ⟨s, base, b, off, n, c, 0, rfl, hb, hX, hn, hl, rfl⟩
  have HM := Lib.hid (fun W (h : Below w.heap.size w W) => mag_any base b off n c 0 W hb (hX.kept h) hn hl)
  have LRG := Lib.hid (fun W (h : Below w.heap.size w W) => large_ref _ _ W (hI.kept h))
  rw [sg_natAbs, decide_eq_false (by rw [nl_zero]; decide)] at LRG
  clear hI hb hX
  go_enter Try.func41, Try.ntmps41
  go_upto_region 1 with fail
  generalize hW : World.alloc _ _ = W
  have B0 : Blk W w.heap.size #[.bool s, .slice base n c] := by rw [← hW]; exact blk_new rfl
  have hbW : Below w.heap.size w W := by rw [← hW]; exact bs_alloc (Below.refl _ _) _
  obtain ⟨a0, a1⟩ := Blk2 B0
  clear hW
  go_wp2_with fail
  refine (LRG.out W hbW).mono ?_
  rintro e w1 ⟨rfl, hx1⟩
  obtain ⟨a0', a1'⟩ := Blk2 (B0.kept hx1)
  have HB1 := bs_trans hbW hx1
  clear a0 a1 hx1 LRG hbW B0
  go_wp2_with fail
  refine (HM.out w1 HB1).mono ?_
  rintro e w2 ⟨v, rfl, hown, hx2⟩
  obtain ⟨mb, mg, mc, rfl, _⟩ := own_slice hown
  have HB2 := bs_trans HB1 hx2
  rw [nl_zero]
  clear hown hx2 HB1 HM a0' a1'
  go_wp2_with fail
  go_ret2
  exact ⟨rfl, HB2⟩
/-- Both texts of a number of at most 40 limbs, and what Parse makes of them. -/
theorem text_both (z : Int) (hz : sm 40 z) : ∃ res : ByteArray, res.size ≤ 3000 ∧ pz res = z ∧ pe res = 0 ∧
    (∀ W v, IsInt W v z → Calls Try.prog 40 #[v] W fun e w' => e = .returned (.tuple #[.string res, .int .i64 0]) ∧ Below W.heap.size W w') ∧
    (∀ W v, IsInt W v z → Calls Try.prog 41 #[v] W fun e w' => e = .returned (.tuple #[.string res, .int .i64 0]) ∧ Below W.heap.size W w') := by
  by_cases h0 : z = 0
  · subst h0
    have hp : pok ⟨#[48]⟩ := by
      have ht : tl ⟨#[48]⟩ = ⟨#[48]⟩ := by unfold tl; exact if_neg (by rintro ⟨_, h⟩; exact absurd h (by decide))
      unfold pok
      rw [ht]
      refine ⟨?_, by decide⟩
      intro k hk
      obtain rfl : k = 0 := by have : k < 1 := hk; omega
      decide
    have ht : tl ⟨#[48]⟩ = ⟨#[48]⟩ := by unfold tl; exact if_neg (by rintro ⟨_, h⟩; exact absurd h (by decide))
    have hd : dv (tl ⟨#[48]⟩) (tl ⟨#[48]⟩).size = 0 := by rw [ht]; decide
    refine ⟨⟨#[48]⟩, by decide, ?_, ?_, ?_, ?_⟩
    · unfold pz
      rw [hd, if_pos ⟨hp, by decide, by rw [nl_zero]; decide⟩]
      exact sg_zero.2 rfl
    · unfold pe
      rw [hd, if_pos hp, if_pos ⟨by decide, by rw [nl_zero]; decide⟩]
    · rintro W v ⟨s, base, b, off, n, c, X, rfl, hb, hX, hn, hl, hzz⟩
      have hX0 : X = 0 := sg_zero.1 hzz.symm
      subst hX0
      exact text_zero s base b off n c W hb hX hn hl
    · rintro W v ⟨s, base, b, off, n, c, X, rfl, hb, hX, hn, hl, hzz⟩
      have hX0 : X = 0 := sg_zero.1 hzz.symm
      subst hX0
      exact text_ref0 s base b off n c W hb hX hn hl
  · have hnl : nl z.natAbs ≤ 40 := nl_le_iff.2 hz
    have hX0 : z.natAbs ≠ 0 := by omega
    obtain ⟨M, hM, hnd⟩ := nd_of (X := z.natAbs) (by omega)
    have hM2 : M ≤ 2999 := by
      have h1 := isND_ge hnd (isND_pos hnd hX0)
      have h2 : z.natAbs < 4294967296^256 := nl_le_iff.1 (show nl z.natAbs ≤ 256 by omega)
      obtain ⟨b, hb⟩ : ∃ b : Nat, b = 2731 := ⟨_, rfl⟩
      have h3 : 10^(M-1) < 10^b := Nat.lt_of_le_of_lt h1 (Nat.lt_of_lt_of_le h2 (two_ten (by omega)))
      have := (Nat.pow_lt_pow_iff_right (by decide)).1 h3
      omega
    have hzs : z = sg (decide (z < 0)) z.natAbs := by
      unfold sg
      by_cases hn : z < 0
      · rw [decide_eq_true hn]; simp; omega
      · rw [decide_eq_false hn]; simp; omega
    obtain ⟨e1, e2, e3⟩ := txt_back (decide (z < 0)) hX0 hnd hM2 (by omega)
    refine ⟨_, e3, by rw [e1, ← hzs], e2, ?_, ?_⟩
    · rintro W v ⟨s, base, b, off, n, c, X, rfl, hb, hX, hn, hl, hzz⟩
      obtain ⟨hXe, hse⟩ := sg_eq hzz.symm h0
      subst hXe hse
      exact text_any _ base b off n c _ M W hb hX hn hl (by omega) hX0 hnd hM _ rfl
    · rintro W v ⟨s, base, b, off, n, c, X, rfl, hb, hX, hn, hl, hzz⟩
      obtain ⟨hXe, hse⟩ := sg_eq hzz.symm h0
      subst hXe hse
      exact text_ref _ base b off n c _ M W hb hX hn hl (by omega) hX0 hnd hM _ rfl
end Go.Proofs.Yteggfjahjanabaa

/- The walk of IntegerText. -/
namespace Go.Proofs.Yteggfjahjanabaa
open Go.RowKit PB

set_option maxHeartbeats 1600000 in
set_option maxRecDepth 100000 in
theorem same_yes (N1 N2 : Nat) (s t : Bool) (q r : Option Addr) (n c m d : Nat) (z er : Int) (w : World) (h1 : IsCan N1 w (.agg #[.bool s, .slice q n c]) z) (h2 : IsCan N2 w (.agg #[.bool t, .slice r m d]) z) :
    Calls Try.prog 24 #[.agg #[.bool s, .slice q n c], .int .i64 er, .agg #[.bool t, .slice r m d], .int .i64 er] w fun e w' => e = .returned (.bool true) ∧ Below w.heap.size w w' := by
  have t0 : (er == er) = true := by simp
  go_enter Try.func24, Try.ntmps24
  go_upto_region 1 with fail
  generalize hW : World.alloc _ _ = W
  have B0 : Blk W w.heap.size #[.bool s, .slice q n c] := by rw [← hW]; exact (blk_new rfl).alloc _
  have B1 : Blk W (w.heap.size + 1) #[.bool t, .slice r m d] := by rw [← hW]; exact blk_new (by simp)
  have hbW : Below w.heap.size w W := by rw [← hW]; exact bs_alloc (bs_alloc (Below.refl _ _) _) _
  obtain ⟨a0, a1⟩ := Blk2 B0
  obtain ⟨b0, b1⟩ := Blk2 B1
  have h3 := h1.kept hbW
  have h4 := h2.kept hbW
  clear hW h1 h2 B0 B1
  go_wp2_with fail
  refine (same_ref N1 N2 _ _ z W h3 h4).mono ?_
  rintro e w1 ⟨rfl, hx⟩
  have HB := bs_trans hbW hx
  clear h3 h4 hx hbW a0 a1 b0 b1
  go_wp2_with fail
  go_ret
  exact ⟨rfl, HB⟩

set_option maxHeartbeats 12800000 in
set_option maxRecDepth 100000 in
theorem txt_main (s : ByteArray) (sa : Bool) (qa : Option Addr) (na ca : Nat) (a : Int) (w : World) (ha : IsInt w (.agg #[.bool sa, .slice qa na ca]) a) (la : na ≤ 40) (ls : s.size ≤ 4000) :
    Calls Try.prog 4 #[.string s, .agg #[.bool sa, .slice qa na ca]] w fun e w' => e = .returned (.bool true) ∧ Below w.heap.size w w' := by
  obtain ⟨res, hr1, hr2, hr3, hr4, hr5⟩ := text_both a (sm_int ha la)
  have i1 : decide ((4000 : Int) < s.size) = false := decide_eq_false (by omega)
  have F1 := Lib.hid (fun W => few_any sa qa na ca W)
  rw [decide_eq_true la] at F1
  have PS := Lib.hid (fun W => parse_any s W (by omega))
  have PR := Lib.hid (fun W => parse_refany s W (by omega))
  have PT := Lib.hid (fun W => parse_any res W (by omega))
  rw [hr2, hr3] at PT
  have T1 := Lib.hid hr4
  have T2 := Lib.hid hr5
  obtain ⟨z1, hz1⟩ : ∃ z, pz s = z := ⟨_, rfl⟩
  obtain ⟨e1, he1⟩ : ∃ z, pe s = z := ⟨_, rfl⟩
  rw [hz1, he1] at PS PR
  clear hr1 hr2 hr3 hr4 hr5 hz1 he1 la ls
  go_enter Try.func4, Try.ntmps4
  go_upto_region 1 with fail
  generalize hW : World.alloc _ _ = W
  obtain ⟨N, hN⟩ : ∃ N, w.heap.size = N := ⟨_, rfl⟩
  have B0 : Blk W N #[.bool sa, .slice qa na ca] := by rw [← hW, ← hN]; exact blk_new rfl
  have HB := Lib.hid (show Below w.heap.size w W by rw [← hW]; exact bs_alloc (Below.refl _ _) _)
  have HK := Lib.hid (show ∀ w1, Below W.heap.size W w1 → (w1.cell? ⟨N, 0, none⟩ = some (.bool sa) ∧ w1.cell? ⟨N, 1, none⟩ = some (.slice qa na ca)) ∧ IsInt w1 (.agg #[.bool sa, .slice qa na ca]) a from fun w1 h => ⟨Blk2 (B0.kept h), (ha.kept HB.out).kept h⟩)
  rw [hN]
  clear hW hN B0 ha
  go_wp2_with fail
  refine (awake_any W).mono ?_
  rintro e u0 ⟨rfl, hx⟩
  have HC := Lib.hid hx
  obtain ⟨⟨a0, a1⟩, _⟩ := HK.out _ hx
  clear hx
  go_wp2_with fail
  refine (F1.out u0).mono ?_
  rintro e u1 ⟨rfl, hx⟩
  have HD := Lib.hid (bs_trans HC.out hx)
  clear hx F1 HC a0 a1
  go_wp2_with fail
  refine (PS.out u1).mono ?_
  rintro e u2 ⟨v, rfl, hc, hx⟩
  obtain ⟨s5, q5, n5, c5, rfl, _⟩ := can_form hc
  have HC := Lib.hid (bs_trans HD.out hx)
  clear hx HD PS
  go_upto_region 6 with fail
  generalize hW : World.alloc _ _ = y5
  obtain ⟨P5, hP⟩ : ∃ P, u2.heap.size = P := ⟨_, rfl⟩
  rw [hP]
  have hy : Below u2.heap.size u2 y5 := by rw [← hW]; exact bs_alloc (Below.refl _ _) _
  have bl : Blk y5 P5 #[.bool s5, .slice q5 n5 c5] := by rw [← hW, ← hP]; exact blk_new rfl
  have hc5 := hc.kept hy
  have V5 := Lib.hid (show ∀ w1, Below y5.heap.size y5 w1 → (w1.cell? ⟨P5, 0, none⟩ = some (.bool s5) ∧ w1.cell? ⟨P5, 1, none⟩ = some (.slice q5 n5 c5)) ∧ IsCan u1.heap.size w1 (.agg #[.bool s5, .slice q5 n5 c5]) z1 from fun w1 h => ⟨Blk2 (bl.kept h), hc5.kept h⟩)
  have HD := Lib.hid (bs_trans HC.out hy)
  clear hW hP hy bl hc5 hc HC
  go_wp2_with fail
  refine (PR.out y5).mono ?_
  rintro e u3 ⟨v, rfl, hc, hx⟩
  obtain ⟨s7, q7, n7, c7, rfl, _⟩ := can_form hc
  have HC := Lib.hid (bs_trans HD.out hx)
  have HX5 := Lib.hid hx
  clear hx HD PR
  go_upto_region 7 with fail
  generalize hW : World.alloc _ _ = y7
  obtain ⟨P7, hP⟩ : ∃ P, u3.heap.size = P := ⟨_, rfl⟩
  rw [hP]
  have hy : Below u3.heap.size u3 y7 := by rw [← hW]; exact bs_alloc (Below.refl _ _) _
  have bl : Blk y7 P7 #[.bool s7, .slice q7 n7 c7] := by rw [← hW, ← hP]; exact blk_new rfl
  have hc7 := hc.kept hy
  have V7 := Lib.hid (show ∀ w1, Below y7.heap.size y7 w1 → (w1.cell? ⟨P7, 0, none⟩ = some (.bool s7) ∧ w1.cell? ⟨P7, 1, none⟩ = some (.slice q7 n7 c7)) ∧ IsCan y5.heap.size w1 (.agg #[.bool s7, .slice q7 n7 c7]) z1 from fun w1 h => ⟨Blk2 (bl.kept h), hc7.kept h⟩)
  have H57 := Lib.hid (bs_trans HX5.out hy)
  have HD := Lib.hid (bs_trans HC.out hy)
  clear hW hP hy bl hc7 hc HC HX5
  obtain ⟨⟨a0, a1⟩, ia⟩ := HK.out _ HD.out
  go_wp2_with fail
  refine (T1.out y7 _ ia).mono ?_
  rintro e u4 ⟨rfl, hx⟩
  have HC := Lib.hid (bs_trans HD.out hx)
  have HX7 := Lib.hid hx
  clear hx HD a0 a1 ia T1
  obtain ⟨⟨a0, a1⟩, ia⟩ := HK.out _ HC.out
  go_wp2_with fail
  refine (T2.out u4 _ ia).mono ?_
  rintro e u5 ⟨rfl, hx⟩
  have HD := Lib.hid (bs_trans HC.out hx)
  have HY7 := Lib.hid (bs_trans HX7.out hx)
  clear hx HC HX7 a0 a1 ia T2
  go_wp2_with fail
  refine (PT.out u5).mono ?_
  rintro e u6 ⟨v, rfl, hc, hx⟩
  obtain ⟨s13, q13, n13, c13, rfl, _⟩ := can_form hc
  have HC := Lib.hid (bs_trans HD.out hx)
  have HX7 := Lib.hid (bs_trans HY7.out hx)
  clear hx HD PT HY7
  go_upto_region 10 with fail
  generalize hW : World.alloc _ _ = y13
  obtain ⟨P13, hP⟩ : ∃ P, u6.heap.size = P := ⟨_, rfl⟩
  rw [hP]
  have hy : Below u6.heap.size u6 y13 := by rw [← hW]; exact bs_alloc (Below.refl _ _) _
  have bl : Blk y13 P13 #[.bool s13, .slice q13 n13 c13] := by rw [← hW, ← hP]; exact blk_new rfl
  have hc13 := (hc.kept hy).int
  have V13 := Lib.hid (show ∀ w1, Below y13.heap.size y13 w1 → (w1.cell? ⟨P13, 0, none⟩ = some (.bool s13) ∧ w1.cell? ⟨P13, 1, none⟩ = some (.slice q13 n13 c13)) ∧ IsInt w1 (.agg #[.bool s13, .slice q13 n13 c13]) a from fun w1 h => ⟨Blk2 (bl.kept h), hc13.kept h⟩)
  have H7 := Lib.hid (bs_trans HX7.out hy)
  have HD := Lib.hid (bs_trans HC.out hy)
  clear hW hP hy bl hc13 hc HC HX7
  obtain ⟨⟨b0, b1⟩, c5c⟩ := V5.out _ (bs_trans H57.out H7.out)
  obtain ⟨⟨d0, d1⟩, c7c⟩ := V7.out _ H7.out
  go_wp2_with fail
  refine (same_yes _ _ s5 s7 q5 q7 n5 c5 n7 c7 z1 e1 y13 c5c c7c).mono ?_
  rintro e u7 ⟨rfl, hx⟩
  have HC := Lib.hid (bs_trans HD.out hx)
  obtain ⟨⟨f0, f1⟩, i13⟩ := V13.out _ hx
  obtain ⟨⟨a0, a1⟩, ia⟩ := HK.out _ HC.out
  clear hx HD b0 b1 d0 d1 c5c c7c
  go_wp2_with fail
  refine (cmp_eq u7 i13 ia rfl).mono ?_
  rintro e u8 ⟨rfl, hx⟩
  have HF := bs_trans HB.out (bs_trans HC.out hx)
  clear hx HC f0 f1 a0 a1 i13 ia
  go_wp2_with fail
  go_ret
  exact ⟨rfl, HF⟩

set_option maxHeartbeats 3200000 in
set_option maxRecDepth 100000 in
theorem txt_a (s : ByteArray) (sa : Bool) (qa : Option Addr) (na ca : Nat) (w : World) (ls : 4000 < s.size) :
    Calls Try.prog 4 #[.string s, .agg #[.bool sa, .slice qa na ca]] w fun e w' => e = .returned (.bool true) ∧ Below w.heap.size w w' := by
  have i1 : decide ((4000 : Int) < s.size) = true := decide_eq_true (by omega)
  clear ls
  go_enter Try.func4, Try.ntmps4
  go_upto_region 1 with fail
  generalize hW : World.alloc _ _ = W
  have HB := Lib.hid (show Below w.heap.size w W by rw [← hW]; exact bs_alloc (Below.refl _ _) _)
  clear hW
  go_wp2_with fail
  refine (awake_any W).mono ?_
  rintro e u0 ⟨rfl, hx⟩
  have HC := Lib.hid hx
  clear hx
  go_wp2_with fail
  refine (awake_any u0).mono ?_
  rintro e u1 ⟨rfl, hx⟩
  have HF := bs_trans HB.out (bs_trans HC.out hx)
  clear hx HC
  go_wp2_with fail
  go_ret
  exact ⟨rfl, HF⟩

set_option maxHeartbeats 3200000 in
set_option maxRecDepth 100000 in
theorem txt_b (s : ByteArray) (sa : Bool) (qa : Option Addr) (na ca : Nat) (w : World) (ls : s.size ≤ 4000) (la : ¬ na ≤ 40) :
    Calls Try.prog 4 #[.string s, .agg #[.bool sa, .slice qa na ca]] w fun e w' => e = .returned (.bool true) ∧ Below w.heap.size w w' := by
  have i1 : decide ((4000 : Int) < s.size) = false := decide_eq_false (by omega)
  have F1 := Lib.hid (fun W => few_any sa qa na ca W)
  rw [decide_eq_false la] at F1
  clear ls la
  go_enter Try.func4, Try.ntmps4
  go_upto_region 1 with fail
  generalize hW : World.alloc _ _ = W
  have B0 : Blk W w.heap.size #[.bool sa, .slice qa na ca] := by rw [← hW]; exact blk_new rfl
  have HB := Lib.hid (show Below w.heap.size w W by rw [← hW]; exact bs_alloc (Below.refl _ _) _)
  clear hW
  go_wp2_with fail
  refine (awake_any W).mono ?_
  rintro e u0 ⟨rfl, hx⟩
  have HC := Lib.hid hx
  obtain ⟨a0, a1⟩ := Blk2 (B0.kept hx)
  clear hx B0
  go_wp2_with fail
  refine (F1.out u0).mono ?_
  rintro e u1 ⟨rfl, hx⟩
  have HD := Lib.hid (bs_trans HC.out hx)
  clear hx HC F1 a0 a1
  go_wp2_with fail
  refine (awake_any u1).mono ?_
  rintro e u2 ⟨rfl, hx⟩
  have HF := bs_trans HB.out (bs_trans HD.out hx)
  clear hx HD
  go_wp2_with fail
  go_ret
  exact ⟨rfl, HF⟩
end Go.Proofs.Yteggfjahjanabaa
