/-
  The verifier's make1 and Up again: their limbs are a row that the call owns.
  Plain arithmetic of the verifier's long division.
-/
import Derived.Test.YtdgfmkideghhaaaM22
import Derived.Test.YtdgfmkideghhaaaM41
namespace PB
open Go Go.RowKit
theorem OwnL.mono {E : TypeId} {N N' n X : Nat} {w : World} {v : Value} (h : OwnL E N w v n X) (hN : N' ≤ N) : OwnL E N' w v n X := by
  obtain ⟨hX, h1, h2⟩ := h
  refine ⟨hX, h1, ?_⟩
  rcases h2 with h2 | ⟨g, cap, cur, h3, hg, r⟩
  · exact .inl h2
  · exact .inr ⟨g, cap, cur, h3, Nat.le_trans hN hg, r⟩
theorem OwnL.other {E : TypeId} {N n X : Nat} {w : World} {v : Value} (h : OwnL E N w v n X) {a : Addr} (u : Value) (hne : a.block < N) : OwnL E N (w.setCell a u) v n X := by
  obtain ⟨hX, h1, h2⟩ := h
  refine ⟨hX, h1, ?_⟩
  rcases h2 with h2 | ⟨g, cap, cur, h3, hg, hh, r⟩
  · exact .inl h2
  · exact .inr ⟨g, cap, cur, h3, hg, by rw [Below.heap_setCell _ _ _ _ (show g ≠ a.block by omega)]; exact hh, r⟩
/-- The call returns an Int whose limbs are a row of its own. -/
def RetOwn (E : TypeId) (w : World) (X : Nat) (e : Ending) (w' : World) : Prop := ∃ (s : Bool) (base : Option Addr) (c : Nat), e = .returned (.agg #[.bool s, .slice base (nl X) c]) ∧ OwnL E w.heap.size w' (.slice base (nl X) c) (nl X) X ∧ Below w.heap.size w w'
end PB
namespace Go.Proofs.Ytdgfmkideghhaaa
open Go.RowKit PB

set_option maxHeartbeats 3200000 in
set_option maxRecDepth 100000 in
theorem make1_own (neg : Bool) (base : Option Addr) (b off n c X : Nat) (w : World) (hb : n ≠ 0 → base = some ⟨b, off, none⟩) (hX : Num w b off n X) (hn : n ≤ c) (hl : n ≤ 1000000000) :
    Calls Try.prog 90 #[.bool neg, .slice base n c] w (RetOwn 77 w X) := by
  have hnl := nl_le hX.lt
  obtain ⟨s, hs⟩ : ∃ s, (if X = 0 then false else neg) = s := ⟨_, rfl⟩
  have HS : Hid (sg s X = sg neg X ∧ (X = 0 → s = false)) := Lib.hid (by
    rw [← hs]
    by_cases h : X = 0
    · subst h; simp [sg]
    · rw [if_neg h]; exact ⟨rfl, fun e => absurd e h⟩)
  have HD : Hid ((X = 0 ∧ s = false) ∨ (0 < nl X ∧ s = neg)) := Lib.hid (by
    rw [← hs]
    by_cases h : X = 0
    · exact Or.inl ⟨h, if_pos h⟩
    · exact Or.inr ⟨by have := mt nl_eq_zero.1 h; omega, if_neg h⟩)
  have HM := Lib.hid (fun W (h : Below w.heap.size w W) => mag_any base b off n c X W hb (hX.kept h) hn hl)
  clear hs hb
  go_enter Try.func90, Try.ntmps90
  go_upto_region 1 with fail
  generalize hW : World.alloc _ _ = W
  obtain ⟨R, hR⟩ : ∃ R, w.heap.size = R := ⟨_, rfl⟩
  have BR : Blk W R #[.bool false, .slice none 0 0] := by rw [← hW, ← hR]; exact blk_new rfl
  have hbW : Below w.heap.size w W := by rw [← hW]; exact bs_alloc (Below.refl _ _) _
  have HSZ : Hid (W.heap.size = R + 1) := Lib.hid (by rw [← hW, ← hR]; simp)
  rw [hR]
  have HR := Lib.hid hR
  clear hW hR
  go_wp2_with fail
  refine (HM.out W hbW).mono ?_
  rintro e w1 ⟨v, rfl, hown, hb1⟩
  obtain ⟨mb, mg, mc, rfl, hm1, hm2, hm3, hm4, hm5⟩ := own_slice hown
  have BR1 := BR.kept hb1
  have HB1 := Lib.hid (bs_trans hbW hb1)
  have HOW := Lib.hid hown
  have HM1 := Lib.hid hm1
  have HM5 := Lib.hid hm5
  clear hown hb1 hbW BR HM hm1 hm5
  obtain ⟨r0, r1⟩ := Blk2 BR1
  obtain ⟨f0, f1⟩ := Blk2f BR1
  have fin : ∀ Z, Z = ((w1.setCell ⟨R, 0, none⟩ (.bool s)).setCell ⟨R, 1, none⟩ (.slice mb (nl X) mc)) → (Blk Z R #[.bool s, .slice mb (nl X) mc] ∧ OwnL 77 w.heap.size Z (.slice mb (nl X) mc) (nl X) X ∧ Below w.heap.size w Z) := by
    rintro Z rfl
    refine ⟨(BR1.set 0 (.bool s)).set 1 (.slice mb (nl X) mc), ?_, bs_set (bs_set HB1.out (by have := HR.out; omega) _) (by have := HR.out; omega) _⟩
    have h1 := HSZ.out
    exact ((HOW.out.other _ (by show R < W.heap.size; omega)).other _ (by show R < W.heap.size; omega)).mono (by have := HR.out; omega)
  have FIN := Lib.hid fin
  clear fin
  rcases HD.out with ⟨h0, hs⟩ | ⟨h0, hs⟩
  · have i1 : decide (0 < nl X) = false := decide_eq_false (by rw [h0, nl_zero]; decide)
    subst hs
    clear h0 HD
    cases neg
    all_goals
      go_wp2_with fail
      obtain ⟨BZ, hC, hZ⟩ := FIN.out _ rfl
      generalize ((w1.setCell ⟨R, 0, none⟩ (.bool false)).setCell ⟨R, 1, none⟩ (.slice mb (nl X) mc)) = Z at *
      obtain ⟨z0, z1⟩ := Blk2 BZ
      exact bodyPost_ret (v := .agg #[.bool false, .slice mb (nl X) mc]) (by simp [results, Try.results90, go_sem, z0, z1]) rfl ⟨_, _, _, rfl, hC, hZ⟩
  · have i1 : decide (0 < nl X) = true := decide_eq_true (by omega)
    subst hs
    clear h0 HD
    cases s
    · go_wp2_with fail
      obtain ⟨BZ, hC, hZ⟩ := FIN.out _ rfl
      generalize ((w1.setCell ⟨R, 0, none⟩ (.bool false)).setCell ⟨R, 1, none⟩ (.slice mb (nl X) mc)) = Z at *
      obtain ⟨z0, z1⟩ := Blk2 BZ
      exact bodyPost_ret (v := .agg #[.bool false, .slice mb (nl X) mc]) (by simp [results, Try.results90, go_sem, z0, z1]) rfl ⟨false, _, _, rfl, hC, hZ⟩
    · go_wp2_with fail
      obtain ⟨BZ, hC, hZ⟩ := FIN.out _ rfl
      generalize ((w1.setCell ⟨R, 0, none⟩ (.bool true)).setCell ⟨R, 1, none⟩ (.slice mb (nl X) mc)) = Z at *
      obtain ⟨z0, z1⟩ := Blk2 BZ
      exact bodyPost_ret (v := .agg #[.bool true, .slice mb (nl X) mc]) (by simp [results, Try.results90, go_sem, z0, z1]) rfl ⟨true, _, _, rfl, hC, hZ⟩

set_option maxHeartbeats 3200000 in
set_option maxRecDepth 100000 in
theorem up_own (s : Bool) (base : Option Addr) (b off n c X : Nat) (k q p : Nat) (w : World) (hb : n ≠ 0 → base = some ⟨b, off, none⟩) (hX : Num w b off n X) (hn : n ≤ c) (hl : n ≤ 1000000000)
    (hs : nl X ≤ 100000) (hk : k = 32 * q + p) (hp : p < 32) (hq : q ≤ 100000) (Z : Nat) (hZ : Hid (X * 2^k = Z)) :
    Calls Try.prog 88 #[.agg #[.bool s, .slice base n c], .int .i64 k] w (RetOwn 77 w Z) := by
  have HM := Lib.hid (fun W (h : Below w.heap.size w W) => mag_any base b off n c X W hb (hX.kept h) hn hl)
  obtain ⟨i0, hi, hz0, hz1, hz2⟩ := info_parts info51
  have e1 : (k : Int) / 32 = q := by omega
  have e2 : (k : Int) % 32 = p := by omega
  have e3 : (k : Int) ≤ 3200032 := by omega
  have HKK := Lib.hid hk
  clear hb hk
  go_enter Try.func88, Try.ntmps88
  go_upto_region 1 with fail
  generalize hW : World.alloc _ _ = W
  have B0 : Blk W w.heap.size #[.bool s, .slice base n c] := by rw [← hW]; exact (blk_new rfl).alloc _
  have B1 : Blk W (w.heap.size + 1) #[.bool false, .slice none 0 0] := by rw [← hW]; exact blk_new (by simp)
  have hbW : Below w.heap.size w W := by rw [← hW]; exact bs_alloc (bs_alloc (Below.refl _ _) _) _
  have HS := Lib.hid (show W.heap.size = w.heap.size + 2 by rw [← hW]; simp)
  clear hW
  have HK := Lib.hid (show ∀ w3, Below W.heap.size W w3 → w3.cell? ⟨w.heap.size, 0, none⟩ = some (.bool s) from fun w3 h => (Blk2 (B0.kept h)).1)
  have HL := Lib.hid (show ∀ w3, Below W.heap.size W w3 → Blk w3 (w.heap.size + 1) #[.bool false, .slice none 0 0] from fun w3 h => B1.kept h)
  go_wp2_with (at_make; go_loud (refine wpList_make_limbs _ rfl _ _ 22 rfl 77 info51 Try.underlying22 W.heap.size (Nat.le_refl _) .i64 .i64 _ _ q rfl rfl (by omega) (by omega) (by omega) ?_))
  intro v0 w0 hb0 hown0
  have B0' := B0.kept hb0
  have B1' := B1.kept hb0
  obtain ⟨a0, a1⟩ := Blk2 B0'
  have HB0 := Lib.hid hb0
  have HBW := Lib.hid hbW
  clear B0 B1 hbW hb0
  go_wp2_with fail
  refine (HM.out _ (bs_trans HBW.out HB0.out)).mono ?_
  rintro e w1 ⟨v, rfl, hown, hb1⟩
  obtain ⟨mb, mg, mc, rfl, hm1, hm2, hm3, hm4, hm5⟩ := own_slice hown
  have hq1 : Below W.heap.size W w1 := HB0.out.trans (hb1.mono HB0.out.size)
  have hO1 := hown0.kept hb1
  have HMG := Lib.hid (show nl X ≠ 0 → mg < w1.heap.size from fun h => hm3.block_lt h)
  have HV0 := Lib.hid (show nl X ≠ 0 → v0.ownBlock ≠ some mg from fun h h2 => by
    have := (World.ownsRow.lt hown0.2 mg h2).2
    have := hm5 h
    omega)
  have HM1 := Lib.hid hm1
  have HXL := Lib.hid (lt_nl X)
  obtain ⟨M, hM⟩ : ∃ M, nl X = M := ⟨_, rfl⟩
  rw [hM] at HMG HV0 HM1 HXL hm2 hm3 hs ⊢
  have B0'' := B0'.kept hb1
  have B1'' := B1'.kept hb1
  clear hown hown0 hb1 HM hm1 hm4 hm5 B0' B1' a0 a1 HB0 hM
  go_wp2_with fail
  go_loopw [5, 6, 9, 10] (fun o cc i x wr => ∃ j cn S : Nat, j ≤ M ∧ cn < 2^p ∧ cc = .int .u32 cn ∧ i = .int .i64 j ∧ Hid (S + cn * B^j = X % B^j * 2^p) ∧ OwnL 77 W.heap.size wr o (q + j) (S * B^q) ∧ S < B^j ∧ Hid (M ≠ 0 → o.ownBlock ≠ some mg) ∧ Num wr mg 0 M X ∧ Below W.heap.size W wr ∧ Hid (w1.heap.size ≤ wr.heap.size)) (fun _ _ i _ _ => M - (intOf i).toNat)
  case atStart => exact ⟨0, 0, 0, by omega, Nat.pow_pos (by decide), rfl, rfl, Lib.hid (by simp [Nat.mod_one]), by simpa using hO1, Bp 0, HV0, hm3, hq1, Lib.hid (Nat.le_refl _)⟩
  case round =>
    clear hO1 hm3 hq1
    obtain ⟨j, cn, S, hj, hcn, rfl, rfl, hE, hO, hS, hne, hN3, hb, hsz⟩ := hrel
    have hgr := hb.size
    by_cases hlt : j < M
    · obtain rfl := HM1.out (by omega)
      have cX := hN3.cell0 (i := j) hlt
      have hx := dg_lt X j
      obtain ⟨x, hxe⟩ : ∃ x, dg X j = x := ⟨_, rfl⟩
      rw [hxe] at cX hx
      have HX := Lib.hid hxe
      clear hxe
      have i1 : (j : Int) < M := by omega
      have i2 : (0 : Int) ≤ j := by omega
      have i3 : (j : Int) ≤ 100000 := by omega
      have i4 : (p : Int) < 32 := by omega
      obtain ⟨T, hT⟩ : ∃ T, x * 2^p + cn = T := ⟨_, rfl⟩
      have HW := Lib.hid (up_word hx hp hcn)
      have HST := Lib.hid (up_step hE.out HX.out hT)
      have HTB := Lib.hid (up_lt hx hcn)
      rw [hT] at HW HTB
      have hTl : T < 18446744073709551616 := by
        have h1 : (2:Nat)^p ≤ 2^31 := Nat.pow_le_pow_right (by decide) (by omega)
        have h2 : T / B < 2147483648 := Nat.lt_of_lt_of_le HTB.out h1
        have := Nat.div_add_mod T B
        have := Nat.mod_lt T (show 0 < B by decide)
        unfold B at *; omega
      have HTM := Lib.hid (show (T : Int) % 4294967296 = ((T % B : Nat) : Int) from (Int.natCast_emod _ _).symm)
      have HTD := Lib.hid (show (T : Int) / 4294967296 = ((T / B : Nat) : Int) from (Int.natCast_ediv _ _).symm)
      have hmg := HMG.out (by omega)
      have hszo := hsz.out
      clear hT
      go_wp2_with (at_builtin; rw [HW.out, HTM.out]; refine wpList_append_word_at _ rfl _ _ 22 rfl 77 i0 Try.underlying22 hi hz0 hz1 hz2 W.heap.size _ (q + j) (S * B^q) rfl ⟨hO.1, hO.2.alloc _⟩ wr.heap.size (T % B) rfl (Nat.mod_lt _ (by decide)) (cell_new _ _ _ _ _ _ rfl rfl) (by omega) (by simp; omega) ?_)
      intro v' w' hown hbl hg hat
      have hb2 := (hb.alloc hgr (Obj.cells #[.int .u32 (T % B : Nat)] 77)).trans hbl
      have hN4 : Num w' mg 0 M X := ⟨HXL.out, fun i hi => by
        rw [World.cell?_of_block (hg.block mg (by simp; omega) (fun e => hne.out (by omega) e.symm))]
        exact (hN3.alloc _).2 i hi⟩
      have hne2 := Lib.hid (show M ≠ 0 → v'.ownBlock ≠ some mg from fun h e => by
        rcases hat with h1 | h1
        · exact hne.out h (h1 ▸ e)
        · rw [h1] at e; simp at e; omega)
      have hsz2 := Lib.hid (show w1.heap.size ≤ w'.heap.size by have := hg.size; simp at this; omega)
      have hO2 : OwnL 77 W.heap.size w' v' (q + (j + 1)) ((S + T % B * B^j) * B^q) := by
        rw [Nat.add_mul, Nat.mul_assoc (T % B), Nat.mul_comm (B^j), ← pow_add]; exact hown
      have hS2 := add_lt_pow (d := T % B) hS (Nat.mod_lt _ (by decide))
      clear hO hbl hg hat hown hne hN3 hsz hszo
      go_wp2_with fail
      go_roundw
      case rel =>
        rw [HTD.out]
        exact ⟨j + 1, T / B, _, by omega, HTB.out, rfl, by go_num, Lib.hid HST.out, hO2, hS2, hne2, hN4, hb2, hsz2⟩
      case measure => simp [intOf]; omega
    · obtain rfl : j = M := by omega
      have HV := Lib.hid (show S * B^q + cn * B^(q+j) = Z by
        rw [← hZ.out]
        have h := hE.out
        rw [Nat.mod_eq_of_lt HXL.out] at h
        rw [HKK.out, Nat.pow_add 2 (32 * q) p, Nat.pow_mul, show (2:Nat)^32 = B from rfl, ← Nat.mul_assoc, Nat.mul_right_comm, ← h, Nat.add_mul, pow_add, Nat.mul_assoc cn, Nat.mul_comm (B^j)])
      have hcB : cn < B := Nat.lt_of_lt_of_le hcn (Nat.pow_le_pow_right (show 0 < 2 by decide) (show p ≤ 32 by omega))
      have i1 : ¬ (j : Int) < j := by omega
      have ha0 := HK.out _ hb
      have hsz0 := HS.out
      clear hsz hne hN3 B0'' B1'' HV0 hE
      go_wp2_with fail
      clear hlt i1 hj HXL HM1 HMG hm2 e1 e2 e3 HKK hX hZ hcn hp hl hn
      go_region_held3 (fun w' => w'.cell? ⟨w.heap.size, 0, none⟩ = some (.bool s))
        (first | (refine cell_other (cell_other (HK.out _ hbb) ?_) ?_ <;> (show w.heap.size ≠ w.heap.size + 1; omega)) | exact HK.out _ hbb | exact HK.out _ hba | exact ha0 | exact HK.out _ (hb.alloc hgr _) | exact HK.out _ (hb.alloc hgr _).drew | exact HK.out _ hb.drew)
        (first
          | (go_at_call 90; refine (make1_own s _ _ 0 _ _ Z _ (fun _ => rfl) (by exact hN9) hc9 (by omega)).mono ?_; rintro e w4 ⟨s1, q1, c1, rfl, hcan, hb4⟩
             have hbb : Below W.heap.size W w4 := hba.trans (hb4.mono hba.size)
             obtain ⟨r0, r1⟩ := Blk2 (HL.out _ hbb)
             obtain ⟨f0, f1⟩ := Blk2f (HL.out _ hbb)
             have HC := Lib.hid (hcan.mono (show W.heap.size ≤ _ from hba.size))
             clear hcan)
          | (refine step_append_lies _ (by rfl) _ _ 22 (by rfl) W.heap.size 77 i0 (.int .u32 0) 1 4 Try.underlying22 hi hz0 hz1 hz2 rfl (by decide) u5 (q + j) (limbs (S * B^q) (q + j)) (by rfl) (by exact hO.2.alloc _) ⟨wr.heap.size, 0, none⟩ 1 1 [.int .u32 cn] (by rfl) rfl (by exact cell_one_new _ _ _) (by intro u hu; simp at hu; subst hu; rfl) (by decide) (by unfold maxLen; omega) (by omega) (by simp; omega) (wr.heap.size + 1) (by simp) ?_
             intro g cap w2 hown2 hgrow hat hlt2
             have hba : Below W.heap.size W w2 := (by first | exact (hb.alloc hgr _).grown hgrow (by simp; omega) (fun q hq => (World.ownsRow.lt hO.2 q hq).1) | exact (hb.drew.alloc hgr _).grown hgrow (by simp; omega) (fun q hq => (World.ownsRow.lt hO.2 q hq).1))
             have hown3 : OwnL 77 W.heap.size w2 (.slice (some ⟨g, 0, none⟩) (q + j + 1) cap) (q + j + 1) Z := by
               rw [limbs_snoc hO.1 hcB] at hown2
               rw [← HV.out]
               exact ⟨add_lt_pow hO.1 hcB, hown2⟩
             obtain ⟨b9, g9, c9, hv9, hm9, hc9, hN9, hF9, hG9⟩ := own_slice hown3
             clear hown2 hown3 hgrow hat hlt2
             cases hv9
             obtain rfl : g = g9 := by simpa using hm9 (by omega)
             clear hm9)
          | fail "no arm")
      go_wp2_with fail
      have h1 := HS.out
      exact bodyPost_ret (v := .agg #[.bool s1, .slice q1 _ c1]) (by simp [results, Try.results88, go_sem, r0, r1]) rfl
        ⟨_, _, _, rfl, ((HC.out.other _ (by show w.heap.size + 1 < W.heap.size; omega)).other _ (by show w.heap.size + 1 < W.heap.size; omega)).mono (by omega), bs_set (bs_set (HBW.out.trans (hbb.mono (by omega))) (by show w.heap.size ≤ w.heap.size + 1; omega) _) (by show w.heap.size ≤ w.heap.size + 1; omega) _⟩
end Go.Proofs.Ytdgfmkideghhaaa

namespace PB
open Go
theorem dm_step {R Q Y W0 j n : Nat} (hYn : Y < B^n) (hY0 : 0 < Y) (h : R + Q * Y * B^(j+1) = W0) (hR : R < Y * B^(j+1)) :
    R / B^j < Y * B ∧ R / B^j < B^(n+1) ∧
    (R % B^j + R / B^j % Y * B^j) + (Q * B + R / B^j / Y) * Y * B^j = W0 ∧
    R % B^j + R / B^j % Y * B^j < Y * B^j := by
  have h1 := long_step (R := R) (Q := Q) (Y := Y) (W0 := W0) (i := n + j) (n := n) (by omega) hYn hY0 (by rw [show n + j + 1 - n = j + 1 by omega]; exact h) (by rw [show n + j + 1 - n = j + 1 by omega]; exact hR)
  rw [show n + j - n = j by omega] at h1
  refine ⟨h1.1, Nat.lt_of_lt_of_le h1.1 ?_, ?_, h1.2.2.1⟩
  · rw [pow_succ]; exact Nat.mul_le_mul_right _ (Nat.le_of_lt hYn)
  · rw [Nat.add_comm (Q * B)]; exact h1.2.1
/-- What the three highest limbs tell of a digit. -/
theorem dm_est {P Y m T x0 y0 y1 : Nat} (hP : P < Y * B) (hY : Y < B^(m+2)) (hb : 2147483648 * B^(m+1) ≤ Y)
    (hT : dg P (m+2) * B + dg P (m+1) = T) (hx : dg P m = x0) (h1 : dg Y (m+1) = y1) (h0 : dg Y m = y0) :
    P / Y ≤ (T * B + x0) / (y1 * B + y0) ∧ (T * B + x0) / (y1 * B + y0) ≤ P / Y + 1 ∧ T < y1 * B + B ∧ 2147483648 ≤ y1 ∧ y1 < B ∧ P / Y < B := by
  have hM := Bp m
  have hK := Bp (m+1)
  have hY0 : 0 < Y := Nat.lt_of_lt_of_le (Nat.mul_pos (by decide) hK) hb
  have hP3 : P < B^(m+3) := Nat.lt_of_lt_of_le hP (by rw [show m + 3 = (m+2) + 1 from rfl, pow_succ (m+2)]; exact Nat.mul_le_mul_right _ (Nat.le_of_lt hY))
  have ht := top_le hP hP3 hY hb
  have eU : P / B^m = T * B + x0 := by
    have hU : P / B^m < B^3 := Nat.div_lt_of_lt_mul (by rw [← pow_add]; exact hP3)
    have e := three_limbs hU
    rw [dg_div, dg_div, dg_div] at e
    rw [← e, ← hT, show dg P (m + 0) = x0 from hx]
  have eV : Y / B^m = y1 * B + y0 := by
    have hV : Y / B^m < B^2 := Nat.div_lt_of_lt_mul (by rw [← pow_add]; exact hY)
    have e := two_limbs hV
    rw [dg_div, dg_div] at e
    rw [← e, h1, show dg Y (m + 0) = y0 from h0]
  have hdB : P / Y < B := Nat.div_lt_of_lt_mul hP
  have hy1 : y1 < B := by rw [← h1]; exact dg_lt _ _
  have hx1 := dg_lt P (m+1)
  rw [h1] at ht
  have hV : B ≤ y1 * B + y0 := by
    have := Nat.mul_le_mul_right B (show 1 ≤ y1 by omega)
    omega
  rw [← eU, ← eV]
  refine ⟨est_ge hM (by rw [eV]; exact Nat.lt_of_lt_of_le B_pos hV), est_le hM (by rw [eV]; exact Nat.lt_of_lt_of_le hdB hV) hY0, ?_, ht.2, hy1, hdB⟩
  have := Nat.mul_le_mul_right B ht.1
  omega
theorem est_low {q r T x0 y0 y1 : Nat} (h : q * y1 + r = T) (hc : ¬ r * B + x0 < q * y0) (hV : 0 < y1 * B + y0) : q ≤ (T * B + x0) / (y1 * B + y0) := by
  rw [Nat.le_div_iff_mul_le hV]
  subst h
  rw [Nat.mul_add, Nat.add_mul, ← Nat.mul_assoc]
  omega
theorem est_over {q r T y1 : Nat} (h : q * y1 + r = T) (hT : T < y1 * B + B) (hr : B ≤ r) (hy : 0 < y1) : q < B := by
  have h1 : q * y1 < B * y1 := by rw [Nat.mul_comm B]; omega
  exact Nat.lt_of_mul_lt_mul_right h1
theorem est_brk {q r x0 y0 : Nat} (hr : B ≤ r) (hq : q < B) (hy : y0 < B) : ¬ r * B + x0 < q * y0 := by
  have h1 : q * y0 ≤ (B - 1) * (B - 1) := Nat.mul_le_mul (by omega) (by omega)
  have h2 : B * B ≤ r * B := Nat.mul_le_mul_right _ hr
  unfold B at *
  omega
theorem est_q {T y1 : Nat} (hT : T < y1 * B + B) (hy : 2147483648 ≤ y1) : T / y1 ≤ B + 1 := by
  have : T / y1 < B + 2 := by
    rw [Nat.div_lt_iff_lt_mul (by omega), Nat.mul_comm, Nat.mul_add]
    unfold B at *
    omega
  omega
theorem digit_keep2 {P Y q S Pl c p K : Nat} (hP : P = Pl + p * K) (hS : S + q * Y = Pl + c * K) (hY : Y ≤ K) (hd : P / Y ≤ q) (hY0 : 0 < Y) (hK : 0 < K) (hc : ¬ p < c) : q = P / Y ∧ S = P % Y ∧ c = p := by
  obtain ⟨e1, e2⟩ := digit_keep hP hS hY hd hY0 hc
  refine ⟨e1, e2, ?_⟩
  have h3 := Nat.div_add_mod' P Y
  rw [← e1, ← e2] at h3
  have : c * K = p * K := by omega
  exact Nat.eq_of_mul_eq_mul_right hK this
theorem digit_back2 {P Y q S Pl c p K S' cc : Nat} (hP : P = Pl + p * K) (hS : S + q * Y = Pl + c * K) (hSK : S < K) (hY : Y ≤ K) (hd : q ≤ P / Y + 1) (hY0 : 0 < Y) (hc : p < c) (hS' : S' + cc * K = S + Y) (hSK' : S' < K) (hcc : cc < 2) :
    q = P / Y + 1 ∧ S' = P % Y ∧ c = p + 1 ∧ cc = 1 := by
  obtain ⟨e1, e2⟩ := digit_back hP hS hSK hY hd hY0 hc hS' hSK' hcc
  have h3 := Nat.div_add_mod' P Y
  have h4 := Nat.mod_lt P hY0
  rw [← e2] at h3 h4
  have h5 : q * Y = P / Y * Y + Y := by rw [e1, Nat.add_mul, Nat.one_mul]
  have h6 : S' + cc * K + P / Y * Y = Pl + c * K := by omega
  have h7 : cc * K + p * K = c * K := by omega
  rw [← Nat.add_mul] at h7
  have h8 : cc + p = c := Nat.eq_of_mul_eq_mul_right (by omega) h7
  exact ⟨e1, e2, by omega, by omega⟩
theorem sub64_lo {x y c : Nat} (hx : x < B) (hy : y < B) (hc : c < 2) : IntKind.u64.wrap (IntKind.u64.wrap ((x : Int) - y) - c) % 4294967296 = (subLo x y c : Nat) := by
  rw [IntKind.wrap_u64, IntKind.wrap_u64]
  unfold subLo B at *
  omega
theorem sub64_hi {x y c : Nat} (hx : x < B) (hy : y < B) (hc : c < 2) : IntKind.u64.wrap (IntKind.u64.wrap ((x : Int) - y) - c) / 9223372036854775808 = (subHi x y c : Nat) := by
  rw [IntKind.wrap_u64, IntKind.wrap_u64]
  unfold subHi B at *
  split <;> omega
theorem dm_bit {x : Nat} (hx : x < B) : (bits BinOp.and IntKind.u32 (x : Int) 2147483648 == 0) = decide (x < 2147483648) := by
  have e := u32_and_nat x 2147483648 (by unfold B at hx; exact hx) (by decide)
  rw [show ((2147483648 : Nat) : Int) = 2147483648 from rfl] at e
  have hb := bit31 (n := x) (by unfold B at hx; exact hx)
  have h31 : (2147483648 : Nat).testBit 31 = true := by decide
  rw [e, Bool.eq_iff_iff]
  simp only [beq_iff_eq, decide_eq_true_eq]
  by_cases h : x < 2147483648
  · rw [decide_eq_false (by omega)] at hb
    have h0 : x &&& 2147483648 = 0 := by
      apply Nat.eq_of_testBit_eq
      intro i
      rw [Nat.testBit_and, Nat.zero_testBit, show (2147483648 : Nat) = 2^31 from rfl, Nat.testBit_two_pow]
      by_cases hi : 31 = i
      · rw [← hi, hb]; rfl
      · rw [decide_eq_false hi, Bool.and_false]
    rw [h0]
    exact ⟨fun _ => h, fun _ => rfl⟩
  · rw [decide_eq_true (by omega)] at hb
    constructor
    · intro h0
      have h1 : x &&& 2147483648 = 0 := by exact_mod_cast h0
      have h2 := congrArg (fun z => z.testBit 31) h1
      simp only [Nat.testBit_and, hb, h31, Nat.zero_testBit] at h2
      cases h2
    · intro h1; exact absurd h1 h
end PB
