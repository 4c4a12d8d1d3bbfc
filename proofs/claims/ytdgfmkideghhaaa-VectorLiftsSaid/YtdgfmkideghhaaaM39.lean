/-
  Helpers for the verifier's Up: make and append on an owned row (where it lies), one step.
  The verifier's Up.
-/
import Derived.Maps.AppendAt
import Derived.Deep.AppendLies
import Derived.Deep.RegionHeld3
import Derived.Test.YtdgfmkideghhaaaM21
import Derived.Test.YtdgfmkideghhaaaM38
namespace PB
open Go Go.RowKit
theorem limbs_zero (n : Nat) : limbs 0 n = (List.replicate n (Value.int .u32 0)) := by
  apply List.ext_getElem?
  intro i
  by_cases h : i < n
  · rw [limbs_get h, List.getElem?_replicate, if_pos h, dg_zero]; rfl
  · rw [List.getElem?_eq_none (by rw [limbs_length]; omega), List.getElem?_eq_none (by simp; omega)]
theorem OwnL.kept {E : TypeId} {N n X : Nat} {w w' : World} {v : Value} (h : OwnL E N w v n X) (hb : Below w.heap.size w w') : OwnL E N w' v n X := by
  obtain ⟨hX, h1, h2⟩ := h
  refine ⟨hX, h1, ?_⟩
  rcases h2 with h2 | ⟨g, cap, cur, rfl, hg, hh, r⟩
  · exact .inl h2
  · have hlt : g < w.heap.size := by
      rcases Nat.lt_or_ge g w.heap.size with h | h
      · exact h
      · rw [Array.getElem?_eq_none h] at hh; cases hh
    exact .inr ⟨g, cap, cur, rfl, hg, by rw [hb.block g hlt]; exact hh, r⟩
theorem wpList_make_limbs {P : Program} (w : World) {ops : Array Oper} {rest : List Oper} {o : Oper} {a : Act} {Q : Exit → Act → World → Prop}
    (hg : o.guard = none) (l c : Operand) (t : TypeId) (hop : o.op = Op.makeSlice t l c)
    (e : TypeId) (hi : (P.info? e).map (fun i => (i.zero, i.size, i.bytes)) = some (some (.int .u32 0), 1, 4)) (h1 : P.underlying t = some (.slice e))
    (N : Nat) (hN : N ≤ w.heap.size) (kl kc : IntKind) (L C : Int) (n : Nat) (hl : a.eval l = .int kl L) (hc : a.eval c = .int kc C) (hL : L = n) (hC : C = n) (hn : n ≤ 1000000)
    (hK : ∀ v w', Below w.heap.size w w' → OwnL e N w' v n 0 → wpList P ops Q rest (a.put o.dst v) w') :
    wpList P ops Q (o :: rest) a w := by
  subst hL
  subst hC
  obtain ⟨i, h2, hz, hs, hb⟩ := info_parts hi
  refine wpList_plain hg fun K hK' => ?_
  have hrun := run_make (P := P) w t e i (.int .u32 0) h1 h2 hz kl kc n n (by omega) (by omega) (by rw [hb]; omega) (by omega)
  rw [hs] at hrun
  simp only [Int.toNat_natCast] at hrun
  unfold Oper.wp
  simp [execOp, hop, hl, hc, Result.andThen]
  rw [hrun]
  refine hK' _ _ (hK _ _ ((Below.refl _ _).alloc (Nat.le_refl _) _) ⟨Bp _, by rw [limbs_length, Nat.mul_one], .inr ⟨w.heap.size, n, _, rfl, hN, heap_alloc_new w _, Nat.le_refl _, by unfold maxLen; omega, ?_, ?_⟩⟩)
  · simp [madeCells, Value.cells]
  · rw [limbs_zero]
    apply List.ext_getElem
    · simp [madeCells, Value.cells]
    · intro j h1 h2
      simp [madeCells, Value.cells, Nat.mod_one]
/-- 'append(own, d)': where the new row lies, too. -/
theorem wpList_append_word_at {P : Program} (w : World) {ops : Array Oper} {rest : List Oper} {o : Oper} {a : Act} {Q : Exit → Act → World → Prop} (hgd : o.guard = none) (s x : Operand) (t : TypeId)
    (ho : o.op = .call { callee := .builtin .append, args := #[s, x], argTypes := #[t, t] }) (E : TypeId) (i : TypeInfo) (ht : P.underlying t = some (.slice E)) (hi : P.info? E = some i) (hz : i.zero = some (.int .u32 0)) (hsize : i.size = 1) (hby : i.bytes = 4)
    (N : Nat) (v : Value) (n X : Nat) (hs : a.eval s = v) (hown : OwnL E N w v n X) (b d : Nat) (hx : a.eval x = .slice (some ⟨b, 0, none⟩) 1 1) (hd : d < B) (hb : w.cell? ⟨b, 0, none⟩ = some (.int .u32 d)) (hn : n ≤ 2000000000) (hN : N ≤ w.heap.size)
    (h : ∀ v' w', OwnL E N w' v' (n + 1) (X + d * B^n) → Below N w w' → w.grownBy w' v.ownBlock → (v'.ownBlock = v.ownBlock ∨ v'.ownBlock = some w.heap.size) → wpList P ops Q rest (a.put o.dst v') w') : wpList P ops Q (o :: rest) a w := by
  refine wpList_append_own_at w hgd s x t ho N E i (.int .u32 0) 1 4 ht hi hz hsize hby rfl (by decide) v n (limbs X n) hs hown.2 ⟨b, 0, none⟩ 1 1 [.int .u32 d] hx rfl ?_ ?_ (by unfold maxLen; omega) (by omega) hN ?_
  · intro j u hu
    obtain rfl : j = 0 := by have := (List.getElem?_eq_some_iff.1 hu).1; simpa using this
    simp at hu
    subst hu
    rw [Addr.add_lit]
    exact hb
  · intro u hu; simp at hu; subst hu; rfl
  · intro v' w' h1 h2 _ h4
    rw [limbs_snoc hown.1 hd] at h1
    exact h v' w' ⟨add_lt_pow hown.1 hd, h1⟩ ((Below.refl _ _).grown h2 hN (fun q hq => (World.ownsRow.lt hown.2 q hq).1)) h2 h4
theorem up_word {x cn p : Nat} (hx : x < B) (hp : p < 32) (hcn : cn < 2^p) :
    bits BinOp.or IntKind.u64 (IntKind.u64.wrap (IntKind.u64.wrap (x : Int) * 2^p)) (IntKind.u64.wrap (cn : Int)) = ((x * 2^p + cn : Nat) : Int) := by
  have h1 : (2:Nat)^p ≤ 2^31 := Nat.pow_le_pow_right (by decide) (by omega)
  have e1 : IntKind.u64.wrap (cn : Int) = cn := by rw [IntKind.wrap_u64]; omega
  have h2 : x * 2^p < B * 2^32 := by
    refine Nat.lt_of_lt_of_le (Nat.mul_lt_mul_of_pos_right hx (Nat.pow_pos (by decide))) (Nat.mul_le_mul_left _ (Nat.le_trans h1 (by decide)))
  have e2 := nat_join p (x * 2^p) cn (Nat.mul_mod_left _ _) hcn
  rw [raise_wrap hx hp, e1, u64_or_nat _ _ (by unfold B at *; omega) (by omega), e2]
theorem up_lt {x cn p : Nat} (hx : x < B) (hcn : cn < 2^p) : (x * 2^p + cn) / B < 2^p := by
  have h1 : (x + 1) * 2^p ≤ B * 2^p := Nat.mul_le_mul_right _ hx
  rw [Nat.add_mul, Nat.one_mul] at h1
  exact Nat.div_lt_of_lt_mul (by omega)
theorem up_step {X S cn j x p T : Nat} (h : S + cn * B^j = X % B^j * 2^p) (hx : dg X j = x) (hT : x * 2^p + cn = T) :
    S + T % B * B^j + T / B * B^(j+1) = X % B^(j+1) * 2^p := by
  have e1 := Nat.mod_add_div' T B
  rw [mod_succ X, hx, pow_succ, Nat.add_mul]
  have e2 : (T % B + T / B * B) * B^j = (x * 2^p + cn) * B^j := by rw [e1, hT]
  rw [Nat.add_mul, Nat.add_mul, Nat.mul_assoc (T / B), Nat.mul_comm B] at e2
  have e3 : x * B^j * 2^p = x * 2^p * B^j := Nat.mul_right_comm _ _ _
  omega
end PB

namespace Go.Proofs.Ytdgfmkideghhaaa
open Go.RowKit PB

set_option maxHeartbeats 3200000 in
set_option maxRecDepth 100000 in
theorem up_mag (s : Bool) (base : Option Addr) (b off n c X : Nat) (k q p : Nat) (w : World) (hb : n ≠ 0 → base = some ⟨b, off, none⟩) (hX : Num w b off n X) (hn : n ≤ c) (hl : n ≤ 1000000000)
    (hs : nl X ≤ 100000) (hk : k = 32 * q + p) (hp : p < 32) (hq : q ≤ 100000) (Z : Nat) (hZ : Hid (X * 2^k = Z)) :
    Calls Try.prog 88 #[.agg #[.bool s, .slice base n c], .int .i64 k] w (RetInt w (sg s Z)) := by
  have HM := Lib.hid (fun W (h : Below w.heap.size w W) => mag_any base b off n c X W hb (hX.kept h) hn hl)
  obtain ⟨i0, hi, hz0, hz1, hz2⟩ := info_parts info51
  have e1 : (k : Int) / 32 = q := by omega
  have e2 : (k : Int) % 32 = p := by omega
  have e3 : (k : Int) ≤ 3200032 := by omega
  have HKK := Lib.hid hk
  clear hb hk
  go_enter Try.func88, Try.ntmps88
  go_upto_region 1 with fail
  generalize hW : World.alloc _ _ = W
  have B0 : Blk W w.heap.size #[.bool s, .slice base n c] := by rw [← hW]; exact (blk_new rfl).alloc _
  have B1 : Blk W (w.heap.size + 1) #[.bool false, .slice none 0 0] := by rw [← hW]; exact blk_new (by simp)
  have hbW : Below w.heap.size w W := by rw [← hW]; exact bs_alloc (bs_alloc (Below.refl _ _) _) _
  have HS := Lib.hid (show W.heap.size = w.heap.size + 2 by rw [← hW]; simp)
  clear hW
  have HK := Lib.hid (show ∀ w3, Below W.heap.size W w3 → w3.cell? ⟨w.heap.size, 0, none⟩ = some (.bool s) from fun w3 h => (Blk2 (B0.kept h)).1)
  have HL := Lib.hid (show ∀ w3, Below W.heap.size W w3 → Blk w3 (w.heap.size + 1) #[.bool false, .slice none 0 0] from fun w3 h => B1.kept h)
  go_wp2_with (at_make; go_loud (refine wpList_make_limbs _ rfl _ _ 22 rfl 77 info51 Try.underlying22 W.heap.size (Nat.le_refl _) .i64 .i64 _ _ q rfl rfl (by omega) (by omega) (by omega) ?_))
  intro v0 w0 hb0 hown0
  have B0' := B0.kept hb0
  have B1' := B1.kept hb0
  obtain ⟨a0, a1⟩ := Blk2 B0'
  have HB0 := Lib.hid hb0
  have HBW := Lib.hid hbW
  clear B0 B1 hbW hb0
  go_wp2_with fail
  refine (HM.out _ (bs_trans HBW.out HB0.out)).mono ?_
  rintro e w1 ⟨v, rfl, hown, hb1⟩
  obtain ⟨mb, mg, mc, rfl, hm1, hm2, hm3, hm4, hm5⟩ := own_slice hown
  have hq1 : Below W.heap.size W w1 := HB0.out.trans (hb1.mono HB0.out.size)
  have hO1 := hown0.kept hb1
  have HMG := Lib.hid (show nl X ≠ 0 → mg < w1.heap.size from fun h => hm3.block_lt h)
  have HV0 := Lib.hid (show nl X ≠ 0 → v0.ownBlock ≠ some mg from fun h h2 => by
    have := (World.ownsRow.lt hown0.2 mg h2).2
    have := hm5 h
    omega)
  have HM1 := Lib.hid hm1
  have HXL := Lib.hid (lt_nl X)
  obtain ⟨M, hM⟩ : ∃ M, nl X = M := ⟨_, rfl⟩
  rw [hM] at HMG HV0 HM1 HXL hm2 hm3 hs ⊢
  have B0'' := B0'.kept hb1
  have B1'' := B1'.kept hb1
  clear hown hown0 hb1 HM hm1 hm4 hm5 B0' B1' a0 a1 HB0 hM
  go_wp2_with fail
  go_loopw [5, 6, 9, 10] (fun o cc i x wr => ∃ j cn S : Nat, j ≤ M ∧ cn < 2^p ∧ cc = .int .u32 cn ∧ i = .int .i64 j ∧ Hid (S + cn * B^j = X % B^j * 2^p) ∧ OwnL 77 W.heap.size wr o (q + j) (S * B^q) ∧ S < B^j ∧ Hid (M ≠ 0 → o.ownBlock ≠ some mg) ∧ Num wr mg 0 M X ∧ Below W.heap.size W wr ∧ Hid (w1.heap.size ≤ wr.heap.size)) (fun _ _ i _ _ => M - (intOf i).toNat)
  case atStart => exact ⟨0, 0, 0, by omega, Nat.pow_pos (by decide), rfl, rfl, Lib.hid (by simp [Nat.mod_one]), by simpa using hO1, Bp 0, HV0, hm3, hq1, Lib.hid (Nat.le_refl _)⟩
  case round =>
    clear hO1 hm3 hq1
    obtain ⟨j, cn, S, hj, hcn, rfl, rfl, hE, hO, hS, hne, hN3, hb, hsz⟩ := hrel
    have hgr := hb.size
    by_cases hlt : j < M
    · obtain rfl := HM1.out (by omega)
      have cX := hN3.cell0 (i := j) hlt
      have hx := dg_lt X j
      obtain ⟨x, hxe⟩ : ∃ x, dg X j = x := ⟨_, rfl⟩
      rw [hxe] at cX hx
      have HX := Lib.hid hxe
      clear hxe
      have i1 : (j : Int) < M := by omega
      have i2 : (0 : Int) ≤ j := by omega
      have i3 : (j : Int) ≤ 100000 := by omega
      have i4 : (p : Int) < 32 := by omega
      obtain ⟨T, hT⟩ : ∃ T, x * 2^p + cn = T := ⟨_, rfl⟩
      have HW := Lib.hid (up_word hx hp hcn)
      have HST := Lib.hid (up_step hE.out HX.out hT)
      have HTB := Lib.hid (up_lt hx hcn)
      rw [hT] at HW HTB
      have hTl : T < 18446744073709551616 := by
        have h1 : (2:Nat)^p ≤ 2^31 := Nat.pow_le_pow_right (by decide) (by omega)
        have h2 : T / B < 2147483648 := Nat.lt_of_lt_of_le HTB.out h1
        have := Nat.div_add_mod T B
        have := Nat.mod_lt T (show 0 < B by decide)
        unfold B at *; omega
      have HTM := Lib.hid (show (T : Int) % 4294967296 = ((T % B : Nat) : Int) from (Int.natCast_emod _ _).symm)
      have HTD := Lib.hid (show (T : Int) / 4294967296 = ((T / B : Nat) : Int) from (Int.natCast_ediv _ _).symm)
      have hmg := HMG.out (by omega)
      have hszo := hsz.out
      clear hT
      go_wp2_with (at_builtin; rw [HW.out, HTM.out]; refine wpList_append_word_at _ rfl _ _ 22 rfl 77 i0 Try.underlying22 hi hz0 hz1 hz2 W.heap.size _ (q + j) (S * B^q) rfl ⟨hO.1, hO.2.alloc _⟩ wr.heap.size (T % B) rfl (Nat.mod_lt _ (by decide)) (cell_new _ _ _ _ _ _ rfl rfl) (by omega) (by simp; omega) ?_)
      intro v' w' hown hbl hg hat
      have hb2 := (hb.alloc hgr (Obj.cells #[.int .u32 (T % B : Nat)] 77)).trans hbl
      have hN4 : Num w' mg 0 M X := ⟨HXL.out, fun i hi => by
        rw [World.cell?_of_block (hg.block mg (by simp; omega) (fun e => hne.out (by omega) e.symm))]
        exact (hN3.alloc _).2 i hi⟩
      have hne2 := Lib.hid (show M ≠ 0 → v'.ownBlock ≠ some mg from fun h e => by
        rcases hat with h1 | h1
        · exact hne.out h (h1 ▸ e)
        · rw [h1] at e; simp at e; omega)
      have hsz2 := Lib.hid (show w1.heap.size ≤ w'.heap.size by have := hg.size; simp at this; omega)
      have hO2 : OwnL 77 W.heap.size w' v' (q + (j + 1)) ((S + T % B * B^j) * B^q) := by
        rw [Nat.add_mul, Nat.mul_assoc (T % B), Nat.mul_comm (B^j), ← pow_add]; exact hown
      have hS2 := add_lt_pow (d := T % B) hS (Nat.mod_lt _ (by decide))
      clear hO hbl hg hat hown hne hN3 hsz hszo
      go_wp2_with fail
      go_roundw
      case rel =>
        rw [HTD.out]
        exact ⟨j + 1, T / B, _, by omega, HTB.out, rfl, by go_num, Lib.hid HST.out, hO2, hS2, hne2, hN4, hb2, hsz2⟩
      case measure => simp [intOf]; omega
    · obtain rfl : j = M := by omega
      have HV := Lib.hid (show S * B^q + cn * B^(q+j) = Z by
        rw [← hZ.out]
        have h := hE.out
        rw [Nat.mod_eq_of_lt HXL.out] at h
        rw [HKK.out, Nat.pow_add 2 (32 * q) p, Nat.pow_mul, show (2:Nat)^32 = B from rfl, ← Nat.mul_assoc, Nat.mul_right_comm, ← h, Nat.add_mul, pow_add, Nat.mul_assoc cn, Nat.mul_comm (B^j)])
      have hcB : cn < B := Nat.lt_of_lt_of_le hcn (Nat.pow_le_pow_right (show 0 < 2 by decide) (show p ≤ 32 by omega))
      have i1 : ¬ (j : Int) < j := by omega
      have ha0 := HK.out _ hb
      have hsz0 := HS.out
      clear hsz hne hN3 B0'' B1'' HV0 hE
      go_wp2_with fail
      clear hlt i1 hj HXL HM1 HMG hm2 e1 e2 e3 HKK hX hZ hcn hp hl hn
      go_region_held3 (fun w' => w'.cell? ⟨w.heap.size, 0, none⟩ = some (.bool s))
        (first | (refine cell_other (cell_other (HK.out _ hbb) ?_) ?_ <;> (show w.heap.size ≠ w.heap.size + 1; omega)) | exact HK.out _ hbb | exact HK.out _ hba | exact ha0 | exact HK.out _ (hb.alloc hgr _) | exact HK.out _ (hb.alloc hgr _).drew | exact HK.out _ hb.drew)
        (first
          | (go_at_call 90; refine (make1_any s _ _ 0 _ _ Z _ (fun _ => rfl) (by exact hN9) hc9 (by omega)).mono ?_; rintro e w4 ⟨u, rfl, hcan, hb4⟩
             have hbb : Below W.heap.size W w4 := hba.trans (hb4.mono hba.size)
             obtain ⟨s1, q1, c1, rfl⟩ := can_agg hcan
             obtain ⟨r0, r1⟩ := Blk2 (HL.out _ hbb)
             obtain ⟨f0, f1⟩ := Blk2f (HL.out _ hbb)
             have HC := Lib.hid (hcan.mono (show W.heap.size ≤ _ from hba.size))
             clear hcan)
          | (refine step_append_lies _ (by rfl) _ _ 22 (by rfl) W.heap.size 77 i0 (.int .u32 0) 1 4 Try.underlying22 hi hz0 hz1 hz2 rfl (by decide) u5 (q + j) (limbs (S * B^q) (q + j)) (by rfl) (by exact hO.2.alloc _) ⟨wr.heap.size, 0, none⟩ 1 1 [.int .u32 cn] (by rfl) rfl (by exact cell_one_new _ _ _) (by intro u hu; simp at hu; subst hu; rfl) (by decide) (by unfold maxLen; omega) (by omega) (by simp; omega) (wr.heap.size + 1) (by simp) ?_
             intro g cap w2 hown2 hgrow hat hlt2
             have hba : Below W.heap.size W w2 := (by first | exact (hb.alloc hgr _).grown hgrow (by simp; omega) (fun q hq => (World.ownsRow.lt hO.2 q hq).1) | exact (hb.drew.alloc hgr _).grown hgrow (by simp; omega) (fun q hq => (World.ownsRow.lt hO.2 q hq).1))
             have hown3 : OwnL 77 W.heap.size w2 (.slice (some ⟨g, 0, none⟩) (q + j + 1) cap) (q + j + 1) Z := by
               rw [limbs_snoc hO.1 hcB] at hown2
               rw [← HV.out]
               exact ⟨add_lt_pow hO.1 hcB, hown2⟩
             obtain ⟨b9, g9, c9, hv9, hm9, hc9, hN9, hF9, hG9⟩ := own_slice hown3
             clear hown2 hown3 hgrow hat hlt2
             cases hv9
             obtain rfl : g = g9 := by simpa using hm9 (by omega)
             clear hm9)
          | fail "no arm")
      go_wp2_with fail
      have h1 := HS.out
      exact bodyPost_ret (v := .agg #[.bool s1, .slice q1 _ c1]) (by simp [results, Try.results88, go_sem, r0, r1]) rfl
        ⟨_, rfl, ((HC.out.set (by show w.heap.size + 1 < W.heap.size; omega) _).set (by show w.heap.size + 1 < W.heap.size; omega) _).mono (by omega), bs_set (bs_set (HBW.out.trans (hbb.mono (by omega))) (by show w.heap.size ≤ w.heap.size + 1; omega) _) (by show w.heap.size ≤ w.heap.size + 1; omega) _⟩
end Go.Proofs.Ytdgfmkideghhaaa
