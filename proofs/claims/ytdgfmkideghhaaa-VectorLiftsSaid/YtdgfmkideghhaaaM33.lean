/-
  RefA RefB RefC
-/
import Derived.Deep.Upon
import Derived.Test.YtdgfmkideghhaaaM32
/- The verifier's Mag, make1, Same, Large, Sign. -/
namespace PB
open Go Go.RowKit
/-- A row that is owned, as a slice. -/
theorem own_slice {E : TypeId} {N n X : Nat} {w : World} {v : Value} (h : OwnL E N w v n X) :
    ∃ (base : Option Addr) (g c : Nat), v = .slice base n c ∧ (n ≠ 0 → base = some ⟨g, 0, none⟩) ∧ n ≤ c ∧ Num w g 0 n X ∧ Free w g 0 n ∧ (n ≠ 0 → N ≤ g) := by
  have h' := h
  obtain ⟨hX, h1, h2⟩ := h
  rcases h2 with ⟨rfl, rfl⟩ | ⟨g, cap, cur, rfl, hg, hh, hw, hcap, hsz, htake⟩
  · exact ⟨none, 0, 0, rfl, fun h => absurd rfl h, Nat.le_refl _, ⟨hX, fun i hi => by omega⟩, fun i hi => by omega, fun h => absurd rfl h⟩
  · exact ⟨_, g, cap, rfl, fun _ => rfl, hw, h'.num, h'.free, fun _ => hg⟩
theorem limbs_append {X Y n m : Nat} (hX : X < B^n) : limbs X n ++ limbs Y m = limbs (X + Y * B^n) (n + m) := by
  apply List.ext_getElem?
  intro i
  by_cases h : i < n
  · rw [List.getElem?_append_left (by rw [limbs_length]; exact h), limbs_get h, limbs_get (by omega), dg_add_lo h]
  · rw [List.getElem?_append_right (by rw [limbs_length]; omega), limbs_length]
    by_cases e : i < n + m
    · obtain ⟨j, rfl⟩ : ∃ j, i = n + j := ⟨i - n, by omega⟩
      rw [limbs_get (by omega), limbs_get e, dg_add_hi hX, show n + j - n = j by omega]
    · rw [List.getElem?_eq_none (by rw [limbs_length]; omega), List.getElem?_eq_none (by rw [limbs_length]; omega)]
theorem OwnL.slice {E : TypeId} {N n X : Nat} {w : World} {v : Value} (h : OwnL E N w v n X) : ∃ base c, v = .slice base n c ∧ n ≤ c := by
  obtain ⟨base, g, c, h1, _, h3, _⟩ := own_slice h
  exact ⟨base, c, h1, h3⟩
/-- 'append(own, limbs...)'. -/
theorem run_append_limbs {P : Program} (w : World) (t ty E : TypeId) (i : TypeInfo) (ht : P.underlying t = some (.slice E)) (hi : P.info? E = some i) (hz : i.zero = some (.int .u32 0)) (hsize : i.size = 1) (hby : i.bytes = 4)
    (N : Nat) (v : Value) (n X : Nat) (hown : OwnL E N w v n X) (base : Option Addr) (b off m c Y : Nat) (hb : m ≠ 0 → base = some ⟨b, off, none⟩) (hY : Num w b off m Y) (hnm : n + m ≤ 2000000000) (hN : N ≤ w.heap.size) :
    ∃ v' w', (Builtin.append_ #[t, t] ty #[v, .slice base m c]).run P w = .ok v' w' ∧ OwnL E N w' v' (n + m) (X + Y * B^n) ∧ Below N w w' := by
  by_cases hm : m = 0
  · subst hm
    have hY0 : Y = 0 := by have := hY.lt; rw [Nat.pow_zero] at this; omega
    subst hY0
    obtain ⟨bs, cs, rfl, hcs⟩ := hown.slice
    refine ⟨_, w, run_append_nothing w t t ty E i ht hi bs n cs hcs (.slice base 0 c) ?_, by rw [Nat.zero_mul]; exact hown, Below.refl _ _⟩
    cases base with
    | none => exact Src.ofNil w ht c
    | some a => exact Src.ofSlice w ht a 0 c [] (by simp) (by intro j u h; simp at h) (by intro u h; simp at h)
  · obtain rfl := hb hm
    obtain ⟨v', w', h1, h2, h3, h4⟩ := run_append_own (P := P) w N t ty E i (.int .u32 0) 1 4 ht hi hz hsize hby rfl (by decide) v n (limbs X n) hown.2 ⟨b, off, none⟩ m c (limbs Y m) (by rw [limbs_length, Nat.mul_one])
      (by
        intro l u hu
        have hl := (List.getElem?_eq_some_iff.1 hu).1
        rw [limbs_length] at hl
        rw [limbs_get hl] at hu
        obtain rfl := Option.some.inj hu
        rw [Addr.add_lit]
        exact hY.cell hl)
      (by
        intro u hu
        obtain ⟨l, _, rfl⟩ := List.mem_map.1 hu
        rfl) (by unfold maxLen; omega) (by omega) hN
    rw [limbs_append hown.1] at h2
    refine ⟨v', w', h1, ⟨?_, h2⟩, (Below.refl _ _).grown h3 hN (fun q hq => (World.ownsRow.lt hown.2 q hq).1)⟩
    have a1 : (Y + 1) * B^n ≤ B^m * B^n := Nat.mul_le_mul_right _ hY.lt
    rw [← pow_add, Nat.add_comm m n, Nat.add_mul, Nat.one_mul] at a1
    have := hown.1
    omega
theorem wpList_append_limbs {P : Program} (w : World) {ops : Array Oper} {rest : List Oper} {o : Oper} {a : Act} {Q : Exit → Act → World → Prop} (hgd : o.guard = none) (s x : Operand) (t : TypeId)
    (ho : o.op = .call { callee := .builtin .append, args := #[s, x], argTypes := #[t, t] }) (E : TypeId) (i : TypeInfo) (ht : P.underlying t = some (.slice E)) (hi : P.info? E = some i) (hz : i.zero = some (.int .u32 0)) (hsize : i.size = 1) (hby : i.bytes = 4)
    (N : Nat) (v : Value) (n X : Nat) (hs : a.eval s = v) (hown : OwnL E N w v n X) (base : Option Addr) (b off m c Y : Nat) (hx : a.eval x = .slice base m c) (hb : m ≠ 0 → base = some ⟨b, off, none⟩) (hY : Num w b off m Y) (hnm : n + m ≤ 2000000000) (hN : N ≤ w.heap.size)
    (h : ∀ v' w', OwnL E N w' v' (n + m) (X + Y * B^n) → Below N w w' → wpList P ops Q rest (a.put o.dst v') w') : wpList P ops Q (o :: rest) a w := by
  refine wpList_plain hgd fun K hK => ?_
  obtain ⟨v', w', hr, h2, h3⟩ := run_append_limbs (P := P) w t o.type E i ht hi hz hsize hby N v n X hown base b off m c Y hb hY hnm hN
  unfold Oper.wp execOp
  simp only [ho, resolve, invoke, builtin, Sem.run_bind, Sem.run_pure, Result.andThen_ok, List.map_toArray, List.map_cons, List.map_nil, hs, hx, hr]
  exact hK _ _ (h v' w' h2 h3)
/-- The call returns a row of its own of the limbs of X. -/
def RetRow (E : TypeId) (w : World) (n X : Nat) (e : Ending) (w' : World) : Prop := ∃ v, e = .returned v ∧ OwnL E w.heap.size w' v n X ∧ Below w.heap.size w w'
end PB
namespace Go.Proofs.Ytdgfmkideghhaaa
open Go.RowKit PB

set_option maxHeartbeats 3200000 in
set_option maxRecDepth 100000 in
theorem mag_any (base : Option Addr) (b off n c X : Nat) (w : World) (hb : n ≠ 0 → base = some ⟨b, off, none⟩) (hX : Num w b off n X) (hn : n ≤ c) (hl : n ≤ 1000000000) :
    Calls Try.prog 91 #[.slice base n c] w (RetRow 77 w (nl X) X) := by
  obtain ⟨i0, hi, hz0, hz1, hz2⟩ := info_parts info51
  have HB := Lib.hid hb
  have HXL := Lib.hid hX.lt
  clear hb
  go_enter Try.func91, Try.ntmps91
  go_wp2_with fail
  go_loop [3] (fun i => ∃ k : Nat, k ≤ n ∧ X < B^k ∧ i = .int .i64 k) (fun i => (intOf i).toNat)
  case atStart => exact ⟨n, Nat.le_refl _, HXL.out, rfl⟩
  case round =>
    obtain ⟨k, hk, hXk, rfl⟩ := hrel
    have hnk : nl X ≤ k := nl_le hXk
    by_cases hkn : k = nl X
    · have HD : Hid (k = 0 ∨ ((dg X (k-1) : Int) == 0) = false) := Lib.hid (by
        by_cases h0 : k = 0
        · exact Or.inl h0
        · right
          have := nl_top (X := X) (by rintro rfl; rw [nl_zero] at hkn; omega)
          rw [← hkn] at this
          simp; omega)
      have hXf := hX.fewer (k := k) hk hXk
      have HKN := Lib.hid hkn
      have i1 : (k : Int) ≤ n := by omega
      have i2 : (k : Int) ≤ c := by omega
      clear hkn hnk hXk
      by_cases h0 : k = 0
      · subst h0
        clear HD
        go_wp2_with (at_builtin; refine wpList_append_limbs _ rfl _ _ 22 rfl 77 i0 Try.underlying22 hi hz0 hz1 hz2 w.heap.size _ 0 0 rfl (OwnL.nil _ _ _) base b off 0 c X rfl (fun h => absurd rfl h) hXf (by omega) (Nat.le_refl _) ?_)
        intro v' w' hown hbl
        have hown2 : OwnL 77 w.heap.size w' v' 0 X := by simpa using hown
        rw [HKN.out] at hown2
        clear hown
        go_wp2_with fail
        go_ret
        exact ⟨v', rfl, hown2, hbl⟩
      · have hk0 : (0 : Int) < k := by omega
        have c1 := hX.cell (i := k - 1) (by omega)
        have hI : ((k : Int) - 1).toNat = k - 1 := by omega
        have hd := HD.out.resolve_left h0
        obtain rfl := HB.out (by omega)
        clear HD
        go_wp2_with (at_builtin; refine wpList_append_limbs _ rfl _ _ 22 rfl 77 i0 Try.underlying22 hi hz0 hz1 hz2 w.heap.size _ 0 0 rfl (OwnL.nil _ _ _) (some ⟨b, off, none⟩) b off k c X rfl (fun _ => rfl) hXf (by omega) (Nat.le_refl _) ?_)
        intro v' w' hown hbl
        have hown2 : OwnL 77 w.heap.size w' v' k X := by simpa using hown
        rw [HKN.out] at hown2
        clear hown
        go_wp2_with fail
        go_ret
        exact ⟨v', rfl, hown2, hbl⟩
    · have hk0 : (0 : Int) < k := by omega
      have c1 := hX.cell (i := k - 1) (by omega)
      have hI : ((k : Int) - 1).toNat = k - 1 := by omega
      have hd : ((dg X (k-1) : Int) == 0) = true := by
        rw [dg_of_lt (lt_nl X) (by omega)]; rfl
      have hlt : X < B^(k-1) := nl_le_iff.1 (by omega)
      have HLT := Lib.hid hlt
      obtain rfl := HB.out (by omega)
      clear hlt hXk
      go_wp2_with fail
      go_round
      case rel => exact ⟨k - 1, by omega, HLT.out, by go_num⟩
      case measure => simp [intOf]; omega

set_option maxHeartbeats 3200000 in
set_option maxRecDepth 100000 in
theorem make1_any (neg : Bool) (base : Option Addr) (b off n c X : Nat) (w : World) (hb : n ≠ 0 → base = some ⟨b, off, none⟩) (hX : Num w b off n X) (hn : n ≤ c) (hl : n ≤ 1000000000) :
    Calls Try.prog 90 #[.bool neg, .slice base n c] w (RetInt w (sg neg X)) := by
  have hnl := nl_le hX.lt
  obtain ⟨s, hs⟩ : ∃ s, (if X = 0 then false else neg) = s := ⟨_, rfl⟩
  have HS : Hid (sg s X = sg neg X ∧ (X = 0 → s = false)) := Lib.hid (by
    rw [← hs]
    by_cases h : X = 0
    · subst h; simp [sg]
    · rw [if_neg h]; exact ⟨rfl, fun e => absurd e h⟩)
  have HD : Hid ((X = 0 ∧ s = false) ∨ (0 < nl X ∧ s = neg)) := Lib.hid (by
    rw [← hs]
    by_cases h : X = 0
    · exact Or.inl ⟨h, if_pos h⟩
    · exact Or.inr ⟨by have := mt nl_eq_zero.1 h; omega, if_neg h⟩)
  have HM := Lib.hid (fun W (h : Below w.heap.size w W) => mag_any base b off n c X W hb (hX.kept h) hn hl)
  clear hs hb
  go_enter Try.func90, Try.ntmps90
  go_upto_region 1 with fail
  generalize hW : World.alloc _ _ = W
  obtain ⟨R, hR⟩ : ∃ R, w.heap.size = R := ⟨_, rfl⟩
  have BR : Blk W R #[.bool false, .slice none 0 0] := by rw [← hW, ← hR]; exact blk_new rfl
  have hbW : Below w.heap.size w W := by rw [← hW]; exact bs_alloc (Below.refl _ _) _
  have HSZ : Hid (W.heap.size = R + 1) := Lib.hid (by rw [← hW, ← hR]; simp)
  rw [hR]
  have HR := Lib.hid hR
  clear hW hR
  go_wp2_with fail
  refine (HM.out W hbW).mono ?_
  rintro e w1 ⟨v, rfl, hown, hb1⟩
  obtain ⟨mb, mg, mc, rfl, hm1, hm2, hm3, hm4, hm5⟩ := own_slice hown
  have BR1 := BR.kept hb1
  have HB1 := Lib.hid (bs_trans hbW hb1)
  have HM1 := Lib.hid hm1
  have HM5 := Lib.hid hm5
  clear hown hb1 hbW BR HM hm1 hm5
  obtain ⟨r0, r1⟩ := Blk2 BR1
  obtain ⟨f0, f1⟩ := Blk2f BR1
  have fin : ∀ Z, Z = ((w1.setCell ⟨R, 0, none⟩ (.bool s)).setCell ⟨R, 1, none⟩ (.slice mb (nl X) mc)) → (Blk Z R #[.bool s, .slice mb (nl X) mc] ∧ IsCan w.heap.size Z (.agg #[.bool s, .slice mb (nl X) mc]) (sg neg X) ∧ Below w.heap.size w Z) := by
    rintro Z rfl
    refine ⟨(BR1.set 0 (.bool s)).set 1 (.slice mb (nl X) mc), ?_, bs_set (bs_set HB1.out (by have := HR.out; omega) _) (by have := HR.out; omega) _⟩
    refine ⟨s, mb, mg, 0, X, mc, rfl, HM1.out, (hm3.other _ (fun h => ?_)).other _ (fun h => ?_), hm2, by omega, HS.out.1.symm, HS.out.2, fun h => ?_⟩
    · have := HM5.out h; have := HSZ.out; show mg ≠ R; omega
    · have := HM5.out h; have := HSZ.out; show mg ≠ R; omega
    · have := HM5.out h; have := HSZ.out; have := HR.out; omega
  have FIN := Lib.hid fin
  clear fin
  rcases HD.out with ⟨h0, hs⟩ | ⟨h0, hs⟩
  · have i1 : decide (0 < nl X) = false := decide_eq_false (by rw [h0, nl_zero]; decide)
    subst hs
    clear h0 HD
    cases neg
    all_goals
      go_wp2_with fail
      obtain ⟨BZ, hC, hZ⟩ := FIN.out _ rfl
      generalize ((w1.setCell ⟨R, 0, none⟩ (.bool false)).setCell ⟨R, 1, none⟩ (.slice mb (nl X) mc)) = Z at *
      obtain ⟨z0, z1⟩ := Blk2 BZ
      exact bodyPost_ret (v := .agg #[.bool false, .slice mb (nl X) mc]) (by simp [results, Try.results90, go_sem, z0, z1]) rfl ⟨_, rfl, hC, hZ⟩
  · have i1 : decide (0 < nl X) = true := decide_eq_true (by omega)
    subst hs
    clear h0 HD
    cases s
    all_goals
      go_wp2_with fail
      obtain ⟨BZ, hC, hZ⟩ := FIN.out _ rfl
      generalize ((w1.setCell ⟨R, 0, none⟩ (.bool _)).setCell ⟨R, 1, none⟩ (.slice mb (nl X) mc)) = Z at *
      obtain ⟨z0, z1⟩ := Blk2 BZ
      exact bodyPost_ret (v := .agg #[.bool _, .slice mb (nl X) mc]) (by simp [results, Try.results90, go_sem, z0, z1]) rfl ⟨_, rfl, hC, hZ⟩
end Go.Proofs.Ytdgfmkideghhaaa

/- The verifier's Same, same, Large, Sign, Trim, Neg, Of, CmpMag. -/
namespace PB
open Go Go.RowKit
theorem sg_inj {s t : Bool} {X Y : Nat} (h : sg s X = sg t Y) (hs : X = 0 → s = false) (ht : Y = 0 → t = false) : s = t ∧ X = Y := by
  have e : X = Y := by have := congrArg Int.natAbs h; rwa [sg_natAbs, sg_natAbs] at this
  subst e
  refine ⟨?_, rfl⟩
  by_cases h0 : X = 0
  · rw [hs h0, ht h0]
  · unfold sg at h
    cases s <;> cases t <;> simp at h <;> first | rfl | omega
end PB
namespace Go.Proofs.Ytdgfmkideghhaaa
open Go.RowKit PB

set_option maxHeartbeats 3200000 in
set_option maxRecDepth 100000 in
theorem same_ref (N1 N2 : Nat) (v1 v2 : Value) (z : Int) (w : World) (h1 : IsCan N1 w v1 z) (h2 : IsCan N2 w v2 z) :
    Calls Try.prog 25 #[v1, v2] w fun e w' => e = .returned (.bool true) ∧ Below w.heap.size w w' := by
  obtain ⟨s, base, b, off, X, c, rfl, hb, hX, hc, hl, rfl, hs, _⟩ := h1
  obtain ⟨t, base', b', off', Y, c', rfl, hb', hY, hc', hl', hz, ht, _⟩ := h2
  obtain ⟨rfl, rfl⟩ := sg_inj hz hs ht
  have HB := Lib.hid hb
  have HB' := Lib.hid hb'
  clear hb hb' hs ht hz
  go_enter Try.func25, Try.ntmps25
  go_upto_region 1 with fail
  generalize hW : World.alloc _ _ = W
  have B0 : Blk W w.heap.size #[.bool s, .slice base (nl X) c] := by rw [← hW]; exact (blk_new rfl).alloc _
  have B1 : Blk W (w.heap.size + 1) #[.bool s, .slice base' (nl X) c'] := by rw [← hW]; exact blk_new (by simp)
  have hbW : Below w.heap.size w W := by rw [← hW]; exact bs_alloc (bs_alloc (Below.refl _ _) _) _
  have hX1 := hX.kept hbW
  have hY1 := hY.kept hbW
  obtain ⟨a0, a1⟩ := Blk2 B0
  obtain ⟨b0, b1⟩ := Blk2 B1
  have HBW := Lib.hid hbW
  have t0 : (s != s) = false := by simp
  clear hW hX hY hbW B0 B1
  go_wp2_with fail
  go_loopw [5] (fun i wr => ∃ k m : Nat, k ≤ nl X ∧ i = .int .i64 k ∧ wr = W.drewN m) (fun i _ => nl X - (intOf i).toNat)
  case atStart => exact ⟨0, 0, by omega, rfl, rfl⟩
  case round =>
    obtain ⟨k, m, hk, rfl, rfl⟩ := hrel
    by_cases hlt : k < nl X
    · obtain rfl := HB.out (by omega)
      obtain rfl := HB'.out (by omega)
      have c1 := hX1.cell (i := k) hlt
      have c2 := hY1.cell (i := k) hlt
      have i1 : (k : Int) < nl X := by omega
      have i2 : (0 : Int) ≤ k := by omega
      have t1 : ((dg X k : Int) != (dg X k : Int)) = false := by simp
      go_wp2_with fail
      go_quiet (fail)
      go_wp2_with fail
      go_roundw
      case rel => exact ⟨k + 1, _, by omega, by go_num, rfl⟩
      case measure => simp [intOf]; omega
    · have i1 : ¬ (k : Int) < nl X := by omega
      go_wp2_with fail
      go_ret
      exact ⟨rfl, below_drewN HBW.out _⟩

set_option maxHeartbeats 1600000 in
set_option maxRecDepth 100000 in
theorem large_ref (v : Value) (z : Int) (w : World) (h : IsInt w v z) :
    Calls Try.prog 84 #[v] w fun e w' => e = .returned (.bool (decide (256 < nl z.natAbs))) ∧ Below w.heap.size w w' := by
  obtain ⟨s, base, b, off, n, c, X, rfl, hb, hX, hn, hl, rfl⟩ := h
  rw [sg_natAbs]
  have HM := Lib.hid (fun W (h : Below w.heap.size w W) => mag_any base b off n c X W hb (hX.kept h) hn hl)
  clear hb
  go_enter Try.func84, Try.ntmps84
  go_wp2_with fail
  have hbW : Below w.heap.size w (w.alloc (Obj.cells #[.bool s, .slice base n c] 24)) := bs_alloc (Below.refl _ _) _
  refine (HM.out _ hbW).mono ?_
  rintro e w1 ⟨v, rfl, hown, hb1⟩
  obtain ⟨mb, mg, mc, rfl, _⟩ := own_slice hown
  have HB1 := bs_trans hbW hb1
  clear hown hb1 hbW HM
  go_wp2_with fail
  go_ret
  exact ⟨by simp; omega, HB1⟩

set_option maxHeartbeats 1600000 in
set_option maxRecDepth 100000 in
theorem sign_ref (v : Value) (z : Int) (w : World) (h : IsInt w v z) :
    Calls Try.prog 33 #[v] w fun e w' => e = .returned (.int .i64 z.sign) ∧ Below w.heap.size w w' := by
  obtain ⟨s, base, b, off, n, c, X, rfl, hb, hX, hn, hl, hz⟩ := h
  have HM := Lib.hid (fun W (h : Below w.heap.size w W) => mag_any base b off n c X W hb (hX.kept h) hn hl)
  clear hb
  have hbW : Below w.heap.size w (w.alloc (Obj.cells #[.bool s, .slice base n c] 24)) := bs_alloc (Below.refl _ _) _
  by_cases h0 : X = 0
  · have hz0 : z.sign = 0 := by subst hz h0; cases s <;> rfl
    rw [hz0]
    have ht : ((nl X : Int) == 0) = true := by rw [h0, nl_zero]; rfl
    clear hz hz0 h0
    go_enter Try.func33, Try.ntmps33
    go_wp2_with fail
    refine (HM.out _ hbW).mono ?_
    rintro e w1 ⟨v, rfl, hown, hb1⟩
    obtain ⟨mb, mg, mc, rfl, _⟩ := own_slice hown
    have HB1 := bs_trans hbW hb1
    clear hown hb1 hbW HM
    go_wp2_with fail
    go_ret
    exact ⟨rfl, HB1⟩
  · have hz0 := sg_sign (s := s) h0
    rw [← hz] at hz0
    rw [hz0]
    have ht : ((nl X : Int) == 0) = false := by have := mt nl_eq_zero.1 h0; simp; omega
    clear hz hz0 h0
    cases s
    all_goals
      go_enter Try.func33, Try.ntmps33
      go_wp2_with fail
      refine (HM.out _ hbW).mono ?_
      rintro e w1 ⟨v, rfl, hown, hb1⟩
      obtain ⟨mb, mg, mc, rfl, _⟩ := own_slice hown
      have HB1 := bs_trans hbW hb1
      have hbb := (Blk.kept (blk_new rfl) hb1)
      obtain ⟨z0, z1⟩ := Blk2 hbb
      clear hown hb1 hbW HM hbb
      go_wp2_with fail
      go_ret
      exact ⟨rfl, HB1⟩

set_option maxHeartbeats 1600000 in
set_option maxRecDepth 100000 in
theorem cmpmag_any (basex basey : Option Addr) (bx ox X cx by_ oy Y cy : Nat) (w : World) (hbx : nl X ≠ 0 → basex = some ⟨bx, ox, none⟩) (hby : nl Y ≠ 0 → basey = some ⟨by_, oy, none⟩)
    (hX : Num w bx ox (nl X) X) (hY : Num w by_ oy (nl Y) Y) (hc : nl X ≤ 1000000000) (_hc' : nl Y ≤ 1000000000) :
    Calls Try.prog 94 #[.slice basex (nl X) cx, .slice basey (nl Y) cy] w fun e w' => e = .returned (.int .i64 (cmpi X Y)) ∧ ∃ m, w' = w.drewN m := by
  by_cases h : nl X = nl Y
  · have hne : ((nl X : Int) != (nl Y : Int)) = false := by simp [h]
    have HB := Lib.hid hbx
    have HB' := Lib.hid hby
    obtain ⟨n, hn⟩ : ∃ n, n = nl X := ⟨_, rfl⟩
    have hX' := lt_nl X
    have hY' := lt_nl Y
    rw [← h] at hY' hY HB' hne ⊢
    rw [← hn] at hX hY hX' hY' HB HB' hne hc ⊢
    clear h hn hbx hby
    go_enter Try.func94, Try.ntmps94
    go_wp2_with fail
    go_loopw [5] (fun v wr => ∃ k q : Nat, k ≤ n ∧ v = .int .i64 ((k : Int) - 1) ∧ wr = w.drewN q ∧ X / B^k = Y / B^k) (fun v _ => (intOf v + 1).toNat)
    case atStart => exact ⟨n, 0, by omega, rfl, rfl, by rw [Nat.div_eq_of_lt hX', Nat.div_eq_of_lt hY']⟩
    case round =>
      obtain ⟨k, q, hk, rfl, rfl, heq⟩ := hrel
      have HE := Lib.hid heq
      clear heq
      by_cases h0 : k = 0
      · subst h0
        have hEq : X = Y := by simpa using HE.out
        subst hEq
        have hz : decide ((0 : Int) ≤ ((0 : Nat) : Int) - 1) = false := by decide
        go_wp2_with fail
        go_ret
        exact ⟨by rw [cmpi, if_neg (by omega), if_neg (by omega)]; rfl, q, rfl⟩
      · obtain ⟨j, rfl⟩ : ∃ j, k = j + 1 := ⟨k - 1, by omega⟩
        obtain rfl := HB.out (by omega)
        obtain rfl := HB'.out (by omega)
        have e1 : (((j + 1 : Nat) : Int) - 1) = j := by omega
        rw [e1]
        clear e1
        have c1 := hX.cell (i := j) (by omega)
        have c2 := hY.cell (i := j) (by omega)
        have i1 : (j : Int) < n := by omega
        have i2 : (0 : Int) ≤ j := by omega
        by_cases hd : dg X j = dg Y j
        · have ht : ((dg X j : Int) != dg Y j) = false := by simp [hd]
          have HD := Lib.hid hd
          clear hd
          go_wp2_with fail
          go_quiet (fail)
          go_wp2_with fail
          go_roundw
          case rel => exact ⟨j, _, by omega, rfl, rfl, div_eq_of_dg HE.out HD.out⟩
          case measure => simp [intOf]
        · have ht : ((dg X j : Int) != dg Y j) = true := by simp; omega
          rcases Nat.lt_or_gt_of_ne hd with h1 | h1
          · have HC := Lib.hid (show cmpi X Y = -1 by
              have := lt_of_dg HE.out h1
              unfold cmpi
              rw [if_pos (by omega)])
            have t1 : decide (dg X j < dg Y j) = true := decide_eq_true h1
            clear hd
            go_wp2_with fail
            go_quiet (fail)
            go_wp2_with fail
            go_quiet (fail)
            go_wp2_with fail
            go_ret
            exact ⟨by rw [HC.out]; rfl, _, by rw [World.drewN_drewN, World.drewN_drewN]⟩
          · have HC := Lib.hid (show cmpi X Y = 1 by
              have := lt_of_dg HE.out.symm h1
              unfold cmpi
              rw [if_neg (by omega), if_pos (by omega)])
            have t1 : decide (dg X j < dg Y j) = false := decide_eq_false (by omega)
            clear hd h1
            go_wp2_with fail
            go_quiet (fail)
            go_wp2_with fail
            go_quiet (fail)
            go_wp2_with fail
            go_ret
            exact ⟨by rw [HC.out]; rfl, _, by rw [World.drewN_drewN, World.drewN_drewN]⟩
  · have hne : ((nl X : Int) != (nl Y : Int)) = true := by simp; omega
    rcases Nat.lt_or_gt_of_ne h with h1 | h1
    · have HC := Lib.hid (show cmpi X Y = -1 by
        have := lt_of_nl_lt h1
        unfold cmpi
        rw [if_pos (by omega)])
      have t1 : decide (nl X < nl Y) = true := decide_eq_true h1
      clear h
      go_enter Try.func94, Try.ntmps94
      go_wp2_with fail
      go_ret
      exact ⟨by rw [HC.out]; rfl, 0, rfl⟩
    · have HC := Lib.hid (show cmpi X Y = 1 by
        have := lt_of_nl_lt h1
        unfold cmpi
        rw [if_neg (by omega), if_pos (by omega)])
      have t1 : decide (nl X < nl Y) = false := decide_eq_false (by omega)
      clear h h1
      go_enter Try.func94, Try.ntmps94
      go_wp2_with fail
      go_ret
      exact ⟨by rw [HC.out]; rfl, 0, rfl⟩
end Go.Proofs.Ytdgfmkideghhaaa

/- The verifier's divMag by one limb. -/
namespace PB
open Go Go.RowKit
/-- v is a slice without zeros at the high end that holds X. -/
def CanSl (w : World) (v : Value) (X : Nat) : Prop := ∃ (base : Option Addr) (b off c : Nat), v = .slice base (nl X) c ∧ (nl X ≠ 0 → base = some ⟨b, off, none⟩) ∧ Num w b off (nl X) X ∧ nl X ≤ c
theorem CanSl.kept {w w' : World} {v : Value} {X : Nat} (h : CanSl w v X) (hb : Below w.heap.size w w') : CanSl w' v X := by
  obtain ⟨base, b, off, c, h1, h2, h3, h4⟩ := h
  exact ⟨base, b, off, c, h1, h2, h3.kept hb, h4⟩
theorem cansl_nil (w : World) : CanSl w (.slice none 0 0) 0 := ⟨none, 0, 0, 0, by rw [nl_zero], fun h => absurd nl_zero h, ⟨Bp _, fun i hi => by rw [nl_zero] at hi; omega⟩, by rw [nl_zero]; omega⟩
theorem cansl_own {E : TypeId} {N X : Nat} {w : World} {v : Value} (h : OwnL E N w v (nl X) X) : CanSl w v X := by
  obtain ⟨base, g, c, h1, h2, h3, h4, _⟩ := own_slice h
  exact ⟨base, g, 0, c, h1, h2, h4, h3⟩
/-- What divMag returns. -/
def RetDM (w : World) (X Y : Nat) (e : Ending) (w' : World) : Prop := ∃ vq vr, e = .returned (.tuple #[vq, vr]) ∧ CanSl w' vq (X / Y) ∧ CanSl w' vr (X % Y) ∧ Below w.heap.size w w'
theorem u64_join {r x : Nat} (hr : r < B) (hx : x < B) : bits BinOp.or IntKind.u64 (IntKind.u64.wrap ((r : Int) * 4294967296)) (x : Int) = ((r * B + x : Nat) : Int) := by
  have e1 : IntKind.u64.wrap ((r : Int) * 4294967296) = ((r * B : Nat) : Int) := by
    rw [IntKind.wrap_u64]; unfold B at *; omega
  rw [e1, u64_or_nat _ _ (by unfold B at *; omega) (by unfold B at *; omega), show r * B ||| x = r * B + x from nat_join 32 (r * B) x (Nat.mul_mod_left _ _) hx]
theorem low_put0 {Q k q : Nat} : put (Q * B^(k+1)) k q = (Q * B + q) * B^k := by
  have h := short_put (X := 0) (Q := Q) (q := q) (k := k)
  rwa [Nat.zero_mod, Nat.zero_mod, Nat.zero_add, Nat.zero_add] at h
end PB
namespace Go.Proofs.Ytdgfmkideghhaaa
open Go.RowKit PB

set_option maxHeartbeats 3200000 in
set_option maxRecDepth 100000 in
theorem divmag_lt (basex basey : Option Addr) (bx ox X cx by_ oy Y cy : Nat) (w : World) (hbx : nl X ≠ 0 → basex = some ⟨bx, ox, none⟩) (hby : nl Y ≠ 0 → basey = some ⟨by_, oy, none⟩)
    (hX : Num w bx ox (nl X) X) (hY : Num w by_ oy (nl Y) Y) (hc : nl X ≤ 1000000000) (hc' : nl Y ≤ 1000000000) (hcx : nl X ≤ cx) (hlt : X < Y) :
    Calls Try.prog 129 #[.slice basex (nl X) cx, .slice basey (nl Y) cy] w (RetDM w X Y) := by
  have hcm : cmpi (X : Int) Y < 0 := by unfold cmpi; rw [if_pos (by omega)]; decide
  have HBX := Lib.hid hbx
  have ORD := Lib.hid (cmpmag_any basex basey bx ox X cx by_ oy Y cy w hbx hby hX hY hc hc')
  clear hbx hby
  go_enter Try.func129, Try.ntmps129
  go_wp2_with (go_at_call 94; refine ORD.out.mono ?_; rintro e w' ⟨rfl, n1, rfl⟩)
  go_ret2
  refine ⟨_, _, rfl, ?_, ?_, below_drewN (Below.refl _ _) _⟩
  · rw [Nat.div_eq_of_lt hlt]; exact cansl_nil _
  · rw [Nat.mod_eq_of_lt hlt]; exact ⟨basex, bx, ox, cx, rfl, HBX.out, hX.drewN, hcx⟩

set_option maxHeartbeats 3200000 in
set_option maxRecDepth 100000 in
theorem divmag_one (basex : Option Addr) (bx ox X cx by_ oy Y cy : Nat) (w : World) (hbx : nl X ≠ 0 → basex = some ⟨bx, ox, none⟩)
    (hX : Num w bx ox (nl X) X) (hY : Num w by_ oy (nl Y) Y) (hc : nl X ≤ 1000000000) (hY1 : nl Y = 1) (hle : Y ≤ X) :
    Calls Try.prog 129 #[.slice basex (nl X) cx, .slice (some ⟨by_, oy, none⟩) (nl Y) cy] w (RetDM w X Y) := by
  have hcm : ¬ cmpi (X : Int) Y < 0 := by unfold cmpi; rw [if_neg (by omega)]; split <;> decide
  have hYB : Y < B := small_lt (by omega)
  have hY0 : 0 < Y := by
    apply Nat.pos_of_ne_zero
    rintro rfl
    rw [nl_zero] at hY1; omega
  have hX0 : nl X ≠ 0 := by have := nl_mono hle; omega
  obtain rfl := hbx hX0
  have kY : w.cell? ⟨by_, oy, none⟩ = some (.int .u32 Y) := by
    have := hY.cell (i := 0) (by omega)
    rwa [Nat.add_zero, dg0_small (by omega)] at this
  have hby := hY.block_lt (by omega)
  have ORD := Lib.hid (fun cx cy => cmpmag_any (some ⟨bx, ox, none⟩) (some ⟨by_, oy, none⟩) bx ox X cx by_ oy Y cy w (fun _ => rfl) (fun _ => rfl) hX hY (by omega) (by omega))
  have HXL := Lib.hid (lt_nl X)
  obtain ⟨N, hN⟩ : ∃ N, nl X = N := ⟨_, rfl⟩
  rw [hY1] at ORD ⊢
  rw [hN] at ORD hX hc hX0 HXL ⊢
  clear hN hY1 hY hbx hle
  go_enter Try.func129, Try.ntmps129
  go_wp2_with (first | (go_at_call 94; refine (ORD.out _ _).mono ?_; rintro e w' ⟨rfl, n1, rfl⟩) | (at_make; refine wpList_make_num _ rfl _ _ 22 rfl 77 info51 Try.underlying22 .i64 .i64 _ _ N rfl rfl (by omega) (by omega) (by omega) ?_))
  intro w1 hb1 hz1 hS1 hF1 _
  have hbb1 : Below w.heap.size w w1 := below_undrewN hb1
  have HZ := Lib.hid hz1
  have hX1 := hX.kept hbb1
  have kY1 : w1.cell? ⟨by_, oy, none⟩ = some (.int .u32 Y) := by rw [hbb1.cell (p := ⟨by_, oy, none⟩) hby]; exact kY
  have hbxl := hX.block_lt hX0
  clear hz1 hb1 hX kY
  obtain ⟨G, hG⟩ : ∃ G, w.heap.size = G := ⟨_, rfl⟩
  have hS1' : Num w1 G 0 N 0 := hG ▸ hS1
  have hF1' : Free w1 G 0 N := hG ▸ hF1
  have hne : bx ≠ G := by omega
  have hne2 : by_ ≠ G := by omega
  have HGE := Lib.hid hG
  have HBB := Lib.hid hbb1
  have hz2 : Hid (w1.heap.size = G + 1) := Lib.hid (by rw [HZ.out]; show w.heap.size + 1 = _; omega)
  go_wp2_with fail
  rw [hG]
  clear hG hS1 hF1 hbb1
  go_loopw [7, 8] (fun r i wr => ∃ k : Nat, k ≤ N ∧ i = .int .i64 ((k : Int) - 1) ∧ r = .int .u64 (X / B^k % Y : Nat) ∧ Num wr G 0 N (X / B^k / Y * B^k) ∧ Free wr G 0 N ∧ Wr w1 wr G 0 N) (fun _ i _ => (intOf i + 1).toNat)
  case atStart =>
    have e : X / B^N = 0 := Nat.div_eq_of_lt HXL.out
    exact ⟨N, Nat.le_refl _, rfl, by rw [e, Nat.zero_mod]; rfl, hS1'.val (by rw [e, Nat.zero_div, Nat.zero_mul]), hF1', Wr.refl _ _ _ _⟩
  case round =>
    clear hS1' hF1'
    obtain ⟨k, hk, rfl, rfl, hS, hF, hwr⟩ := hrel
    by_cases h0 : k = 0
    · subst h0
      have hz : decide ((0 : Int) ≤ ((0 : Nat) : Int) - 1) = false := by decide
      have hQ : Num wr G 0 N (X / Y) := hS.val (by rw [Nat.pow_zero, Nat.div_one, Nat.mul_one])
      have hmod : X % Y < Y := Nat.mod_lt _ hY0
      obtain ⟨R, hR⟩ : ∃ R, X % Y = R := ⟨_, rfl⟩
      have hR0 : X / B^0 % Y = R := by rw [Nat.pow_zero, Nat.div_one]; exact hR
      rw [hR0]
      have HR := Lib.hid hR
      have hRB : R < 4294967296 := by have := B_eq; omega
      have HB1 : Hid (Below w.heap.size w wr) := Lib.hid (HBB.out.trans (hwr.below (by have := HGE.out; omega)))
      clear hS hR hR0 hmod hX1 kY1 hwr hF
      go_wp2_with fail
      refine (mag_any (some ⟨G, 0, none⟩) G 0 N N (X / Y) wr (fun _ => rfl) hQ (Nat.le_refl _) hc).mono ?_
      rintro e w2 ⟨vq, rfl, hq, hb2⟩
      have HQ := Lib.hid (cansl_own hq)
      have HB2 := Lib.hid (HB1.out.trans (hb2.mono HB1.out.size))
      clear hq hb2 hQ
      go_wp2_with fail
      generalize hV : World.alloc _ _ = V
      obtain ⟨P, hP⟩ : ∃ P, w2.heap.size = P := ⟨_, rfl⟩
      rw [hP]
      have hbV : Below w2.heap.size w2 V := by rw [← hV]; exact bs_alloc (Below.refl _ _) _
      have hRn : Num V P 0 1 R := by
        rw [← hV, ← hP]
        refine ⟨by rw [Nat.pow_one]; exact hRB, fun i hi => ?_⟩
        obtain rfl : i = 0 := by omega
        rw [show dg R 0 = R by unfold dg B; rw [Nat.pow_zero, Nat.div_one, Nat.mod_eq_of_lt hRB]]
        exact cell_new _ _ _ _ _ _ rfl rfl
      have HQ3 := Lib.hid (HQ.out.kept hbV)
      have HB3 := Lib.hid (HB2.out.trans (hbV.mono HB2.out.size))
      clear hV hP hbV HQ HB2
      refine (mag_any (some ⟨P, 0, none⟩) P 0 1 1 R V (fun _ => rfl) hRn (Nat.le_refl _) (by decide)).mono ?_
      rintro e w3 ⟨vr, rfl, hr, hb3⟩
      have HR3 := Lib.hid (cansl_own hr)
      have HQ4 := Lib.hid (HQ3.out.kept hb3)
      have HB4 := HB3.out.trans (hb3.mono HB3.out.size)
      clear hr hb3 hRn HQ3 HB3
      go_wp2_with fail
      go_ret2
      exact ⟨vq, vr, rfl, HQ4.out, by rw [HR.out]; exact HR3.out, HB4⟩
    · obtain ⟨j, rfl⟩ : ∃ j, k = j + 1 := ⟨k - 1, by omega⟩
      have e1 : (((j + 1 : Nat) : Int) - 1) = j := by omega
      rw [e1]
      clear e1
      have cX := (hwr.num hX1 (fun _ => Or.inl hne)).cell (i := j) (by omega)
      have cY : wr.cell? ⟨by_, oy, none⟩ = some (.int .u32 Y) := by rw [World.cell?_of_block (w := w1) (hwr.block by_ hne2)]; exact kY1
      have cS := hS.cell0 (i := j) (by omega)
      have fS := hF.at0 (i := j) (by omega)
      have i1 : (j : Int) < N := by omega
      have i2 : (0 : Int) ≤ j := by omega
      have i3 : (0 : Int) < Y := by omega
      have hr : X / B^(j+1) % Y < Y := Nat.mod_lt _ hY0
      have hxB := dg_lt X j
      have hst := short_step (X := X) (Q := X / B^(j+1) / Y) (r := X / B^(j+1) % Y) (d := Y) (k := j) (Nat.div_add_mod' _ _).symm
      have hsl := short_lt hr hxB
      obtain ⟨r, hre⟩ : ∃ r, X / B^(j+1) % Y = r := ⟨_, rfl⟩
      rw [hre] at hr hst hsl ⊢
      have hjoin := u64_join (r := r) (x := dg X j) (by omega) hxB
      obtain ⟨T, hT⟩ : ∃ T, r * B + dg X j = T := ⟨_, rfl⟩
      rw [hT] at hst hsl hjoin
      have hT2 : Hid (X / B^j / Y = X / B^(j+1) / Y * B + T / Y ∧ X / B^j % Y = T % Y) := Lib.hid (by
        have hm : T % Y < Y := Nat.mod_lt _ hY0
        constructor
        · rw [hst, Nat.mul_comm _ Y, Nat.mul_add_div hY0, Nat.div_eq_of_lt hm, Nat.add_zero]
        · rw [hst, Nat.mul_comm _ Y, Nat.mul_add_mod, Nat.mod_mod])
      have hTB : T < 18446744073709551616 := by have := B_eq; rw [← hT]; rw [B_eq]; unfold B at hxB hYB; omega
      have hq : T / Y < 4294967296 := hsl
      have i4 : (T : Int) < 18446744073709551616 := by omega
      have i5 : 0 ≤ (T : Int) / (Y : Int) := by rw [← Int.natCast_ediv]; exact Int.natCast_nonneg _
      have i6 : (T : Int) / (Y : Int) < 4294967296 := by rw [← Int.natCast_ediv]; exact Int.ofNat_lt.2 hq
      have i7 : (Y : Int) < 4294967296 := by have := B_eq; omega
      have i8 : (dg X j : Int) < 4294967296 := by have := B_eq; omega
      have HQ := Lib.hid hsl
      clear hst hre hT hr hxB hTB hq hsl
      go_wp2_with fail
      go_roundw
      case rel =>
        have hp := hS.set0 (k := j) (d := T / Y) (by omega) HQ.out
        rw [low_put0, ← hT2.out.1] at hp
        exact ⟨j, by omega, rfl, by rw [hT2.out.2]; rfl, hp, hF.set _ _, hwr.set _ _ (by omega) (by omega)⟩
      case measure => simp [intOf]
end Go.Proofs.Ytdgfmkideghhaaa
