/-
  integer.sum returns the sum of two numbers.
  integer.shorten divides limbs by one limb, in place.
-/
import Derived.Test.YtdgfmkideghhaaaM16
namespace Go.Proofs.Ytdgfmkideghhaaa
open Go.RowKit PB


set_option maxHeartbeats 1600000 in
set_option maxRecDepth 100000 in
/-- Equal signs. -/
theorem sum_same (s : Bool) (base : Option Addr) (b off n c X : Nat) (base' : Option Addr) (b' off' n' c' Y : Nat) (w : World)
    (hb : n ≠ 0 → base = some ⟨b, off, none⟩) (hX : Num w b off n X) (hn : n ≤ c) (hl : n ≤ 1000000000)
    (hb' : n' ≠ 0 → base' = some ⟨b', off', none⟩) (hY : Num w b' off' n' Y) (hn' : n' ≤ c') (hl' : n' ≤ 1000000000) (hs : nl X ≤ 256) (hs' : nl Y ≤ 256) :
    Calls Try.prog 72 #[.agg #[.bool s, .slice base n c], .agg #[.bool s, .slice base' n' c']] w (RetInt w (sg s (X + Y))) := by
  have hnX := nl_le hX.lt
  have hnY := nl_le hY.lt
  have ht : (s == s) = true := by simp
  go_enter Try.func72, Try.ntmps72
  go_wp2_with fail
  generalize hW : World.alloc _ _ = W
  have B0 : Blk W w.heap.size #[.bool s, .slice base n c] := by rw [← hW]; exact ((blk_new rfl).alloc _).alloc _
  have B1 : Blk W (w.heap.size + 1) #[.bool s, .slice base' n' c'] := by rw [← hW]; exact (blk_new (by simp)).alloc _
  have B2 : Blk W (w.heap.size + 1 + 1) #[.bool false, .slice none 0 0] := by rw [← hW]; exact blk_new (by simp)
  have hbW : Below w.heap.size w W := by rw [← hW]; exact (((Below.refl _ _).alloc (Nat.le_refl _) _).alloc (by simp) _).alloc (by simp; omega) _
  have HS := Lib.hid (show W.heap.size = w.heap.size + 3 by rw [← hW]; simp)
  clear hW
  obtain ⟨a0, a1⟩ := Blk2 B0
  obtain ⟨b0, b1⟩ := Blk2 B1
  go_quiet ((first
    | (go_at_call_of 75 (Value.slice base n c); exact quiet_one (cut_any base b off n c X _ hb (hX.kept hbW).drewN hn (by omega)))
    | (go_at_call_of 75 (Value.slice base' n' c'); exact quiet_one (cut_any base' b' off' n' c' Y _ hb' (hY.kept hbW).drewN hn' (by omega)))))
  go_wp2_with fail
  have hX2 := ((hX.fewer hnX (lt_nl X)).kept hbW).drewN (m := nq)
  have hY2 := ((hY.fewer hnY (lt_nl Y)).kept hbW).drewN (m := nq)
  have hb2 : nl X ≠ 0 → base = some ⟨b, off, none⟩ := fun h => hb (by omega)
  have hb2' : nl Y ≠ 0 → base' = some ⟨b', off', none⟩ := fun h => hb' (by omega)
  have B2' := B2.drewN (n := nq)
  have B0' := B0.drewN (n := nq)
  have hbW2 : Below w.heap.size w (W.drewN nq) := ⟨hbW.os, hbW.tape, hbW.output, hbW.size, hbW.block⟩
  have HS2 := Lib.hid (show (W.drewN nq).heap.size = w.heap.size + 3 from HS.out)
  clear B0 B1 B2 a0 a1 b0 b1 hbW HS
  generalize W.drewN nq = W2 at *
  obtain ⟨a0, _⟩ := Blk2 B0'
  have hmx : max (nl X) (nl Y) + 1 ≤ 257 := by omega
  have hXY : X + Y < B^(max (nl X) (nl Y) + 1) := by
    have h1 := Nat.lt_of_lt_of_le (lt_nl X) (pow_le (Nat.le_max_left (nl X) (nl Y)))
    have h2 := Nat.lt_of_lt_of_le (lt_nl Y) (pow_le (Nat.le_max_right (nl X) (nl Y)))
    rw [pow_succ]
    have : B^(max (nl X) (nl Y)) * 2 ≤ B^(max (nl X) (nl Y)) * B := Nat.mul_le_mul_left _ (by decide)
    omega
  obtain ⟨M, hM⟩ : ∃ M, max (nl X) (nl Y) + 1 = M := ⟨_, rfl⟩
  have hplus := plus_any base base' b off (nl X) (nl X) X b' off' (nl Y) (nl Y) Y
  rw [hM] at hmx hXY hplus
  have HP := Lib.hid hplus
  clear hM hplus
  have HK := Lib.hid (show ∀ w1, Below W2.heap.size W2 w1 → w1.cell? ⟨w.heap.size, 0, none⟩ = some (.bool s) from fun w1 h => by
    rw [h.cell (p := ⟨w.heap.size, 0, none⟩) (by have := HS2.out; show w.heap.size < W2.heap.size; omega)]; exact a0)
  have HL := Lib.hid (show ∀ w1, Below W2.heap.size W2 w1 → Blk w1 (w.heap.size + 1 + 1) #[.bool false, .slice none 0 0] from fun w1 h => B2'.kept h)
  go_region_held3 (fun w' => w'.cell? ⟨w.heap.size, 0, none⟩ = some (.bool s))
    (first | exact a0 | exact HK.out _ hF0 | exact HK.out _ hbb | (refine cell_other (cell_other (HK.out _ hbb) ?_) ?_ <;> (show w.heap.size ≠ w.heap.size + 1 + 1; omega)))
    (first
      | (go_at_call 117; refine (HP.out _ hb2 hb2' (by exact hX2) (by exact hY2) (by omega) (by omega)).mono ?_; rintro e w1 ⟨rfl, hF⟩; have hF0 : Below W2.heap.size W2 w1 := (by first | exact hF.below | exact below_undrew hF.below))
      | (go_at_call 73; refine (number_any s _ _ 0 _ _ (X + Y) _ (fun _ => rfl) (by exact hF.num) (Nat.le_refl _) (by omega)).mono ?_; rintro e w2 ⟨rfl, hbn⟩
         have hbb : Below W2.heap.size W2 w2 := hF0.trans (hbn.mono hF0.size)
         obtain ⟨c0, c1⟩ := Blk2 (HL.out _ hbb)
         obtain ⟨f0, f1⟩ := Blk2f (HL.out _ hbb)
         have hnum : Num w2 W2.heap.size 0 M (X + Y) := hF.num.kept hbn
         obtain ⟨s', q, m, hv⟩ := intv_form s (some ⟨W2.heap.size, 0, none⟩) (X + Y)
         rw [hv]
         have HV := Lib.hid hv
         clear hv))
  go_wp2_with fail
  have hsz := HS2.out
  have hne : W2.heap.size ≠ w.heap.size + 1 + 1 := by omega
  refine bodyPost_ret (v := .agg #[.bool s', .slice q m m]) (by simp [results, Try.results72, go_sem, c0, c1]) rfl ⟨_, rfl, ?_, ((hbW2.trans (hbb.mono (by omega))).setCell (by show w.heap.size ≤ w.heap.size + 1 + 1; omega) _).setCell (by show w.heap.size ≤ w.heap.size + 1 + 1; omega) _⟩
  rw [← HV.out]
  exact can_intv (n := M) (fun _ => rfl) ((hnum.other _ (fun _ => hne)).other _ (fun _ => hne)) (by have := nl_le hXY; omega) (fun _ => by omega)
set_option maxHeartbeats 1600000 in
set_option maxRecDepth 100000 in
/-- Different signs, the second one greater. -/
theorem sum_lt (s t : Bool) (base : Option Addr) (b off n c X : Nat) (base' : Option Addr) (b' off' n' c' Y : Nat) (w : World)
    (hb : n ≠ 0 → base = some ⟨b, off, none⟩) (hX : Num w b off n X) (hn : n ≤ c) (hl : n ≤ 1000000000)
    (hb' : n' ≠ 0 → base' = some ⟨b', off', none⟩) (hY : Num w b' off' n' Y) (hn' : n' ≤ c') (hl' : n' ≤ 1000000000) (hst : s ≠ t) (hlt : X < Y) (hs : nl X ≤ 256) (hs' : nl Y ≤ 256) :
    Calls Try.prog 72 #[.agg #[.bool s, .slice base n c], .agg #[.bool t, .slice base' n' c']] w (RetInt w (sg t (Y - X))) := by
  have hnX := nl_le hX.lt
  have hnY := nl_le hY.lt
  have ht : (s == t) = false := by simpa using hst
  have hcm : cmpi (X : Int) Y < 0 := by unfold cmpi; rw [if_pos (by omega)]; decide
  go_enter Try.func72, Try.ntmps72
  go_wp2_with fail
  generalize hW : World.alloc _ _ = W
  have B0 : Blk W w.heap.size #[.bool s, .slice base n c] := by rw [← hW]; exact ((blk_new rfl).alloc _).alloc _
  have B1 : Blk W (w.heap.size + 1) #[.bool t, .slice base' n' c'] := by rw [← hW]; exact (blk_new (by simp)).alloc _
  have B2 : Blk W (w.heap.size + 1 + 1) #[.bool false, .slice none 0 0] := by rw [← hW]; exact blk_new (by simp)
  have hbW : Below w.heap.size w W := by rw [← hW]; exact (((Below.refl _ _).alloc (Nat.le_refl _) _).alloc (by simp) _).alloc (by simp; omega) _
  have HS := Lib.hid (show W.heap.size = w.heap.size + 3 by rw [← hW]; simp)
  clear hW
  obtain ⟨a0, a1⟩ := Blk2 B0
  obtain ⟨b0, b1⟩ := Blk2 B1
  go_quiet ((first
    | (go_at_call_of 75 (Value.slice base n c); exact quiet_one (cut_any base b off n c X _ hb (hX.kept hbW).drewN hn (by omega)))
    | (go_at_call_of 75 (Value.slice base' n' c'); exact quiet_one (cut_any base' b' off' n' c' Y _ hb' (hY.kept hbW).drewN hn' (by omega)))))
  go_wp2_with (go_at_call 93; refine (order_any base base' b off X _ b' off' Y _ _ (fun h => hb (by omega)) (fun h => hb' (by omega)) (by exact (((hX.fewer hnX (lt_nl X)).kept hbW).drewN)) (by exact (((hY.fewer hnY (lt_nl Y)).kept hbW).drewN)) (by omega) (by omega)).mono ?_; rintro e w' ⟨rfl, n2, rfl⟩)
  obtain ⟨nn, hnn⟩ : ∃ nn, nq + n2 = nn := ⟨_, rfl⟩
  rw [hnn]
  clear hnn
  have hX2 := ((hX.fewer hnX (lt_nl X)).kept hbW).drewN (m := nn)
  have hY2 := ((hY.fewer hnY (lt_nl Y)).kept hbW).drewN (m := nn)
  have hb2 : nl X ≠ 0 → base = some ⟨b, off, none⟩ := fun h => hb (by omega)
  have hb2' : nl Y ≠ 0 → base' = some ⟨b', off', none⟩ := fun h => hb' (by omega)
  have B2' := B2.drewN (n := nn)
  have B1' := B1.drewN (n := nn)
  have hbW2 : Below w.heap.size w (W.drewN nn) := ⟨hbW.os, hbW.tape, hbW.output, hbW.size, hbW.block⟩
  have HS2 := Lib.hid (show (W.drewN nn).heap.size = w.heap.size + 3 from HS.out)
  clear B0 B1 B2 a0 a1 b0 b1 hbW HS
  generalize W.drewN nn = W2 at *
  obtain ⟨a0, _⟩ := Blk2 B1'
  have hmn : nl X ≤ nl Y := nl_mono (Nat.le_of_lt hlt)
  have hXY : Y - X < B^(nl Y) := by have := lt_nl Y; omega
  have hminus := minus_any base' base b' off' (nl Y) (nl Y) Y b off (nl X) (nl X) X
  have hmx : nl Y ≤ 257 := by omega
  have HP := Lib.hid hminus
  clear hminus
  have HK := Lib.hid (show ∀ w1, Below W2.heap.size W2 w1 → w1.cell? ⟨w.heap.size + 1, 0, none⟩ = some (.bool t) from fun w1 h => by
    rw [h.cell (p := ⟨w.heap.size + 1, 0, none⟩) (by have := HS2.out; show w.heap.size + 1 < W2.heap.size; omega)]; exact a0)
  have HL := Lib.hid (show ∀ w1, Below W2.heap.size W2 w1 → Blk w1 (w.heap.size + 1 + 1) #[.bool false, .slice none 0 0] from fun w1 h => B2'.kept h)
  go_region_held3 (fun w' => w'.cell? ⟨w.heap.size + 1, 0, none⟩ = some (.bool t))
    (first | exact a0 | exact HK.out _ hF0 | exact HK.out _ hbb | (refine cell_other (cell_other (HK.out _ hbb) ?_) ?_ <;> (show w.heap.size + 1 ≠ w.heap.size + 1 + 1; omega)))
    (first
      | (go_at_call 118; refine (HP.out _ hb2' hb2 (by exact hY2) (by exact hX2) hmn (by omega) (by omega)).mono ?_; rintro e w1 ⟨rfl, hF⟩; have hF0 : Below W2.heap.size W2 w1 := (by first | exact hF.below | exact below_undrew hF.below))
      | (go_at_call 73; refine (number_any t _ _ 0 _ _ (Y - X) _ (fun _ => rfl) (by exact hF.num) (Nat.le_refl _) (by omega)).mono ?_; rintro e w2 ⟨rfl, hbn⟩
         have hbb : Below W2.heap.size W2 w2 := hF0.trans (hbn.mono hF0.size)
         obtain ⟨c0, c1⟩ := Blk2 (HL.out _ hbb)
         obtain ⟨f0, f1⟩ := Blk2f (HL.out _ hbb)
         have hnum : Num w2 W2.heap.size 0 (nl Y) (Y - X) := hF.num.kept hbn
         obtain ⟨s', q, m, hv⟩ := intv_form t (some ⟨W2.heap.size, 0, none⟩) (Y - X)
         rw [hv]
         have HV := Lib.hid hv
         clear hv))
  go_wp2_with fail
  have hsz := HS2.out
  have hne : W2.heap.size ≠ w.heap.size + 1 + 1 := by omega
  refine bodyPost_ret (v := .agg #[.bool s', .slice q m m]) (by simp [results, Try.results72, go_sem, c0, c1]) rfl ⟨_, rfl, ?_, ((hbW2.trans (hbb.mono (by omega))).setCell (by show w.heap.size ≤ w.heap.size + 1 + 1; omega) _).setCell (by show w.heap.size ≤ w.heap.size + 1 + 1; omega) _⟩
  rw [← HV.out]
  exact can_intv (n := nl Y) (fun _ => rfl) ((hnum.other _ (fun _ => hne)).other _ (fun _ => hne)) (by have := nl_le hXY; omega) (fun _ => by omega)
set_option maxHeartbeats 1600000 in
set_option maxRecDepth 100000 in
/-- Different signs, the first one not less. -/
theorem sum_ge (s t : Bool) (base : Option Addr) (b off n c X : Nat) (base' : Option Addr) (b' off' n' c' Y : Nat) (w : World)
    (hb : n ≠ 0 → base = some ⟨b, off, none⟩) (hX : Num w b off n X) (hn : n ≤ c) (hl : n ≤ 1000000000)
    (hb' : n' ≠ 0 → base' = some ⟨b', off', none⟩) (hY : Num w b' off' n' Y) (hn' : n' ≤ c') (hl' : n' ≤ 1000000000) (hst : s ≠ t) (hlt : Y ≤ X) (hs : nl X ≤ 256) (hs' : nl Y ≤ 256) :
    Calls Try.prog 72 #[.agg #[.bool s, .slice base n c], .agg #[.bool t, .slice base' n' c']] w (RetInt w (sg s (X - Y))) := by
  have hnX := nl_le hX.lt
  have hnY := nl_le hY.lt
  have ht : (s == t) = false := by simpa using hst
  have hcm : ¬ cmpi (X : Int) Y < 0 := by unfold cmpi; rw [if_neg (by omega)]; split <;> decide
  go_enter Try.func72, Try.ntmps72
  go_wp2_with fail
  generalize hW : World.alloc _ _ = W
  have B0 : Blk W w.heap.size #[.bool s, .slice base n c] := by rw [← hW]; exact ((blk_new rfl).alloc _).alloc _
  have B1 : Blk W (w.heap.size + 1) #[.bool t, .slice base' n' c'] := by rw [← hW]; exact (blk_new (by simp)).alloc _
  have B2 : Blk W (w.heap.size + 1 + 1) #[.bool false, .slice none 0 0] := by rw [← hW]; exact blk_new (by simp)
  have hbW : Below w.heap.size w W := by rw [← hW]; exact (((Below.refl _ _).alloc (Nat.le_refl _) _).alloc (by simp) _).alloc (by simp; omega) _
  have HS := Lib.hid (show W.heap.size = w.heap.size + 3 by rw [← hW]; simp)
  clear hW
  obtain ⟨a0, a1⟩ := Blk2 B0
  obtain ⟨b0, b1⟩ := Blk2 B1
  go_quiet ((first
    | (go_at_call_of 75 (Value.slice base n c); exact quiet_one (cut_any base b off n c X _ hb (hX.kept hbW).drewN hn (by omega)))
    | (go_at_call_of 75 (Value.slice base' n' c'); exact quiet_one (cut_any base' b' off' n' c' Y _ hb' (hY.kept hbW).drewN hn' (by omega)))))
  go_wp2_with (go_at_call 93; refine (order_any base base' b off X _ b' off' Y _ _ (fun h => hb (by omega)) (fun h => hb' (by omega)) (by exact (((hX.fewer hnX (lt_nl X)).kept hbW).drewN)) (by exact (((hY.fewer hnY (lt_nl Y)).kept hbW).drewN)) (by omega) (by omega)).mono ?_; rintro e w' ⟨rfl, n2, rfl⟩)
  obtain ⟨nn, hnn⟩ : ∃ nn, nq + n2 = nn := ⟨_, rfl⟩
  rw [hnn]
  clear hnn
  have hX2 := ((hX.fewer hnX (lt_nl X)).kept hbW).drewN (m := nn)
  have hY2 := ((hY.fewer hnY (lt_nl Y)).kept hbW).drewN (m := nn)
  have hb2 : nl X ≠ 0 → base = some ⟨b, off, none⟩ := fun h => hb (by omega)
  have hb2' : nl Y ≠ 0 → base' = some ⟨b', off', none⟩ := fun h => hb' (by omega)
  have B2' := B2.drewN (n := nn)
  have B0' := B0.drewN (n := nn)
  have hbW2 : Below w.heap.size w (W.drewN nn) := ⟨hbW.os, hbW.tape, hbW.output, hbW.size, hbW.block⟩
  have HS2 := Lib.hid (show (W.drewN nn).heap.size = w.heap.size + 3 from HS.out)
  clear B0 B1 B2 a0 a1 b0 b1 hbW HS
  generalize W.drewN nn = W2 at *
  obtain ⟨a0, _⟩ := Blk2 B0'
  have hmn : nl Y ≤ nl X := nl_mono hlt
  have hXY : X - Y < B^(nl X) := by have := lt_nl X; omega
  have hminus := minus_any base base' b off (nl X) (nl X) X b' off' (nl Y) (nl Y) Y
  have hmx : nl X ≤ 257 := by omega
  have HP := Lib.hid hminus
  clear hminus
  have HK := Lib.hid (show ∀ w1, Below W2.heap.size W2 w1 → w1.cell? ⟨w.heap.size, 0, none⟩ = some (.bool s) from fun w1 h => by
    rw [h.cell (p := ⟨w.heap.size, 0, none⟩) (by have := HS2.out; show w.heap.size < W2.heap.size; omega)]; exact a0)
  have HL := Lib.hid (show ∀ w1, Below W2.heap.size W2 w1 → Blk w1 (w.heap.size + 1 + 1) #[.bool false, .slice none 0 0] from fun w1 h => B2'.kept h)
  go_region_held3 (fun w' => w'.cell? ⟨w.heap.size, 0, none⟩ = some (.bool s))
    (first | exact a0 | exact HK.out _ hF0 | exact HK.out _ hbb | (refine cell_other (cell_other (HK.out _ hbb) ?_) ?_ <;> (show w.heap.size ≠ w.heap.size + 1 + 1; omega)))
    (first
      | (go_at_call 118; refine (HP.out _ hb2 hb2' (by exact hX2) (by exact hY2) hmn (by omega) hlt).mono ?_; rintro e w1 ⟨rfl, hF⟩; have hF0 : Below W2.heap.size W2 w1 := (by first | exact hF.below | exact below_undrew hF.below))
      | (go_at_call 73; refine (number_any s _ _ 0 _ _ (X - Y) _ (fun _ => rfl) (by exact hF.num) (Nat.le_refl _) (by omega)).mono ?_; rintro e w2 ⟨rfl, hbn⟩
         have hbb : Below W2.heap.size W2 w2 := hF0.trans (hbn.mono hF0.size)
         obtain ⟨c0, c1⟩ := Blk2 (HL.out _ hbb)
         obtain ⟨f0, f1⟩ := Blk2f (HL.out _ hbb)
         have hnum : Num w2 W2.heap.size 0 (nl X) (X - Y) := hF.num.kept hbn
         obtain ⟨s', q, m, hv⟩ := intv_form s (some ⟨W2.heap.size, 0, none⟩) (X - Y)
         rw [hv]
         have HV := Lib.hid hv
         clear hv))
  go_wp2_with fail
  have hsz := HS2.out
  have hne : W2.heap.size ≠ w.heap.size + 1 + 1 := by omega
  refine bodyPost_ret (v := .agg #[.bool s', .slice q m m]) (by simp [results, Try.results72, go_sem, c0, c1]) rfl ⟨_, rfl, ?_, ((hbW2.trans (hbb.mono (by omega))).setCell (by show w.heap.size ≤ w.heap.size + 1 + 1; omega) _).setCell (by show w.heap.size ≤ w.heap.size + 1 + 1; omega) _⟩
  rw [← HV.out]
  exact can_intv (n := nl X) (fun _ => rfl) ((hnum.other _ (fun _ => hne)).other _ (fun _ => hne)) (by have := nl_le hXY; omega) (fun _ => by omega)
/-- integer.sum, at two numbers that are not large. -/
theorem sum_any (v1 v2 : Value) (z1 z2 : Int) (w : World) (h1 : IsInt w v1 z1) (h2 : IsInt w v2 z2) (hs1 : ¬ big z1) (hs2 : ¬ big z2) :
    Calls Try.prog 72 #[v1, v2] w (RetInt w (z1 + z2)) := by
  obtain ⟨s, base, b, off, n, c, X, rfl, hb, hX, hn, hl, rfl⟩ := h1
  obtain ⟨t, base', b', off', n', c', Y, rfl, hb', hY, hn', hl', rfl⟩ := h2
  rw [big_sg] at hs1 hs2
  by_cases hst : s = t
  · subst hst
    rw [show sg s X + sg s Y = sg s (X + Y) by unfold sg; cases s <;> simp <;> omega]
    exact sum_same s base b off n c X base' b' off' n' c' Y w hb hX hn hl hb' hY hn' hl' (by omega) (by omega)
  · by_cases hlt : X < Y
    · rw [show sg s X + sg t Y = sg t (Y - X) by unfold sg; cases s <;> cases t <;> simp at hst ⊢ <;> omega]
      exact sum_lt s t base b off n c X base' b' off' n' c' Y w hb hX hn hl hb' hY hn' hl' hst hlt (by omega) (by omega)
    · rw [show sg s X + sg t Y = sg s (X - Y) by unfold sg; cases s <;> cases t <;> simp at hst ⊢ <;> omega]
      exact sum_ge s t base b off n c X base' b' off' n' c' Y w hb hX hn hl hb' hY hn' hl' hst (by omega) (by omega) (by omega)
end Go.Proofs.Ytdgfmkideghhaaa

namespace PB
open Go Go.RowKit
/-- Only cells lo to hi - 1 of block b have changed. -/
structure Wr (w w' : World) (b lo hi : Nat) : Prop where
  os : w'.os = w.os
  tape : w'.tape = w.tape
  output : w'.output = w.output
  size : w'.heap.size = w.heap.size
  block : ∀ k, k ≠ b → w'.heap[k]? = w.heap[k]?
  cell : ∀ j, j < lo ∨ hi ≤ j → w'.cell? ⟨b, j, none⟩ = w.cell? ⟨b, j, none⟩
  frozen : ∀ a, w'.frozen? a = w.frozen? a
theorem Wr.refl (w : World) (b lo hi : Nat) : Wr w w b lo hi := ⟨rfl, rfl, rfl, rfl, fun _ _ => rfl, fun _ _ => rfl, fun _ => rfl⟩
theorem Wr.trans {w w' w'' : World} {b lo hi : Nat} (h : Wr w w' b lo hi) (k : Wr w' w'' b lo hi) : Wr w w'' b lo hi :=
  ⟨k.os.trans h.os, k.tape.trans h.tape, k.output.trans h.output, k.size.trans h.size, fun i hi => (k.block i hi).trans (h.block i hi), fun j hj => (k.cell j hj).trans (h.cell j hj), fun a => (k.frozen a).trans (h.frozen a)⟩
theorem Wr.mono {w w' : World} {b lo hi lo' hi' : Nat} (h : Wr w w' b lo hi) (h1 : lo' ≤ lo) (h2 : hi ≤ hi') : Wr w w' b lo' hi' :=
  ⟨h.os, h.tape, h.output, h.size, h.block, fun j hj => h.cell j (by omega), h.frozen⟩
theorem Wr.drewN {w w' : World} {b lo hi : Nat} (h : Wr w w' b lo hi) (n : Nat) : Wr w (w'.drewN n) b lo hi := ⟨h.os, h.tape, h.output, h.size, h.block, h.cell, h.frozen⟩
theorem Wr.drew {w w' : World} {b lo hi : Nat} (h : Wr w w' b lo hi) : Wr w w'.drew b lo hi := ⟨h.os, h.tape, h.output, h.size, h.block, h.cell, h.frozen⟩
theorem Wr.undrew {w w' : World} {b lo hi : Nat} (h : Wr w.drew w' b lo hi) : Wr w w' b lo hi := ⟨h.os, h.tape, h.output, h.size, h.block, h.cell, h.frozen⟩
theorem Wr.undrewN {w w' : World} {b lo hi n : Nat} (h : Wr (w.drewN n) w' b lo hi) : Wr w w' b lo hi := ⟨h.os, h.tape, h.output, h.size, h.block, h.cell, h.frozen⟩
theorem wr_setCell (w : World) (b j : Nat) (v : Value) {lo hi : Nat} (h1 : lo ≤ j) (h2 : j < hi) : Wr w (w.setCell ⟨b, j, none⟩ v) b lo hi := by
  refine ⟨rfl, rfl, rfl, by simp [World.setCell], fun k hk => Below.heap_setCell _ _ _ _ hk, fun i hi => ?_, fun a => frozen_setCell _ _ _ _⟩
  unfold World.cell? World.setCell
  simp only [Array.getElem?_modify, if_true]
  cases hb : w.heap[b]? with
  | none => rfl
  | some o =>
    cases o with
    | cells c t fr => simp only [Option.isSome_none, Bool.false_eq_true, if_false, Option.map_some]; rw [Array.getElem?_setIfInBounds, if_neg (by omega)]
    | _ => rfl
theorem Wr.set {w w' : World} {b lo hi : Nat} (h : Wr w w' b lo hi) (j : Nat) (v : Value) (h1 : lo ≤ j) (h2 : j < hi) : Wr w (w'.setCell ⟨b, j, none⟩ v) b lo hi := h.trans (wr_setCell _ _ _ _ h1 h2)
theorem Wr.below {w w' : World} {b lo hi N : Nat} (h : Wr w w' b lo hi) (hN : N ≤ b) : Below N w w' :=
  ⟨h.os, h.tape, h.output, by rw [h.size]; exact Nat.le_refl _, fun k hk => h.block k (by omega)⟩
theorem Wr.free {w w' : World} {b lo hi b' off n : Nat} (h : Wr w w' b lo hi) (k : Free w b' off n) : Free w' b' off n := fun i hi => by rw [h.frozen]; exact k i hi
/-- Limbs elsewhere stay. -/
theorem Wr.num {w w' : World} {b lo hi b' off n X : Nat} (h : Wr w w' b lo hi) (k : Num w b' off n X) (hd : n ≠ 0 → b' ≠ b ∨ off + n ≤ lo ∨ hi ≤ off) : Num w' b' off n X :=
  ⟨k.1, fun i hi => by
    have hk := k.2 i hi
    rcases hd (by omega) with h1 | h1
    · rw [World.cell?_of_block (w := w) (h.block b' h1)]; exact hk
    · by_cases hb : b' = b
      · subst hb; rw [h.cell _ (by omega)]; exact hk
      · rw [World.cell?_of_block (w := w) (h.block b' hb)]; exact hk⟩
theorem Wr.blk {w w' : World} {b lo hi g : Nat} {cs : Array Value} (h : Wr w w' b lo hi) (k : Blk w g cs) (hg : g ≠ b) : Blk w' g cs := by
  obtain ⟨T, k⟩ := k
  exact ⟨T, by rw [h.block g hg]; exact k⟩
/-- One step of a division by one limb, from the top. -/
theorem short_step {X Q d r k : Nat} (h : X / B^(k+1) = Q * d + r) : X / B^k = (Q * B + (r * B + dg X k) / d) * d + (r * B + dg X k) % d := by
  rw [div_succ X k, h, Nat.add_mul, Nat.add_mul, Nat.add_assoc (Q * B * d), Nat.div_add_mod' (r * B + dg X k) d, Nat.mul_right_comm Q d B]
  omega
theorem short_lt {r x d : Nat} (hr : r < d) (hx : x < B) : (r * B + x) / d < B := by
  apply Nat.div_lt_of_lt_mul
  have : (r + 1) * B ≤ d * B := Nat.mul_le_mul_right _ hr
  rw [Nat.add_mul] at this
  omega
theorem short_put {X Q q k : Nat} : put (X % B^(k+1) + Q * B^(k+1)) k q = X % B^k + (Q * B + q) * B^k := by
  unfold put
  have e1 : (X % B^(k+1) + Q * B^(k+1)) / B^(k+1) = Q := by rw [Nat.add_mul_div_right _ _ (Bp _), Nat.div_eq_of_lt (mod_lt_pow _ _), Nat.zero_add]
  have e2 : (X % B^(k+1) + Q * B^(k+1)) % B^k = X % B^k := by
    rw [show Q * B^(k+1) = (Q * B) * B^k by rw [pow_succ, Nat.mul_comm (B^k) B, ← Nat.mul_assoc], Nat.add_mul_mod_self_right]
    exact Nat.mod_mod_of_dvd _ ⟨B, pow_succ k⟩
  rw [e1, e2, Nat.add_mul, pow_succ, Nat.mul_comm (B^k) B, ← Nat.mul_assoc]
  omega
end PB
namespace Go.Proofs.Ytdgfmkideghhaaa
open Go.RowKit PB

set_option maxHeartbeats 1600000 in
set_option maxRecDepth 100000 in
theorem shorten_any (base : Option Addr) (b off n c X d : Nat) (w : World) (hb : n ≠ 0 → base = some ⟨b, off, none⟩) (hX : Num w b off n X) (hF : Free w b off n) (hd : 0 < d) (hdB : d < B) (hc : n ≤ 1099511627776) :
    Calls Try.prog 115 #[.slice base n c, .int .u32 d] w fun e w' => e = .returned (.int .u32 (X % d : Nat)) ∧ Num w' b off n (X / d) ∧ Wr w w' b off (off + n) := by
  have HB := Lib.hid hb
  clear hb
  go_enter Try.func115, Try.ntmps115
  go_wp2_with fail
  go_loopw [5, 6] (fun v i wr => ∃ k Q r : Nat, k ≤ n ∧ r < d ∧ v = .int .u32 r ∧ i = .int .i64 ((k : Int) - 1) ∧ Hid (X / B^k = Q * d + r) ∧ Num wr b off n (X % B^k + Q * B^k) ∧ Wr w wr b off (off + n)) (fun _ i _ => (intOf i + 1).toNat)
  case atStart => exact ⟨n, 0, 0, by omega, hd, rfl, rfl, Lib.hid (by rw [Nat.div_eq_of_lt hX.lt]; omega), hX.val (by rw [mod_of_lt hX.lt]; omega), Wr.refl _ _ _ _⟩
  case round =>
    obtain ⟨k, Q, r, hk, hr, rfl, rfl, hE, hN, hw⟩ := hrel
    by_cases h0 : k = 0
    · subst h0
      have hz : decide ((0 : Int) ≤ ((0 : Nat) : Int) - 1) = false := by decide
      go_wp2_with fail
      go_ret
      have h1 : X = Q * d + r := by have := hE.out; simpa using this
      have h2 : X % d = r := by rw [h1, Nat.mul_add_mod_self_right]; exact Nat.mod_eq_of_lt hr
      have h3 : X / d = Q := by rw [h1, Nat.mul_comm, Nat.mul_add_div hd, Nat.div_eq_of_lt hr, Nat.add_zero]
      rw [h2, h3]
      exact ⟨rfl, hN.val (by simp [Nat.mod_one]), hw⟩
    · obtain ⟨j, rfl⟩ : ∃ j, k = j + 1 := ⟨k - 1, by omega⟩
      obtain rfl := HB.out (by omega)
      have e1 : (((j + 1 : Nat) : Int) - 1) = j := by omega
      rw [e1]
      clear e1
      have c1 := hN.cell (i := j) (by omega)
      have hdg : dg (X % B^(j+1) + Q * B^(j+1)) j = dg X j := by rw [dg_add_lo (by omega), dg_mod (by omega)]
      rw [hdg] at c1
      have f1 := (hw.free hF).at (i := j) (by omega)
      have hx := dg_lt X j
      have i1 : (j : Int) < n := by omega
      have i2 : (0 : Int) ≤ j := by omega
      clear hdg
      go_wp2_with (go_at_call 136; refine (div32_any _ _ _ _ hr hx hdB).mono ?_; rintro e w' ⟨rfl, n1, rfl⟩)
      go_roundw
      case rel =>
        refine ⟨j, Q * B + (r * B + dg X j) / d, (r * B + dg X j) % d, by omega, Nat.mod_lt _ hd, rfl, rfl, Lib.hid (short_step hE.out), ?_, ?_⟩
        · rw [← short_put]
          first | exact (hN.set (by omega) (short_lt hr hx)).drewN | exact hN.set (by omega) (short_lt hr hx)
        · first | exact (hw.set _ _ (by omega) (by omega)).drewN _ | exact hw.set _ _ (by omega) (by omega)
      case measure => simp [intOf]
end Go.Proofs.Ytdgfmkideghhaaa
