/-
  integer.sum returns the sum of two numbers.
-/
import Derived.Test.YtkokokgmhpkoiaaM07
import Derived.Test.YtkokokgmhpkoiaaM08
namespace Go.Proofs.Ytkokokgmhpkoiaa
open Go.RowKit PB


set_option maxHeartbeats 1600000 in
set_option maxRecDepth 100000 in
/-- Equal signs. -/
theorem sum_same (s : Bool) (base : Option Addr) (b off n c X : Nat) (base' : Option Addr) (b' off' n' c' Y : Nat) (w : World)
    (hb : n ≠ 0 → base = some ⟨b, off, none⟩) (hX : Num w b off n X) (hn : n ≤ c) (hl : n ≤ 1000000000)
    (hb' : n' ≠ 0 → base' = some ⟨b', off', none⟩) (hY : Num w b' off' n' Y) (hn' : n' ≤ c') (hl' : n' ≤ 1000000000) (hs : nl X ≤ 256) (hs' : nl Y ≤ 256) :
    Calls Try.prog 72 #[.agg #[.bool s, .slice base n c], .agg #[.bool s, .slice base' n' c']] w (RetInt w (sg s (X + Y))) := by
  have hnX := nl_le hX.lt
  have hnY := nl_le hY.lt
  have ht : (s == s) = true := by simp
  go_enter Try.func72, Try.ntmps72
  go_wp2_with fail
  generalize hW : World.alloc _ _ = W
  have B0 : Blk W w.heap.size #[.bool s, .slice base n c] := by rw [← hW]; exact ((blk_new rfl).alloc _).alloc _
  have B1 : Blk W (w.heap.size + 1) #[.bool s, .slice base' n' c'] := by rw [← hW]; exact (blk_new (by simp)).alloc _
  have B2 : Blk W (w.heap.size + 1 + 1) #[.bool false, .slice none 0 0] := by rw [← hW]; exact blk_new (by simp)
  have hbW : Below w.heap.size w W := by rw [← hW]; exact (((Below.refl _ _).alloc (Nat.le_refl _) _).alloc (by simp) _).alloc (by simp; omega) _
  have HS := Lib.hid (show W.heap.size = w.heap.size + 3 by rw [← hW]; simp)
  clear hW
  obtain ⟨a0, a1⟩ := Blk2 B0
  obtain ⟨b0, b1⟩ := Blk2 B1
  go_quiet ((first
    | (go_at_call_of 75 (Value.slice base n c); exact quiet_one (cut_any base b off n c X _ hb (hX.kept hbW).drewN hn (by omega)))
    | (go_at_call_of 75 (Value.slice base' n' c'); exact quiet_one (cut_any base' b' off' n' c' Y _ hb' (hY.kept hbW).drewN hn' (by omega)))))
  go_wp2_with fail
  have hX2 := ((hX.fewer hnX (lt_nl X)).kept hbW).drewN (m := nq)
  have hY2 := ((hY.fewer hnY (lt_nl Y)).kept hbW).drewN (m := nq)
  have hb2 : nl X ≠ 0 → base = some ⟨b, off, none⟩ := fun h => hb (by omega)
  have hb2' : nl Y ≠ 0 → base' = some ⟨b', off', none⟩ := fun h => hb' (by omega)
  have B2' := B2.drewN (n := nq)
  have B0' := B0.drewN (n := nq)
  have hbW2 : Below w.heap.size w (W.drewN nq) := ⟨hbW.os, hbW.tape, hbW.output, hbW.size, hbW.block⟩
  have HS2 := Lib.hid (show (W.drewN nq).heap.size = w.heap.size + 3 from HS.out)
  clear B0 B1 B2 a0 a1 b0 b1 hbW HS
  generalize W.drewN nq = W2 at *
  obtain ⟨a0, _⟩ := Blk2 B0'
  have hmx : max (nl X) (nl Y) + 1 ≤ 257 := by omega
  have hXY : X + Y < B^(max (nl X) (nl Y) + 1) := by
    have h1 := Nat.lt_of_lt_of_le (lt_nl X) (pow_le (Nat.le_max_left (nl X) (nl Y)))
    have h2 := Nat.lt_of_lt_of_le (lt_nl Y) (pow_le (Nat.le_max_right (nl X) (nl Y)))
    rw [pow_succ]
    have : B^(max (nl X) (nl Y)) * 2 ≤ B^(max (nl X) (nl Y)) * B := Nat.mul_le_mul_left _ (by decide)
    omega
  obtain ⟨M, hM⟩ : ∃ M, max (nl X) (nl Y) + 1 = M := ⟨_, rfl⟩
  have hplus := plus_any base base' b off (nl X) (nl X) X b' off' (nl Y) (nl Y) Y
  rw [hM] at hmx hXY hplus
  have HP := Lib.hid hplus
  clear hM hplus
  have HK := Lib.hid (show ∀ w1, Below W2.heap.size W2 w1 → w1.cell? ⟨w.heap.size, 0, none⟩ = some (.bool s) from fun w1 h => by
    rw [h.cell (p := ⟨w.heap.size, 0, none⟩) (by have := HS2.out; show w.heap.size < W2.heap.size; omega)]; exact a0)
  have HL := Lib.hid (show ∀ w1, Below W2.heap.size W2 w1 → Blk w1 (w.heap.size + 1 + 1) #[.bool false, .slice none 0 0] from fun w1 h => B2'.kept h)
  go_region_held3 (fun w' => w'.cell? ⟨w.heap.size, 0, none⟩ = some (.bool s))
    (first | exact a0 | exact HK.out _ hF0 | exact HK.out _ hbb | (refine cell_other (cell_other (HK.out _ hbb) ?_) ?_ <;> (show w.heap.size ≠ w.heap.size + 1 + 1; omega)))
    (first
      | (go_at_call 117; refine (HP.out _ hb2 hb2' (by exact hX2) (by exact hY2) (by omega) (by omega)).mono ?_; rintro e w1 ⟨rfl, hF⟩; have hF0 : Below W2.heap.size W2 w1 := (by first | exact hF.below | exact below_undrew hF.below))
      | (go_at_call 73; refine (number_any s _ _ 0 _ _ (X + Y) _ (fun _ => rfl) (by exact hF.num) (Nat.le_refl _) (by omega)).mono ?_; rintro e w2 ⟨rfl, hbn⟩
         have hbb : Below W2.heap.size W2 w2 := hF0.trans (hbn.mono hF0.size)
         obtain ⟨c0, c1⟩ := Blk2 (HL.out _ hbb)
         obtain ⟨f0, f1⟩ := Blk2f (HL.out _ hbb)
         have hnum : Num w2 W2.heap.size 0 M (X + Y) := hF.num.kept hbn
         obtain ⟨s', q, m, hv⟩ := intv_form s (some ⟨W2.heap.size, 0, none⟩) (X + Y)
         rw [hv]
         have HV := Lib.hid hv
         clear hv))
  go_wp2_with fail
  have hsz := HS2.out
  have hne : W2.heap.size ≠ w.heap.size + 1 + 1 := by omega
  refine bodyPost_ret (v := .agg #[.bool s', .slice q m m]) (by simp [results, Try.results72, go_sem, c0, c1]) rfl ⟨_, rfl, ?_, ((hbW2.trans (hbb.mono (by omega))).setCell (by show w.heap.size ≤ w.heap.size + 1 + 1; omega) _).setCell (by show w.heap.size ≤ w.heap.size + 1 + 1; omega) _⟩
  rw [← HV.out]
  exact can_intv (n := M) (fun _ => rfl) ((hnum.other _ (fun _ => hne)).other _ (fun _ => hne)) (by have := nl_le hXY; omega) (fun _ => by omega)
set_option maxHeartbeats 1600000 in
set_option maxRecDepth 100000 in
/-- Different signs, the second one greater. -/
theorem sum_lt (s t : Bool) (base : Option Addr) (b off n c X : Nat) (base' : Option Addr) (b' off' n' c' Y : Nat) (w : World)
    (hb : n ≠ 0 → base = some ⟨b, off, none⟩) (hX : Num w b off n X) (hn : n ≤ c) (hl : n ≤ 1000000000)
    (hb' : n' ≠ 0 → base' = some ⟨b', off', none⟩) (hY : Num w b' off' n' Y) (hn' : n' ≤ c') (hl' : n' ≤ 1000000000) (hst : s ≠ t) (hlt : X < Y) (hs : nl X ≤ 256) (hs' : nl Y ≤ 256) :
    Calls Try.prog 72 #[.agg #[.bool s, .slice base n c], .agg #[.bool t, .slice base' n' c']] w (RetInt w (sg t (Y - X))) := by
  have hnX := nl_le hX.lt
  have hnY := nl_le hY.lt
  have ht : (s == t) = false := by simpa using hst
  have hcm : cmpi (X : Int) Y < 0 := by unfold cmpi; rw [if_pos (by omega)]; decide
  go_enter Try.func72, Try.ntmps72
  go_wp2_with fail
  generalize hW : World.alloc _ _ = W
  have B0 : Blk W w.heap.size #[.bool s, .slice base n c] := by rw [← hW]; exact ((blk_new rfl).alloc _).alloc _
  have B1 : Blk W (w.heap.size + 1) #[.bool t, .slice base' n' c'] := by rw [← hW]; exact (blk_new (by simp)).alloc _
  have B2 : Blk W (w.heap.size + 1 + 1) #[.bool false, .slice none 0 0] := by rw [← hW]; exact blk_new (by simp)
  have hbW : Below w.heap.size w W := by rw [← hW]; exact (((Below.refl _ _).alloc (Nat.le_refl _) _).alloc (by simp) _).alloc (by simp; omega) _
  have HS := Lib.hid (show W.heap.size = w.heap.size + 3 by rw [← hW]; simp)
  clear hW
  obtain ⟨a0, a1⟩ := Blk2 B0
  obtain ⟨b0, b1⟩ := Blk2 B1
  go_quiet ((first
    | (go_at_call_of 75 (Value.slice base n c); exact quiet_one (cut_any base b off n c X _ hb (hX.kept hbW).drewN hn (by omega)))
    | (go_at_call_of 75 (Value.slice base' n' c'); exact quiet_one (cut_any base' b' off' n' c' Y _ hb' (hY.kept hbW).drewN hn' (by omega)))))
  go_wp2_with (go_at_call 93; refine (order_any base base' b off X _ b' off' Y _ _ (fun h => hb (by omega)) (fun h => hb' (by omega)) (by exact (((hX.fewer hnX (lt_nl X)).kept hbW).drewN)) (by exact (((hY.fewer hnY (lt_nl Y)).kept hbW).drewN)) (by omega) (by omega)).mono ?_; rintro e w' ⟨rfl, n2, rfl⟩)
  obtain ⟨nn, hnn⟩ : ∃ nn, nq + n2 = nn := ⟨_, rfl⟩
  rw [hnn]
  clear hnn
  have hX2 := ((hX.fewer hnX (lt_nl X)).kept hbW).drewN (m := nn)
  have hY2 := ((hY.fewer hnY (lt_nl Y)).kept hbW).drewN (m := nn)
  have hb2 : nl X ≠ 0 → base = some ⟨b, off, none⟩ := fun h => hb (by omega)
  have hb2' : nl Y ≠ 0 → base' = some ⟨b', off', none⟩ := fun h => hb' (by omega)
  have B2' := B2.drewN (n := nn)
  have B1' := B1.drewN (n := nn)
  have hbW2 : Below w.heap.size w (W.drewN nn) := ⟨hbW.os, hbW.tape, hbW.output, hbW.size, hbW.block⟩
  have HS2 := Lib.hid (show (W.drewN nn).heap.size = w.heap.size + 3 from HS.out)
  clear B0 B1 B2 a0 a1 b0 b1 hbW HS
  generalize W.drewN nn = W2 at *
  obtain ⟨a0, _⟩ := Blk2 B1'
  have hmn : nl X ≤ nl Y := nl_mono (Nat.le_of_lt hlt)
  have hXY : Y - X < B^(nl Y) := by have := lt_nl Y; omega
  have hminus := minus_any base' base b' off' (nl Y) (nl Y) Y b off (nl X) (nl X) X
  have hmx : nl Y ≤ 257 := by omega
  have HP := Lib.hid hminus
  clear hminus
  have HK := Lib.hid (show ∀ w1, Below W2.heap.size W2 w1 → w1.cell? ⟨w.heap.size + 1, 0, none⟩ = some (.bool t) from fun w1 h => by
    rw [h.cell (p := ⟨w.heap.size + 1, 0, none⟩) (by have := HS2.out; show w.heap.size + 1 < W2.heap.size; omega)]; exact a0)
  have HL := Lib.hid (show ∀ w1, Below W2.heap.size W2 w1 → Blk w1 (w.heap.size + 1 + 1) #[.bool false, .slice none 0 0] from fun w1 h => B2'.kept h)
  go_region_held3 (fun w' => w'.cell? ⟨w.heap.size + 1, 0, none⟩ = some (.bool t))
    (first | exact a0 | exact HK.out _ hF0 | exact HK.out _ hbb | (refine cell_other (cell_other (HK.out _ hbb) ?_) ?_ <;> (show w.heap.size + 1 ≠ w.heap.size + 1 + 1; omega)))
    (first
      | (go_at_call 118; refine (HP.out _ hb2' hb2 (by exact hY2) (by exact hX2) hmn (by omega) (by omega)).mono ?_; rintro e w1 ⟨rfl, hF⟩; have hF0 : Below W2.heap.size W2 w1 := (by first | exact hF.below | exact below_undrew hF.below))
      | (go_at_call 73; refine (number_any t _ _ 0 _ _ (Y - X) _ (fun _ => rfl) (by exact hF.num) (Nat.le_refl _) (by omega)).mono ?_; rintro e w2 ⟨rfl, hbn⟩
         have hbb : Below W2.heap.size W2 w2 := hF0.trans (hbn.mono hF0.size)
         obtain ⟨c0, c1⟩ := Blk2 (HL.out _ hbb)
         obtain ⟨f0, f1⟩ := Blk2f (HL.out _ hbb)
         have hnum : Num w2 W2.heap.size 0 (nl Y) (Y - X) := hF.num.kept hbn
         obtain ⟨s', q, m, hv⟩ := intv_form t (some ⟨W2.heap.size, 0, none⟩) (Y - X)
         rw [hv]
         have HV := Lib.hid hv
         clear hv))
  go_wp2_with fail
  have hsz := HS2.out
  have hne : W2.heap.size ≠ w.heap.size + 1 + 1 := by omega
  refine bodyPost_ret (v := .agg #[.bool s', .slice q m m]) (by simp [results, Try.results72, go_sem, c0, c1]) rfl ⟨_, rfl, ?_, ((hbW2.trans (hbb.mono (by omega))).setCell (by show w.heap.size ≤ w.heap.size + 1 + 1; omega) _).setCell (by show w.heap.size ≤ w.heap.size + 1 + 1; omega) _⟩
  rw [← HV.out]
  exact can_intv (n := nl Y) (fun _ => rfl) ((hnum.other _ (fun _ => hne)).other _ (fun _ => hne)) (by have := nl_le hXY; omega) (fun _ => by omega)
set_option maxHeartbeats 1600000 in
set_option maxRecDepth 100000 in
/-- Different signs, the first one not less. -/
theorem sum_ge (s t : Bool) (base : Option Addr) (b off n c X : Nat) (base' : Option Addr) (b' off' n' c' Y : Nat) (w : World)
    (hb : n ≠ 0 → base = some ⟨b, off, none⟩) (hX : Num w b off n X) (hn : n ≤ c) (hl : n ≤ 1000000000)
    (hb' : n' ≠ 0 → base' = some ⟨b', off', none⟩) (hY : Num w b' off' n' Y) (hn' : n' ≤ c') (hl' : n' ≤ 1000000000) (hst : s ≠ t) (hlt : Y ≤ X) (hs : nl X ≤ 256) (hs' : nl Y ≤ 256) :
    Calls Try.prog 72 #[.agg #[.bool s, .slice base n c], .agg #[.bool t, .slice base' n' c']] w (RetInt w (sg s (X - Y))) := by
  have hnX := nl_le hX.lt
  have hnY := nl_le hY.lt
  have ht : (s == t) = false := by simpa using hst
  have hcm : ¬ cmpi (X : Int) Y < 0 := by unfold cmpi; rw [if_neg (by omega)]; split <;> decide
  go_enter Try.func72, Try.ntmps72
  go_wp2_with fail
  generalize hW : World.alloc _ _ = W
  have B0 : Blk W w.heap.size #[.bool s, .slice base n c] := by rw [← hW]; exact ((blk_new rfl).alloc _).alloc _
  have B1 : Blk W (w.heap.size + 1) #[.bool t, .slice base' n' c'] := by rw [← hW]; exact (blk_new (by simp)).alloc _
  have B2 : Blk W (w.heap.size + 1 + 1) #[.bool false, .slice none 0 0] := by rw [← hW]; exact blk_new (by simp)
  have hbW : Below w.heap.size w W := by rw [← hW]; exact (((Below.refl _ _).alloc (Nat.le_refl _) _).alloc (by simp) _).alloc (by simp; omega) _
  have HS := Lib.hid (show W.heap.size = w.heap.size + 3 by rw [← hW]; simp)
  clear hW
  obtain ⟨a0, a1⟩ := Blk2 B0
  obtain ⟨b0, b1⟩ := Blk2 B1
  go_quiet ((first
    | (go_at_call_of 75 (Value.slice base n c); exact quiet_one (cut_any base b off n c X _ hb (hX.kept hbW).drewN hn (by omega)))
    | (go_at_call_of 75 (Value.slice base' n' c'); exact quiet_one (cut_any base' b' off' n' c' Y _ hb' (hY.kept hbW).drewN hn' (by omega)))))
  go_wp2_with (go_at_call 93; refine (order_any base base' b off X _ b' off' Y _ _ (fun h => hb (by omega)) (fun h => hb' (by omega)) (by exact (((hX.fewer hnX (lt_nl X)).kept hbW).drewN)) (by exact (((hY.fewer hnY (lt_nl Y)).kept hbW).drewN)) (by omega) (by omega)).mono ?_; rintro e w' ⟨rfl, n2, rfl⟩)
  obtain ⟨nn, hnn⟩ : ∃ nn, nq + n2 = nn := ⟨_, rfl⟩
  rw [hnn]
  clear hnn
  have hX2 := ((hX.fewer hnX (lt_nl X)).kept hbW).drewN (m := nn)
  have hY2 := ((hY.fewer hnY (lt_nl Y)).kept hbW).drewN (m := nn)
  have hb2 : nl X ≠ 0 → base = some ⟨b, off, none⟩ := fun h => hb (by omega)
  have hb2' : nl Y ≠ 0 → base' = some ⟨b', off', none⟩ := fun h => hb' (by omega)
  have B2' := B2.drewN (n := nn)
  have B0' := B0.drewN (n := nn)
  have hbW2 : Below w.heap.size w (W.drewN nn) := ⟨hbW.os, hbW.tape, hbW.output, hbW.size, hbW.block⟩
  have HS2 := Lib.hid (show (W.drewN nn).heap.size = w.heap.size + 3 from HS.out)
  clear B0 B1 B2 a0 a1 b0 b1 hbW HS
  generalize W.drewN nn = W2 at *
  obtain ⟨a0, _⟩ := Blk2 B0'
  have hmn : nl Y ≤ nl X := nl_mono hlt
  have hXY : X - Y < B^(nl X) := by have := lt_nl X; omega
  have hminus := minus_any base base' b off (nl X) (nl X) X b' off' (nl Y) (nl Y) Y
  have hmx : nl X ≤ 257 := by omega
  have HP := Lib.hid hminus
  clear hminus
  have HK := Lib.hid (show ∀ w1, Below W2.heap.size W2 w1 → w1.cell? ⟨w.heap.size, 0, none⟩ = some (.bool s) from fun w1 h => by
    rw [h.cell (p := ⟨w.heap.size, 0, none⟩) (by have := HS2.out; show w.heap.size < W2.heap.size; omega)]; exact a0)
  have HL := Lib.hid (show ∀ w1, Below W2.heap.size W2 w1 → Blk w1 (w.heap.size + 1 + 1) #[.bool false, .slice none 0 0] from fun w1 h => B2'.kept h)
  go_region_held3 (fun w' => w'.cell? ⟨w.heap.size, 0, none⟩ = some (.bool s))
    (first | exact a0 | exact HK.out _ hF0 | exact HK.out _ hbb | (refine cell_other (cell_other (HK.out _ hbb) ?_) ?_ <;> (show w.heap.size ≠ w.heap.size + 1 + 1; omega)))
    (first
      | (go_at_call 118; refine (HP.out _ hb2 hb2' (by exact hX2) (by exact hY2) hmn (by omega) hlt).mono ?_; rintro e w1 ⟨rfl, hF⟩; have hF0 : Below W2.heap.size W2 w1 := (by first | exact hF.below | exact below_undrew hF.below))
      | (go_at_call 73; refine (number_any s _ _ 0 _ _ (X - Y) _ (fun _ => rfl) (by exact hF.num) (Nat.le_refl _) (by omega)).mono ?_; rintro e w2 ⟨rfl, hbn⟩
         have hbb : Below W2.heap.size W2 w2 := hF0.trans (hbn.mono hF0.size)
         obtain ⟨c0, c1⟩ := Blk2 (HL.out _ hbb)
         obtain ⟨f0, f1⟩ := Blk2f (HL.out _ hbb)
         have hnum : Num w2 W2.heap.size 0 (nl X) (X - Y) := hF.num.kept hbn
         obtain ⟨s', q, m, hv⟩ := intv_form s (some ⟨W2.heap.size, 0, none⟩) (X - Y)
         rw [hv]
         have HV := Lib.hid hv
         clear hv))
  go_wp2_with fail
  have hsz := HS2.out
  have hne : W2.heap.size ≠ w.heap.size + 1 + 1 := by omega
  refine bodyPost_ret (v := .agg #[.bool s', .slice q m m]) (by simp [results, Try.results72, go_sem, c0, c1]) rfl ⟨_, rfl, ?_, ((hbW2.trans (hbb.mono (by omega))).setCell (by show w.heap.size ≤ w.heap.size + 1 + 1; omega) _).setCell (by show w.heap.size ≤ w.heap.size + 1 + 1; omega) _⟩
  rw [← HV.out]
  exact can_intv (n := nl X) (fun _ => rfl) ((hnum.other _ (fun _ => hne)).other _ (fun _ => hne)) (by have := nl_le hXY; omega) (fun _ => by omega)
/-- integer.sum, at two numbers that are not large. -/
theorem sum_any (v1 v2 : Value) (z1 z2 : Int) (w : World) (h1 : IsInt w v1 z1) (h2 : IsInt w v2 z2) (hs1 : ¬ big z1) (hs2 : ¬ big z2) :
    Calls Try.prog 72 #[v1, v2] w (RetInt w (z1 + z2)) := by
  obtain ⟨s, base, b, off, n, c, X, rfl, hb, hX, hn, hl, rfl⟩ := h1
  obtain ⟨t, base', b', off', n', c', Y, rfl, hb', hY, hn', hl', rfl⟩ := h2
  rw [big_sg] at hs1 hs2
  by_cases hst : s = t
  · subst hst
    rw [show sg s X + sg s Y = sg s (X + Y) by unfold sg; cases s <;> simp <;> omega]
    exact sum_same s base b off n c X base' b' off' n' c' Y w hb hX hn hl hb' hY hn' hl' (by omega) (by omega)
  · by_cases hlt : X < Y
    · rw [show sg s X + sg t Y = sg t (Y - X) by unfold sg; cases s <;> cases t <;> simp at hst ⊢ <;> omega]
      exact sum_lt s t base b off n c X base' b' off' n' c' Y w hb hX hn hl hb' hY hn' hl' hst hlt (by omega) (by omega)
    · rw [show sg s X + sg t Y = sg s (X - Y) by unfold sg; cases s <;> cases t <;> simp at hst ⊢ <;> omega]
      exact sum_ge s t base b off n c X base' b' off' n' c' Y w hb hX hn hl hb' hY hn' hl' hst (by omega) (by omega) (by omega)
end Go.Proofs.Ytkokokgmhpkoiaa
