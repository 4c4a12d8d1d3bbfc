/-
  The verifier's sanity check of this layer is true.
  Rows of vectors, and flips.
-/
import Derived.Maps.AppendAt
import Derived.Deep.AppendLies
import Derived.Deep.RegionHeld3
import Derived.Test.YtdgfmkideghhaaaM01
import Derived.Test.YtdgfmkideghhaaaM09
import Derived.Test.YtdgfmkideghhaaaM10
import Derived.Test.YtdgfmkideghhaaaM11
namespace Go.Proofs.Ytdgfmkideghhaaa
open Go.RowKit PB VB
set_option maxRecDepth 100000 in
theorem len_c : Lib.bitLen 1125899906842624 = 51 := by decide
set_option maxHeartbeats 4000000 in
set_option maxRecDepth 100000 in
theorem div_c : DivOK 137 65536 0 1125899906842624 := by
  intro w
  have hl : ∀ w, Calls Try.prog 152 #[.int .u64 1125899906842624] w fun e w' => e = .returned (.int .i64 13) ∧ w = w' := fun w => by
    have h := Try.bits_LeadingZeros64 1125899906842624 w (by decide) (by decide)
    rw [show (64 - (Lib.bitLen (1125899906842624 : Int).toNat : Int)) = 13 from by decide] at h
    exact h.mono fun _ _ h => ⟨h.1, h.2.symm⟩
  have HL := Lib.hid hl
  have E := Lib.hid (show (((65536 * 18446744073709551616 + 0) / 1125899906842624 : Nat) : Int) = 1073741824 by decide)
  have E2 := Lib.hid (show (((65536 * 18446744073709551616 + 0) % 1125899906842624 : Nat) : Int) = 0 by decide)
  rw [E.out, E2.out]
  clear E E2 hl
  simp only [show ((65536 : Nat) : Int) = 65536 from rfl, show ((1125899906842624 : Nat) : Int) = 1125899906842624 from rfl]
  have b1 : bits BinOp.and IntKind.u64 9223372036854775808 4294967295 = 0 := by decide
  have b2 : bits BinOp.or IntKind.u64 536870912 0 = 536870912 := by decide
  have b3 : bits BinOp.and IntKind.u64 0 4294967295 = 0 := by decide
  go_enter Try.func137, Try.ntmps137
  go_wp2_with fail
  refine (HL.out _).mono ?_
  rintro e w1 ⟨rfl, rfl⟩
  go_wp2_with fail
  refine wp_loop_rounds 1 ?_
  rw [rounds_succ]
  go_wp2_with fail
  refine wp_loop_rounds 1 ?_
  rw [rounds_succ]
  go_wp2_with fail
  go_ret2
  exact tret rfl rfl (Below.refl _ _)
set_option maxRecDepth 100000 in
theorem aw_md (w : World) : Calls Try.prog 59 #[.int .i64 1099511627776, .int .i64 1099511627776, .int .i64 (-1125899906842624)] w fun e w' => e = .returned (.tuple #[.int .i64 (-1073741824), .bool true]) ∧ Below w.heap.size w w' := by
  have h := md_yes (a := 1099511627776) (b := 1099511627776) (c := -1125899906842624) w ⟨by decide, by decide⟩ ⟨by decide, by decide⟩ ⟨by decide, by decide⟩ (fun _ => by rw [show (1099511627776 : Int).natAbs * (1099511627776 : Int).natAbs / 18446744073709551616 = 65536 by decide, show (1099511627776 : Int).natAbs * (1099511627776 : Int).natAbs % 18446744073709551616 = 0 by decide, show (-1125899906842624 : Int).natAbs = 1125899906842624 by decide]; exact div_c) ⟨by decide, by decide, by decide⟩
  rw [show ((1099511627776 : Int) * 1099511627776).tdiv (-1125899906842624) = -1073741824 by decide] at h
  exact h
set_option maxRecDepth 100000 in
theorem aw_root (w : World) : Calls Try.prog 57 #[.int .i64 99] w fun e w' => e = .returned (.int .i64 9) ∧ w = w' :=
  vroot_any 99 9 w ⟨by decide, by decide, fun _ => by decide, by decide⟩ (by decide)
set_option maxRecDepth 100000 in
theorem aw_turn (w : World) : Calls Try.prog 66 #[vec 257 0, vec 0 1] w fun e w' => e = .returned (.tuple #[vec 255 32, .bool true]) ∧ Below w.heap.size w w' := by
  have h := vturn_any 257 0 0 1 w
  rwa [show tX 257 0 0 1 = 255 by decide, show tY 257 0 0 1 = 32 by decide, show tB 257 0 0 1 = true by decide] at h
set_option maxRecDepth 100000 in
/-- One vector in memory. -/
theorem vsl_one {w : World} {g : Nat} {x y : Int} (h : Blk w g #[.int .i64 x, .int .i64 y]) : VSl w g 0 1 (fun _ => (x, y)) := by
  intro i hi
  obtain rfl : i = 0 := by omega
  exact Blk2 h
set_option maxRecDepth 100000 in
theorem allsm_one {x y : Int} (h : Sm x y) : AllSm (fun _ => (x, y)) 1 := fun _ _ => h
set_option maxRecDepth 100000 in
theorem liftV_one {xx xy x y rx ry : Int} (hx : Sm xx xy) (hn : Sm x y) (h1 : (sidesOf (fun _ => (x, y)) 1).al xx xy = false) (h2 : bestOf xx xy (sidesOf (fun _ => (x, y)) 1) (fun _ => (x, y)) 1 = (rx, ry)) : liftV xx xy (fun _ => (x, y)) 1 = (rx, ry) := by
  unfold liftV
  rw [if_pos ⟨hx, allsm_one hn⟩, h1, if_neg (by decide), h2]
set_option maxRecDepth 100000 in
theorem aw_lift1 (g : Nat) (w : World) (h : Blk w g #[.int .i64 0, .int .i64 1]) : Calls Try.prog 61 #[vec 3 (-4), .slice (some ⟨g, 0, none⟩) 1 1] w fun e w' => e = .returned (vec 3 0) ∧ Below w.heap.size w w' := by
  have h := lift_any 3 (-4) (some ⟨g, 0, none⟩) g 0 1 1 (fun _ => (0, 1)) w (fun _ => rfl) (fun _ => h.lt) (vsl_one h) (by decide)
    (fun _ _ _ _ _ => ⟨div_short (a := -1) (b := crossI 0 1 3 (-4)) (c := dotI 0 1 0 1) ⟨by decide, by decide⟩ (by decide), div_short (a := 0) (b := crossI 0 1 3 (-4)) (c := dotI 0 1 0 1) ⟨by decide, by decide⟩ (by decide)⟩)
  rwa [liftV_one (rx := 3) (ry := 0) ⟨by decide, by decide, by decide, by decide⟩ ⟨by decide, by decide, by decide, by decide⟩ (by decide) (by decide)] at h
set_option maxRecDepth 100000 in
theorem aw_lift2 (g : Nat) (w : World) (h : Blk w g #[.int .i64 1, .int .i64 2]) : Calls Try.prog 61 #[vec 0 (-5), .slice (some ⟨g, 0, none⟩) 1 1] w fun e w' => e = .returned (vec 2 (-1)) ∧ Below w.heap.size w w' := by
  have h := lift_any 0 (-5) (some ⟨g, 0, none⟩) g 0 1 1 (fun _ => (1, 2)) w (fun _ => rfl) (fun _ => h.lt) (vsl_one h) (by decide)
    (fun _ _ _ _ _ => ⟨div_short (a := -2) (b := crossI 1 2 0 (-5)) (c := dotI 1 2 1 2) ⟨by decide, by decide⟩ (by decide), div_short (a := 1) (b := crossI 1 2 0 (-5)) (c := dotI 1 2 1 2) ⟨by decide, by decide⟩ (by decide)⟩)
  rwa [liftV_one (rx := 2) (ry := -1) ⟨by decide, by decide, by decide, by decide⟩ ⟨by decide, by decide, by decide, by decide⟩ (by decide) (by decide)] at h
set_option maxHeartbeats 4000000 in
set_option maxRecDepth 100000 in
theorem vawake_any (w : World) : Calls Try.prog 38 #[] w fun e w' => e = .returned (.bool true) ∧ Below w.heap.size w w' := by
  go_enter Try.func38, Try.ntmps38
  go_wp2_with fail
  refine (aw_turn _).mono ?_
  rintro e w1 ⟨rfl, hw1⟩
  have L1 : Blk w1 w.heap.size #[.int .i64 0, .int .i64 1] := (blk_new rfl).kept hw1
  have q1 := in1 hw1
  clear hw1
  go_wp2_with fail
  refine (aw_md _).mono ?_
  rintro e w2 ⟨rfl, hw2⟩
  have L2 := blk_keep L1 hw2
  have T2 : Blk w2 w1.heap.size #[.int .i64 255, .int .i64 32] := (blk_new rfl).kept hw2
  have q2 := next1 q1 hw2
  clear hw2 L1 q1
  go_wp2_with fail
  refine (aw_lift1 _ _ L2).mono ?_
  rintro e w3 ⟨rfl, hw3⟩
  have T3 := T2.kept hw3
  have q3 := next q2 hw3
  clear hw3 L2 q2 T2
  go_wp2_with fail
  refine (aw_lift2 _ _ (blk_new rfl)).mono ?_
  rintro e w4 ⟨rfl, hw4⟩
  have T4 := blk_keep T3 hw4
  have q4 := next1 q3 hw4
  obtain ⟨t0, t1⟩ := Blk2 T4
  clear hw4 q3 T3
  go_wp2_with fail
  refine (aw_root _).mono ?_
  rintro e w5 ⟨rfl, rfl⟩
  go_wp2_with fail
  go_ret
  exact ⟨rfl, q4⟩
end Go.Proofs.Ytdgfmkideghhaaa

namespace VB
open Go Go.RowKit PB
/-- The cells of n vectors. -/
def vlist (f : Nat → Int × Int) : Nat → List Value
  | 0 => []
  | n + 1 => vlist f n ++ [.int .i64 (f n).1, .int .i64 (f n).2]
theorem vlist_length (f : Nat → Int × Int) : ∀ n, (vlist f n).length = n * 2
  | 0 => rfl
  | n + 1 => by unfold vlist; rw [List.length_append, vlist_length f n]; simp; omega
theorem vlist_get (f : Nat → Int × Int) : ∀ n i, i < n → (vlist f n)[i * 2]? = some (.int .i64 (f i).1) ∧ (vlist f n)[i * 2 + 1]? = some (.int .i64 (f i).2)
  | 0, i, h => by omega
  | n + 1, i, h => by
    have hl := vlist_length f n
    unfold vlist
    by_cases e : i = n
    · subst e
      rw [List.getElem?_append_right (by omega), List.getElem?_append_right (by omega), hl]
      simp
    · have := vlist_get f n i (by omega)
      rw [List.getElem?_append_left (by omega), List.getElem?_append_left (by omega)]
      exact this
theorem vlist_congr {f g : Nat → Int × Int} : ∀ n, (∀ i, i < n → f i = g i) → vlist f n = vlist g n
  | 0, _ => rfl
  | n + 1, h => by unfold vlist; rw [vlist_congr n (fun i hi => h i (by omega)), h n (by omega)]
/-- A row of vectors that is owned. -/
def OwnV (E : TypeId) (N : Nat) (w : World) (v : Value) (n : Nat) (f : Nat → Int × Int) : Prop := w.ownsRow N E 2 v n (vlist f n)
theorem OwnV.nil (E : TypeId) (N : Nat) (w : World) (f : Nat → Int × Int) : OwnV E N w (.slice none 0 0) 0 f := World.ownsRow_nil w N E 2
theorem OwnV.kept {E : TypeId} {N n : Nat} {f : Nat → Int × Int} {w w' : World} {v : Value} (h : OwnV E N w v n f) (hb : Below w.heap.size w w') : OwnV E N w' v n f := by
  obtain ⟨h1, h2⟩ := h
  refine ⟨h1, ?_⟩
  rcases h2 with h2 | ⟨g, cap, cur, rfl, hg, hh, r⟩
  · exact .inl h2
  · have hlt : g < w.heap.size := by
      rcases Nat.lt_or_ge g w.heap.size with h | h
      · exact h
      · rw [Array.getElem?_eq_none h] at hh; cases hh
    exact .inr ⟨g, cap, cur, rfl, hg, by rw [hb.block g hlt]; exact hh, r⟩
theorem OwnV.mono {E : TypeId} {N N' n : Nat} {f : Nat → Int × Int} {w : World} {v : Value} (h : OwnV E N w v n f) (hN : N' ≤ N) : OwnV E N' w v n f := by
  obtain ⟨h1, h2⟩ := h
  refine ⟨h1, ?_⟩
  rcases h2 with h2 | ⟨g, cap, cur, rfl, hg, r⟩
  · exact .inl h2
  · exact .inr ⟨g, cap, cur, rfl, Nat.le_trans hN hg, r⟩
theorem OwnV.congr {E : TypeId} {N n : Nat} {f g : Nat → Int × Int} {w : World} {v : Value} (h : OwnV E N w v n f) (e : ∀ i, i < n → f i = g i) : OwnV E N w v n g := by
  unfold OwnV at *
  rw [← vlist_congr n e]
  exact h
theorem addr0 (g j : Nat) : (⟨g, 0, none⟩ : Addr).add j = ⟨g, j, none⟩ := by unfold Addr.add; split <;> simp_all
theorem ownv_slice {E : TypeId} {N n : Nat} {f : Nat → Int × Int} {w : World} {v : Value} (h : OwnV E N w v n f) :
    ∃ (base : Option Addr) (g c : Nat), v = .slice base n c ∧ (n ≠ 0 → base = some ⟨g, 0, none⟩) ∧ VSl w g 0 n f ∧ (n ≠ 0 → g < w.heap.size) ∧ (n ≠ 0 → N ≤ g) := by
  have hl := World.ownsRow.lt h
  rcases h.2 with ⟨rfl, rfl⟩ | ⟨g, cap, cur, rfl, hg, hh, r⟩
  · exact ⟨none, 0, 0, rfl, fun h => absurd rfl h, fun i hi => by omega, fun h => absurd rfl h, fun h => absurd rfl h⟩
  · refine ⟨_, g, cap, rfl, fun _ => rfl, fun i hi => ?_, fun _ => (hl g rfl).2, fun _ => hg⟩
    obtain ⟨e1, e2⟩ := vlist_get f n i hi
    have k1 := World.ownsRow.cells h (g := g) rfl _ _ e1
    have k2 := World.ownsRow.cells h (g := g) rfl _ _ e2
    rw [addr0] at k1 k2
    rw [Nat.zero_add]
    exact ⟨k1, k2⟩
theorem one_vec (w : World) (x y : Int) (E : TypeId) : ∀ j u, ([.int .i64 x, .int .i64 y] : List Value)[j]? = some u → (w.alloc (.cells #[.int .i64 x, .int .i64 y] E)).cell? ((⟨w.heap.size, 0, none⟩ : Addr).add j) = some u := by
  intro j u hj
  rw [addr0]
  refine cell_new _ _ _ _ _ _ rfl ?_
  simpa using hj
theorem two_vec (w : World) (x y : Int) (E : TypeId) : ∀ j u, ([.int .i64 x, .int .i64 y, .int .i64 x, .int .i64 y] : List Value)[j]? = some u → (w.alloc (.cells #[.int .i64 x, .int .i64 y, .int .i64 x, .int .i64 y] E)).cell? ((⟨w.heap.size, 0, none⟩ : Addr).add j) = some u := by
  intro j u hj
  rw [addr0]
  refine cell_new _ _ _ _ _ _ rfl ?_
  simpa using hj
/-- 'append(own, x)'. -/
theorem wpList_append_vec {P : Program} (w : World) {ops : Array Oper} {rest : List Oper} {o : Oper} {a : Act} {Q : Exit → Act → World → Prop} (hgd : o.guard = none) (s x : Operand) (t : TypeId)
    (ho : o.op = .call { callee := .builtin .append, args := #[s, x], argTypes := #[t, t] }) (E : TypeId) (i : TypeInfo) (ht : P.underlying t = some (.slice E)) (hi : P.info? E = some i) (hz : i.zero = some (vec 0 0)) (hsize : i.size = 2) (hby : i.bytes = 16)
    (N : Nat) (v : Value) (n : Nat) (f : Nat → Int × Int) (hs : a.eval s = v) (hown : OwnV E N w v n f) (b : Nat) (hx : a.eval x = .slice (some ⟨b, 0, none⟩) 1 1) (hb : ∀ j u, ([.int .i64 (f n).1, .int .i64 (f n).2] : List Value)[j]? = some u → w.cell? ((⟨b, 0, none⟩ : Addr).add j) = some u) (hn : n ≤ 1000000) (hN : N ≤ w.heap.size)
    (h : ∀ v' w', OwnV E N w' v' (n + 1) f → Below N w w' → w.grownBy w' v.ownBlock → wpList P ops Q rest (a.put o.dst v') w') : wpList P ops Q (o :: rest) a w := by
  refine wpList_append_own_at w hgd s x t ho N E i (vec 0 0) 2 16 ht hi hz hsize hby rfl (by decide) v n (vlist f n) hs hown ⟨b, 0, none⟩ 1 1 [.int .i64 (f n).1, .int .i64 (f n).2] hx rfl hb ?_ (by unfold maxLen; omega) (by omega) hN ?_
  · intro u hu
    simp at hu
    rcases hu with rfl | rfl <;> rfl
  · intro v' w' h1 h2 _ _
    exact h v' w' h1 ((Below.refl _ _).grown h2 hN (fun q hq => (World.ownsRow.lt hown q hq).1)) h2
/-- 'append(own, x, x)'. -/
theorem wpList_append_vec2 {P : Program} (w : World) {ops : Array Oper} {rest : List Oper} {o : Oper} {a : Act} {Q : Exit → Act → World → Prop} (hgd : o.guard = none) (s x : Operand) (t : TypeId)
    (ho : o.op = .call { callee := .builtin .append, args := #[s, x], argTypes := #[t, t] }) (E : TypeId) (i : TypeInfo) (ht : P.underlying t = some (.slice E)) (hi : P.info? E = some i) (hz : i.zero = some (vec 0 0)) (hsize : i.size = 2) (hby : i.bytes = 16)
    (N : Nat) (v : Value) (n : Nat) (f : Nat → Int × Int) (hs : a.eval s = v) (hown : OwnV E N w v n f) (b : Nat) (hx : a.eval x = .slice (some ⟨b, 0, none⟩) 2 2) (p q : Int) (h1 : f n = (p, q)) (h2 : f (n + 1) = (p, q)) (hb : ∀ j u, ([.int .i64 p, .int .i64 q, .int .i64 p, .int .i64 q] : List Value)[j]? = some u → w.cell? ((⟨b, 0, none⟩ : Addr).add j) = some u) (hn : n ≤ 1000000) (hN : N ≤ w.heap.size)
    (h : ∀ v' w', OwnV E N w' v' (n + 2) f → Below N w w' → w.grownBy w' v.ownBlock → wpList P ops Q rest (a.put o.dst v') w') : wpList P ops Q (o :: rest) a w := by
  refine wpList_append_own_at w hgd s x t ho N E i (vec 0 0) 2 16 ht hi hz hsize hby rfl (by decide) v n (vlist f n) hs hown ⟨b, 0, none⟩ 2 2 [.int .i64 p, .int .i64 q, .int .i64 p, .int .i64 q] hx rfl hb ?_ (by unfold maxLen; omega) (by omega) hN ?_
  · intro u hu
    simp at hu
    rcases hu with rfl | rfl | rfl | rfl <;> rfl
  · intro v' w' k1 k2 _ _
    refine h v' w' ?_ ((Below.refl _ _).grown k2 hN (fun q hq => (World.ownsRow.lt hown q hq).1)) k2
    show w'.ownsRow N E 2 v' (n + 2) (vlist f n ++ [.int .i64 (f n).1, .int .i64 (f n).2] ++ [.int .i64 (f (n + 1)).1, .int .i64 (f (n + 1)).2])
    rw [h1, h2, List.append_assoc]
    exact k1
/-- The same at a step of a region that draws its order. -/
theorem step_append_vec2 {P : Program} {w : World} {ops : Array Oper} {o : Oper} {a : Act} {K : Act → World → Prop} {Q : Exit → Act → World → Prop} {Ep : Prop} (hgd : o.guard = none) (s x : Operand) (t : TypeId)
    (ho : o.op = .call { callee := .builtin .append, args := #[s, x], argTypes := #[t, t] }) (E : TypeId) (i : TypeInfo) (ht : P.underlying t = some (.slice E)) (hi : P.info? E = some i) (hz : i.zero = some (vec 0 0)) (hsize : i.size = 2) (hby : i.bytes = 16)
    (N : Nat) (v : Value) (n : Nat) (f : Nat → Int × Int) (hs : a.eval s = v) (hown : OwnV E N w v n f) (b : Nat) (hx : a.eval x = .slice (some ⟨b, 0, none⟩) 2 2) (p q : Int) (h1 : f n = (p, q)) (h2 : f (n + 1) = (p, q)) (hb : ∀ j u, ([.int .i64 p, .int .i64 q, .int .i64 p, .int .i64 q] : List Value)[j]? = some u → w.cell? ((⟨b, 0, none⟩ : Addr).add j) = some u) (hn : n ≤ 1000000) (hN : N ≤ w.heap.size)
    (h : ∀ v' w', OwnV E N w' v' (n + 2) f → Below N w w' → w.grownBy w' v.ownBlock → K (a.put o.dst v') w') : if Region.wanted o (yielded ops a.tmps) = true then Oper.wp P o a w K Q else Ep := by
  have hw : Region.wanted o (yielded ops a.tmps) = true := by simp [Region.wanted, hgd]
  rw [if_pos hw]
  refine wp_append_own w s x t ho N E i (vec 0 0) 2 16 ht hi hz hsize hby rfl (by decide) v n (vlist f n) hs hown ⟨b, 0, none⟩ 2 2 [.int .i64 p, .int .i64 q, .int .i64 p, .int .i64 q] hx rfl hb ?_ (by unfold maxLen; omega) (by omega) hN ?_
  · intro u hu
    simp at hu
    rcases hu with rfl | rfl | rfl | rfl <;> rfl
  · intro v' w' k1 k2 _
    refine h v' w' ?_ ((Below.refl _ _).grown k2 hN (fun q hq => (World.ownsRow.lt hown q hq).1)) k2
    show w'.ownsRow N E 2 v' (n + 2) (vlist f n ++ [.int .i64 (f n).1, .int .i64 (f n).2] ++ [.int .i64 (f (n + 1)).1, .int .i64 (f (n + 1)).2])
    rw [h1, h2, List.append_assoc]
    exact k1
theorem sm_ng {x y : Int} (h : Sm x y) : ngI x = -x := by
  obtain ⟨a, b, c, d⟩ := h
  exact ng_of (by omega)
end VB
namespace Go.Proofs.Ytdgfmkideghhaaa
open Go.RowKit PB VB
set_option maxRecDepth 100000 in
theorem info_vec : (Try.prog.info? 41).map (fun i => (i.zero, i.size, i.bytes)) = some (some (vec 0 0), 2, 16) := by kernel_rfl
set_option maxHeartbeats 4000000 in
set_option maxRecDepth 100000 in
theorem flips_any (base : Option Addr) (b off n c : Nat) (f : Nat → Int × Int) (w : World) (hb : n ≠ 0 → base = some ⟨b, off, none⟩) (hlt : n ≠ 0 → b < w.heap.size) (hV : VSl w b off n f) (hn : n ≤ 1000) (h : AllSm f n) :
    Calls Try.prog 64 #[.slice base n c] w fun e w' => ∃ v, e = .returned v ∧ OwnV 41 w.heap.size w' v n (flipF f) ∧ Below w.heap.size w w' := by
  have HV := Lib.hid hV
  have HB := Lib.hid hb
  have HL := Lib.hid hlt
  have HS := Lib.hid h
  obtain ⟨i0, hi, hz0, hz1, hz2⟩ := info_parts info_vec
  clear hV hb hlt h
  go_enter Try.func64, Try.ntmps64
  go_wp2_with fail
  go_loopw [3, 4] (fun o i wr => ∃ k : Nat, k ≤ n ∧ i = .int .i64 k ∧ OwnV 41 w.heap.size wr o k (flipF f) ∧ Hid (Below w.heap.size w wr)) (fun _ i _ => n - (intOf i).toNat)
  case atStart => exact ⟨0, Nat.zero_le _, rfl, OwnV.nil _ _ _ _, Lib.hid (Below.refl _ _)⟩
  case round =>
    obtain ⟨k, hk, rfl, hO, hwr⟩ := hrel
    by_cases hkn : k < n
    · obtain rfl := HB.out (by omega)
      obtain ⟨c0, c1⟩ := (HV.out.kept hwr.out HL.out) k hkn
      have hsm := HS.out k hkn
      have hF : flipF f k = (-(f k).1, (f k).2) := rfl
      have HNG := Lib.hid (sm_ng hsm)
      have HF := Lib.hid (fun w => flip_any (f k).1 (f k).2 w (by have := hsm.a; omega) (by have := hsm.b; omega))
      have HFK := Lib.hid hF
      clear hF hsm
      generalize (f k).1 = x at *
      generalize (f k).2 = y at *
      rw [HNG.out] at HF
      go_wp2_with fail
      refine (HF.out _).mono ?_
      rintro e w1 ⟨rfl, hw1⟩
      have hO1 := hO.kept hw1
      have HB1 := Lib.hid (next hwr.out hw1)
      have hsz := HB1.out.size
      clear hw1 c0 c1 hO
      go_wp2_with (at_builtin; refine wpList_append_vec _ rfl _ _ 52 rfl 41 i0 Try.underlying52 hi hz0 hz1 hz2 w.heap.size _ k (flipF f) rfl (hO1.kept ((Below.refl _ _).alloc (Nat.le_refl _) _)) w1.heap.size rfl (by rw [HFK.out]; exact one_vec _ _ _ _) (by omega) (by simp; omega) ?_)
      intro v' w' hown hbl hg
      have HB2 := Lib.hid ((next HB1.out ((Below.refl _ _).alloc (Nat.le_refl _) (Obj.cells #[.int .i64 (-x), .int .i64 y] 41))).trans hbl)
      clear hO1 hbl hg
      go_wp2_with fail
      go_roundw
      case rel => exact ⟨k + 1, by omega, by go_num, hown, HB2⟩
      case measure => simp [intOf]; omega
    · obtain rfl : k = n := by omega
      go_wp2_with fail
      go_ret
      exact ⟨_, rfl, hO, hwr.out⟩
end Go.Proofs.Ytdgfmkideghhaaa
