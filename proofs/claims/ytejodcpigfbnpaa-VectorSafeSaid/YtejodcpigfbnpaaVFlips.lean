/-
  Rows of vectors, and flips.
-/
import Derived.Test.YtejodcpigfbnpaaVSame
import Derived.Test.YtejodcpigfbnpaaMem
import Derived.Test.YtejodcpigfbnpaaVTurnR
import Derived.Test.YtejodcpigfbnpaaVAwake
import Derived.Maps.AppendAt
import Derived.Deep.AppendLies
import Derived.Deep.RegionHeld3
namespace VB
open Go Go.RowKit PB
/-- The cells of n vectors. -/
def vlist (f : Nat → Int × Int) : Nat → List Value
  | 0 => []
  | n + 1 => vlist f n ++ [.int .i64 (f n).1, .int .i64 (f n).2]
theorem vlist_length (f : Nat → Int × Int) : ∀ n, (vlist f n).length = n * 2
  | 0 => rfl
  | n + 1 => by unfold vlist; rw [List.length_append, vlist_length f n]; simp; omega
theorem vlist_get (f : Nat → Int × Int) : ∀ n i, i < n → (vlist f n)[i * 2]? = some (.int .i64 (f i).1) ∧ (vlist f n)[i * 2 + 1]? = some (.int .i64 (f i).2)
  | 0, i, h => by omega
  | n + 1, i, h => by
    have hl := vlist_length f n
    unfold vlist
    by_cases e : i = n
    · subst e
      rw [List.getElem?_append_right (by omega), List.getElem?_append_right (by omega), hl]
      simp
    · have := vlist_get f n i (by omega)
      rw [List.getElem?_append_left (by omega), List.getElem?_append_left (by omega)]
      exact this
theorem vlist_congr {f g : Nat → Int × Int} : ∀ n, (∀ i, i < n → f i = g i) → vlist f n = vlist g n
  | 0, _ => rfl
  | n + 1, h => by unfold vlist; rw [vlist_congr n (fun i hi => h i (by omega)), h n (by omega)]
/-- A row of vectors that is owned. -/
def OwnV (E : TypeId) (N : Nat) (w : World) (v : Value) (n : Nat) (f : Nat → Int × Int) : Prop := w.ownsRow N E 2 v n (vlist f n)
theorem OwnV.nil (E : TypeId) (N : Nat) (w : World) (f : Nat → Int × Int) : OwnV E N w (.slice none 0 0) 0 f := World.ownsRow_nil w N E 2
theorem OwnV.kept {E : TypeId} {N n : Nat} {f : Nat → Int × Int} {w w' : World} {v : Value} (h : OwnV E N w v n f) (hb : Below w.heap.size w w') : OwnV E N w' v n f := by
  obtain ⟨h1, h2⟩ := h
  refine ⟨h1, ?_⟩
  rcases h2 with h2 | ⟨g, cap, cur, rfl, hg, hh, r⟩
  · exact .inl h2
  · have hlt : g < w.heap.size := by
      rcases Nat.lt_or_ge g w.heap.size with h | h
      · exact h
      · rw [Array.getElem?_eq_none h] at hh; cases hh
    exact .inr ⟨g, cap, cur, rfl, hg, by rw [hb.block g hlt]; exact hh, r⟩
theorem OwnV.mono {E : TypeId} {N N' n : Nat} {f : Nat → Int × Int} {w : World} {v : Value} (h : OwnV E N w v n f) (hN : N' ≤ N) : OwnV E N' w v n f := by
  obtain ⟨h1, h2⟩ := h
  refine ⟨h1, ?_⟩
  rcases h2 with h2 | ⟨g, cap, cur, rfl, hg, r⟩
  · exact .inl h2
  · exact .inr ⟨g, cap, cur, rfl, Nat.le_trans hN hg, r⟩
theorem OwnV.congr {E : TypeId} {N n : Nat} {f g : Nat → Int × Int} {w : World} {v : Value} (h : OwnV E N w v n f) (e : ∀ i, i < n → f i = g i) : OwnV E N w v n g := by
  unfold OwnV at *
  rw [← vlist_congr n e]
  exact h
theorem addr0 (g j : Nat) : (⟨g, 0, none⟩ : Addr).add j = ⟨g, j, none⟩ := by unfold Addr.add; split <;> simp_all
theorem ownv_slice {E : TypeId} {N n : Nat} {f : Nat → Int × Int} {w : World} {v : Value} (h : OwnV E N w v n f) :
    ∃ (base : Option Addr) (g c : Nat), v = .slice base n c ∧ (n ≠ 0 → base = some ⟨g, 0, none⟩) ∧ VSl w g 0 n f ∧ (n ≠ 0 → g < w.heap.size) ∧ (n ≠ 0 → N ≤ g) := by
  have hl := World.ownsRow.lt h
  rcases h.2 with ⟨rfl, rfl⟩ | ⟨g, cap, cur, rfl, hg, hh, r⟩
  · exact ⟨none, 0, 0, rfl, fun h => absurd rfl h, fun i hi => by omega, fun h => absurd rfl h, fun h => absurd rfl h⟩
  · refine ⟨_, g, cap, rfl, fun _ => rfl, fun i hi => ?_, fun _ => (hl g rfl).2, fun _ => hg⟩
    obtain ⟨e1, e2⟩ := vlist_get f n i hi
    have k1 := World.ownsRow.cells h (g := g) rfl _ _ e1
    have k2 := World.ownsRow.cells h (g := g) rfl _ _ e2
    rw [addr0] at k1 k2
    rw [Nat.zero_add]
    exact ⟨k1, k2⟩
theorem one_vec (w : World) (x y : Int) (E : TypeId) : ∀ j u, ([.int .i64 x, .int .i64 y] : List Value)[j]? = some u → (w.alloc (.cells #[.int .i64 x, .int .i64 y] E)).cell? ((⟨w.heap.size, 0, none⟩ : Addr).add j) = some u := by
  intro j u hj
  rw [addr0]
  refine cell_new _ _ _ _ _ _ rfl ?_
  simpa using hj
theorem two_vec (w : World) (x y : Int) (E : TypeId) : ∀ j u, ([.int .i64 x, .int .i64 y, .int .i64 x, .int .i64 y] : List Value)[j]? = some u → (w.alloc (.cells #[.int .i64 x, .int .i64 y, .int .i64 x, .int .i64 y] E)).cell? ((⟨w.heap.size, 0, none⟩ : Addr).add j) = some u := by
  intro j u hj
  rw [addr0]
  refine cell_new _ _ _ _ _ _ rfl ?_
  simpa using hj
/-- 'append(own, x)'. -/
theorem wpList_append_vec {P : Program} (w : World) {ops : Array Oper} {rest : List Oper} {o : Oper} {a : Act} {Q : Exit → Act → World → Prop} (hgd : o.guard = none) (s x : Operand) (t : TypeId)
    (ho : o.op = .call { callee := .builtin .append, args := #[s, x], argTypes := #[t, t] }) (E : TypeId) (i : TypeInfo) (ht : P.underlying t = some (.slice E)) (hi : P.info? E = some i) (hz : i.zero = some (vec 0 0)) (hsize : i.size = 2) (hby : i.bytes = 16)
    (N : Nat) (v : Value) (n : Nat) (f : Nat → Int × Int) (hs : a.eval s = v) (hown : OwnV E N w v n f) (b : Nat) (hx : a.eval x = .slice (some ⟨b, 0, none⟩) 1 1) (hb : ∀ j u, ([.int .i64 (f n).1, .int .i64 (f n).2] : List Value)[j]? = some u → w.cell? ((⟨b, 0, none⟩ : Addr).add j) = some u) (hn : n ≤ 1000000) (hN : N ≤ w.heap.size)
    (h : ∀ v' w', OwnV E N w' v' (n + 1) f → Below N w w' → w.grownBy w' v.ownBlock → wpList P ops Q rest (a.put o.dst v') w') : wpList P ops Q (o :: rest) a w := by
  refine wpList_append_own_at w hgd s x t ho N E i (vec 0 0) 2 16 ht hi hz hsize hby rfl (by decide) v n (vlist f n) hs hown ⟨b, 0, none⟩ 1 1 [.int .i64 (f n).1, .int .i64 (f n).2] hx rfl hb ?_ (by unfold maxLen; omega) (by omega) hN ?_
  · intro u hu
    simp at hu
    rcases hu with rfl | rfl <;> rfl
  · intro v' w' h1 h2 _ _
    exact h v' w' h1 ((Below.refl _ _).grown h2 hN (fun q hq => (World.ownsRow.lt hown q hq).1)) h2
/-- 'append(own, x, x)'. -/
theorem wpList_append_vec2 {P : Program} (w : World) {ops : Array Oper} {rest : List Oper} {o : Oper} {a : Act} {Q : Exit → Act → World → Prop} (hgd : o.guard = none) (s x : Operand) (t : TypeId)
    (ho : o.op = .call { callee := .builtin .append, args := #[s, x], argTypes := #[t, t] }) (E : TypeId) (i : TypeInfo) (ht : P.underlying t = some (.slice E)) (hi : P.info? E = some i) (hz : i.zero = some (vec 0 0)) (hsize : i.size = 2) (hby : i.bytes = 16)
    (N : Nat) (v : Value) (n : Nat) (f : Nat → Int × Int) (hs : a.eval s = v) (hown : OwnV E N w v n f) (b : Nat) (hx : a.eval x = .slice (some ⟨b, 0, none⟩) 2 2) (p q : Int) (h1 : f n = (p, q)) (h2 : f (n + 1) = (p, q)) (hb : ∀ j u, ([.int .i64 p, .int .i64 q, .int .i64 p, .int .i64 q] : List Value)[j]? = some u → w.cell? ((⟨b, 0, none⟩ : Addr).add j) = some u) (hn : n ≤ 1000000) (hN : N ≤ w.heap.size)
    (h : ∀ v' w', OwnV E N w' v' (n + 2) f → Below N w w' → w.grownBy w' v.ownBlock → wpList P ops Q rest (a.put o.dst v') w') : wpList P ops Q (o :: rest) a w := by
  refine wpList_append_own_at w hgd s x t ho N E i (vec 0 0) 2 16 ht hi hz hsize hby rfl (by decide) v n (vlist f n) hs hown ⟨b, 0, none⟩ 2 2 [.int .i64 p, .int .i64 q, .int .i64 p, .int .i64 q] hx rfl hb ?_ (by unfold maxLen; omega) (by omega) hN ?_
  · intro u hu
    simp at hu
    rcases hu with rfl | rfl | rfl | rfl <;> rfl
  · intro v' w' k1 k2 _ _
    refine h v' w' ?_ ((Below.refl _ _).grown k2 hN (fun q hq => (World.ownsRow.lt hown q hq).1)) k2
    show w'.ownsRow N E 2 v' (n + 2) (vlist f n ++ [.int .i64 (f n).1, .int .i64 (f n).2] ++ [.int .i64 (f (n + 1)).1, .int .i64 (f (n + 1)).2])
    rw [h1, h2, List.append_assoc]
    exact k1
/-- The same at a step of a region that draws its order. -/
theorem step_append_vec2 {P : Program} {w : World} {ops : Array Oper} {o : Oper} {a : Act} {K : Act → World → Prop} {Q : Exit → Act → World → Prop} {Ep : Prop} (hgd : o.guard = none) (s x : Operand) (t : TypeId)
    (ho : o.op = .call { callee := .builtin .append, args := #[s, x], argTypes := #[t, t] }) (E : TypeId) (i : TypeInfo) (ht : P.underlying t = some (.slice E)) (hi : P.info? E = some i) (hz : i.zero = some (vec 0 0)) (hsize : i.size = 2) (hby : i.bytes = 16)
    (N : Nat) (v : Value) (n : Nat) (f : Nat → Int × Int) (hs : a.eval s = v) (hown : OwnV E N w v n f) (b : Nat) (hx : a.eval x = .slice (some ⟨b, 0, none⟩) 2 2) (p q : Int) (h1 : f n = (p, q)) (h2 : f (n + 1) = (p, q)) (hb : ∀ j u, ([.int .i64 p, .int .i64 q, .int .i64 p, .int .i64 q] : List Value)[j]? = some u → w.cell? ((⟨b, 0, none⟩ : Addr).add j) = some u) (hn : n ≤ 1000000) (hN : N ≤ w.heap.size)
    (h : ∀ v' w', OwnV E N w' v' (n + 2) f → Below N w w' → w.grownBy w' v.ownBlock → K (a.put o.dst v') w') : if Region.wanted o (yielded ops a.tmps) = true then Oper.wp P o a w K Q else Ep := by
  have hw : Region.wanted o (yielded ops a.tmps) = true := by simp [Region.wanted, hgd]
  rw [if_pos hw]
  refine wp_append_own w s x t ho N E i (vec 0 0) 2 16 ht hi hz hsize hby rfl (by decide) v n (vlist f n) hs hown ⟨b, 0, none⟩ 2 2 [.int .i64 p, .int .i64 q, .int .i64 p, .int .i64 q] hx rfl hb ?_ (by unfold maxLen; omega) (by omega) hN ?_
  · intro u hu
    simp at hu
    rcases hu with rfl | rfl | rfl | rfl <;> rfl
  · intro v' w' k1 k2 _
    refine h v' w' ?_ ((Below.refl _ _).grown k2 hN (fun q hq => (World.ownsRow.lt hown q hq).1)) k2
    show w'.ownsRow N E 2 v' (n + 2) (vlist f n ++ [.int .i64 (f n).1, .int .i64 (f n).2] ++ [.int .i64 (f (n + 1)).1, .int .i64 (f (n + 1)).2])
    rw [h1, h2, List.append_assoc]
    exact k1
theorem sm_ng {x y : Int} (h : Sm x y) : ngI x = -x := by
  obtain ⟨a, b, c, d⟩ := h
  exact ng_of (by omega)
end VB
namespace Go.Proofs.Ytejodcpigfbnpaa
open Go.RowKit PB VB
set_option maxRecDepth 100000 in
theorem info_vec : (Try.prog.info? 23).map (fun i => (i.zero, i.size, i.bytes)) = some (some (vec 0 0), 2, 16) := by kernel_rfl
set_option maxHeartbeats 4000000 in
set_option maxRecDepth 100000 in
theorem flips_any (base : Option Addr) (b off n c : Nat) (f : Nat → Int × Int) (w : World) (hb : n ≠ 0 → base = some ⟨b, off, none⟩) (hlt : n ≠ 0 → b < w.heap.size) (hV : VSl w b off n f) (hn : n ≤ 1000) (h : AllSm f n) :
    Calls Try.prog 35 #[.slice base n c] w fun e w' => ∃ v, e = .returned v ∧ OwnV 23 w.heap.size w' v n (flipF f) ∧ Below w.heap.size w w' := by
  have HV := Lib.hid hV
  have HB := Lib.hid hb
  have HL := Lib.hid hlt
  have HS := Lib.hid h
  obtain ⟨i0, hi, hz0, hz1, hz2⟩ := info_parts info_vec
  clear hV hb hlt h
  go_enter Try.func35, Try.ntmps35
  go_wp2_with fail
  go_loopw [3, 4] (fun o i wr => ∃ k : Nat, k ≤ n ∧ i = .int .i64 k ∧ OwnV 23 w.heap.size wr o k (flipF f) ∧ Hid (Below w.heap.size w wr)) (fun _ i _ => n - (intOf i).toNat)
  case atStart => exact ⟨0, Nat.zero_le _, rfl, OwnV.nil _ _ _ _, Lib.hid (Below.refl _ _)⟩
  case round =>
    obtain ⟨k, hk, rfl, hO, hwr⟩ := hrel
    by_cases hkn : k < n
    · obtain rfl := HB.out (by omega)
      obtain ⟨c0, c1⟩ := (HV.out.kept hwr.out HL.out) k hkn
      have hsm := HS.out k hkn
      have hF : flipF f k = (-(f k).1, (f k).2) := rfl
      have HNG := Lib.hid (sm_ng hsm)
      have HF := Lib.hid (fun w => flip_any (f k).1 (f k).2 w (by have := hsm.a; omega) (by have := hsm.b; omega))
      have HFK := Lib.hid hF
      clear hF hsm
      generalize (f k).1 = x at *
      generalize (f k).2 = y at *
      rw [HNG.out] at HF
      go_wp2_with fail
      refine (HF.out _).mono ?_
      rintro e w1 ⟨rfl, hw1⟩
      have hO1 := hO.kept hw1
      have HB1 := Lib.hid (next hwr.out hw1)
      have hsz := HB1.out.size
      clear hw1 c0 c1 hO
      go_wp2_with (at_builtin; refine wpList_append_vec _ rfl _ _ 35 rfl 23 i0 Try.underlying35 hi hz0 hz1 hz2 w.heap.size _ k (flipF f) rfl (hO1.kept ((Below.refl _ _).alloc (Nat.le_refl _) _)) w1.heap.size rfl (by rw [HFK.out]; exact one_vec _ _ _ _) (by omega) (by simp; omega) ?_)
      intro v' w' hown hbl hg
      have HB2 := Lib.hid ((next HB1.out ((Below.refl _ _).alloc (Nat.le_refl _) (Obj.cells #[.int .i64 (-x), .int .i64 y] 23))).trans hbl)
      clear hO1 hbl hg
      go_wp2_with fail
      go_roundw
      case rel => exact ⟨k + 1, by omega, by go_num, hown, HB2⟩
      case measure => simp [intOf]; omega
    · obtain rfl : k = n := by omega
      go_wp2_with fail
      go_ret
      exact ⟨_, rfl, hO, hwr.out⟩
end Go.Proofs.Ytejodcpigfbnpaa
