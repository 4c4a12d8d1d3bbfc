/-
  The reference's Arity.
  The reference's reader: kind and at.
  The reference's statement: what is said of words and of memory.
-/
import Derived.Test.YtdikoeeoglfmaaaGreatDoorM17
import Derived.Test.YtdikoeeoglfmaaaGreatDoorM21
import Derived.Test.YtdikoeeoglfmaaaGreatDoorM29
namespace SS
open Go Go.RowKit PB SC
theorem look_step {l : List (ByteArray × Nat)} {k : ByteArray} {i : Nat} {q : ByteArray × Nat} {R : Option Nat} (h : look (l.drop i) k = R) (hk : l[i]? = some q) : (q.1 = k → R = some q.2) ∧ (¬ q.1 = k → look (l.drop (i + 1)) k = R) := by
  obtain ⟨hi, e⟩ := List.getElem?_eq_some_iff.1 hk
  rw [List.drop_eq_getElem_cons hi, e] at h
  unfold look at h
  exact ⟨fun hh => by rw [if_pos hh] at h; exact h.symm, fun hh => by rw [if_neg hh] at h; exact h⟩
theorem look_end {l : List (ByteArray × Nat)} {k : ByteArray} {i : Nat} {R : Option Nat} (h : look (l.drop i) k = R) (hi : l.length ≤ i) : R = none := by
  rw [List.drop_eq_nil_of_le hi] at h; exact h.symm
theorem row_few (w : ByteArray) : (rowOf w).length ≤ 12 := by
  by_cases h : rowOf w = []
  · rw [h]; decide
  · obtain ⟨r, hr, _, h2⟩ := rowIn_mem (show rowIn tab w ≠ [] from h)
    show (rowIn tab w).length ≤ 12
    rw [h2]
    exact (tab_some r hr).1
end SS
namespace Go.Proofs.YtdikoeeoglfmaaaGreatDoor
open Go.RowKit SC PB SS
set_option maxHeartbeats 8000000 in
set_option maxRecDepth 100000 in
theorem rarity_any (word key : ByteArray) (w : World) :
    Calls Tryz.prog 51 #[.string word, .string key] w fun e w' => e = .returned (.int .i64 (arity word key)) ∧ Below w.heap.size w w' := by
  have HK := Lib.hid (fun W => rkeys_any word W)
  have HA0 : arity word key = arI (SS.look (rowOf word) key) := rfl
  rw [HA0]
  have hfew := row_few word
  generalize hR : SS.look (rowOf word) key = R
  have HR0 := Lib.hid (show SS.look ((rowOf word).drop 0) key = R by rw [List.drop_zero]; exact hR)
  have HRS := Lib.hid (fun (i : Nat) (q : ByteArray × Nat) (h : SS.look ((rowOf word).drop i) key = R) (hk : (rowOf word)[i]? = some q) => look_step h hk)
  have HRE := Lib.hid (fun (i : Nat) (h : SS.look ((rowOf word).drop i) key = R) (hk : (rowOf word).length ≤ i) => look_end h hk)
  have HX := Lib.hid (fun (k : Nat) (hk : k < (rowOf word).length) => (⟨(rowOf word)[k], List.getElem?_eq_getElem hk⟩ : ∃ q, (rowOf word)[k]? = some q))
  clear hR HA0
  go_enter Tryz.func51, Tryz.ntmps51
  go_wp2_with fail
  refine (HK.out _).mono ?_
  rintro e w1 ⟨v, u, rfl, r1, r2, q1⟩
  obtain ⟨nb, ng, no, nc, rfl, n1, n2, n4⟩ := r1.form
  obtain ⟨mb, mg, mo, mc, rfl, m1, m2, m4⟩ := r2.form
  rw [List.length_map] at n1 n2 m1 m2 ⊢
  rw [List.length_map]
  have HN := Lib.hid (fun W (h : Below w1.heap.size w1 W) (j : Nat) (q : ByteArray × Nat) (hq : (rowOf word)[j]? = some q) => (show W.cell? ⟨ng, no + j, none⟩ = some (.string q.1) ∧ W.cell? ⟨mg, mo + j, none⟩ = some (.int .i64 (q.2 : Int)) by
    have hl := (List.getElem?_eq_some_iff.1 hq).1
    exact ⟨by rw [h.cell (p := ⟨ng, _, none⟩) (n2 (by omega))]; exact n4 j q.1 (by rw [List.getElem?_map, hq]; rfl), by rw [h.cell (p := ⟨mg, _, none⟩) (m2 (by omega))]; exact m4 j (q.2 : Int) (by rw [List.getElem?_map, hq]; rfl)⟩))
  have HN1 := Lib.hid n1
  have HM1 := Lib.hid m1
  have HN2 := Lib.hid n2
  have HM2 := Lib.hid m2
  have HQ1 := Lib.hid q1
  clear r1 r2 n1 n2 n4 m1 m2 m4 q1
  generalize hnl : (rowOf word).length = n at *
  clear hnl
  generalize (!(rowOf word).isEmpty) = em at *
  go_wp2_with fail
  go_loopw [8] (fun iv wr => ∃ i : Nat, i ≤ n ∧ iv = .int .i64 i ∧ Hid (SS.look ((rowOf word).drop i) key = R) ∧ Hid (Below w1.heap.size w1 wr)) (fun iv _ => n - (intOf iv).toNat)
  case atStart => exact ⟨0, Nat.zero_le _, rfl, HR0, Lib.hid (Below.refl _ _)⟩
  case round =>
    clear HR0
    obtain ⟨i, hi, rfl, hA, hwr⟩ := hrel
    by_cases hin : i < n
    · obtain rfl := HN1.out (by omega)
      obtain rfl := HM1.out (by omega)
      obtain ⟨q, hq⟩ := HX.out i hin
      obtain ⟨c0, c1⟩ := HN.out _ hwr.out i q hq
      obtain ⟨s1, s2⟩ := HRS.out i q hA.out hq
      have hl1 : ng < wr.heap.size := Nat.lt_of_lt_of_le (HN2.out (by omega)) hwr.out.size
      have hl2 : mg < wr.heap.size := Nat.lt_of_lt_of_le (HM2.out (by omega)) hwr.out.size
      have HD := beq_str_dec q.1 key
      have hii : (i : Int) < n := by omega
      clear hq
      by_cases hqk : q.1 = key
      · rw [decide_eq_true hqk] at HD
        have hV := s1 hqk
        subst hV
        clear s1 s2 hqk
        go_wp2_with fail
        go_ret
        exact ⟨rfl, next HQ1.out hwr.out⟩
      · rw [decide_eq_false hqk] at HD
        have HV := Lib.hid (s2 hqk)
        clear s1 s2 hqk
        go_wp2_with fail
        go_roundw
        case rel => exact ⟨i + 1, by omega, by go_num, HV, hwr⟩
        case measure => simp [intOf]; omega
    · have hie : i = n := by omega
      subst hie
      have hV := HRE.out i hA.out (Nat.le_refl _)
      subst hV
      have hii : ¬ (i : Int) < i := by omega
      go_wp2_with fail
      go_ret
      exact ⟨rfl, next HQ1.out hwr.out⟩
end Go.Proofs.YtdikoeeoglfmaaaGreatDoor

namespace SS
open Go Go.RowKit PB SC
/-- The reference's reader in block p stands ahead of word k of ws, which lie in block g. -/
structure RR (T : TypeId) (w : World) (p g : Nat) (sz : Int) (ws : List W) (k : Nat) : Prop where
  blk : ∃ (base : Option Addr) (c : Nat), BT w p T #[.slice base ws.length c, .int .i64 k, .int .i64 sz] ∧ (ws.length ≠ 0 → base = some ⟨g, 0, none⟩)
  row : WRow w g ws
  lt : ws.length ≠ 0 → g < w.heap.size
theorem RR.kept {T : TypeId} {w w' : World} {p g : Nat} {sz : Int} {ws : List W} {k : Nat} (h : RR T w p g sz ws k) (hb : Below w.heap.size w w') : RR T w' p g sz ws k := by
  obtain ⟨⟨b, c, h1, h2⟩, hr, hl⟩ := h
  refine ⟨⟨b, c, h1.kept hb, h2⟩, fun i x hx => (hr i x hx).kept hb (hl (by have := (List.getElem?_eq_some_iff.1 hx).1; omega)), fun h0 => Nat.lt_of_lt_of_le (hl h0) hb.size⟩
def kindAt (ws : List W) (k : Nat) : Int := match ws[k]? with
  | some x => x.kind
  | none => 0
def posAt (sz : Int) (ws : List W) (k : Nat) : Int := match ws[k]? with
  | some x => x.pos
  | none => sz
end SS
namespace Go.Proofs.YtdikoeeoglfmaaaGreatDoor
open Go.RowKit SC PB SS
set_option maxHeartbeats 4000000 in
set_option maxRecDepth 100000 in
theorem rkind_q (T : TypeId) (p g : Nat) (sz : Int) (ws : List W) (k : Nat) (w : World) (h : RR T w p g sz ws k) (hn : ws.length ≤ 1000000) (hk : k ≤ ws.length) :
    Calls Tryz.prog 50 #[.pointer (some ⟨p, 0, none⟩)] w fun e w' => e = .returned (.int .i64 (kindAt ws k)) ∧ ∃ m, w' = w.drewN m := by
  obtain ⟨⟨base, c, hb, h2⟩, hr, hl⟩ := h
  obtain ⟨c0, c1, c2⟩ := Blk3 hb.blk
  have hlt := hb.blk.lt
  clear hb
  by_cases hkn : k < ws.length
  · obtain rfl := h2 (by omega)
    have hl := hl (by omega)
    have hx := hr k _ (List.getElem?_eq_getElem hkn)
    have HK := Lib.hid (show kindAt ws k = (ws[k]).kind by unfold kindAt; rw [List.getElem?_eq_getElem hkn])
    generalize ws[k] = x at *
    obtain ⟨x0, x1, x2, x3⟩ := hx
    rw [HK.out]
    generalize ws.length = n at *
    have hki : (k : Int) < n := by omega
    clear HK hr h2 x1 x2 x3
    go_enter Tryz.func50, Tryz.ntmps50
    go_wp2_with fail
    go_quiet (fail)
    go_wp2_with fail
    go_quiet (fail)
    go_wp2_with fail
    go_ret
    exact ⟨rfl, _, World.drewN_drewN _ _ _⟩
  · have HK := Lib.hid (show kindAt ws k = 0 by unfold kindAt; rw [List.getElem?_eq_none (by omega)])
    rw [HK.out]
    have hki : ¬ (k : Int) < ws.length := by omega
    generalize ws.length = n at *
    clear HK hr h2 hl
    go_enter Tryz.func50, Tryz.ntmps50
    go_wp2_with fail
    go_quiet (fail)
    go_wp2_with fail
    go_ret
    exact ⟨rfl, _, rfl⟩
theorem rkind_any (T : TypeId) (p g : Nat) (sz : Int) (ws : List W) (k : Nat) (w : World) (h : RR T w p g sz ws k) (hn : ws.length ≤ 1000000) (hk : k ≤ ws.length) :
    Calls Tryz.prog 50 #[.pointer (some ⟨p, 0, none⟩)] w fun e w' => e = .returned (.int .i64 (kindAt ws k)) ∧ Below w.heap.size w w' :=
  (rkind_q T p g sz ws k w h hn hk).mono fun _ _ ⟨h1, m, h2⟩ => ⟨h1, by rw [h2]; exact PB.below_drewN (Below.refl _ _) _⟩
set_option maxHeartbeats 4000000 in
set_option maxRecDepth 100000 in
theorem rat_any (T : TypeId) (p g : Nat) (sz : Int) (ws : List W) (k : Nat) (w : World) (h : RR T w p g sz ws k) (hn : ws.length ≤ 1000000) (hk : k ≤ ws.length) :
    Calls Tryz.prog 32 #[.pointer (some ⟨p, 0, none⟩)] w fun e w' => e = .returned (.int .i64 (posAt sz ws k)) ∧ Below w.heap.size w w' := by
  obtain ⟨⟨base, c, hb, h2⟩, hr, hl⟩ := h
  obtain ⟨c0, c1, c2⟩ := Blk3 hb.blk
  have hlt := hb.blk.lt
  clear hb
  by_cases hkn : k < ws.length
  · obtain rfl := h2 (by omega)
    have hl := hl (by omega)
    have hx := hr k _ (List.getElem?_eq_getElem hkn)
    have HK := Lib.hid (show posAt sz ws k = (ws[k]).pos by unfold posAt; rw [List.getElem?_eq_getElem hkn])
    generalize ws[k] = x at *
    obtain ⟨x0, x1, x2, x3⟩ := hx
    rw [HK.out]
    generalize ws.length = n at *
    have hki : (k : Int) < n := by omega
    clear HK hr h2 x1 x2 x0
    go_enter Tryz.func32, Tryz.ntmps32
    go_wp2_with fail
    go_quiet (fail)
    go_wp2_with fail
    go_quiet (fail)
    go_wp2_with fail
    go_ret
    exact ⟨rfl, PB.below_drewN (PB.below_drewN (Below.refl _ _) _) _⟩
  · have HK := Lib.hid (show posAt sz ws k = sz by unfold posAt; rw [List.getElem?_eq_none (by omega)])
    rw [HK.out]
    have hki : ¬ (k : Int) < ws.length := by omega
    generalize ws.length = n at *
    clear HK hr h2 hl
    go_enter Tryz.func32, Tryz.ntmps32
    go_wp2_with fail
    go_quiet (fail)
    go_wp2_with fail
    go_ret
    exact ⟨rfl, PB.below_drewN (Below.refl _ _) _⟩
end Go.Proofs.YtdikoeeoglfmaaaGreatDoor

namespace SS
open Go Go.RowKit PB SC
theorem kind_wd {x : W} (hx : Fit x) (h : Wd 1 (bs x.text).data.toList 0) : x.kind = 1 := by
  have h1 := h.1
  rw [show (bs x.text).data.toList = x.text by unfold bs; simp, hx.1] at h1
  injection h1
theorem kind_row {x : W} (hx : Fit x) (h : rowOf (bs x.text) ≠ []) : x.kind = 1 := kind_wd hx (row_wd h)
theorem kind_key {x : W} {w : ByteArray} {n : Nat} (hx : Fit x) (h : arityN w (bs x.text) = some n) : x.kind = 1 := kind_wd hx (key_wd h)
theorem kindAt_some {ws : List W} {k : Nat} {x : W} (h : ws[k]? = some x) : kindAt ws k = x.kind := by unfold kindAt; rw [h]
theorem kindAt_none {ws : List W} {k : Nat} (h : ws.length ≤ k) : kindAt ws k = 0 := by unfold kindAt; rw [List.getElem?_eq_none h]
theorem posAt_some {sz : Int} {ws : List W} {k : Nat} {x : W} (h : ws[k]? = some x) : posAt sz ws k = x.pos := by unfold posAt; rw [h]
theorem posAt_none {sz : Int} {ws : List W} {k : Nat} (h : ws.length ≤ k) : posAt sz ws k = sz := by unfold posAt; rw [List.getElem?_eq_none h]
theorem kindAt_lt {ws : List W} {k : Nat} (h : kindAt ws k ≠ 0) : k < ws.length := by
  by_cases hk : k < ws.length
  · exact hk
  · exact absurd (kindAt_none (by omega)) h
theorem drop_nil' {ws : List W} {k : Nat} (h : ¬ k < ws.length) : ws.drop k = [] := List.drop_eq_nil_of_le (by omega)
/-- One word: a number or not. -/
theorem nums_round {sz : Int} {n : Nat} {acc : List Int} {ws : List W} {k : Nat} {r : PR (List Int)} (h : numsP sz (n + 1) acc (ws.drop k) = r) : (kindAt ws k = 2 → ∃ x, ws[k]? = some x ∧ numsP sz n (acc ++ [x.num]) (ws.drop (k + 1)) = r) ∧ (¬ kindAt ws k = 2 → r = .bad 4 (posAt sz ws k)) := by
  by_cases hk : k < ws.length
  · have hx := List.getElem?_eq_getElem hk
    obtain ⟨h1, h2⟩ := numsP_step h (by omega) hx
    rw [kindAt_some hx, posAt_some hx]
    exact ⟨fun e => ⟨_, hx, h1 e⟩, h2⟩
  · rw [kindAt_none (by omega), posAt_none (by omega)]
    exact ⟨fun e => absurd e (by decide), fun _ => numsP_none h (by omega) (by omega)⟩
/-- One round of the keys, as the reference asks. -/
theorem keys_round {sz : Int} {x : I} {ws : List W} {k : Nat} {R : PR I} (hf : ∀ (i : Nat) (y : W), ws[i]? = some y → Fit y) (h : keysP sz x (ws.drop k) = R) :
    (kindAt ws k = 3 → ∃ y, ws[k]? = some y ∧ R = .ok x (ws.drop (k + 1))) ∧
    (¬ kindAt ws k = 3 → ¬ kindAt ws k = 1 → R = .bad 4 (posAt sz ws k)) ∧
    (kindAt ws k = 1 → ∃ y, ws[k]? = some y ∧ (arityN x.word (bs y.text) = none → R = .bad 4 (posAt sz ws k)) ∧
      (∀ n, arityN x.word (bs y.text) = some n → (hasKey x.keys (bs y.text) = true → R = .bad 7 (posAt sz ws k)) ∧
        (hasKey x.keys (bs y.text) = false → ∃ nr, numsP sz n [] (ws.drop (k + 1)) = nr ∧ (∀ e p, nr = .bad e p → R = .bad e p) ∧ (∀ vs r, nr = .ok vs r → keysP sz (x.with ⟨bs y.text, vs, y.pos⟩) r = R)))) := by
  by_cases hk : k < ws.length
  · have hx := List.getElem?_eq_getElem hk
    generalize ws[k] = y at hx
    rw [kindAt_some hx, posAt_some hx]
    rw [drop_at hx] at h
    obtain ⟨h3, hb, ho⟩ := keysP_round h
    refine ⟨fun e => ⟨y, hx, h3 e⟩, fun e e1 => ?_, fun e1 => ⟨y, hx, fun ha => ?_, fun n ha => ⟨fun hd => ?_, fun hd => ⟨_, rfl, fun e p hn => ?_, fun vs r hn => ?_⟩⟩⟩⟩
    · refine hb e 4 y.pos ?_
      unfold keyP
      cases ha : arityN x.word (bs y.text) with
      | none => rfl
      | some n => exact absurd (kind_key (hf _ _ hx) ha) e1
    · exact hb (by rw [e1]; decide) 4 y.pos (by unfold keyP; rw [ha])
    · exact hb (by rw [e1]; decide) 7 y.pos (by unfold keyP; rw [ha]; dsimp only; rw [if_pos hd])
    · exact hb (by rw [e1]; decide) e p (by unfold keyP; rw [ha]; dsimp only; rw [if_neg (by rw [hd]; decide), hn])
    · exact ho (by rw [e1]; decide) _ _ (by unfold keyP; rw [ha]; dsimp only; rw [if_neg (by rw [hd]; decide), hn])
  · rw [kindAt_none (by omega), posAt_none (by omega)]
    rw [drop_nil' hk, keysP_nil] at h
    exact ⟨fun e => absurd e (by decide), fun _ _ => h.symm, fun e => absurd e (by decide)⟩
theorem RR.seti {T : TypeId} {w : World} {p g : Nat} {sz : Int} {ws : List W} {k : Nat} (h : RR T w p g sz ws k) (hg : g < p) (k' : Nat) : RR T (w.setCell ⟨p, 1, none⟩ (.int .i64 k')) p g sz ws k' := by
  obtain ⟨⟨b, c, h1, h2⟩, hr, hl⟩ := h
  refine ⟨⟨b, c, ?_, h2⟩, fun i x hx => ?_, fun h0 => by rw [World.size_setCell]; exact hl h0⟩
  · unfold BT at h1 ⊢
    simp [World.setCell, Array.getElem?_modify, h1]
  · obtain ⟨a1, a2, a3, a4⟩ := hr i x hx
    have e : ∀ j, (w.setCell ⟨p, 1, none⟩ (.int .i64 k')).cell? ⟨g, j, none⟩ = w.cell? ⟨g, j, none⟩ := fun j => World.cell?_setCell_other w _ _ _ (by intro e; injection e; omega)
    exact ⟨by rw [e]; exact a1, by rw [e]; exact a2, by rw [e]; exact a3, by rw [e]; exact a4⟩
theorem RR.setn {T : TypeId} {w : World} {p g q o : Nat} {sz : Int} {ws : List W} {k : Nat} (h : RR T w p g sz ws k) (hq : p < q) (hg : g < p) (v : Value) : RR T (w.setCell ⟨q, o, none⟩ v) p g sz ws k := by
  obtain ⟨⟨b, c, h1, h2⟩, hr, hl⟩ := h
  refine ⟨⟨b, c, ?_, h2⟩, fun i x hx => ?_, fun h0 => by rw [World.size_setCell]; exact hl h0⟩
  · unfold BT at h1 ⊢
    rw [Below.heap_setCell _ _ _ _ (by dsimp only; omega)]
    exact h1
  · obtain ⟨a1, a2, a3, a4⟩ := hr i x hx
    have e : ∀ j, (w.setCell ⟨q, o, none⟩ v).cell? ⟨g, j, none⟩ = w.cell? ⟨g, j, none⟩ := fun j => World.cell?_setCell_other w _ _ _ (by intro e; injection e; omega)
    exact ⟨by rw [e]; exact a1, by rw [e]; exact a2, by rw [e]; exact a3, by rw [e]; exact a4⟩
theorem RR.below {T : TypeId} {w w' : World} {p g N : Nat} {sz : Int} {ws : List W} {k : Nat} (h : RR T w p g sz ws k) (hp : p < N) (hg : g < p) (hb : Below N w w') : RR T w' p g sz ws k := by
  obtain ⟨⟨b, c, h1, h2⟩, hr, hl⟩ := h
  refine ⟨⟨b, c, h1.keptN hb hp, h2⟩, fun i x hx => ?_, fun h0 => Nat.lt_of_lt_of_le (hl h0) hb.size⟩
  obtain ⟨a1, a2, a3, a4⟩ := hr i x hx
  have hgN : g < N := Nat.lt_trans hg hp
  exact ⟨by rw [hb.cell (p := ⟨g, _, none⟩) hgN]; exact a1, by rw [hb.cell (p := ⟨g, _, none⟩) hgN]; exact a2, by rw [hb.cell (p := ⟨g, _, none⟩) hgN]; exact a3, by rw [hb.cell (p := ⟨g, _, none⟩) hgN]; exact a4⟩
theorem RR.succ {T : TypeId} {w : World} {p g : Nat} {sz : Int} {ws : List W} {k : Nat} (h : RR T w p g sz ws k) (hg : g < p) : RR T (w.setCell ⟨p, 1, none⟩ (.int .i64 ((k : Int) + 1))) p g sz ws (k + 1) := by
  have := h.seti hg (k + 1)
  rwa [show (((k + 1 : Nat) : Int)) = (k : Int) + 1 by omega] at this
/-- The cells that the reader's next word is read from. -/
theorem RR.cells {T : TypeId} {w : World} {p g : Nat} {sz : Int} {ws : List W} {k : Nat} {y : W} (h : RR T w p g sz ws k) (hy : ws[k]? = some y) :
    ∃ c, p < w.heap.size ∧ g < w.heap.size ∧ ∀ W, Below w.heap.size w W → (W.cell? ⟨p, 0, none⟩ = some (.slice (some ⟨g, 0, none⟩) ws.length c) ∧ W.cell? ⟨p, 1, none⟩ = some (.int .i64 k) ∧ W.cell? ⟨p, 2, none⟩ = some (.int .i64 sz)) ∧ W.cell? ⟨g, k * 4 + 1, none⟩ = some (.string (bs y.text)) ∧ W.cell? ⟨g, k * 4 + 2, none⟩ = some (.int .i64 y.num) := by
  have hk := (List.getElem?_eq_some_iff.1 hy).1
  have hgl := h.lt (by omega)
  obtain ⟨⟨b, c, h1, h2⟩, hr, hl⟩ := h
  obtain rfl := h2 (by omega)
  obtain ⟨a1, a2, a3, a4⟩ := hr k y hy
  refine ⟨c, h1.blk.lt, hgl, fun W hW => ⟨Blk3 (h1.kept hW).blk, ?_, ?_⟩⟩
  · rw [hW.cell (p := ⟨g, _, none⟩) hgl]; exact a2
  · rw [hW.cell (p := ⟨g, _, none⟩) hgl]; exact a3
theorem RR.cellsN {T : TypeId} {w : World} {p g N : Nat} {sz : Int} {ws : List W} {k : Nat} {y : W} (h : RR T w p g sz ws k) (hy : ws[k]? = some y) (hp : p < N) (hg : g < p) :
    ∃ c, ∀ W, Below N w W → (W.cell? ⟨p, 0, none⟩ = some (.slice (some ⟨g, 0, none⟩) ws.length c) ∧ W.cell? ⟨p, 1, none⟩ = some (.int .i64 k) ∧ W.cell? ⟨p, 2, none⟩ = some (.int .i64 sz)) ∧ W.cell? ⟨g, k * 4 + 1, none⟩ = some (.string (bs y.text)) ∧ W.cell? ⟨g, k * 4 + 2, none⟩ = some (.int .i64 y.num) := by
  have hk := (List.getElem?_eq_some_iff.1 hy).1
  obtain ⟨⟨b, c, h1, h2⟩, hr, hl⟩ := h
  obtain rfl := h2 (by omega)
  obtain ⟨a1, a2, a3, a4⟩ := hr k y hy
  refine ⟨c, fun W hW => ⟨Blk3 (h1.keptN hW hp).blk, ?_, ?_⟩⟩
  · rw [hW.cell (p := ⟨g, _, none⟩) (Nat.lt_trans hg hp)]; exact a2
  · rw [hW.cell (p := ⟨g, _, none⟩) (Nat.lt_trans hg hp)]; exact a3
theorem RR.free {T : TypeId} {w : World} {p g : Nat} {sz : Int} {ws : List W} {k : Nat} (h : RR T w p g sz ws k) : ∀ W, Below w.heap.size w W → W.cell? ⟨p, 1, none⟩ = some (.int .i64 k) ∧ W.frozen? ⟨p, 1, none⟩ = false ∧ p < W.heap.size := by
  obtain ⟨⟨b, c, h1, h2⟩, hr, hl⟩ := h
  exact fun W hW => ⟨(Blk3 (h1.kept hW).blk).2.1, (Blk3f (h1.kept hW).blk).2.1, (h1.kept hW).blk.lt⟩
theorem item_first {sz : Int} {ws : List W} {k : Nat} {y : W} {R : PR I} (hf : ∀ (i : Nat) (y : W), ws[i]? = some y → Fit y) (hy : ws[k]? = some y) (h : itemP sz (ws.drop k) = R) :
    (kindAt ws k ≠ 1 → R = .bad 4 (posAt sz ws k)) ∧ (rowOf (bs y.text) = [] → R = .bad 4 (posAt sz ws k)) ∧
    (kindAt ws k = 1 → rowOf (bs y.text) ≠ [] → (bs y.text = bTable → keysP sz ⟨bs y.text, ⟨#[]⟩, [], y.pos⟩ (ws.drop (k + 1)) = R) ∧
      (¬ bs y.text = bTable → (¬ kindAt ws (k + 1) = 1 → R = .bad 4 (posAt sz ws (k + 1))) ∧ (kindAt ws (k + 1) = 1 → ∃ q, ws[k + 1]? = some q ∧ keysP sz ⟨bs y.text, bs q.text, [], y.pos⟩ (ws.drop (k + 2)) = R))) := by
  rw [drop_at hy] at h
  unfold itemP at h
  dsimp only at h
  rw [posAt_some hy, kindAt_some hy]
  have h2 : rowOf (bs y.text) = [] → R = .bad 4 y.pos := fun e => by rw [if_pos e] at h; exact h.symm
  refine ⟨fun e => h2 ?_, h2, fun e1 e2 => ⟨fun e3 => ?_, fun e3 => ?_⟩⟩
  · by_cases hr : rowOf (bs y.text) = []
    · exact hr
    · exact absurd (kind_row (hf _ _ hy) hr) e
  · rw [if_neg e2, if_pos e3] at h; exact h
  · rw [if_neg e2, if_neg e3] at h
    by_cases hk : k + 1 < ws.length
    · have hx := List.getElem?_eq_getElem hk
      generalize ws[k + 1] = q at hx
      rw [kindAt_some hx, posAt_some hx]
      rw [drop_at hx] at h
      dsimp only at h
      exact ⟨fun e => by rw [if_neg e] at h; exact h.symm, fun e => ⟨q, hx, by rw [if_pos e] at h; exact h⟩⟩
    · rw [kindAt_none (by omega), posAt_none (by omega)]
      rw [drop_nil' hk] at h
      exact ⟨fun _ => h.symm, fun e => absurd e (by decide)⟩
/-- Where the reader stands. -/
def rpos (w : World) (p : Nat) : Nat := match w.cell? ⟨p, 1, none⟩ with
  | some (.int _ n) => n.toNat
  | _ => 0
theorem RR.pos {T : TypeId} {w : World} {p g : Nat} {sz : Int} {ws : List W} {k : Nat} (h : RR T w p g sz ws k) : rpos w p = k := by
  unfold rpos
  rw [(h.free _ (Below.refl _ _)).1]
  simp
theorem getV_has (key : ByteArray) : ∀ ks : List K, (getV key ks).isSome = hasKey ks key
  | [] => rfl
  | k :: t => by
    unfold getV hasKey
    rw [List.any_cons]
    by_cases h : k.key = key
    · rw [if_pos h, decide_eq_true h]; rfl
    · rw [if_neg h, decide_eq_false h]
      have := getV_has key t
      unfold hasKey at this
      rw [this, Bool.false_or]
theorem arity_none {w k : ByteArray} (h : arityN w k = none) : arity w k = -1 := by unfold arity; rw [h]; rfl
theorem arity_some {w k : ByteArray} {n : Nat} (h : arityN w k = some n) : arity w k = n := by unfold arity; rw [h]; rfl
def zItem : Array Value := #[.string ⟨#[]⟩, .string ⟨#[]⟩, .slice none 0 0, .int .i64 0]
/-- The head of the loop of statement. -/
def SInv (EV EK T : TypeId) (w : World) (p g : Nat) (sz : Int) (ws : List W) (X : Nat) (R : PR I) (wr : World) : Prop :=
  ∃ (word nm : ByteArray) (ps : Int) (k : Nat) (ks : List K) (v : Value), k ≤ ws.length ∧ ks.length ≤ k ∧ keysP sz ⟨word, nm, ks, ps⟩ (ws.drop k) = R ∧ (∀ q ∈ ks, q.vals.length ≤ 2) ∧ Blk wr w.heap.size zItem ∧ Blk wr X #[.string word, .string nm, v, .int .i64 ps] ∧ OwnKs EV EK (X + 1) wr v ks ∧ RR T wr p g sz ws k ∧ But p w wr
/-- What the reference's statement leaves. -/
def RetI (EV EK T : TypeId) (r : PR I) (w : World) (p g : Nat) (sz : Int) (ws : List W) (e : Ending) (w' : World) : Prop :=
  match r with
  | .bad er q => ∃ (a b : ByteArray) (c : Option Addr) (c1 c2 : Nat) (d : Int) (k' : Nat), e = .returned (.tuple #[.agg #[.string a, .string b, .slice c c1 c2, .int .i64 d], .int .i64 er]) ∧ k' ≤ ws.length ∧ posAt sz ws k' = q ∧ RR T w' p g sz ws k' ∧ But p w w'
  | .ok x rest => ∃ u k', e = .returned (.tuple #[iagg x u, .int .i64 0]) ∧ ws.drop k' = rest ∧ k' ≤ ws.length ∧ OwnKs EV EK w.heap.size w' u x.keys ∧ RR T w' p g sz ws k' ∧ But p w w'
end SS
