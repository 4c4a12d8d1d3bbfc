/-
  The reader of words: key.
-/
import Derived.Deep.RegionHeld3
import Derived.Maps.AppendAt
import Derived.Test.YtdikoeeoglfmaaaGreatDoorM12
import Derived.Test.YtdikoeeoglfmaaaGreatDoorM13
namespace SS
open Go Go.RowKit PB SC
theorem step_append_n {P : Program} {w : World} {ops : Array Oper} {o : Oper} {a : Act} {K : Act → World → Prop} {Q : Exit → Act → World → Prop} {Ep : Prop} (hgd : o.guard = none) (s x : Operand) (t : TypeId)
    (ho : o.op = .call { callee := .builtin .append, args := #[s, x], argTypes := #[t, t] }) (E : TypeId) (i : TypeInfo) (z : Value) (size bytes : Nat) (ht : P.underlying t = some (.slice E)) (hi : P.info? E = some i) (hz : i.zero = some z) (hsize : i.size = size) (hby : i.bytes = bytes) (hzs : z.cells.size = size) (hsz : 0 < size)
    (N : Nat) (v : Value) (n : Nat) (xs : List Value) (hs : a.eval s = v) (hown : w.ownsRow N E size v n xs) (b : Nat) (news : List Value) (hx : a.eval x = .slice (some ⟨b, 0, none⟩) 1 1) (hl : news.length = size) (h1 : ∀ u ∈ news, u.oneCell' = true) (hb : ∀ j u, news[j]? = some u → w.cell? ((⟨b, 0, none⟩ : Addr).add j) = some u) (hn : n ≤ 1000000) (hbytes : (n + 1) * bytes ≤ 140737488355328) (hN : N ≤ w.heap.size)
    (h : ∀ v' w', w'.ownsRow N E size v' (n + 1) (xs ++ news) → Below N w w' → w.grownBy w' v.ownBlock → K (a.put o.dst v') w') : if Region.wanted o (yielded ops a.tmps) = true then Oper.wp P o a w K Q else Ep := by
  have hw : Region.wanted o (yielded ops a.tmps) = true := by simp [Region.wanted, hgd]
  rw [if_pos hw]
  refine wp_append_own w s x t ho N E i z size bytes ht hi hz hsize hby hzs hsz v n xs hs hown ⟨b, 0, none⟩ 1 1 news hx (by rw [hl, Nat.one_mul]) hb h1 (by unfold maxLen; omega) hbytes hN ?_
  intro v' w' k1 k2 _
  exact h v' w' k1 ((Below.refl _ _).grown k2 hN (fun q hq => (World.ownsRow.lt hown q hq).1)) k2
theorem vcs_snoc (l : List Int) (x : Int) : vcs (l ++ [x]) = vcs l ++ [.int .i64 x] := by unfold vcs; rw [List.map_append]; rfl
theorem numsP_end {sz : Int} {n : Nat} {acc : List Int} {l : List W} {r : PR (List Int)} (h : numsP sz n acc l = r) (hn : n = 0) : r = .ok acc l := by subst hn; exact h.symm
theorem numsP_none {sz : Int} {n : Nat} {acc : List Int} {ws : List W} {k : Nat} {r : PR (List Int)} (h : numsP sz n acc (ws.drop k) = r) (hn : n ≠ 0) (hk : ws.length ≤ k) : r = .bad 4 sz := by
  rw [List.drop_eq_nil_of_le hk] at h
  cases n with
  | zero => exact absurd rfl hn
  | succ n => exact h.symm
theorem numsP_step {sz : Int} {n : Nat} {acc : List Int} {ws : List W} {k : Nat} {x : W} {r : PR (List Int)} (h : numsP sz n acc (ws.drop k) = r) (hn : n ≠ 0) (hx : ws[k]? = some x) : (x.kind = 2 → numsP sz (n - 1) (acc ++ [x.num]) (ws.drop (k + 1)) = r) ∧ (¬ x.kind = 2 → r = .bad 4 x.pos) := by
  obtain ⟨hi, e⟩ := List.getElem?_eq_some_iff.1 hx
  rw [List.drop_eq_getElem_cons hi, e] at h
  cases n with
  | zero => exact absurd rfl hn
  | succ n =>
    unfold numsP at h
    exact ⟨fun hh => by rw [if_pos hh] at h; exact h, fun hh => by rw [if_neg hh] at h; exact h.symm⟩
theorem arityN_le {w k : ByteArray} {n : Nat} (h : arityN w k = some n) : n ≤ 2 := by
  rw [arityN_eq] at h
  split at h
  · injection h with h
    subst h
    unfold numsOf
    split
    · omega
    · split <;> omega
  · cases h
theorem RS.below {w w' : World} {p g N : Nat} {sz : Int} {ws : List W} {k : Nat} (h : RS w p g sz ws k) (hp : p < N) (hb : Below N w w') : RS w' p g sz ws k := by
  obtain ⟨⟨b, c, h1, h2, h3⟩, hr, hl⟩ := h
  refine ⟨⟨b, c, h1.below hb hp, h2, h3⟩, fun i x hx => ?_, hl⟩
  obtain ⟨a1, a2, a3, a4⟩ := hr i x hx
  have hg : g < N := Nat.lt_trans hl hp
  exact ⟨by rw [hb.cell (p := ⟨g, _, none⟩) hg]; exact a1, by rw [hb.cell (p := ⟨g, _, none⟩) hg]; exact a2, by rw [hb.cell (p := ⟨g, _, none⟩) hg]; exact a3, by rw [hb.cell (p := ⟨g, _, none⟩) hg]; exact a4⟩
theorem But.thenB {p N : Nat} {a b c : World} (h : But p a b) (k : Below N b c) (hN : a.heap.size ≤ N) : But p a c :=
  ⟨k.os.trans h.os, k.tape.trans h.tape, k.output.trans h.output, Nat.le_trans h.size k.size, fun i hi hp => (k.block i (by omega)).trans (h.block i hi hp)⟩
theorem blk_set3 {w : World} {g : Nat} {x y z a b c : Value} (h : Blk w g #[x, y, z]) : Blk (((w.setCell ⟨g, 0, none⟩ a).setCell ⟨g, 1, none⟩ b).setCell ⟨g, 2, none⟩ c) g #[a, b, c] := ((h.set 0 a).set 1 b).set 2 c
theorem OwnVs.setb {E : TypeId} {N q : Nat} {w : World} {v : Value} {vals : List Int} (h : OwnVs E N w v vals) (hq : q < N) (o : Nat) (u : Value) : OwnVs E N (w.setCell ⟨q, o, none⟩ u) v vals := ownsRow_setCell_below h hq u
/-- What a part of the reader leaves: it gave up, or it has read up to word k'. -/
def RetP {α : Type} (F : TypeId) (r : PR α) (w : World) (p g : Nat) (sz : Int) (ws : List W) (ok : α → Value → World → Prop) (e : Ending) (w' : World) : Prop :=
  match r with
  | .bad er q => e = Gave F er q ∧ But p w w'
  | .ok a rest => ∃ v k', e = .returned v ∧ ws.drop k' = rest ∧ k' ≤ ws.length ∧ ok a v w' ∧ RS w' p g sz ws k' ∧ But p w w'
theorem Blk3 {w : World} {g : Nat} {v0 v1 v2 : Value} (h : Blk w g #[v0, v1, v2]) : w.cell? ⟨g, 0, none⟩ = some v0 ∧ w.cell? ⟨g, 1, none⟩ = some v1 ∧ w.cell? ⟨g, 2, none⟩ = some v2 := ⟨h.cell 0 _ rfl, h.cell 1 _ rfl, h.cell 2 _ rfl⟩
theorem Blk3f {w : World} {g : Nat} {v0 v1 v2 : Value} (h : Blk w g #[v0, v1, v2]) : w.frozen? ⟨g, 0, none⟩ = false ∧ w.frozen? ⟨g, 1, none⟩ = false ∧ w.frozen? ⟨g, 2, none⟩ = false := ⟨h.free 0, h.free 1, h.free 2⟩
end SS
namespace Go.Proofs.YtdikoeeoglfmaaaGreatDoor
open Go.RowKit SC PB SS
set_option maxRecDepth 100000 in
theorem info_vint : (Tryz.prog.info? 3).map (fun i => (i.zero, i.size, i.bytes)) = some (some (.int .i64 0), 1, 8) := by kernel_rfl
set_option maxRecDepth 100000 in
theorem field_num (k s n a : Value) (w : World) : (Instr.field 64 (.agg #[k, s, n, a]) 2).run Tryz.prog w = .ok n w := by kernel_rfl
set_option maxRecDepth 100000 in
theorem field_text (k s n a : Value) (w : World) : (Instr.field 64 (.agg #[k, s, n, a]) 1).run Tryz.prog w = .ok s w := by kernel_rfl
set_option maxHeartbeats 8000000 in
set_option maxRecDepth 100000 in
/-- The numbers of a key: from region 5 on. -/
theorem key_any (x : I) (z : Value) (p g k : Nat) (sz : Int) (ws : List W) (y : W) (hn : ws.length ≤ 1000000) (hk : k ≤ ws.length) (hks : x.keys.length ≤ 1000000) (w : World) (h : RS w p g sz ws k) (hr : RdK w z x.keys) :
    Calls Tryz.prog 40 #[.pointer (some ⟨p, 0, none⟩), iagg x z, wordW y] w
      (RetP 55 (keyP sz x.word x.keys y (ws.drop k)) w p g sz ws fun kk v w' => ∃ u, v = kagg kk u ∧ OwnVs 3 w.heap.size w' u kk.vals) := by
  have H := Lib.hid h
  have HA := Lib.hid (fun w => arity_any x.word ⟨y.text.toArray⟩ w)
  have HF := Lib.hid (fun W (h : Below w.heap.size w W) => find_any x z ⟨y.text.toArray⟩ W (hr.kept h) hks)
  have HDy := Lib.hid (fun er w => demand_yes y er w)
  have HDn := Lib.hid (fun er w => demand_no y er w)
  clear h hr
  cases ha : arityN x.word (bs y.text) with
  | none =>
    have HK := Lib.hid (show keyP sz x.word x.keys y (ws.drop k) = .bad 4 y.pos by unfold keyP; rw [ha])
    have HAr := Lib.hid (show arity x.word ⟨y.text.toArray⟩ = -1 by unfold arity; show arI (arityN x.word (bs y.text)) = -1; rw [ha]; rfl)
    rw [HAr.out] at HA
    rw [HK.out]
    clear HK HAr ha
    unfold iagg wordW at *
    go_enter Tryz.func40, Tryz.ntmps40
    go_wp2_with fail
    refine (HA.out _).mono ?_
    rintro e w1 ⟨rfl, q1⟩
    have q0 : Below w.heap.size w w1 := next (sb_alloc (sb_alloc (sb_alloc (Below.refl _ _) _) _) _) q1
    have Y := ((show Blk _ (w.heap.size + 1) _ from blk_new (by simp)).alloc _).kept q1
    obtain ⟨y0, y1, y2, y3⟩ := Blk4 Y
    clear Y q1
    go_wp2_with fail
    refine (HDn.out _ _).mono ?_
    rintro e w2 ⟨rfl, q2⟩
    exact ⟨rfl, rfl, (But.of (next q0 q2))⟩
  | some n =>
    have hn2 : n ≤ 2 := arityN_le ha
    have HAr := Lib.hid (show arity x.word ⟨y.text.toArray⟩ = (n : Nat) by unfold arity; show arI (arityN x.word (bs y.text)) = (n : Nat); rw [ha]; rfl)
    rw [HAr.out] at HA
    have hfx := fidx_spec ⟨y.text.toArray⟩ x.keys 0
    cases hd : hasKey x.keys (bs y.text) with
    | true =>
      have HK := Lib.hid (show keyP sz x.word x.keys y (ws.drop k) = .bad 7 y.pos by unfold keyP; rw [ha]; dsimp only; rw [if_pos hd])
      rw [HK.out]
      obtain ⟨j, h1⟩ : ∃ j : Nat, fidx ⟨y.text.toArray⟩ x.keys 0 = j := by
        rcases hfx with ⟨j, _, h1, _⟩ | ⟨_, _, h3⟩
        · exact ⟨_, h1⟩
        · rw [show hasKey x.keys ⟨y.text.toArray⟩ = true from hd] at h3; cases h3
      rw [h1] at HF
      have HDj := Lib.hid (show ∀ W, Calls Tryz.prog 20 #[.bool (decide ((j : Int) < 0)), .int .i64 7, wordW y] W fun e w' => e = Gave 55 7 y.pos ∧ Below W.heap.size W w' from fun W => by rw [decide_eq_false (by omega)]; exact demand_no y 7 W)
      clear HK HAr ha hd h1 hfx
      unfold iagg wordW at *
      go_enter Tryz.func40, Tryz.ntmps40
      go_wp2_with fail
      refine (HA.out _).mono ?_
      rintro e w1 ⟨rfl, q1⟩
      have q0 : Below w.heap.size w w1 := next (sb_alloc (sb_alloc (sb_alloc (Below.refl _ _) _) _) _) q1
      have Y := ((show Blk _ (w.heap.size + 1) _ from blk_new (by simp)).alloc _).kept q1
      have X := (((show Blk _ w.heap.size _ from blk_new rfl).alloc _).alloc _).kept q1
      obtain ⟨y0, y1, y2, y3⟩ := Blk4 Y
      obtain ⟨x0, x1, x2, x3⟩ := Blk4 X
      have HXY := Lib.hid (fun W (h : Below w1.heap.size w1 W) => (⟨Blk4 (X.kept h), Blk4 (Y.kept h)⟩ : (_ ∧ _ ∧ _ ∧ _) ∧ _ ∧ _ ∧ _ ∧ _))
      clear X Y q1
      go_wp2_with fail
      refine (HDy.out _ _).mono ?_
      rintro e w2 ⟨rfl, q2⟩
      obtain ⟨⟨x0, x1, x2, x3⟩, y0, y1, y2, y3⟩ := HXY.out _ q2
      have qq := next q0 q2
      have hb2 : Below w1.heap.size w1 w2.drew := sb_drew q2
      have hqd : Below w.heap.size w w2.drew := sb_drew qq
      go_wp2_with fail
      refine wp_region_held_drew (S := fun w' => ((w'.cell? ⟨w.heap.size, 0, none⟩ = some (.string x.word) ∧ w'.cell? ⟨w.heap.size, 1, none⟩ = some (.string x.name) ∧ w'.cell? ⟨w.heap.size, 2, none⟩ = some z ∧ w'.cell? ⟨w.heap.size, 3, none⟩ = some (.int .i64 x.pos)) ∧ (w'.cell? ⟨w.heap.size + 1, 0, none⟩ = some (.int .i64 y.kind) ∧ w'.cell? ⟨w.heap.size + 1, 1, none⟩ = some (.string ⟨y.text.toArray⟩) ∧ w'.cell? ⟨w.heap.size + 1, 2, none⟩ = some (.int .i64 y.num) ∧ w'.cell? ⟨w.heap.size + 1, 3, none⟩ = some (.int .i64 y.pos)))) (by kernel_rfl) (⟨⟨x0, x1, x2, x3⟩, y0, y1, y2, y3⟩) (fun hHeld => ?_)
      try simp only [Act.put, List.setIfInBounds_toArray, List.set_cons_zero, List.set_cons_succ]
      refine wpAnyH_take (i := 0) (oi := { dst := some 18, op := Go.Op.load 38 (Go.Operand.tmp 4), type := 38, pos := "reader.go:84", after := #[], guard := none }) (v := ?v1_0) rfl (by kernel_rfl) (by kernel_rfl) (by kernel_rfl) (fun _ _ _ h => h) (Or.inl ⟨by rfl, ?hy1_0⟩) (by assumption) ?rest1_0
      case hy1_0 => ((intro w hSw; (try dsimp only at hSw); go_simp); (try (with_reducible rfl)))
      try simp only [Act.put, List.setIfInBounds_toArray, List.set_cons_zero, List.set_cons_succ]
      refine wpAnyH_take (i := 1) (oi := { dst := some 19, op := Go.Op.fieldAddr 64 (Go.Operand.tmp 5) 1, type := 0, pos := "reader.go:84", after := #[], guard := none }) (v := ?v1_1) rfl (by kernel_rfl) (by kernel_rfl) (by kernel_rfl) (fun _ _ _ h => h) (Or.inl ⟨by rfl, ?hy1_1⟩) (by assumption) ?rest1_1
      case hy1_1 => ((intro w hSw; (try dsimp only at hSw); go_simp); (try (with_reducible rfl)))
      try simp only [Act.put, List.setIfInBounds_toArray, List.set_cons_zero, List.set_cons_succ]
      refine wpAnyH_take (i := 2) (oi := { dst := some 20, op := Go.Op.load 9 (Go.Operand.tmp 19), type := 9, pos := "reader.go:84", after := #[{ on := 1, ground := Go.Ground.data }], guard := none }) (v := ?v1_2) rfl (by kernel_rfl) (by kernel_rfl) (by kernel_rfl) (fun _ _ _ h => h) (Or.inl ⟨by rfl, ?hy1_2⟩) (by assumption) ?rest1_2
      case hy1_2 => ((intro w hSw; (try dsimp only at hSw); go_simp); (try (with_reducible rfl)))
      try simp only [Act.put, List.setIfInBounds_toArray, List.set_cons_zero, List.set_cons_succ]
      refine wpAnyH_take (i := 5) (oi := { dst := some 23, op := Go.Op.load 64 (Go.Operand.tmp 5), type := 64, pos := "reader.go:84", after := #[], guard := none }) (v := ?v1_5) rfl (by kernel_rfl) (by kernel_rfl) (by kernel_rfl) (fun _ _ _ h => h) (Or.inl ⟨by rfl, ?hy1_5⟩) (by assumption) ?rest1_5
      case hy1_5 => ((intro w hSw; (try dsimp only at hSw); go_simp); (try (with_reducible rfl)))
      try simp only [Act.put, List.setIfInBounds_toArray, List.set_cons_zero, List.set_cons_succ]
      refine wpAnyH_ready (rs := [3]) (by kernel_rfl) (by simp) ?_
      refine AllReadyH.cons (o := { dst := some 21, op := Go.Op.call { callee := Go.Callee.value (Go.Operand.func 22), args := #[Go.Operand.tmp 18, Go.Operand.tmp 20], argTypes := #[38, 9] }, type := 3, pos := "reader.go:84", after := #[{ on := 0, ground := Go.Ground.data }, { on := 2, ground := Go.Ground.data }], guard := none }) rfl (fun K hK => ?_) AllReadyH.nil
      go_simp
      refine (HF.out _ hqd).mono ?_
      rintro e w3 ⟨rfl, q3⟩
      have hb3 : Below w1.heap.size w1 w3 := next hb2 q3
      have hq3 := next hqd q3
      go_simp
      refine hK.out _ _ (HXY.out _ hb3) (fun hHeld => ?_)
      clear hK K
      try simp only [Act.put, List.setIfInBounds_toArray, List.set_cons_zero, List.set_cons_succ]
      refine wpAnyH_take (i := 4) (oi := { dst := some 22, op := Go.Op.binOp Go.BinOp.lss 3 (Go.Operand.tmp 21) (Go.Operand.const (Go.Value.int Go.IntKind.i64 0)) 3, type := 4, pos := "reader.go:84", after := #[{ on := 3, ground := Go.Ground.data }], guard := none }) (v := ?v1_4) rfl (by kernel_rfl) (by kernel_rfl) (by kernel_rfl) (fun _ _ _ h => h) (Or.inl ⟨by rfl, ?hy1_4⟩) (by assumption) ?rest1_4
      case hy1_4 => ((intro w hSw; (try dsimp only at hSw); go_simp); (try (with_reducible rfl)))
      try simp only [Act.put, List.setIfInBounds_toArray, List.set_cons_zero, List.set_cons_succ]
      refine wpAnyH_ready (rs := [6]) (by kernel_rfl) (by simp) ?_
      refine AllReadyH.cons (o := { dst := some 24, op := Go.Op.call { callee := Go.Callee.value (Go.Operand.func 20), args := #[Go.Operand.tmp 22, Go.Operand.const (Go.Value.int Go.IntKind.i64 7), Go.Operand.tmp 23], argTypes := #[4, 30, 64] }, type := 0, pos := "reader.go:84", after := #[{ on := 4, ground := Go.Ground.data }, { on := 5, ground := Go.Ground.data }, { on := 3, ground := Go.Ground.chain }], guard := none }) rfl (fun K hK => ?_) AllReadyH.nil
      go_simp
      refine (HDj.out _).mono ?_
      rintro e w4 ⟨rfl, q4⟩
      exact ⟨rfl, rfl, But.of (next hq3 q4)⟩
    | false =>
      have HK := Lib.hid (show keyP sz x.word x.keys y (ws.drop k) = match numsP sz n [] (ws.drop k) with | .bad e p => .bad e p | .ok vs r => .ok ⟨bs y.text, vs, y.pos⟩ r by unfold keyP; rw [ha]; dsimp only; rw [hd]; rfl)
      rw [HK.out]
      have h1 : fidx ⟨y.text.toArray⟩ x.keys 0 = -1 := by
        rcases hfx with ⟨j, _, _, _, _, h4⟩ | ⟨h3, _⟩
        · rw [show hasKey x.keys ⟨y.text.toArray⟩ = false from hd] at h4; cases h4
        · exact h3
      rw [h1] at HF
      generalize hnr : numsP sz n [] (ws.drop k) = nr
      have HR0 := Lib.hid hnr
      have HX := Lib.hid (fun (k : Nat) (hk : k < ws.length) => (⟨ws[k], List.getElem?_eq_getElem hk⟩ : ∃ x, ws[k]? = some x))
      have HNE := Lib.hid (fun W (h : RS W p g sz ws ws.length) => nextOf_end 2 p g sz ws W h)
      have HNB := Lib.hid (fun k y (hy : ws[k]? = some y) (hy2 : ¬ y.kind = 2) W (h : RS W p g sz ws k) => nextOf_bad 2 p g k sz ws y hy hn hy2 W h)
      have HNO := Lib.hid (fun k y (hy : ws[k]? = some y) (hy2 : y.kind = 2) W (h : RS W p g sz ws k) => nextOf_ok 2 p g k sz ws y hy hn hy2 W h)
      have HWS := Lib.hid hn
      clear HK HAr ha hd h1 hfx hnr hn
      obtain ⟨i0, hi, hz0, hz1, hz2⟩ := info_parts info_vint
      unfold iagg wordW at *
      go_enter Tryz.func40, Tryz.ntmps40
      go_wp2_with fail
      refine (HA.out _).mono ?_
      rintro e w1 ⟨rfl, q1⟩
      have q0 : Below w.heap.size w w1 := next (sb_alloc (sb_alloc (sb_alloc (Below.refl _ _) _) _) _) q1
      have Y := ((show Blk _ (w.heap.size + 1) _ from blk_new (by simp)).alloc _).kept q1
      have X := (((show Blk _ w.heap.size _ from blk_new rfl).alloc _).alloc _).kept q1
      have Z := (show Blk _ (w.heap.size + 2) _ from blk_new (by simp)).kept q1
      obtain ⟨y0, y1, y2, y3⟩ := Blk4 Y
      obtain ⟨x0, x1, x2, x3⟩ := Blk4 X
      have HXY := Lib.hid (fun W (h : Below w1.heap.size w1 W) => (⟨Blk4 (X.kept h), Blk4 (Y.kept h)⟩ : (_ ∧ _ ∧ _ ∧ _) ∧ _ ∧ _ ∧ _ ∧ _))
      have HZR := Lib.hid (fun W (h : Below w1.heap.size w1 W) => Z.kept h)
      have hge : w.heap.size + 3 ≤ w1.heap.size := by have := q1.size; simp at this; omega
      have HGE := Lib.hid hge
      clear X Y Z q1 hge
      go_wp2_with fail
      refine (HDy.out _ _).mono ?_
      rintro e w2 ⟨rfl, q2⟩
      obtain ⟨⟨x0, x1, x2, x3⟩, y0, y1, y2, y3⟩ := HXY.out _ q2
      have qq := next q0 q2
      have hb2 : Below w1.heap.size w1 w2.drew := sb_drew q2
      have hqd : Below w.heap.size w w2.drew := sb_drew qq
      go_wp2_with fail
      go_region_held3 (fun w' => ((w'.cell? ⟨w.heap.size, 0, none⟩ = some (.string x.word) ∧ w'.cell? ⟨w.heap.size, 1, none⟩ = some (.string x.name) ∧ w'.cell? ⟨w.heap.size, 2, none⟩ = some z ∧ w'.cell? ⟨w.heap.size, 3, none⟩ = some (.int .i64 x.pos)) ∧ (w'.cell? ⟨w.heap.size + 1, 0, none⟩ = some (.int .i64 y.kind) ∧ w'.cell? ⟨w.heap.size + 1, 1, none⟩ = some (.string ⟨y.text.toArray⟩) ∧ w'.cell? ⟨w.heap.size + 1, 2, none⟩ = some (.int .i64 y.num) ∧ w'.cell? ⟨w.heap.size + 1, 3, none⟩ = some (.int .i64 y.pos))))
        (first | exact ⟨⟨x0, x1, x2, x3⟩, y0, y1, y2, y3⟩ | exact HXY.out _ hb3)
        (first
          | (go_at_call 20; (with_reducible refine (HDy.out _ _).mono ?_); rintro e w4 ⟨rfl, q4⟩; have hb3 : Below w1.heap.size w1 w4 := next hb3 q4; have hq4 := next hq3 q4)
          | (go_at_call 22; (with_reducible refine (HF.out _ hqd).mono ?_); rintro e w3 ⟨rfl, q3⟩; have hb3 : Below w1.heap.size w1 w3 := next hb2 q3; have hq3 := next hqd q3)
          | fail "no arm")
      obtain ⟨-, y0, y1, y2, y3⟩ := HXY.out _ hb3
      go_wp2_with fail
      have hp := H.out.ltp
      have HRS4 := Lib.hid ((H.out.kept hq4).kept (sb_alloc (Below.refl _ _) (.cells #[.string ⟨y.text.toArray⟩, .slice none 0 0, .int .i64 y.pos] 41)))
      have HBUT := Lib.hid (But.of (p := p) (sb_alloc hq4 (.cells #[.string ⟨y.text.toArray⟩, .slice none 0 0, .int .i64 y.pos] 41)))
      have HZ4 := Lib.hid ((HZR.out _ hb3).alloc (.cells #[.string ⟨y.text.toArray⟩, .slice none 0 0, .int .i64 y.pos] 41))
      have hsz : w.heap.size + 3 ≤ w4.heap.size := by have := HGE.out; have := hb3.size; omega
      clear HXY HZR HGE hb3 hq4 qq hb2 hqd q0 q2 q3 q4 hq3 HA HF HDy HDn
      clear hks
      generalize hB : w4.heap.size = B at *
      have HBw := Lib.hid hB
      clear hB
      go_loopw [31] (fun i wr => ∃ (j k1 : Nat) (u : Value) (acc : List Int), j ≤ n ∧ i = .int .i64 j ∧ Hid (numsP sz (n - j) acc (ws.drop k1) = nr) ∧ Hid (k1 ≤ ws.length) ∧ Hid (acc.length = j) ∧ Hid (Blk wr B #[.string ⟨y.text.toArray⟩, u, .int .i64 y.pos]) ∧ Hid (OwnVs 3 (B + 1) wr u acc) ∧ Hid (RS wr p g sz ws k1) ∧ Hid (But p w wr) ∧ Hid (Blk wr (w.heap.size + 2) #[.string ⟨#[]⟩, .slice none 0 0, .int .i64 0])) (fun i _ => n - (intOf i).toNat)
      case atStart =>
        exact ⟨0, k, .slice none 0 0, [], Nat.zero_le _, rfl, HR0, Lib.hid hk, Lib.hid rfl, Lib.hid (blk_new HBw.out.symm), Lib.hid (OwnVs.nil _ _ _), HRS4, HBUT, HZ4⟩
      case round =>
        clear HR0 HRS4 HBUT HZ4
        obtain ⟨j, k1, u, acc, hj, rfl, hA, hk1, hal, hbb, hown, hrs, hbut, hzr⟩ := hrel
        obtain ⟨b0, b1, b2⟩ := Blk3 hbb.out
        obtain ⟨f0, f1, f2⟩ := Blk3f hbb.out
        by_cases hjn : j < n
        · by_cases hkn : k1 < ws.length
          · obtain ⟨y1, hy1⟩ := HX.out k1 hkn
            have hs := numsP_step hA.out (by omega) hy1
            by_cases hk2 : y1.kind = 2
            · have HN := Lib.hid (hs.1 hk2)
              have HNO1 := Lib.hid (fun W h => HNO.out k1 y1 hy1 hk2 W h)
              unfold wordW wordV at HNO1
              have hfd := field_num
              have hrsd := hrs.out.kept (sb_drew (Below.refl _ _))
              have hlt := hbb.out.lt
              have HWl := Lib.hid (show k1 + 1 ≤ ws.length by omega)
              clear hs hk2 hkn hy1
              go_wp2_with fail
              refine wp_region_last (L := 8) (n := 8) (S := fun w' => w'.cell? ⟨B, 1, none⟩ = some u) (by kernel_rfl) (by kernel_rfl) rfl (b1) (fun hHeld => ?_)
              try simp only [Act.put, List.setIfInBounds_toArray, List.set_cons_zero, List.set_cons_succ]
              refine wpAnyH_take (i := 0) (oi := { dst := some 33, op := Go.Op.fieldAddr 41 (Go.Operand.tmp 8) 1, type := 0, pos := "reader.go:87", after := #[], guard := none }) (v := ?v2_0) rfl (by kernel_rfl) (by kernel_rfl) (by kernel_rfl) (fun _ _ _ h => h) (Or.inl ⟨by rfl, ?hy2_0⟩) (by assumption) ?rest2_0
              case hy2_0 => ((intro w hSw; (try dsimp only at hSw); go_simp); (try (with_reducible rfl)))
              try simp only [Act.put, List.setIfInBounds_toArray, List.set_cons_zero, List.set_cons_succ]
              refine wpAnyH_take (i := 1) (oi := { dst := some 34, op := Go.Op.load 33 (Go.Operand.tmp 33), type := 33, pos := "reader.go:87", after := #[{ on := 0, ground := Go.Ground.data }], guard := none }) (v := ?v2_1) rfl (by kernel_rfl) (by kernel_rfl) (by kernel_rfl) (fun _ _ _ h => h) (Or.inl ⟨by rfl, ?hy2_1⟩) (by assumption) ?rest2_1
              case hy2_1 => ((intro w hSw; (try dsimp only at hSw); go_simp); (try (with_reducible rfl)))
              try simp only [Act.put, List.setIfInBounds_toArray, List.set_cons_zero, List.set_cons_succ]
              refine wpAnyH_take (i := 2) (oi := { dst := some 35, op := Go.Op.move (Go.Operand.tmp 0), type := 88, pos := "reader.go:87", after := #[], guard := none }) (v := ?v2_2) rfl (by kernel_rfl) (by kernel_rfl) (by kernel_rfl) (fun _ _ _ h => h) (Or.inl ⟨by rfl, ?hy2_2⟩) (by assumption) ?rest2_2
              case hy2_2 => ((intro w hSw; (try dsimp only at hSw); go_simp); (try (with_reducible rfl)))
              try simp only [Act.put, List.setIfInBounds_toArray, List.set_cons_zero, List.set_cons_succ]
              refine wpAnyH_ready (rs := [3]) (by kernel_rfl) (by simp) ?_
              refine AllReadyH.cons (o := { dst := some 36, op := Go.Op.call { callee := Go.Callee.value (Go.Operand.func 39), args := #[Go.Operand.tmp 35, Go.Operand.const (Go.Value.int Go.IntKind.i64 2)], argTypes := #[88, 3] }, type := 64, pos := "reader.go:87", after := #[{ on := 2, ground := Go.Ground.data }], guard := none }) rfl (fun K hK => ?_) AllReadyH.nil
              go_simp
              refine (HNO1.out _ hrsd).mono ?_
              rintro e w5 ⟨rfl, hrs5, hbut5⟩
              have hlt5 := hbut5.size
              have hown5 := (hown.out.kept (sb_drew (Below.refl _ _))).but (p := p) (by omega) hbut5
              have HBB5 := Lib.hid (hbut5.blk (hbb.out.kept (sb_drew (Below.refl _ _))) (by omega))
              obtain ⟨b0, b1, b2⟩ := Blk3 HBB5.out
              have HRS5 := Lib.hid hrs5
              have HBUT5 := Lib.hid hbut5
              have hBlt := HBB5.out.lt
              clear hrs5 hbut5
              go_simp
              refine hK.out _ _ (b1) (fun hHeld => ?_)
              clear hK K
              try simp only [Act.put, List.setIfInBounds_toArray, List.set_cons_zero, List.set_cons_succ]
              refine wpAnyH_take (i := 4) (oi := { dst := some 37, op := Go.Op.field 64 (Go.Operand.tmp 36) 2, type := 3, pos := "reader.go:87", after := #[{ on := 3, ground := Go.Ground.data }], guard := none }) (v := ?v2_4) rfl (by kernel_rfl) (by kernel_rfl) (by kernel_rfl) (fun _ _ _ h => h) (Or.inl ⟨by rfl, ?hy2_4⟩) (by assumption) ?rest2_4
              case hy2_4 => ((intro w hSw; (try dsimp only at hSw); go_simp); (try (with_reducible rfl)))
              try simp only [Act.put, List.setIfInBounds_toArray, List.set_cons_zero, List.set_cons_succ]
              refine wpAnyH_ready (rs := [5]) (by kernel_rfl) (by simp) ?_
              refine AllReadyH.cons (o := { dst := some 38, op := Go.Op.buildSlice 33 1 #[(0, Go.Operand.tmp 37)], type := 33, pos := "reader.go:87", after := #[{ on := 4, ground := Go.Ground.data }], guard := none }) rfl (fun K hK => ?_) AllReadyH.nil
              go_simp
              refine hK.out _ _ ((Blk3 (HBB5.out.alloc _)).2.1) (fun hHeld => ?_)
              clear hK K
              try simp only [Act.put, List.setIfInBounds_toArray, List.set_cons_zero, List.set_cons_succ]
              refine wpAnyH_ready (rs := [6]) (by kernel_rfl) (by simp) ?_
              refine AllReadyH.cons (o := { dst := some 39, op := Go.Op.call { callee := Go.Callee.builtin Go.Builtin.append, args := #[Go.Operand.tmp 34, Go.Operand.tmp 38], argTypes := #[33, 33] }, type := 33, pos := "reader.go:87", after := #[{ on := 1, ground := Go.Ground.data }, { on := 5, ground := Go.Ground.data }, { on := 3, ground := Go.Ground.chain }], guard := none }) rfl (fun K hK => ?_) AllReadyH.nil
              refine step_append_n (by rfl) _ _ 33 (by rfl) 3 i0 (.int .i64 0) 1 8 Tryz.underlying33 hi hz0 hz1 hz2 rfl (by decide) (B + 1) _ acc.length (vcs acc) (by rfl) (by exact World.ownsRow.alloc hown5 _) _ [.int .i64 y1.num] (by rfl) rfl (fun u hu => by simp at hu; subst hu; rfl) (by exact cell_one_new _ _ _) (by have := hal.out; omega) (by have := hal.out; omega) (by simp; omega) ?_
              intro v6 w6 hown6 hbl6 hg6
              obtain ⟨vb6, vc6, rfl⟩ := row_form hown6
              have hbb6 := ((HBB5.out.alloc _).below hbl6 (Nat.lt_succ_self _))
              obtain ⟨b0, b1, b2⟩ := Blk3 hbb6
              obtain ⟨f0, f1, f2⟩ := Blk3f hbb6
              have HBB6 := Lib.hid hbb6
              clear hbb6
              refine hK.out _ _ (b1) (fun hHeld => ?_)
              clear hK K
              try simp only [Act.put, List.setIfInBounds_toArray, List.set_cons_zero, List.set_cons_succ]
              refine wpAnyH_take (i := 7) (oi := { dst := some 40, op := Go.Op.fieldAddr 41 (Go.Operand.tmp 8) 1, type := 0, pos := "reader.go:87", after := #[{ on := 0, ground := Go.Ground.phase }, { on := 1, ground := Go.Ground.phase }, { on := 2, ground := Go.Ground.phase }, { on := 3, ground := Go.Ground.phase }, { on := 4, ground := Go.Ground.phase }, { on := 5, ground := Go.Ground.phase }, { on := 6, ground := Go.Ground.phase }], guard := none }) (v := ?v2_7) rfl (by kernel_rfl) (by kernel_rfl) (by kernel_rfl) (fun _ _ _ h => h) (Or.inl ⟨by rfl, ?hy2_7⟩) (by assumption) ?rest2_7
              case hy2_7 => ((intro w hSw; (try dsimp only at hSw); go_simp); (try (with_reducible rfl)))
              try simp only [Act.put, List.setIfInBounds_toArray, List.set_cons_zero, List.set_cons_succ]
              refine wpAnyH_done (by kernel_rfl) ?_ _
              refine QLast.normal ?_
              refine wpOp_step (o := { dst := none, op := Go.Op.store 33 (Go.Operand.tmp 40) (Go.Operand.tmp 39), type := 0, pos := "reader.go:87", after := #[{ on := 7, ground := Go.Ground.data }, { on := 6, ground := Go.Ground.data }, { on := 6, ground := Go.Ground.chain }, { on := 0, ground := Go.Ground.phase }, { on := 1, ground := Go.Ground.phase }, { on := 2, ground := Go.Ground.phase }, { on := 3, ground := Go.Ground.phase }, { on := 4, ground := Go.Ground.phase }, { on := 5, ground := Go.Ground.phase }, { on := 6, ground := Go.Ground.phase }], guard := none }) rfl (fun K hK => ?_)
              go_simp
              refine hK _ _ ?_
              clear hK K
              have HBB7 := Lib.hid (HBB6.out.set 1 (.slice vb6 (acc.length + 1) vc6))
              have hb7 : Below (B + 1) w5 w6 := (Below.refl _ _).alloc (by omega) _ |>.trans hbl6
              have hwB := HBw.out
              have HRS7 := Lib.hid ((HRS5.out.below (N := B + 1) (by omega) hb7).setn (q := B) (o := 1) (by omega) (.slice vb6 (acc.length + 1) vc6))
              have HBUT7 := Lib.hid ((((hbut.out.drew.trans HBUT5.out).thenB hb7 (by omega)).setn (q := ⟨B, 1, none⟩) (by dsimp only; omega) (.slice vb6 (acc.length + 1) vc6)))
              have HOWN7 := Lib.hid (show OwnVs 3 (B + 1) (w6.setCell ⟨B, 1, none⟩ (.slice vb6 (acc.length + 1) vc6)) (.slice vb6 (acc.length + 1) vc6) (acc ++ [y1.num]) by
                unfold OwnVs
                rw [vcs_snoc, List.length_append]
                exact ownsRow_setCell_below hown6 (by dsimp only; omega) _)
              have HZR7 := Lib.hid (((HBUT5.out.blk (hzr.out.kept (sb_drew (Below.refl _ _))) (by omega)).below hb7 (by omega)).other (a := ⟨B, 1, none⟩) (.slice vb6 (acc.length + 1) vc6) (by dsimp only; omega))
              clear b0 b1 b2 f0 f1 f2 hg6 hbl6 hown6 hb7 hown5 hrsd hlt hlt5 hHeld HBB6 HBB5 HRS5 HBUT5 hbut hzr hrs hown hbb HNO1 hA HNE HNB HNO
              go_wp2_with fail
              go_roundw
              case rel => exact ⟨j + 1, k1 + 1, _, acc ++ [y1.num], by omega, by go_num, by rw [show n - (j + 1) = n - j - 1 by omega]; exact HN, HWl, Lib.hid (by have := hal.out; simp; omega), HBB7, HOWN7, HRS7, HBUT7, HZR7⟩
              case measure => simp [intOf]; omega
            · have HN := Lib.hid (hs.2 hk2)
              have HNB1 := Lib.hid (fun W h => HNB.out k1 y1 hy1 hk2 W h)
              have hrsd := hrs.out.kept (sb_drew (Below.refl _ _))
              clear hs hk2 hkn hy1
              have hN := HN.out
              subst hN
              clear HN
              go_wp2_with fail
              refine wp_region_held_drew (S := fun w' => w'.cell? ⟨B, 1, none⟩ = some u) (by kernel_rfl) (b1) (fun hHeld => ?_)
              try simp only [Act.put, List.setIfInBounds_toArray, List.set_cons_zero, List.set_cons_succ]
              refine wpAnyH_take (i := 0) (oi := { dst := some 33, op := Go.Op.fieldAddr 41 (Go.Operand.tmp 8) 1, type := 0, pos := "reader.go:87", after := #[], guard := none }) (v := ?v3_0) rfl (by kernel_rfl) (by kernel_rfl) (by kernel_rfl) (fun _ _ _ h => h) (Or.inl ⟨by rfl, ?hy3_0⟩) (by assumption) ?rest3_0
              case hy3_0 => ((intro w hSw; (try dsimp only at hSw); go_simp); (try (with_reducible rfl)))
              try simp only [Act.put, List.setIfInBounds_toArray, List.set_cons_zero, List.set_cons_succ]
              refine wpAnyH_take (i := 1) (oi := { dst := some 34, op := Go.Op.load 33 (Go.Operand.tmp 33), type := 33, pos := "reader.go:87", after := #[{ on := 0, ground := Go.Ground.data }], guard := none }) (v := ?v3_1) rfl (by kernel_rfl) (by kernel_rfl) (by kernel_rfl) (fun _ _ _ h => h) (Or.inl ⟨by rfl, ?hy3_1⟩) (by assumption) ?rest3_1
              case hy3_1 => ((intro w hSw; (try dsimp only at hSw); go_simp); (try (with_reducible rfl)))
              try simp only [Act.put, List.setIfInBounds_toArray, List.set_cons_zero, List.set_cons_succ]
              refine wpAnyH_take (i := 2) (oi := { dst := some 35, op := Go.Op.move (Go.Operand.tmp 0), type := 88, pos := "reader.go:87", after := #[], guard := none }) (v := ?v3_2) rfl (by kernel_rfl) (by kernel_rfl) (by kernel_rfl) (fun _ _ _ h => h) (Or.inl ⟨by rfl, ?hy3_2⟩) (by assumption) ?rest3_2
              case hy3_2 => ((intro w hSw; (try dsimp only at hSw); go_simp); (try (with_reducible rfl)))
              try simp only [Act.put, List.setIfInBounds_toArray, List.set_cons_zero, List.set_cons_succ]
              refine wpAnyH_ready (rs := [3]) (by kernel_rfl) (by simp) ?_
              refine AllReadyH.cons (o := { dst := some 36, op := Go.Op.call { callee := Go.Callee.value (Go.Operand.func 39), args := #[Go.Operand.tmp 35, Go.Operand.const (Go.Value.int Go.IntKind.i64 2)], argTypes := #[88, 3] }, type := 64, pos := "reader.go:87", after := #[{ on := 2, ground := Go.Ground.data }], guard := none }) rfl (fun K hK => ?_) AllReadyH.nil
              go_simp
              refine (HNB1.out _ hrsd).mono ?_
              rintro e w5 ⟨rfl, hbut5⟩
              exact ⟨rfl, rfl, hbut.out.drew.trans hbut5⟩
          · have hs := numsP_none hA.out (by omega) (by omega)
            have HN := Lib.hid hs
            have hke : k1 = ws.length := by have := hk1.out; omega
            have hrsd := hrs.out.kept (sb_drew (Below.refl _ _))
            rw [hke] at hrsd
            clear hs hkn
            have hN := HN.out
            subst hN
            clear HN
            go_wp2_with fail
            refine wp_region_held_drew (S := fun w' => w'.cell? ⟨B, 1, none⟩ = some u) (by kernel_rfl) (b1) (fun hHeld => ?_)
            try simp only [Act.put, List.setIfInBounds_toArray, List.set_cons_zero, List.set_cons_succ]
            refine wpAnyH_take (i := 0) (oi := { dst := some 33, op := Go.Op.fieldAddr 41 (Go.Operand.tmp 8) 1, type := 0, pos := "reader.go:87", after := #[], guard := none }) (v := ?v4_0) rfl (by kernel_rfl) (by kernel_rfl) (by kernel_rfl) (fun _ _ _ h => h) (Or.inl ⟨by rfl, ?hy4_0⟩) (by assumption) ?rest4_0
            case hy4_0 => ((intro w hSw; (try dsimp only at hSw); go_simp); (try (with_reducible rfl)))
            try simp only [Act.put, List.setIfInBounds_toArray, List.set_cons_zero, List.set_cons_succ]
            refine wpAnyH_take (i := 1) (oi := { dst := some 34, op := Go.Op.load 33 (Go.Operand.tmp 33), type := 33, pos := "reader.go:87", after := #[{ on := 0, ground := Go.Ground.data }], guard := none }) (v := ?v4_1) rfl (by kernel_rfl) (by kernel_rfl) (by kernel_rfl) (fun _ _ _ h => h) (Or.inl ⟨by rfl, ?hy4_1⟩) (by assumption) ?rest4_1
            case hy4_1 => ((intro w hSw; (try dsimp only at hSw); go_simp); (try (with_reducible rfl)))
            try simp only [Act.put, List.setIfInBounds_toArray, List.set_cons_zero, List.set_cons_succ]
            refine wpAnyH_take (i := 2) (oi := { dst := some 35, op := Go.Op.move (Go.Operand.tmp 0), type := 88, pos := "reader.go:87", after := #[], guard := none }) (v := ?v4_2) rfl (by kernel_rfl) (by kernel_rfl) (by kernel_rfl) (fun _ _ _ h => h) (Or.inl ⟨by rfl, ?hy4_2⟩) (by assumption) ?rest4_2
            case hy4_2 => ((intro w hSw; (try dsimp only at hSw); go_simp); (try (with_reducible rfl)))
            try simp only [Act.put, List.setIfInBounds_toArray, List.set_cons_zero, List.set_cons_succ]
            refine wpAnyH_ready (rs := [3]) (by kernel_rfl) (by simp) ?_
            refine AllReadyH.cons (o := { dst := some 36, op := Go.Op.call { callee := Go.Callee.value (Go.Operand.func 39), args := #[Go.Operand.tmp 35, Go.Operand.const (Go.Value.int Go.IntKind.i64 2)], argTypes := #[88, 3] }, type := 64, pos := "reader.go:87", after := #[{ on := 2, ground := Go.Ground.data }], guard := none }) rfl (fun K hK => ?_) AllReadyH.nil
            go_simp
            refine (HNE.out _ hrsd).mono ?_
            rintro e w5 ⟨rfl, hbut5⟩
            exact ⟨rfl, rfl, hbut.out.drew.trans hbut5⟩
        · have hje : n - j = 0 := by omega
          have HN := Lib.hid (numsP_end hA.out hje)
          have hN := HN.out
          subst hN
          clear HN
          obtain ⟨ub, uc, rfl⟩ := row_form hown.out
          obtain ⟨z0, z1, z2⟩ := Blk3 hzr.out
          obtain ⟨g0, g1, g2⟩ := Blk3f hzr.out
          have hwB := HBw.out
          have hp2 := hrs.out.ltp
          clear hje
          go_wp2_with fail
          refine bodyPost_ret (blk_res (g := w.heap.size + 2) rfl _ rfl (blk_set3 hzr.out) Tryz.underlying41 rfl (by rfl)) rfl ?_
          refine ⟨_, k1, rfl, rfl, hk1.out, ⟨_, rfl, ?_⟩, ?_, ?_⟩
          · exact ((((hown.out.kept (Below.refl _ _)).setb (by omega) _ _).setb (by omega) _ _).setb (by omega) _ _).mono (by omega)
          · exact (((hrs.out.setn (q := w.heap.size + 2) (o := 0) (by omega) _).setn (q := w.heap.size + 2) (o := 1) (by omega) _).setn (q := w.heap.size + 2) (o := 2) (by omega) _)
          · exact (((hbut.out.setn (q := ⟨w.heap.size + 2, 0, none⟩) (by dsimp only; omega) _).setn (q := ⟨w.heap.size + 2, 1, none⟩) (by dsimp only; omega) _).setn (q := ⟨w.heap.size + 2, 2, none⟩) (by dsimp only; omega) _)
end Go.Proofs.YtdikoeeoglfmaaaGreatDoor
