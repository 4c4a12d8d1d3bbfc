/-
  The reader of words: item.
-/
import Derived.Test.YtdikoeeoglfmaaaGreatDoorM14
namespace SS
open Go Go.RowKit PB SC
/-- How many words the reader in block p has. -/
def wleft (w : World) (p : Nat) : Nat := match w.cell? ⟨p, 0, none⟩ with
  | some (.slice _ n _) => n
  | _ => 0
theorem RS.left {w : World} {p g : Nat} {sz : Int} {ws : List W} {k : Nat} (h : RS w p g sz ws k) : wleft w p = ws.length - k := by
  obtain ⟨⟨b, c, h1, _⟩, _, _⟩ := h
  unfold wleft
  rw [(Blk2 h1).1]
theorem keysOf_nil {w : ByteArray} : (keysOf w).length = 0 ↔ rowOf w = [] := by
  unfold keysOf
  rw [List.length_map]
  exact ⟨List.eq_nil_of_length_eq_zero, fun h => by rw [h]; rfl⟩
theorem OwnKs.setb {EV E : TypeId} {N q : Nat} {w : World} {v : Value} {ks : List K} (h : OwnKs EV E N w v ks) (hq : q < N) (o : Nat) (u : Value) : OwnKs EV E N (w.setCell ⟨q, o, none⟩ u) v ks := by
  obtain ⟨zs, hl, hr, hz⟩ := h
  exact ⟨zs, hl, ownsRow_setCell_below hr hq u, fun i k z a b => (hz i k z a b).setb hq o u⟩
theorem OwnKs.form {EV E : TypeId} {N : Nat} {w : World} {v : Value} {ks : List K} (h : OwnKs EV E N w v ks) : ∃ (b : Option Addr) (c : Nat), v = .slice b ks.length c := by
  obtain ⟨zs, hl, hr, hz⟩ := h
  exact row_form hr
theorem drop_at {ws : List W} {k : Nat} {x : W} (h : ws[k]? = some x) : ws.drop k = x :: ws.drop (k + 1) := by
  obtain ⟨hi, e⟩ := List.getElem?_eq_some_iff.1 h
  rw [List.drop_eq_getElem_cons hi, e]
theorem cells_news (w : World) (l : List Value) (T : TypeId) : ∀ j u, l[j]? = some u → (w.alloc (.cells l.toArray T)).cell? ((⟨w.heap.size, 0, none⟩ : Addr).add j) = some u := by
  intro j u hj
  rw [waddr]
  exact cell_new _ _ _ _ _ _ rfl (by simpa using hj)
/-- One round of the keys. -/
theorem keysP_round {sz : Int} {x : I} {y : W} {l : List W} {R : PR I} (h : keysP sz x (y :: l) = R) :
    (y.kind = 3 → R = .ok x l) ∧ (¬ y.kind = 3 → ∀ e p, keyP sz x.word x.keys y l = .bad e p → R = .bad e p) ∧ (¬ y.kind = 3 → ∀ k r, keyP sz x.word x.keys y l = .ok k r → keysP sz (x.with k) r = R) := by
  rw [keysP_cons] at h
  refine ⟨fun h3 => by rw [if_pos h3] at h; exact h.symm, fun h3 e p hk => by rw [if_neg h3, hk] at h; exact h.symm, fun h3 k r hk => by rw [if_neg h3, hk] at h; exact h⟩
end SS
namespace Go.Proofs.YtdikoeeoglfmaaaGreatDoor
open Go.RowKit SC PB SS
set_option maxRecDepth 100000 in
theorem info_key : (Tryz.prog.info? 41).map (fun i => (i.zero, i.size, i.bytes)) = some (some (.agg #[.string ⟨#[]⟩, .slice none 0 0, .int .i64 0]), 3, 48) := by kernel_rfl
set_option maxHeartbeats 4000000 in
set_option maxRecDepth 100000 in
theorem named_f (s : ByteArray) (h : ¬ s = bTable) (w : World) : Calls Tryz.prog 38 #[.string s] w fun e w' => e = .returned (.bool true) ∧ w' = w := by
  have t0 := beq_l (s := s) (l := [116, 97, 98, 108, 101]) h
  have t1 : (s.toList != [116, 97, 98, 108, 101]) = true := by simp [bne, t0]
  clear h
  go_enter Tryz.func38, Tryz.ntmps38
  go_wp2_with fail
  go_ret
  exact ⟨rfl, rfl⟩
set_option maxHeartbeats 4000000 in
set_option maxRecDepth 100000 in
theorem named_t (w : World) : Calls Tryz.prog 38 #[.string bTable] w fun e w' => e = .returned (.bool false) ∧ w' = w := by
  unfold bTable
  go_enter Tryz.func38, Tryz.ntmps38
  go_wp2_with fail
  go_ret
  exact ⟨by kernel_rfl, rfl⟩
set_option maxHeartbeats 16000000 in
set_option maxRecDepth 100000 in
theorem item_any (p g k : Nat) (sz : Int) (ws : List W) (y0 : W) (hy0 : ws[k]? = some y0) (hn : ws.length ≤ 1000000) (w : World) (h : RS w p g sz ws k) :
    Calls Tryz.prog 21 #[.pointer (some ⟨p, 0, none⟩)] w
      (RetP 55 (itemP sz (ws.drop k)) w p g sz ws fun x v w' => ∃ u, v = iagg x u ∧ OwnKs 3 41 w.heap.size w' u x.keys) := by
  have hp := h.ltp
  have HRS0 := Lib.hid (h.kept (sb_alloc (Below.refl _ _) (.cells #[.string ⟨#[]⟩, .string ⟨#[]⟩, .slice none 0 0, .int .i64 0] 38)))
  have HN0 := Lib.hid (fun W h => next_ok p g k sz ws y0 hy0 hn W h)
  have HNX := Lib.hid (fun k y (hy : ws[k]? = some y) W h => next_ok p g k sz ws y hy hn W h)
  have HNN := Lib.hid (fun W h => next_end p g sz ws W h)
  have HKY := Lib.hid (keys_any ⟨y0.text.toArray⟩)
  have HX := Lib.hid (fun (k : Nat) (hk : k < ws.length) => (⟨ws[k], List.getElem?_eq_getElem hk⟩ : ∃ x, ws[k]? = some x))
  have HWS := Lib.hid hn
  have HK0 := Lib.hid (show k + 1 ≤ ws.length by have := (List.getElem?_eq_some_iff.1 hy0).1; omega)
  have hsp : itemP sz (ws.drop k) = if rowOf (bs y0.text) = [] then .bad 4 y0.pos
    else if bs y0.text = bTable then keysP sz ⟨bs y0.text, ⟨#[]⟩, [], y0.pos⟩ (ws.drop (k + 1))
    else match ws.drop (k + 1) with
      | [] => .bad 4 sz
      | n :: t' => if n.kind = 1 then keysP sz ⟨bs y0.text, bs n.text, [], y0.pos⟩ t' else .bad 4 n.pos := by rw [drop_at hy0]; rfl
  generalize itemP sz (ws.drop k) = R at *
  obtain ⟨i0, hi, hz0, hz1, hz2⟩ := info_parts info_key
  have hk0 := keysOf_nil (w := ⟨y0.text.toArray⟩)
  clear h
  by_cases hrow : rowOf (bs y0.text) = []
  · rw [if_pos hrow] at hsp
    subst hsp
    have hkl : (keysOf ⟨y0.text.toArray⟩).length = 0 := hk0.2 hrow
    have HDn := Lib.hid (fun W => demand_no y0 4 W)
    clear hrow hk0 hy0 hn HNX HNN HX HWS HK0 hi hz0 hz1 hz2
    unfold wordW wordV at *
    go_enter Tryz.func21, Tryz.ntmps21
    go_wp2_with fail
    refine (HN0.out _ HRS0.out).mono ?_
    rintro e w1 ⟨rfl, hrs1, hbut1⟩
    have hbut := (But.of (p := p) (sb_alloc (Below.refl w.heap.size w) _)).trans hbut1
    clear hrs1 hbut1
    go_wp2_with fail
    have T0 : Blk (w1.alloc (.cells #[.int .i64 y0.kind, .string ⟨y0.text.toArray⟩, .int .i64 y0.num, .int .i64 y0.pos] 64)) w1.heap.size #[.int .i64 y0.kind, .string ⟨y0.text.toArray⟩, .int .i64 y0.num, .int .i64 y0.pos] := blk_new rfl
    have HT := Lib.hid (fun W h => Blk4 (T0.kept (w' := W) h))
    obtain ⟨x0, x1, x2, x3⟩ := Blk4 T0
    have hq1 := hbut.alloc (.cells #[.int .i64 y0.kind, .string ⟨y0.text.toArray⟩, .int .i64 y0.num, .int .i64 y0.pos] 64)
    generalize hW1 : w1.alloc (.cells #[.int .i64 y0.kind, .string ⟨y0.text.toArray⟩, .int .i64 y0.num, .int .i64 y0.pos] 64) = W1 at *
    clear T0 hW1
    have hqd : Below W1.heap.size W1 W1.drew := sb_drew (Below.refl _ _)
    refine wp_region_held_drew (S := fun w' => w'.cell? ⟨w1.heap.size, 0, none⟩ = some (.int .i64 y0.kind) ∧ w'.cell? ⟨w1.heap.size, 1, none⟩ = some (.string ⟨y0.text.toArray⟩) ∧ w'.cell? ⟨w1.heap.size, 2, none⟩ = some (.int .i64 y0.num) ∧ w'.cell? ⟨w1.heap.size, 3, none⟩ = some (.int .i64 y0.pos)) (by kernel_rfl) (⟨x0, x1, x2, x3⟩) (fun hHeld => ?_)
    try simp only [Act.put, List.setIfInBounds_toArray, List.set_cons_zero, List.set_cons_succ]
    refine wpAnyH_take (i := 0) (oi := { dst := some 7, op := Go.Op.fieldAddr 64 (Go.Operand.tmp 3) 1, type := 0, pos := "reader.go:69", after := #[], guard := none }) (v := ?v1_0) rfl (by kernel_rfl) (by kernel_rfl) (by kernel_rfl) (fun _ _ _ h => h) (Or.inl ⟨by rfl, ?hy1_0⟩) (by assumption) ?rest1_0
    case hy1_0 => ((intro w hSw; (try dsimp only at hSw); go_simp); (try (with_reducible rfl)))
    try simp only [Act.put, List.setIfInBounds_toArray, List.set_cons_zero, List.set_cons_succ]
    refine wpAnyH_take (i := 1) (oi := { dst := some 8, op := Go.Op.load 9 (Go.Operand.tmp 7), type := 9, pos := "reader.go:69", after := #[{ on := 0, ground := Go.Ground.data }], guard := none }) (v := ?v1_1) rfl (by kernel_rfl) (by kernel_rfl) (by kernel_rfl) (fun _ _ _ h => h) (Or.inl ⟨by rfl, ?hy1_1⟩) (by assumption) ?rest1_1
    case hy1_1 => ((intro w hSw; (try dsimp only at hSw); go_simp); (try (with_reducible rfl)))
    try simp only [Act.put, List.setIfInBounds_toArray, List.set_cons_zero, List.set_cons_succ]
    refine wpAnyH_take (i := 5) (oi := { dst := some 12, op := Go.Op.load 64 (Go.Operand.tmp 3), type := 64, pos := "reader.go:69", after := #[], guard := none }) (v := ?v1_5) rfl (by kernel_rfl) (by kernel_rfl) (by kernel_rfl) (fun _ _ _ h => h) (Or.inl ⟨by rfl, ?hy1_5⟩) (by assumption) ?rest1_5
    case hy1_5 => ((intro w hSw; (try dsimp only at hSw); go_simp); (try (with_reducible rfl)))
    try simp only [Act.put, List.setIfInBounds_toArray, List.set_cons_zero, List.set_cons_succ]
    refine wpAnyH_ready (rs := [2]) (by kernel_rfl) (by simp) ?_
    refine AllReadyH.cons (o := { dst := some 9, op := Go.Op.call { callee := Go.Callee.value (Go.Operand.func 25), args := #[Go.Operand.tmp 8], argTypes := #[9] }, type := 69, pos := "reader.go:69", after := #[{ on := 1, ground := Go.Ground.data }], guard := none }) rfl (fun K hK => ?_) AllReadyH.nil
    go_simp
    refine (HKY.out _).mono ?_
    rintro e w3 ⟨v3, rfl, r3, q3⟩
    obtain ⟨b3, g3, o3, c3, rfl, -, -, -⟩ := r3.form
    have hb3 := next hqd q3
    rw [hkl]
    go_simp
    refine hK.out _ _ (HT.out _ hb3) (fun hHeld => ?_)
    clear hK K
    try simp only [Act.put, List.setIfInBounds_toArray, List.set_cons_zero, List.set_cons_succ]
    refine wpAnyH_take (i := 3) (oi := { dst := some 10, op := Go.Op.call { callee := Go.Callee.builtin Go.Builtin.len, args := #[Go.Operand.tmp 9], argTypes := #[69] }, type := 3, pos := "reader.go:69", after := #[{ on := 2, ground := Go.Ground.data }], guard := none }) (v := ?v1_3) rfl (by kernel_rfl) (by kernel_rfl) (by kernel_rfl) (fun _ _ _ h => h) (Or.inl ⟨by rfl, ?hy1_3⟩) (by assumption) ?rest1_3
    case hy1_3 => ((intro w hSw; (try dsimp only at hSw); go_simp); (try (with_reducible rfl)))
    try simp only [Act.put, List.setIfInBounds_toArray, List.set_cons_zero, List.set_cons_succ]
    refine wpAnyH_take (i := 4) (oi := { dst := some 11, op := Go.Op.binOp Go.BinOp.gtr 3 (Go.Operand.tmp 10) (Go.Operand.const (Go.Value.int Go.IntKind.i64 0)) 3, type := 4, pos := "reader.go:69", after := #[{ on := 3, ground := Go.Ground.data }], guard := none }) (v := ?v1_4) rfl (by kernel_rfl) (by kernel_rfl) (by kernel_rfl) (fun _ _ _ h => h) (Or.inl ⟨by rfl, ?hy1_4⟩) (by assumption) ?rest1_4
    case hy1_4 => ((intro w hSw; (try dsimp only at hSw); go_simp); (try (with_reducible rfl)))
    try simp only [Act.put, List.setIfInBounds_toArray, List.set_cons_zero, List.set_cons_succ]
    refine wpAnyH_ready (rs := [6]) (by kernel_rfl) (by simp) ?_
    refine AllReadyH.cons (o := { dst := some 13, op := Go.Op.call { callee := Go.Callee.value (Go.Operand.func 20), args := #[Go.Operand.tmp 11, Go.Operand.const (Go.Value.int Go.IntKind.i64 4), Go.Operand.tmp 12], argTypes := #[4, 30, 64] }, type := 0, pos := "reader.go:69", after := #[{ on := 4, ground := Go.Ground.data }, { on := 5, ground := Go.Ground.data }, { on := 2, ground := Go.Ground.chain }], guard := none }) rfl (fun K hK => ?_) AllReadyH.nil
    go_simp
    refine (HDn.out _).mono ?_
    rintro e w4 ⟨rfl, q4⟩
    exact ⟨rfl, rfl, (hq1.thenB hb3 hq1.size).trans (But.of q4)⟩
  · rw [if_neg hrow] at hsp
    have hkl : 0 < (keysOf ⟨y0.text.toArray⟩).length := by
      have : ¬ (keysOf ⟨y0.text.toArray⟩).length = 0 := fun h => hrow (hk0.1 h)
      omega
    have HDy := Lib.hid (show ∀ W, Calls Tryz.prog 20 #[.bool (decide (0 < (keysOf ⟨y0.text.toArray⟩).length)), .int .i64 4, wordW y0] W fun e w' => e = .returned (.tuple #[]) ∧ Below W.heap.size W w' from fun W => by rw [decide_eq_true hkl]; exact demand_yes y0 4 W)
    generalize hkle : (keysOf ⟨y0.text.toArray⟩).length = kl at *
    have HKL := Lib.hid hkle
    clear hkle
    clear hrow hk0 hy0 hn hkl
    unfold wordW wordV at *
    go_enter Tryz.func21, Tryz.ntmps21
    go_wp2_with fail
    refine (HN0.out _ HRS0.out).mono ?_
    rintro e w1 ⟨rfl, hrs1, hbut1⟩
    have hlt1 := hbut1.size
    have ZR0 := hbut1.blk (show Blk _ w.heap.size _ from blk_new rfl) (by omega)
    have hbut := (But.of (p := p) (sb_alloc (Below.refl w.heap.size w) _)).trans hbut1
    have HRS1 := Lib.hid hrs1
    rw [World.size_alloc] at hlt1
    clear hrs1 hbut1
    go_wp2_with fail
    have T0 : Blk (w1.alloc (.cells #[.int .i64 y0.kind, .string ⟨y0.text.toArray⟩, .int .i64 y0.num, .int .i64 y0.pos] 64)) w1.heap.size #[.int .i64 y0.kind, .string ⟨y0.text.toArray⟩, .int .i64 y0.num, .int .i64 y0.pos] := blk_new rfl
    have ZR1 := ZR0.alloc (.cells #[.int .i64 y0.kind, .string ⟨y0.text.toArray⟩, .int .i64 y0.num, .int .i64 y0.pos] 64)
    have HRS2 := Lib.hid (HRS1.out.kept (sb_alloc (Below.refl _ _) (.cells #[.int .i64 y0.kind, .string ⟨y0.text.toArray⟩, .int .i64 y0.num, .int .i64 y0.pos] 64)))
    have HT := Lib.hid (fun W h => Blk4 (T0.kept (w' := W) h))
    have HTk := Lib.hid (fun W h => T0.kept (w' := W) h)
    have HZk := Lib.hid (fun W h => ZR1.kept (w' := W) h)
    obtain ⟨x0, x1, x2, x3⟩ := Blk4 T0
    have hq1 := hbut.alloc (.cells #[.int .i64 y0.kind, .string ⟨y0.text.toArray⟩, .int .i64 y0.num, .int .i64 y0.pos] 64)
    have hsz1 : (w1.alloc (.cells #[.int .i64 y0.kind, .string ⟨y0.text.toArray⟩, .int .i64 y0.num, .int .i64 y0.pos] 64)).heap.size = w1.heap.size + 1 := World.size_alloc _ _
    generalize hW1 : w1.alloc (.cells #[.int .i64 y0.kind, .string ⟨y0.text.toArray⟩, .int .i64 y0.num, .int .i64 y0.pos] 64) = W1 at *
    clear T0 hW1 ZR0 ZR1 HRS1 hbut
    have hqd : Below W1.heap.size W1 W1.drew := sb_drew (Below.refl _ _)
    go_region_held3 (fun w' => w'.cell? ⟨w1.heap.size, 0, none⟩ = some (.int .i64 y0.kind) ∧ w'.cell? ⟨w1.heap.size, 1, none⟩ = some (.string ⟨y0.text.toArray⟩) ∧ w'.cell? ⟨w1.heap.size, 2, none⟩ = some (.int .i64 y0.num) ∧ w'.cell? ⟨w1.heap.size, 3, none⟩ = some (.int .i64 y0.pos))
      (first | exact ⟨x0, x1, x2, x3⟩ | exact HT.out _ hb3)
      (first
        | (go_at_call 20; (with_reducible refine (HDy.out _).mono ?_); rintro e w4 ⟨rfl, q4⟩; have hb3 : Below W1.heap.size W1 w4 := next hb3 q4)
        | (go_at_call 25; (with_reducible refine (HKY.out _).mono ?_); rintro e w3 ⟨v3, rfl, r3, q3⟩; obtain ⟨b3, g3, o3, c3, rfl, -, -, -⟩ := r3.form; have hb3 := next hqd q3; rw [HKL.out])
        | fail "no arm")
    obtain ⟨x0, x1, x2, x3⟩ := HT.out _ hb3
    have hlt4 : w1.heap.size < w4.heap.size := by have := hb3.size; omega
    go_wp2_with fail
    have hTX0 : w.heap.size < w1.heap.size ∧ w1.heap.size < w4.heap.size := ⟨by omega, by omega⟩
    have HRSb := Lib.hid ((HRS2.out.kept hb3).kept (sb_alloc (Below.refl _ _) (.cells #[.string ⟨y0.text.toArray⟩, .string ⟨#[]⟩, .slice none 0 0, .int .i64 y0.pos] 38)))
    have HTb := Lib.hid ((HTk.out _ hb3).alloc (.cells #[.string ⟨y0.text.toArray⟩, .string ⟨#[]⟩, .slice none 0 0, .int .i64 y0.pos] 38))
    have HZb := Lib.hid ((HZk.out _ hb3).alloc (.cells #[.string ⟨y0.text.toArray⟩, .string ⟨#[]⟩, .slice none 0 0, .int .i64 y0.pos] 38))
    have HBb := Lib.hid ((hq1.thenB hb3 hq1.size).alloc (.cells #[.string ⟨y0.text.toArray⟩, .string ⟨#[]⟩, .slice none 0 0, .int .i64 y0.pos] 38))
    have HXb := Lib.hid (show Blk (w4.alloc (.cells #[.string ⟨y0.text.toArray⟩, .string ⟨#[]⟩, .slice none 0 0, .int .i64 y0.pos] 38)) w4.heap.size _ from blk_new rfl)
    have HP := Lib.hid hp
    have HTX := Lib.hid hTX0
    clear hTX0 hp hq1 hb3 HRS2 HTk HZk HT x0 x1 x2 x3 hlt1 hlt4 hsz1 hqd q3 q4 r3 HDy HKY HKL HN0 HRS0
    by_cases htab : (⟨y0.text.toArray⟩ : ByteArray) = bTable
    · rw [show (if bs y0.text = bTable then _ else _) = _ from if_pos htab] at hsp
      have HNM := Lib.hid (fun W => named_t W)
      rw [← htab] at HNM
      have hspb : R = keysP sz ⟨⟨y0.text.toArray⟩, ⟨#[]⟩, [], y0.pos⟩ (ws.drop (k + 1)) := hsp
      have HSP := Lib.hid hspb
      clear hsp hspb htab
      refine (HNM.out _).mono ?_
      rintro e w5 ⟨rfl, rfl⟩
      generalize w4.alloc (.cells #[.string ⟨y0.text.toArray⟩, .string ⟨#[]⟩, .slice none 0 0, .int .i64 y0.pos] 38) = Wb at *
      have hkx := HK0.out
      generalize hkxe : k + 1 = kx at *
      clear HNM HK0 hkxe
      generalize hnme : (⟨#[]⟩ : ByteArray) = nm at HSP HXb
      have HX2 := HX
      generalize (⟨y0.text.toArray⟩ : ByteArray) = word at *
      generalize ((y0.pos : Nat) : Int) = px at *
      generalize hTe : w1.heap.size = T at *
      generalize hXe : w4.heap.size = X at *
      clear hTe hXe hnme
      by_cases hk2 : kx < ws.length
      · obtain ⟨y1, hy1⟩ := HX.out kx hk2
        have HN1 := Lib.hid (fun W h => HNX.out kx y1 hy1 W h)
        have hsp1 := HSP.out
        rw [drop_at hy1] at hsp1
        have HS1 := Lib.hid hsp1.symm
        have HKX := Lib.hid (show kx + 1 ≤ ws.length by omega)
        clear hsp1 HSP hy1 hk2 hkx
        try unfold wordW wordV at HN1
        go_wp2_with fail
        refine (HN1.out _ HRSb.out).mono ?_
        rintro e w6 ⟨rfl, hrs6, hbut6⟩
        have hpw := HP.out
        have htx := HTX.out
        have hT6 := hbut6.blk HTb.out (by omega)
        obtain ⟨t0, t1, t2, t3⟩ := Blk4 hT6
        obtain ⟨f0, f1, f2, f3⟩ := Blk4f hT6
        have HE : Hid (∃ (y : W) (k1 : Nat) (acc : List K) (u : Value), keysP sz ⟨word, nm, acc, px⟩ (y :: ws.drop k1) = R ∧ k1 ≤ ws.length ∧ acc.length ≤ k1 ∧ Blk ((((w6.setCell ⟨T, 0, none⟩ (.int .i64 y1.kind)).setCell ⟨T, 1, none⟩ (.string ⟨y1.text.toArray⟩)).setCell ⟨T, 2, none⟩ (.int .i64 y1.num)).setCell ⟨T, 3, none⟩ (.int .i64 y1.pos)) T #[.int .i64 y.kind, .string ⟨y.text.toArray⟩, .int .i64 y.num, .int .i64 y.pos] ∧ Blk ((((w6.setCell ⟨T, 0, none⟩ (.int .i64 y1.kind)).setCell ⟨T, 1, none⟩ (.string ⟨y1.text.toArray⟩)).setCell ⟨T, 2, none⟩ (.int .i64 y1.num)).setCell ⟨T, 3, none⟩ (.int .i64 y1.pos)) X #[.string word, .string nm, u, .int .i64 px] ∧ OwnKs 3 41 (X + 1) ((((w6.setCell ⟨T, 0, none⟩ (.int .i64 y1.kind)).setCell ⟨T, 1, none⟩ (.string ⟨y1.text.toArray⟩)).setCell ⟨T, 2, none⟩ (.int .i64 y1.num)).setCell ⟨T, 3, none⟩ (.int .i64 y1.pos)) u acc ∧ RS ((((w6.setCell ⟨T, 0, none⟩ (.int .i64 y1.kind)).setCell ⟨T, 1, none⟩ (.string ⟨y1.text.toArray⟩)).setCell ⟨T, 2, none⟩ (.int .i64 y1.num)).setCell ⟨T, 3, none⟩ (.int .i64 y1.pos)) p g sz ws k1 ∧ But p w ((((w6.setCell ⟨T, 0, none⟩ (.int .i64 y1.kind)).setCell ⟨T, 1, none⟩ (.string ⟨y1.text.toArray⟩)).setCell ⟨T, 2, none⟩ (.int .i64 y1.num)).setCell ⟨T, 3, none⟩ (.int .i64 y1.pos)) ∧ Blk ((((w6.setCell ⟨T, 0, none⟩ (.int .i64 y1.kind)).setCell ⟨T, 1, none⟩ (.string ⟨y1.text.toArray⟩)).setCell ⟨T, 2, none⟩ (.int .i64 y1.num)).setCell ⟨T, 3, none⟩ (.int .i64 y1.pos)) w.heap.size #[.string ⟨#[]⟩, .string ⟨#[]⟩, .slice none 0 0, .int .i64 0]) :=
          Lib.hid ⟨y1, kx + 1, [], .slice none 0 0, HS1.out, HKX.out, Nat.zero_le _, blk_set4 hT6, ((((hbut6.blk HXb.out (by omega)).other (a := ⟨T, 0, none⟩) _ (by dsimp only; omega)).other (a := ⟨T, 1, none⟩) _ (by dsimp only; omega)).other (a := ⟨T, 2, none⟩) _ (by dsimp only; omega)).other (a := ⟨T, 3, none⟩) _ (by dsimp only; omega), OwnKs.nil _ _ _ _, (((hrs6.setn (q := T) (o := 0) (by omega) _).setn (q := T) (o := 1) (by omega) _).setn (q := T) (o := 2) (by omega) _).setn (q := T) (o := 3) (by omega) _, ((((HBb.out.trans hbut6).setn (q := ⟨T, 0, none⟩) (by dsimp only; omega) _).setn (q := ⟨T, 1, none⟩) (by dsimp only; omega) _).setn (q := ⟨T, 2, none⟩) (by dsimp only; omega) _).setn (q := ⟨T, 3, none⟩) (by dsimp only; omega) _, ((((hbut6.blk HZb.out (by omega)).other (a := ⟨T, 0, none⟩) _ (by dsimp only; omega)).other (a := ⟨T, 1, none⟩) _ (by dsimp only; omega)).other (a := ⟨T, 2, none⟩) _ (by dsimp only; omega)).other (a := ⟨T, 3, none⟩) _ (by dsimp only; omega)⟩
        clear hrs6 hbut6 hT6 hpw htx HRSb HTb HZb HBb HXb HN1 HS1 HKX
        go_wp2_with fail
        clear t0 t1 t2 t3 f0 f1 f2 f3
        go_loopw [] (fun wr => Hid (∃ (y : W) (k1 : Nat) (acc : List K) (u : Value), keysP sz ⟨word, nm, acc, px⟩ (y :: ws.drop k1) = R ∧ k1 ≤ ws.length ∧ acc.length ≤ k1 ∧ Blk wr T #[.int .i64 y.kind, .string ⟨y.text.toArray⟩, .int .i64 y.num, .int .i64 y.pos] ∧ Blk wr X #[.string word, .string nm, u, .int .i64 px] ∧ OwnKs 3 41 (X + 1) wr u acc ∧ RS wr p g sz ws k1 ∧ But p w wr ∧ Blk wr w.heap.size #[.string ⟨#[]⟩, .string ⟨#[]⟩, .slice none 0 0, .int .i64 0])) (fun wr => wleft wr p)
        case atStart => exact HE
        case round =>
          clear HE
          obtain ⟨y, k1, acc, u, hR, hk1, hal, hT, hXb, hown, hrs, hbut, hzr⟩ := hrel.out
          obtain ⟨t0, t1, t2, t3⟩ := Blk4 hT
          obtain ⟨tf0, tf1, tf2, tf3⟩ := Blk4f hT
          obtain ⟨hr3, hrb, hrk⟩ := keysP_round hR
          have hTX := HTX.out
          have hpw := HP.out
          by_cases h3 : y.kind = 3
          · have hb : ((y.kind : Int) == 3) = true := beq_iff_eq.2 h3
            have hb2 : ((y.kind : Int) != 3) = false := by simp [bne, hb]
            have hV := hr3 h3
            subst hV
            obtain ⟨ub, uc, rfl⟩ := hown.form
            obtain ⟨z0, z1, z2, z3⟩ := Blk4 hzr
            obtain ⟨g0, g1, g2, g3⟩ := Blk4f hzr
            obtain ⟨x0, x1, x2, x3⟩ := Blk4 hXb
            have HZR := Lib.hid hzr
            have HOWN := Lib.hid hown
            have HRS := Lib.hid hrs
            have HBUT := Lib.hid hbut
            clear hr3 hrb hrk h3 hR hrel hT hXb hown hrs hbut hzr
            go_wp2_with fail
            refine bodyPost_ret (blk_res (g := w.heap.size) rfl _ rfl (blk_set4 HZR.out) Tryz.underlying38 rfl (by rfl)) rfl ?_
            refine ⟨_, k1, rfl, rfl, hk1, ⟨_, rfl, ?_⟩, ?_, ?_⟩
            · exact ((((HOWN.out.setb (by omega) _ _).setb (by omega) _ _).setb (by omega) _ _).setb (by omega) _ _).mono (by omega)
            · exact ((((HRS.out.setn (q := w.heap.size) (o := 0) (by omega) _).setn (q := w.heap.size) (o := 1) (by omega) _).setn (q := w.heap.size) (o := 2) (by omega) _).setn (q := w.heap.size) (o := 3) (by omega) _)
            · exact ((((HBUT.out.setn (q := ⟨w.heap.size, 0, none⟩) (by dsimp only; omega) _).setn (q := ⟨w.heap.size, 1, none⟩) (by dsimp only; omega) _).setn (q := ⟨w.heap.size, 2, none⟩) (by dsimp only; omega) _).setn (q := ⟨w.heap.size, 3, none⟩) (by dsimp only; omega) _)
          · have hb : ((y.kind : Int) == 3) = false := beq_eq_false_iff_ne.2 h3
            have hb2 : ((y.kind : Int) != 3) = true := by simp [bne, hb]
            have HKA := Lib.hid (fun W (h : RS W p g sz ws k1) (hr : RdK W u acc) => key_any ⟨word, nm, acc, px⟩ u p g k1 sz ws y HWS.out hk1 (by dsimp only; have := HWS.out; omega) W h hr)
            obtain ⟨x0, x1, x2, x3⟩ := Blk4 hXb
            have HXT := Lib.hid (fun W (h : But p wr W) => (⟨Blk4 (h.blk hXb (by omega)), Blk4 (h.blk hT (by omega))⟩ : (_ ∧ _ ∧ _ ∧ _) ∧ _ ∧ _ ∧ _ ∧ _))
            have HXB := Lib.hid hXb
            have HTB := Lib.hid hT
            have hrsd := hrs.kept (sb_drew (Below.refl _ _))
            have hrdd := hown.rd.kept (sb_drew (Below.refl _ _))
            have HOWN := Lib.hid hown
            have HRS := Lib.hid hrs
            have HBUT := Lib.hid hbut
            have HZR := Lib.hid hzr
            cases hkp : keyP sz word acc y (ws.drop k1) with
            | bad e q =>
              have hV := hrb h3 e q hkp
              subst hV
              rw [hkp] at HKA
              clear hr3 hrb hrk h3 hR hrel hT hXb hown hrs hbut hzr hkp hk1 hal tf0 tf1 tf2 tf3
              unfold iagg wordW wordV at HKA
              go_wp2_with fail
              refine wp_region_held_drew (S := fun w' => (w'.cell? ⟨X, 0, none⟩ = some (.string word) ∧ w'.cell? ⟨X, 1, none⟩ = some (.string nm) ∧ w'.cell? ⟨X, 2, none⟩ = some u ∧ w'.cell? ⟨X, 3, none⟩ = some (.int .i64 px)) ∧ (w'.cell? ⟨T, 0, none⟩ = some (.int .i64 y.kind) ∧ w'.cell? ⟨T, 1, none⟩ = some (.string ⟨y.text.toArray⟩) ∧ w'.cell? ⟨T, 2, none⟩ = some (.int .i64 y.num) ∧ w'.cell? ⟨T, 3, none⟩ = some (.int .i64 y.pos))) (by kernel_rfl) (HXT.out _ (But.refl _ _).drew) (fun hHeld => ?_)
              try simp only [Act.put, List.setIfInBounds_toArray, List.set_cons_zero, List.set_cons_succ]
              refine wpAnyH_take (i := 0) (oi := { dst := some 33, op := Go.Op.fieldAddr 38 (Go.Operand.tmp 4) 2, type := 0, pos := "reader.go:75", after := #[], guard := none }) (v := ?v2_0) rfl (by kernel_rfl) (by kernel_rfl) (by kernel_rfl) (fun _ _ _ h => h) (Or.inl ⟨by rfl, ?hy2_0⟩) (by assumption) ?rest2_0
              case hy2_0 => ((intro w hSw; (try dsimp only at hSw); go_simp); (try (with_reducible rfl)))
              try simp only [Act.put, List.setIfInBounds_toArray, List.set_cons_zero, List.set_cons_succ]
              refine wpAnyH_take (i := 1) (oi := { dst := some 34, op := Go.Op.load 36 (Go.Operand.tmp 33), type := 36, pos := "reader.go:75", after := #[{ on := 0, ground := Go.Ground.data }], guard := none }) (v := ?v2_1) rfl (by kernel_rfl) (by kernel_rfl) (by kernel_rfl) (fun _ _ _ h => h) (Or.inl ⟨by rfl, ?hy2_1⟩) (by assumption) ?rest2_1
              case hy2_1 => ((intro w hSw; (try dsimp only at hSw); go_simp); (try (with_reducible rfl)))
              try simp only [Act.put, List.setIfInBounds_toArray, List.set_cons_zero, List.set_cons_succ]
              refine wpAnyH_take (i := 2) (oi := { dst := some 35, op := Go.Op.move (Go.Operand.tmp 0), type := 88, pos := "reader.go:75", after := #[], guard := none }) (v := ?v2_2) rfl (by kernel_rfl) (by kernel_rfl) (by kernel_rfl) (fun _ _ _ h => h) (Or.inl ⟨by rfl, ?hy2_2⟩) (by assumption) ?rest2_2
              case hy2_2 => ((intro w hSw; (try dsimp only at hSw); go_simp); (try (with_reducible rfl)))
              try simp only [Act.put, List.setIfInBounds_toArray, List.set_cons_zero, List.set_cons_succ]
              refine wpAnyH_take (i := 3) (oi := { dst := some 36, op := Go.Op.load 38 (Go.Operand.tmp 4), type := 38, pos := "reader.go:75", after := #[], guard := none }) (v := ?v2_3) rfl (by kernel_rfl) (by kernel_rfl) (by kernel_rfl) (fun _ _ _ h => h) (Or.inl ⟨by rfl, ?hy2_3⟩) (by assumption) ?rest2_3
              case hy2_3 => ((intro w hSw; (try dsimp only at hSw); go_simp); (try (with_reducible rfl)))
              try simp only [Act.put, List.setIfInBounds_toArray, List.set_cons_zero, List.set_cons_succ]
              refine wpAnyH_take (i := 4) (oi := { dst := some 37, op := Go.Op.load 64 (Go.Operand.tmp 3), type := 64, pos := "reader.go:75", after := #[], guard := none }) (v := ?v2_4) rfl (by kernel_rfl) (by kernel_rfl) (by kernel_rfl) (fun _ _ _ h => h) (Or.inl ⟨by rfl, ?hy2_4⟩) (by assumption) ?rest2_4
              case hy2_4 => ((intro w hSw; (try dsimp only at hSw); go_simp); (try (with_reducible rfl)))
              try simp only [Act.put, List.setIfInBounds_toArray, List.set_cons_zero, List.set_cons_succ]
              refine wpAnyH_ready (rs := [5]) (by kernel_rfl) (by simp) ?_
              refine AllReadyH.cons (o := { dst := some 38, op := Go.Op.call { callee := Go.Callee.value (Go.Operand.func 40), args := #[Go.Operand.tmp 35, Go.Operand.tmp 36, Go.Operand.tmp 37], argTypes := #[88, 38, 64] }, type := 41, pos := "reader.go:75", after := #[{ on := 2, ground := Go.Ground.data }, { on := 3, ground := Go.Ground.data }, { on := 4, ground := Go.Ground.data }], guard := none }) rfl (fun K hK => ?_) AllReadyH.nil
              go_simp
              refine (HKA.out _ hrsd hrdd).mono ?_
              rintro e w5 ⟨rfl, hbut5⟩
              exact ⟨rfl, rfl, HBUT.out.drew.trans hbut5⟩
            | ok kk rest =>
              have hle := keyP_len hkp
              have hnk := hrk h3 kk rest hkp
              rw [hkp] at HKA
              have HLE := Lib.hid hle
              have HNK := Lib.hid hnk
              clear hr3 hrb hrk h3 hR hrel hT hXb hown hrs hbut hzr hkp hle hnk tf0 tf1 tf2 tf3
              unfold iagg wordW wordV at HKA
              go_wp2_with fail
              refine wp_region_last (L := 9) (n := 9) (S := fun w' => (w'.cell? ⟨X, 0, none⟩ = some (.string word) ∧ w'.cell? ⟨X, 1, none⟩ = some (.string nm) ∧ w'.cell? ⟨X, 2, none⟩ = some u ∧ w'.cell? ⟨X, 3, none⟩ = some (.int .i64 px)) ∧ (w'.cell? ⟨T, 0, none⟩ = some (.int .i64 y.kind) ∧ w'.cell? ⟨T, 1, none⟩ = some (.string ⟨y.text.toArray⟩) ∧ w'.cell? ⟨T, 2, none⟩ = some (.int .i64 y.num) ∧ w'.cell? ⟨T, 3, none⟩ = some (.int .i64 y.pos))) (by kernel_rfl) (by kernel_rfl) rfl (HXT.out _ (But.refl _ _).drew) (fun hHeld => ?_)
              try simp only [Act.put, List.setIfInBounds_toArray, List.set_cons_zero, List.set_cons_succ]
              refine wpAnyH_take (i := 0) (oi := { dst := some 33, op := Go.Op.fieldAddr 38 (Go.Operand.tmp 4) 2, type := 0, pos := "reader.go:75", after := #[], guard := none }) (v := ?v3_0) rfl (by kernel_rfl) (by kernel_rfl) (by kernel_rfl) (fun _ _ _ h => h) (Or.inl ⟨by rfl, ?hy3_0⟩) (by assumption) ?rest3_0
              case hy3_0 => ((intro w hSw; (try dsimp only at hSw); go_simp); (try (with_reducible rfl)))
              try simp only [Act.put, List.setIfInBounds_toArray, List.set_cons_zero, List.set_cons_succ]
              refine wpAnyH_take (i := 1) (oi := { dst := some 34, op := Go.Op.load 36 (Go.Operand.tmp 33), type := 36, pos := "reader.go:75", after := #[{ on := 0, ground := Go.Ground.data }], guard := none }) (v := ?v3_1) rfl (by kernel_rfl) (by kernel_rfl) (by kernel_rfl) (fun _ _ _ h => h) (Or.inl ⟨by rfl, ?hy3_1⟩) (by assumption) ?rest3_1
              case hy3_1 => ((intro w hSw; (try dsimp only at hSw); go_simp); (try (with_reducible rfl)))
              try simp only [Act.put, List.setIfInBounds_toArray, List.set_cons_zero, List.set_cons_succ]
              refine wpAnyH_take (i := 2) (oi := { dst := some 35, op := Go.Op.move (Go.Operand.tmp 0), type := 88, pos := "reader.go:75", after := #[], guard := none }) (v := ?v3_2) rfl (by kernel_rfl) (by kernel_rfl) (by kernel_rfl) (fun _ _ _ h => h) (Or.inl ⟨by rfl, ?hy3_2⟩) (by assumption) ?rest3_2
              case hy3_2 => ((intro w hSw; (try dsimp only at hSw); go_simp); (try (with_reducible rfl)))
              try simp only [Act.put, List.setIfInBounds_toArray, List.set_cons_zero, List.set_cons_succ]
              refine wpAnyH_take (i := 3) (oi := { dst := some 36, op := Go.Op.load 38 (Go.Operand.tmp 4), type := 38, pos := "reader.go:75", after := #[], guard := none }) (v := ?v3_3) rfl (by kernel_rfl) (by kernel_rfl) (by kernel_rfl) (fun _ _ _ h => h) (Or.inl ⟨by rfl, ?hy3_3⟩) (by assumption) ?rest3_3
              case hy3_3 => ((intro w hSw; (try dsimp only at hSw); go_simp); (try (with_reducible rfl)))
              try simp only [Act.put, List.setIfInBounds_toArray, List.set_cons_zero, List.set_cons_succ]
              refine wpAnyH_take (i := 4) (oi := { dst := some 37, op := Go.Op.load 64 (Go.Operand.tmp 3), type := 64, pos := "reader.go:75", after := #[], guard := none }) (v := ?v3_4) rfl (by kernel_rfl) (by kernel_rfl) (by kernel_rfl) (fun _ _ _ h => h) (Or.inl ⟨by rfl, ?hy3_4⟩) (by assumption) ?rest3_4
              case hy3_4 => ((intro w hSw; (try dsimp only at hSw); go_simp); (try (with_reducible rfl)))
              try simp only [Act.put, List.setIfInBounds_toArray, List.set_cons_zero, List.set_cons_succ]
              refine wpAnyH_ready (rs := [5]) (by kernel_rfl) (by simp) ?_
              refine AllReadyH.cons (o := { dst := some 38, op := Go.Op.call { callee := Go.Callee.value (Go.Operand.func 40), args := #[Go.Operand.tmp 35, Go.Operand.tmp 36, Go.Operand.tmp 37], argTypes := #[88, 38, 64] }, type := 41, pos := "reader.go:75", after := #[{ on := 2, ground := Go.Ground.data }, { on := 3, ground := Go.Ground.data }, { on := 4, ground := Go.Ground.data }], guard := none }) rfl (fun K hK => ?_) AllReadyH.nil
              go_simp
              refine (HKA.out _ hrsd hrdd).mono ?_
              rintro e w5 ⟨v5, k2, rfl, hd5, hk5, ⟨u5, rfl, hov5⟩, hrs5, hbut5⟩
              unfold kagg
              have hXlt := HXB.out.lt
              have hown5 := (HOWN.out.kept (sb_drew (Below.refl _ _))).but (p := p) (by omega) hbut5
              obtain ⟨zs5, hl5, hr5, hz5⟩ := hown5
              obtain ⟨vb5, vc5, rfl⟩ := row_form hov5
              have HOV5 := Lib.hid (hov5.mono (N' := X + 1) (by show X + 1 ≤ wr.heap.size; omega))
              have hX5 := hbut5.blk (HXB.out.kept (sb_drew (Below.refl _ _))) (by omega)
              have hT5 := hbut5.blk (HTB.out.kept (sb_drew (Below.refl _ _))) (by omega)
              have HXT5 := Lib.hid (fun W (h : Below w5.heap.size w5 W) => (⟨Blk4 (hX5.kept h), Blk4 (hT5.kept h)⟩ : (_ ∧ _ ∧ _ ∧ _) ∧ _ ∧ _ ∧ _ ∧ _))
              have HX5 := Lib.hid hX5
              have HT5 := Lib.hid hT5
              have HZ5 := Lib.hid (hbut5.blk (HZR.out.kept (sb_drew (Below.refl _ _))) (by omega))
              have HR5 := Lib.hid hr5
              have HZS5 := Lib.hid hz5
              have HL5 := Lib.hid hl5
              have HRS5 := Lib.hid hrs5
              have HBUT5 := Lib.hid hbut5
              have HD5 := Lib.hid hd5
              have hX5lt := hX5.lt
              clear hov5 hX5 hT5 hr5 hz5 hl5 hrs5 hbut5 hd5
              go_simp
              refine hK.out _ _ (HXT5.out _ (Below.refl _ _)) (fun hHeld => ?_)
              clear hK K
              try simp only [Act.put, List.setIfInBounds_toArray, List.set_cons_zero, List.set_cons_succ]
              refine wpAnyH_ready (rs := [6]) (by kernel_rfl) (by simp) ?_
              refine AllReadyH.cons (o := { dst := some 39, op := Go.Op.buildSlice 36 1 #[(0, Go.Operand.tmp 38)], type := 36, pos := "reader.go:75", after := #[{ on := 5, ground := Go.Ground.data }], guard := none }) rfl (fun K hK => ?_) AllReadyH.nil
              go_simp
              refine hK.out _ _ (HXT5.out _ (sb_alloc (Below.refl _ _) _)) (fun hHeld => ?_)
              clear hK K
              try simp only [Act.put, List.setIfInBounds_toArray, List.set_cons_zero, List.set_cons_succ]
              refine wpAnyH_ready (rs := [7]) (by kernel_rfl) (by simp) ?_
              refine AllReadyH.cons (o := { dst := some 40, op := Go.Op.call { callee := Go.Callee.builtin Go.Builtin.append, args := #[Go.Operand.tmp 34, Go.Operand.tmp 39], argTypes := #[36, 36] }, type := 36, pos := "reader.go:75", after := #[{ on := 1, ground := Go.Ground.data }, { on := 6, ground := Go.Ground.data }, { on := 5, ground := Go.Ground.chain }], guard := none }) rfl (fun K hK => ?_) AllReadyH.nil
              refine step_append_n (by rfl) _ _ 36 (by rfl) 41 i0 (.agg #[.string ⟨#[]⟩, .slice none 0 0, .int .i64 0]) 3 48 Tryz.underlying36 hi hz0 hz1 hz2 rfl (by decide) (X + 1) _ acc.length (kcs acc zs5) (by rfl) (by exact World.ownsRow.alloc HR5.out _) _ [.string kk.key, .slice vb5 kk.vals.length vc5, .int .i64 kk.pos] (by rfl) rfl (fun u hu => by simp at hu; rcases hu with rfl | rfl | rfl <;> rfl) (by exact cells_news _ _ _) (by have := HWS.out; omega) (by have := HWS.out; omega) (by simp; omega) ?_
              intro v6 w6 hown6 hbl6 hg6
              obtain ⟨vb6, vc6, rfl⟩ := row_form hown6
              have hX6 := (HX5.out.alloc _).below hbl6 (Nat.lt_succ_self _)
              have hT6 := (HT5.out.alloc _).below hbl6 (by omega)
              have HZ6 := Lib.hid ((HZ5.out.alloc _).below hbl6 (by omega))
              obtain ⟨x0, x1, x2, x3⟩ := Blk4 hX6
              obtain ⟨f0, f1, f2, f3⟩ := Blk4f hX6
              have HXT6 := Lib.hid (⟨Blk4 hX6, Blk4 hT6⟩ : (_ ∧ _ ∧ _ ∧ _) ∧ _ ∧ _ ∧ _ ∧ _)
              have HX6 := Lib.hid hX6
              have HT6 := Lib.hid hT6
              have HKS6 := Lib.hid (show OwnKs 3 41 (X + 1) w6 (.slice vb6 (acc.length + 1) vc6) (acc ++ [kk]) from OwnKs.snoc HL5.out (World.ownsRow.alloc HR5.out _) (fun i k z a b => (HZS5.out i k z a b).kept (sb_alloc (Below.refl _ _) _)) (HOV5.out.kept (sb_alloc (Below.refl _ _) _)) (by decide) (by exact hg6) hown6)
              have HB7 := Lib.hid (show Below (X + 1) w5 w6 from ((Below.refl _ _).alloc (by omega) _).trans hbl6)
              clear hX6 hT6 hown6 hbl6 hg6
              refine hK.out _ _ (HXT6.out) (fun hHeld => ?_)
              clear hK K
              try simp only [Act.put, List.setIfInBounds_toArray, List.set_cons_zero, List.set_cons_succ]
              refine wpAnyH_take (i := 8) (oi := { dst := some 41, op := Go.Op.fieldAddr 38 (Go.Operand.tmp 4) 2, type := 0, pos := "reader.go:75", after := #[{ on := 0, ground := Go.Ground.phase }, { on := 1, ground := Go.Ground.phase }, { on := 2, ground := Go.Ground.phase }, { on := 3, ground := Go.Ground.phase }, { on := 4, ground := Go.Ground.phase }, { on := 5, ground := Go.Ground.phase }, { on := 6, ground := Go.Ground.phase }, { on := 7, ground := Go.Ground.phase }], guard := none }) (v := ?v3_8) rfl (by kernel_rfl) (by kernel_rfl) (by kernel_rfl) (fun _ _ _ h => h) (Or.inl ⟨by rfl, ?hy3_8⟩) (by assumption) ?rest3_8
              case hy3_8 => ((intro w hSw; (try dsimp only at hSw); go_simp); (try (with_reducible rfl)))
              try simp only [Act.put, List.setIfInBounds_toArray, List.set_cons_zero, List.set_cons_succ]
              refine wpAnyH_done (by kernel_rfl) ?_ _
              refine QLast.normal ?_
              refine wpOp_step (o := { dst := none, op := Go.Op.store 36 (Go.Operand.tmp 41) (Go.Operand.tmp 40), type := 0, pos := "reader.go:75", after := #[{ on := 8, ground := Go.Ground.data }, { on := 7, ground := Go.Ground.data }, { on := 7, ground := Go.Ground.chain }, { on := 0, ground := Go.Ground.phase }, { on := 1, ground := Go.Ground.phase }, { on := 2, ground := Go.Ground.phase }, { on := 3, ground := Go.Ground.phase }, { on := 4, ground := Go.Ground.phase }, { on := 5, ground := Go.Ground.phase }, { on := 6, ground := Go.Ground.phase }, { on := 7, ground := Go.Ground.phase }], guard := none }) rfl (fun K hK => ?_)
              go_simp
              refine hK _ _ ?_
              clear hK K
              have hd5 := HD5.out
              subst hd5
              have hle := HLE.out
              rw [List.length_drop, List.length_drop] at hle
              have HRS7 := Lib.hid ((HRS5.out.below (N := X + 1) (by omega) HB7.out).setn (q := X) (o := 2) (by omega) (.slice vb6 (acc.length + 1) vc6))
              have HBUT7 := Lib.hid (((HBUT.out.drew.trans HBUT5.out).thenB HB7.out (by omega)).setn (q := ⟨X, 2, none⟩) (by dsimp only; omega) (.slice vb6 (acc.length + 1) vc6))
              have HT7 := Lib.hid (HT6.out.other (a := ⟨X, 2, none⟩) (.slice vb6 (acc.length + 1) vc6) (by dsimp only; omega))
              have HZ7 := Lib.hid (HZ6.out.other (a := ⟨X, 2, none⟩) (.slice vb6 (acc.length + 1) vc6) (by dsimp only; omega))
              have HX7 : Hid (Blk (w6.setCell ⟨X, 2, none⟩ (.slice vb6 (acc.length + 1) vc6)) X #[.string word, .string nm, .slice vb6 (acc.length + 1) vc6, .int .i64 px]) := Lib.hid (HX6.out.set 2 (.slice vb6 (acc.length + 1) vc6))
              have HKS7 := Lib.hid (HKS6.out.setb (q := X) (by omega) 2 (.slice vb6 (acc.length + 1) vc6))
              clear x0 x1 x2 x3 f0 f1 f2 f3 HXT6 HX6 HT6 HKS6 HB7 HD5 HLE hrsd hrdd HXT HXT5 HX5 HT5 HZ5 HZ6 HR5 HZS5 HL5 HRS5 HBUT5 HOV5 HKA hHeld t0 t1 t2 t3
              by_cases hk3 : k2 < ws.length
              · obtain ⟨y2, hy2⟩ := HX2.out k2 hk3
                have HN2 := Lib.hid (fun W h => HNX.out k2 y2 hy2 W h)
                have hnk := HNK.out
                rw [drop_at hy2] at hnk
                have HNK2 := Lib.hid (show keysP sz ⟨word, nm, acc ++ [kk], px⟩ (y2 :: ws.drop (k2 + 1)) = R from hnk)
                clear hnk HNK hy2
                try unfold wordW wordV at HN2
                go_wp2_with fail
                refine (HN2.out _ HRS7.out).mono ?_
                rintro e w8 ⟨rfl, hrs8, hbut8⟩
                have hX8 := hbut8.blk HX7.out (by omega)
                have hT8 := hbut8.blk HT7.out (by omega)
                have hZ8 := hbut8.blk HZ7.out (by omega)
                have hK8 := HKS7.out.but (p := p) (by omega) hbut8
                have hB8 := HBUT7.out.trans hbut8
                obtain ⟨t0, t1, t2, t3⟩ := Blk4 hT8
                obtain ⟨f0, f1, f2, f3⟩ := Blk4f hT8
                have HX8 := Lib.hid hX8
                have HT8 := Lib.hid hT8
                have HZ8 := Lib.hid hZ8
                have HK8 := Lib.hid hK8
                have HB8 := Lib.hid hB8
                have HRS8 := Lib.hid hrs8
                clear hX8 hT8 hZ8 hK8 hB8 hrs8 hbut8 HRS7 HBUT7 HT7 HZ7 HX7 HKS7
                go_wp2_with fail
                go_roundw
                case rel =>
                  refine Lib.hid ⟨y2, k2 + 1, acc ++ [kk], _, HNK2.out, by omega, by simp; omega, blk_set4 HT8.out, (((HX8.out.other (a := ⟨T, 0, none⟩) _ (by dsimp only; omega)).other (a := ⟨T, 1, none⟩) _ (by dsimp only; omega)).other (a := ⟨T, 2, none⟩) _ (by dsimp only; omega)).other (a := ⟨T, 3, none⟩) _ (by dsimp only; omega), (((HK8.out.setb (q := T) (by omega) _ _).setb (q := T) (by omega) _ _).setb (q := T) (by omega) _ _).setb (q := T) (by omega) _ _, (((HRS8.out.setn (q := T) (o := 0) (by omega) _).setn (q := T) (o := 1) (by omega) _).setn (q := T) (o := 2) (by omega) _).setn (q := T) (o := 3) (by omega) _, (((HB8.out.setn (q := ⟨T, 0, none⟩) (by dsimp only; omega) _).setn (q := ⟨T, 1, none⟩) (by dsimp only; omega) _).setn (q := ⟨T, 2, none⟩) (by dsimp only; omega) _).setn (q := ⟨T, 3, none⟩) (by dsimp only; omega) _, (((HZ8.out.other (a := ⟨T, 0, none⟩) _ (by dsimp only; omega)).other (a := ⟨T, 1, none⟩) _ (by dsimp only; omega)).other (a := ⟨T, 2, none⟩) _ (by dsimp only; omega)).other (a := ⟨T, 3, none⟩) _ (by dsimp only; omega)⟩
                case measure =>
                  rw [((((HRS8.out.setn (q := T) (o := 0) (by omega) _).setn (q := T) (o := 1) (by omega) _).setn (q := T) (o := 2) (by omega) _).setn (q := T) (o := 3) (by omega) _).left, HRS.out.left]
                  omega
              · have hke : k2 = ws.length := by omega
                have hnk := HNK.out
                rw [hke, List.drop_length, keysP_nil] at hnk
                rw [hke] at HRS7
                subst hnk
                go_wp2_with fail
                refine (HNN.out _ HRS7.out).mono ?_
                rintro e w8 ⟨rfl, q8⟩
                exact ⟨rfl, rfl, HBUT7.out.trans (But.of q8)⟩
      · have hke : kx = ws.length := by omega
        have hsp1 := HSP.out
        rw [hke, List.drop_length, keysP_nil] at hsp1
        rw [hke] at HRSb
        subst hsp1
        clear HSP
        go_wp2_with fail
        refine (HNN.out _ HRSb.out).mono ?_
        rintro e w5 ⟨rfl, q5⟩
        exact ⟨rfl, rfl, HBb.out.trans (But.of q5)⟩
    · rw [show (if bs y0.text = bTable then _ else _) = _ from if_neg htab] at hsp
      have HNM := Lib.hid (fun W => named_f ⟨y0.text.toArray⟩ htab W)
      have HSP0 := Lib.hid hsp
      clear hsp htab
      refine (HNM.out _).mono ?_
      rintro e w5 ⟨rfl, rfl⟩
      generalize w4.alloc (.cells #[.string ⟨y0.text.toArray⟩, .string ⟨#[]⟩, .slice none 0 0, .int .i64 y0.pos] 38) = Wa at *
      clear HNM
      have hkb := HK0.out
      by_cases hk1 : k + 1 < ws.length
      · obtain ⟨yn, hyn⟩ := HX.out (k + 1) hk1
        have hsp1 := HSP0.out
        rw [drop_at hyn] at hsp1
        dsimp only at hsp1
        by_cases hkd : yn.kind = 1
        · rw [if_pos hkd] at hsp1
          have HNO := Lib.hid (fun W h => nextOf_ok 1 p g (k + 1) sz ws yn hyn HWS.out hkd W h)
          have HSP := Lib.hid hsp1
          have HK1 := Lib.hid (show k + 2 ≤ ws.length by omega)
          clear hsp1 HSP0 hkd hyn hk1
          unfold wordW wordV at HNO
          have hft := field_text
          go_wp2_with fail
          refine (HNO.out _ HRSb.out).mono ?_
          rintro e w5 ⟨rfl, hrs5, hbut5⟩
          have hpw := HP.out
          have htx := HTX.out
          have hX5 := hbut5.blk HXb.out (by omega)
          have HXc := Lib.hid (hX5.set 1 (.string ⟨yn.text.toArray⟩))
          have HTc := Lib.hid ((hbut5.blk HTb.out (by omega)).other (a := ⟨w4.heap.size, 1, none⟩) (.string ⟨yn.text.toArray⟩) (by dsimp only; omega))
          have HZc := Lib.hid ((hbut5.blk HZb.out (by omega)).other (a := ⟨w4.heap.size, 1, none⟩) (.string ⟨yn.text.toArray⟩) (by dsimp only; omega))
          have HRSc := Lib.hid (hrs5.setn (q := w4.heap.size) (o := 1) (by omega) (.string ⟨yn.text.toArray⟩))
          have HBc := Lib.hid ((HBb.out.trans hbut5).setn (q := ⟨w4.heap.size, 1, none⟩) (by dsimp only; omega) (.string ⟨yn.text.toArray⟩))
          obtain ⟨x0, x1, x2, x3⟩ := Blk4 hX5
          obtain ⟨f0, f1, f2, f3⟩ := Blk4f hX5
          clear hrs5 hbut5 hX5 hpw htx HRSb HTb HZb HBb HXb
          go_wp2_with fail
          generalize w5.setCell ⟨w4.heap.size, 1, none⟩ (.string ⟨yn.text.toArray⟩) = Wb at *
          have HRSb := HRSc
          have HTb := HTc
          have HZb := HZc
          have HBb := HBc
          have HXb : Hid (Blk Wb w4.heap.size #[.string ⟨y0.text.toArray⟩, .string ⟨yn.text.toArray⟩, .slice none 0 0, .int .i64 y0.pos]) := HXc
          have hkx := HK1.out
          clear HRSc HTc HZc HBc HXc HNO HK0 HK1 hkb x0 x1 x2 x3 f0 f1 f2 f3 hft
          rw [show k + 1 + 1 = k + 2 from rfl] at *
          generalize hkxe : k + 2 = kx at *
          clear hkxe
          unfold bs at HSP
          generalize hnme : (⟨yn.text.toArray⟩ : ByteArray) = nm at HSP HXb
          have HX2 := HX
          generalize (⟨y0.text.toArray⟩ : ByteArray) = word at *
          generalize ((y0.pos : Nat) : Int) = px at *
          generalize hTe : w1.heap.size = T at *
          generalize hXe : w4.heap.size = X at *
          clear hTe hXe hnme
          by_cases hk2 : kx < ws.length
          · obtain ⟨y1, hy1⟩ := HX.out kx hk2
            have HN1 := Lib.hid (fun W h => HNX.out kx y1 hy1 W h)
            have hsp1 := HSP.out
            rw [drop_at hy1] at hsp1
            have HS1 := Lib.hid hsp1.symm
            have HKX := Lib.hid (show kx + 1 ≤ ws.length by omega)
            clear hsp1 HSP hy1 hk2 hkx
            try unfold wordW wordV at HN1
            go_wp2_with fail
            refine (HN1.out _ HRSb.out).mono ?_
            rintro e w6 ⟨rfl, hrs6, hbut6⟩
            have hpw := HP.out
            have htx := HTX.out
            have hT6 := hbut6.blk HTb.out (by omega)
            obtain ⟨t0, t1, t2, t3⟩ := Blk4 hT6
            obtain ⟨f0, f1, f2, f3⟩ := Blk4f hT6
            have HE : Hid (∃ (y : W) (k1 : Nat) (acc : List K) (u : Value), keysP sz ⟨word, nm, acc, px⟩ (y :: ws.drop k1) = R ∧ k1 ≤ ws.length ∧ acc.length ≤ k1 ∧ Blk ((((w6.setCell ⟨T, 0, none⟩ (.int .i64 y1.kind)).setCell ⟨T, 1, none⟩ (.string ⟨y1.text.toArray⟩)).setCell ⟨T, 2, none⟩ (.int .i64 y1.num)).setCell ⟨T, 3, none⟩ (.int .i64 y1.pos)) T #[.int .i64 y.kind, .string ⟨y.text.toArray⟩, .int .i64 y.num, .int .i64 y.pos] ∧ Blk ((((w6.setCell ⟨T, 0, none⟩ (.int .i64 y1.kind)).setCell ⟨T, 1, none⟩ (.string ⟨y1.text.toArray⟩)).setCell ⟨T, 2, none⟩ (.int .i64 y1.num)).setCell ⟨T, 3, none⟩ (.int .i64 y1.pos)) X #[.string word, .string nm, u, .int .i64 px] ∧ OwnKs 3 41 (X + 1) ((((w6.setCell ⟨T, 0, none⟩ (.int .i64 y1.kind)).setCell ⟨T, 1, none⟩ (.string ⟨y1.text.toArray⟩)).setCell ⟨T, 2, none⟩ (.int .i64 y1.num)).setCell ⟨T, 3, none⟩ (.int .i64 y1.pos)) u acc ∧ RS ((((w6.setCell ⟨T, 0, none⟩ (.int .i64 y1.kind)).setCell ⟨T, 1, none⟩ (.string ⟨y1.text.toArray⟩)).setCell ⟨T, 2, none⟩ (.int .i64 y1.num)).setCell ⟨T, 3, none⟩ (.int .i64 y1.pos)) p g sz ws k1 ∧ But p w ((((w6.setCell ⟨T, 0, none⟩ (.int .i64 y1.kind)).setCell ⟨T, 1, none⟩ (.string ⟨y1.text.toArray⟩)).setCell ⟨T, 2, none⟩ (.int .i64 y1.num)).setCell ⟨T, 3, none⟩ (.int .i64 y1.pos)) ∧ Blk ((((w6.setCell ⟨T, 0, none⟩ (.int .i64 y1.kind)).setCell ⟨T, 1, none⟩ (.string ⟨y1.text.toArray⟩)).setCell ⟨T, 2, none⟩ (.int .i64 y1.num)).setCell ⟨T, 3, none⟩ (.int .i64 y1.pos)) w.heap.size #[.string ⟨#[]⟩, .string ⟨#[]⟩, .slice none 0 0, .int .i64 0]) :=
              Lib.hid ⟨y1, kx + 1, [], .slice none 0 0, HS1.out, HKX.out, Nat.zero_le _, blk_set4 hT6, ((((hbut6.blk HXb.out (by omega)).other (a := ⟨T, 0, none⟩) _ (by dsimp only; omega)).other (a := ⟨T, 1, none⟩) _ (by dsimp only; omega)).other (a := ⟨T, 2, none⟩) _ (by dsimp only; omega)).other (a := ⟨T, 3, none⟩) _ (by dsimp only; omega), OwnKs.nil _ _ _ _, (((hrs6.setn (q := T) (o := 0) (by omega) _).setn (q := T) (o := 1) (by omega) _).setn (q := T) (o := 2) (by omega) _).setn (q := T) (o := 3) (by omega) _, ((((HBb.out.trans hbut6).setn (q := ⟨T, 0, none⟩) (by dsimp only; omega) _).setn (q := ⟨T, 1, none⟩) (by dsimp only; omega) _).setn (q := ⟨T, 2, none⟩) (by dsimp only; omega) _).setn (q := ⟨T, 3, none⟩) (by dsimp only; omega) _, ((((hbut6.blk HZb.out (by omega)).other (a := ⟨T, 0, none⟩) _ (by dsimp only; omega)).other (a := ⟨T, 1, none⟩) _ (by dsimp only; omega)).other (a := ⟨T, 2, none⟩) _ (by dsimp only; omega)).other (a := ⟨T, 3, none⟩) _ (by dsimp only; omega)⟩
            clear hrs6 hbut6 hT6 hpw htx HRSb HTb HZb HBb HXb HN1 HS1 HKX
            go_wp2_with fail
            clear t0 t1 t2 t3 f0 f1 f2 f3
            go_loopw [] (fun wr => Hid (∃ (y : W) (k1 : Nat) (acc : List K) (u : Value), keysP sz ⟨word, nm, acc, px⟩ (y :: ws.drop k1) = R ∧ k1 ≤ ws.length ∧ acc.length ≤ k1 ∧ Blk wr T #[.int .i64 y.kind, .string ⟨y.text.toArray⟩, .int .i64 y.num, .int .i64 y.pos] ∧ Blk wr X #[.string word, .string nm, u, .int .i64 px] ∧ OwnKs 3 41 (X + 1) wr u acc ∧ RS wr p g sz ws k1 ∧ But p w wr ∧ Blk wr w.heap.size #[.string ⟨#[]⟩, .string ⟨#[]⟩, .slice none 0 0, .int .i64 0])) (fun wr => wleft wr p)
            case atStart => exact HE
            case round =>
              clear HE
              obtain ⟨y, k1, acc, u, hR, hk1, hal, hT, hXb, hown, hrs, hbut, hzr⟩ := hrel.out
              obtain ⟨t0, t1, t2, t3⟩ := Blk4 hT
              obtain ⟨tf0, tf1, tf2, tf3⟩ := Blk4f hT
              obtain ⟨hr3, hrb, hrk⟩ := keysP_round hR
              have hTX := HTX.out
              have hpw := HP.out
              by_cases h3 : y.kind = 3
              · have hb : ((y.kind : Int) == 3) = true := beq_iff_eq.2 h3
                have hb2 : ((y.kind : Int) != 3) = false := by simp [bne, hb]
                have hV := hr3 h3
                subst hV
                obtain ⟨ub, uc, rfl⟩ := hown.form
                obtain ⟨z0, z1, z2, z3⟩ := Blk4 hzr
                obtain ⟨g0, g1, g2, g3⟩ := Blk4f hzr
                obtain ⟨x0, x1, x2, x3⟩ := Blk4 hXb
                have HZR := Lib.hid hzr
                have HOWN := Lib.hid hown
                have HRS := Lib.hid hrs
                have HBUT := Lib.hid hbut
                clear hr3 hrb hrk h3 hR hrel hT hXb hown hrs hbut hzr
                go_wp2_with fail
                refine bodyPost_ret (blk_res (g := w.heap.size) rfl _ rfl (blk_set4 HZR.out) Tryz.underlying38 rfl (by rfl)) rfl ?_
                refine ⟨_, k1, rfl, rfl, hk1, ⟨_, rfl, ?_⟩, ?_, ?_⟩
                · exact ((((HOWN.out.setb (by omega) _ _).setb (by omega) _ _).setb (by omega) _ _).setb (by omega) _ _).mono (by omega)
                · exact ((((HRS.out.setn (q := w.heap.size) (o := 0) (by omega) _).setn (q := w.heap.size) (o := 1) (by omega) _).setn (q := w.heap.size) (o := 2) (by omega) _).setn (q := w.heap.size) (o := 3) (by omega) _)
                · exact ((((HBUT.out.setn (q := ⟨w.heap.size, 0, none⟩) (by dsimp only; omega) _).setn (q := ⟨w.heap.size, 1, none⟩) (by dsimp only; omega) _).setn (q := ⟨w.heap.size, 2, none⟩) (by dsimp only; omega) _).setn (q := ⟨w.heap.size, 3, none⟩) (by dsimp only; omega) _)
              · have hb : ((y.kind : Int) == 3) = false := beq_eq_false_iff_ne.2 h3
                have hb2 : ((y.kind : Int) != 3) = true := by simp [bne, hb]
                have HKA := Lib.hid (fun W (h : RS W p g sz ws k1) (hr : RdK W u acc) => key_any ⟨word, nm, acc, px⟩ u p g k1 sz ws y HWS.out hk1 (by dsimp only; have := HWS.out; omega) W h hr)
                obtain ⟨x0, x1, x2, x3⟩ := Blk4 hXb
                have HXT := Lib.hid (fun W (h : But p wr W) => (⟨Blk4 (h.blk hXb (by omega)), Blk4 (h.blk hT (by omega))⟩ : (_ ∧ _ ∧ _ ∧ _) ∧ _ ∧ _ ∧ _ ∧ _))
                have HXB := Lib.hid hXb
                have HTB := Lib.hid hT
                have hrsd := hrs.kept (sb_drew (Below.refl _ _))
                have hrdd := hown.rd.kept (sb_drew (Below.refl _ _))
                have HOWN := Lib.hid hown
                have HRS := Lib.hid hrs
                have HBUT := Lib.hid hbut
                have HZR := Lib.hid hzr
                cases hkp : keyP sz word acc y (ws.drop k1) with
                | bad e q =>
                  have hV := hrb h3 e q hkp
                  subst hV
                  rw [hkp] at HKA
                  clear hr3 hrb hrk h3 hR hrel hT hXb hown hrs hbut hzr hkp hk1 hal tf0 tf1 tf2 tf3
                  unfold iagg wordW wordV at HKA
                  go_wp2_with fail
                  refine wp_region_held_drew (S := fun w' => (w'.cell? ⟨X, 0, none⟩ = some (.string word) ∧ w'.cell? ⟨X, 1, none⟩ = some (.string nm) ∧ w'.cell? ⟨X, 2, none⟩ = some u ∧ w'.cell? ⟨X, 3, none⟩ = some (.int .i64 px)) ∧ (w'.cell? ⟨T, 0, none⟩ = some (.int .i64 y.kind) ∧ w'.cell? ⟨T, 1, none⟩ = some (.string ⟨y.text.toArray⟩) ∧ w'.cell? ⟨T, 2, none⟩ = some (.int .i64 y.num) ∧ w'.cell? ⟨T, 3, none⟩ = some (.int .i64 y.pos))) (by kernel_rfl) (HXT.out _ (But.refl _ _).drew) (fun hHeld => ?_)
                  try simp only [Act.put, List.setIfInBounds_toArray, List.set_cons_zero, List.set_cons_succ]
                  refine wpAnyH_take (i := 0) (oi := { dst := some 33, op := Go.Op.fieldAddr 38 (Go.Operand.tmp 4) 2, type := 0, pos := "reader.go:75", after := #[], guard := none }) (v := ?v4_0) rfl (by kernel_rfl) (by kernel_rfl) (by kernel_rfl) (fun _ _ _ h => h) (Or.inl ⟨by rfl, ?hy4_0⟩) (by assumption) ?rest4_0
                  case hy4_0 => ((intro w hSw; (try dsimp only at hSw); go_simp); (try (with_reducible rfl)))
                  try simp only [Act.put, List.setIfInBounds_toArray, List.set_cons_zero, List.set_cons_succ]
                  refine wpAnyH_take (i := 1) (oi := { dst := some 34, op := Go.Op.load 36 (Go.Operand.tmp 33), type := 36, pos := "reader.go:75", after := #[{ on := 0, ground := Go.Ground.data }], guard := none }) (v := ?v4_1) rfl (by kernel_rfl) (by kernel_rfl) (by kernel_rfl) (fun _ _ _ h => h) (Or.inl ⟨by rfl, ?hy4_1⟩) (by assumption) ?rest4_1
                  case hy4_1 => ((intro w hSw; (try dsimp only at hSw); go_simp); (try (with_reducible rfl)))
                  try simp only [Act.put, List.setIfInBounds_toArray, List.set_cons_zero, List.set_cons_succ]
                  refine wpAnyH_take (i := 2) (oi := { dst := some 35, op := Go.Op.move (Go.Operand.tmp 0), type := 88, pos := "reader.go:75", after := #[], guard := none }) (v := ?v4_2) rfl (by kernel_rfl) (by kernel_rfl) (by kernel_rfl) (fun _ _ _ h => h) (Or.inl ⟨by rfl, ?hy4_2⟩) (by assumption) ?rest4_2
                  case hy4_2 => ((intro w hSw; (try dsimp only at hSw); go_simp); (try (with_reducible rfl)))
                  try simp only [Act.put, List.setIfInBounds_toArray, List.set_cons_zero, List.set_cons_succ]
                  refine wpAnyH_take (i := 3) (oi := { dst := some 36, op := Go.Op.load 38 (Go.Operand.tmp 4), type := 38, pos := "reader.go:75", after := #[], guard := none }) (v := ?v4_3) rfl (by kernel_rfl) (by kernel_rfl) (by kernel_rfl) (fun _ _ _ h => h) (Or.inl ⟨by rfl, ?hy4_3⟩) (by assumption) ?rest4_3
                  case hy4_3 => ((intro w hSw; (try dsimp only at hSw); go_simp); (try (with_reducible rfl)))
                  try simp only [Act.put, List.setIfInBounds_toArray, List.set_cons_zero, List.set_cons_succ]
                  refine wpAnyH_take (i := 4) (oi := { dst := some 37, op := Go.Op.load 64 (Go.Operand.tmp 3), type := 64, pos := "reader.go:75", after := #[], guard := none }) (v := ?v4_4) rfl (by kernel_rfl) (by kernel_rfl) (by kernel_rfl) (fun _ _ _ h => h) (Or.inl ⟨by rfl, ?hy4_4⟩) (by assumption) ?rest4_4
                  case hy4_4 => ((intro w hSw; (try dsimp only at hSw); go_simp); (try (with_reducible rfl)))
                  try simp only [Act.put, List.setIfInBounds_toArray, List.set_cons_zero, List.set_cons_succ]
                  refine wpAnyH_ready (rs := [5]) (by kernel_rfl) (by simp) ?_
                  refine AllReadyH.cons (o := { dst := some 38, op := Go.Op.call { callee := Go.Callee.value (Go.Operand.func 40), args := #[Go.Operand.tmp 35, Go.Operand.tmp 36, Go.Operand.tmp 37], argTypes := #[88, 38, 64] }, type := 41, pos := "reader.go:75", after := #[{ on := 2, ground := Go.Ground.data }, { on := 3, ground := Go.Ground.data }, { on := 4, ground := Go.Ground.data }], guard := none }) rfl (fun K hK => ?_) AllReadyH.nil
                  go_simp
                  refine (HKA.out _ hrsd hrdd).mono ?_
                  rintro e w5 ⟨rfl, hbut5⟩
                  exact ⟨rfl, rfl, HBUT.out.drew.trans hbut5⟩
                | ok kk rest =>
                  have hle := keyP_len hkp
                  have hnk := hrk h3 kk rest hkp
                  rw [hkp] at HKA
                  have HLE := Lib.hid hle
                  have HNK := Lib.hid hnk
                  clear hr3 hrb hrk h3 hR hrel hT hXb hown hrs hbut hzr hkp hle hnk tf0 tf1 tf2 tf3
                  unfold iagg wordW wordV at HKA
                  go_wp2_with fail
                  refine wp_region_last (L := 9) (n := 9) (S := fun w' => (w'.cell? ⟨X, 0, none⟩ = some (.string word) ∧ w'.cell? ⟨X, 1, none⟩ = some (.string nm) ∧ w'.cell? ⟨X, 2, none⟩ = some u ∧ w'.cell? ⟨X, 3, none⟩ = some (.int .i64 px)) ∧ (w'.cell? ⟨T, 0, none⟩ = some (.int .i64 y.kind) ∧ w'.cell? ⟨T, 1, none⟩ = some (.string ⟨y.text.toArray⟩) ∧ w'.cell? ⟨T, 2, none⟩ = some (.int .i64 y.num) ∧ w'.cell? ⟨T, 3, none⟩ = some (.int .i64 y.pos))) (by kernel_rfl) (by kernel_rfl) rfl (HXT.out _ (But.refl _ _).drew) (fun hHeld => ?_)
                  try simp only [Act.put, List.setIfInBounds_toArray, List.set_cons_zero, List.set_cons_succ]
                  refine wpAnyH_take (i := 0) (oi := { dst := some 33, op := Go.Op.fieldAddr 38 (Go.Operand.tmp 4) 2, type := 0, pos := "reader.go:75", after := #[], guard := none }) (v := ?v5_0) rfl (by kernel_rfl) (by kernel_rfl) (by kernel_rfl) (fun _ _ _ h => h) (Or.inl ⟨by rfl, ?hy5_0⟩) (by assumption) ?rest5_0
                  case hy5_0 => ((intro w hSw; (try dsimp only at hSw); go_simp); (try (with_reducible rfl)))
                  try simp only [Act.put, List.setIfInBounds_toArray, List.set_cons_zero, List.set_cons_succ]
                  refine wpAnyH_take (i := 1) (oi := { dst := some 34, op := Go.Op.load 36 (Go.Operand.tmp 33), type := 36, pos := "reader.go:75", after := #[{ on := 0, ground := Go.Ground.data }], guard := none }) (v := ?v5_1) rfl (by kernel_rfl) (by kernel_rfl) (by kernel_rfl) (fun _ _ _ h => h) (Or.inl ⟨by rfl, ?hy5_1⟩) (by assumption) ?rest5_1
                  case hy5_1 => ((intro w hSw; (try dsimp only at hSw); go_simp); (try (with_reducible rfl)))
                  try simp only [Act.put, List.setIfInBounds_toArray, List.set_cons_zero, List.set_cons_succ]
                  refine wpAnyH_take (i := 2) (oi := { dst := some 35, op := Go.Op.move (Go.Operand.tmp 0), type := 88, pos := "reader.go:75", after := #[], guard := none }) (v := ?v5_2) rfl (by kernel_rfl) (by kernel_rfl) (by kernel_rfl) (fun _ _ _ h => h) (Or.inl ⟨by rfl, ?hy5_2⟩) (by assumption) ?rest5_2
                  case hy5_2 => ((intro w hSw; (try dsimp only at hSw); go_simp); (try (with_reducible rfl)))
                  try simp only [Act.put, List.setIfInBounds_toArray, List.set_cons_zero, List.set_cons_succ]
                  refine wpAnyH_take (i := 3) (oi := { dst := some 36, op := Go.Op.load 38 (Go.Operand.tmp 4), type := 38, pos := "reader.go:75", after := #[], guard := none }) (v := ?v5_3) rfl (by kernel_rfl) (by kernel_rfl) (by kernel_rfl) (fun _ _ _ h => h) (Or.inl ⟨by rfl, ?hy5_3⟩) (by assumption) ?rest5_3
                  case hy5_3 => ((intro w hSw; (try dsimp only at hSw); go_simp); (try (with_reducible rfl)))
                  try simp only [Act.put, List.setIfInBounds_toArray, List.set_cons_zero, List.set_cons_succ]
                  refine wpAnyH_take (i := 4) (oi := { dst := some 37, op := Go.Op.load 64 (Go.Operand.tmp 3), type := 64, pos := "reader.go:75", after := #[], guard := none }) (v := ?v5_4) rfl (by kernel_rfl) (by kernel_rfl) (by kernel_rfl) (fun _ _ _ h => h) (Or.inl ⟨by rfl, ?hy5_4⟩) (by assumption) ?rest5_4
                  case hy5_4 => ((intro w hSw; (try dsimp only at hSw); go_simp); (try (with_reducible rfl)))
                  try simp only [Act.put, List.setIfInBounds_toArray, List.set_cons_zero, List.set_cons_succ]
                  refine wpAnyH_ready (rs := [5]) (by kernel_rfl) (by simp) ?_
                  refine AllReadyH.cons (o := { dst := some 38, op := Go.Op.call { callee := Go.Callee.value (Go.Operand.func 40), args := #[Go.Operand.tmp 35, Go.Operand.tmp 36, Go.Operand.tmp 37], argTypes := #[88, 38, 64] }, type := 41, pos := "reader.go:75", after := #[{ on := 2, ground := Go.Ground.data }, { on := 3, ground := Go.Ground.data }, { on := 4, ground := Go.Ground.data }], guard := none }) rfl (fun K hK => ?_) AllReadyH.nil
                  go_simp
                  refine (HKA.out _ hrsd hrdd).mono ?_
                  rintro e w5 ⟨v5, k2, rfl, hd5, hk5, ⟨u5, rfl, hov5⟩, hrs5, hbut5⟩
                  unfold kagg
                  have hXlt := HXB.out.lt
                  have hown5 := (HOWN.out.kept (sb_drew (Below.refl _ _))).but (p := p) (by omega) hbut5
                  obtain ⟨zs5, hl5, hr5, hz5⟩ := hown5
                  obtain ⟨vb5, vc5, rfl⟩ := row_form hov5
                  have HOV5 := Lib.hid (hov5.mono (N' := X + 1) (by show X + 1 ≤ wr.heap.size; omega))
                  have hX5 := hbut5.blk (HXB.out.kept (sb_drew (Below.refl _ _))) (by omega)
                  have hT5 := hbut5.blk (HTB.out.kept (sb_drew (Below.refl _ _))) (by omega)
                  have HXT5 := Lib.hid (fun W (h : Below w5.heap.size w5 W) => (⟨Blk4 (hX5.kept h), Blk4 (hT5.kept h)⟩ : (_ ∧ _ ∧ _ ∧ _) ∧ _ ∧ _ ∧ _ ∧ _))
                  have HX5 := Lib.hid hX5
                  have HT5 := Lib.hid hT5
                  have HZ5 := Lib.hid (hbut5.blk (HZR.out.kept (sb_drew (Below.refl _ _))) (by omega))
                  have HR5 := Lib.hid hr5
                  have HZS5 := Lib.hid hz5
                  have HL5 := Lib.hid hl5
                  have HRS5 := Lib.hid hrs5
                  have HBUT5 := Lib.hid hbut5
                  have HD5 := Lib.hid hd5
                  have hX5lt := hX5.lt
                  clear hov5 hX5 hT5 hr5 hz5 hl5 hrs5 hbut5 hd5
                  go_simp
                  refine hK.out _ _ (HXT5.out _ (Below.refl _ _)) (fun hHeld => ?_)
                  clear hK K
                  try simp only [Act.put, List.setIfInBounds_toArray, List.set_cons_zero, List.set_cons_succ]
                  refine wpAnyH_ready (rs := [6]) (by kernel_rfl) (by simp) ?_
                  refine AllReadyH.cons (o := { dst := some 39, op := Go.Op.buildSlice 36 1 #[(0, Go.Operand.tmp 38)], type := 36, pos := "reader.go:75", after := #[{ on := 5, ground := Go.Ground.data }], guard := none }) rfl (fun K hK => ?_) AllReadyH.nil
                  go_simp
                  refine hK.out _ _ (HXT5.out _ (sb_alloc (Below.refl _ _) _)) (fun hHeld => ?_)
                  clear hK K
                  try simp only [Act.put, List.setIfInBounds_toArray, List.set_cons_zero, List.set_cons_succ]
                  refine wpAnyH_ready (rs := [7]) (by kernel_rfl) (by simp) ?_
                  refine AllReadyH.cons (o := { dst := some 40, op := Go.Op.call { callee := Go.Callee.builtin Go.Builtin.append, args := #[Go.Operand.tmp 34, Go.Operand.tmp 39], argTypes := #[36, 36] }, type := 36, pos := "reader.go:75", after := #[{ on := 1, ground := Go.Ground.data }, { on := 6, ground := Go.Ground.data }, { on := 5, ground := Go.Ground.chain }], guard := none }) rfl (fun K hK => ?_) AllReadyH.nil
                  refine step_append_n (by rfl) _ _ 36 (by rfl) 41 i0 (.agg #[.string ⟨#[]⟩, .slice none 0 0, .int .i64 0]) 3 48 Tryz.underlying36 hi hz0 hz1 hz2 rfl (by decide) (X + 1) _ acc.length (kcs acc zs5) (by rfl) (by exact World.ownsRow.alloc HR5.out _) _ [.string kk.key, .slice vb5 kk.vals.length vc5, .int .i64 kk.pos] (by rfl) rfl (fun u hu => by simp at hu; rcases hu with rfl | rfl | rfl <;> rfl) (by exact cells_news _ _ _) (by have := HWS.out; omega) (by have := HWS.out; omega) (by simp; omega) ?_
                  intro v6 w6 hown6 hbl6 hg6
                  obtain ⟨vb6, vc6, rfl⟩ := row_form hown6
                  have hX6 := (HX5.out.alloc _).below hbl6 (Nat.lt_succ_self _)
                  have hT6 := (HT5.out.alloc _).below hbl6 (by omega)
                  have HZ6 := Lib.hid ((HZ5.out.alloc _).below hbl6 (by omega))
                  obtain ⟨x0, x1, x2, x3⟩ := Blk4 hX6
                  obtain ⟨f0, f1, f2, f3⟩ := Blk4f hX6
                  have HXT6 := Lib.hid (⟨Blk4 hX6, Blk4 hT6⟩ : (_ ∧ _ ∧ _ ∧ _) ∧ _ ∧ _ ∧ _ ∧ _)
                  have HX6 := Lib.hid hX6
                  have HT6 := Lib.hid hT6
                  have HKS6 := Lib.hid (show OwnKs 3 41 (X + 1) w6 (.slice vb6 (acc.length + 1) vc6) (acc ++ [kk]) from OwnKs.snoc HL5.out (World.ownsRow.alloc HR5.out _) (fun i k z a b => (HZS5.out i k z a b).kept (sb_alloc (Below.refl _ _) _)) (HOV5.out.kept (sb_alloc (Below.refl _ _) _)) (by decide) (by exact hg6) hown6)
                  have HB7 := Lib.hid (show Below (X + 1) w5 w6 from ((Below.refl _ _).alloc (by omega) _).trans hbl6)
                  clear hX6 hT6 hown6 hbl6 hg6
                  refine hK.out _ _ (HXT6.out) (fun hHeld => ?_)
                  clear hK K
                  try simp only [Act.put, List.setIfInBounds_toArray, List.set_cons_zero, List.set_cons_succ]
                  refine wpAnyH_take (i := 8) (oi := { dst := some 41, op := Go.Op.fieldAddr 38 (Go.Operand.tmp 4) 2, type := 0, pos := "reader.go:75", after := #[{ on := 0, ground := Go.Ground.phase }, { on := 1, ground := Go.Ground.phase }, { on := 2, ground := Go.Ground.phase }, { on := 3, ground := Go.Ground.phase }, { on := 4, ground := Go.Ground.phase }, { on := 5, ground := Go.Ground.phase }, { on := 6, ground := Go.Ground.phase }, { on := 7, ground := Go.Ground.phase }], guard := none }) (v := ?v5_8) rfl (by kernel_rfl) (by kernel_rfl) (by kernel_rfl) (fun _ _ _ h => h) (Or.inl ⟨by rfl, ?hy5_8⟩) (by assumption) ?rest5_8
                  case hy5_8 => ((intro w hSw; (try dsimp only at hSw); go_simp); (try (with_reducible rfl)))
                  try simp only [Act.put, List.setIfInBounds_toArray, List.set_cons_zero, List.set_cons_succ]
                  refine wpAnyH_done (by kernel_rfl) ?_ _
                  refine QLast.normal ?_
                  refine wpOp_step (o := { dst := none, op := Go.Op.store 36 (Go.Operand.tmp 41) (Go.Operand.tmp 40), type := 0, pos := "reader.go:75", after := #[{ on := 8, ground := Go.Ground.data }, { on := 7, ground := Go.Ground.data }, { on := 7, ground := Go.Ground.chain }, { on := 0, ground := Go.Ground.phase }, { on := 1, ground := Go.Ground.phase }, { on := 2, ground := Go.Ground.phase }, { on := 3, ground := Go.Ground.phase }, { on := 4, ground := Go.Ground.phase }, { on := 5, ground := Go.Ground.phase }, { on := 6, ground := Go.Ground.phase }, { on := 7, ground := Go.Ground.phase }], guard := none }) rfl (fun K hK => ?_)
                  go_simp
                  refine hK _ _ ?_
                  clear hK K
                  have hd5 := HD5.out
                  subst hd5
                  have hle := HLE.out
                  rw [List.length_drop, List.length_drop] at hle
                  have HRS7 := Lib.hid ((HRS5.out.below (N := X + 1) (by omega) HB7.out).setn (q := X) (o := 2) (by omega) (.slice vb6 (acc.length + 1) vc6))
                  have HBUT7 := Lib.hid (((HBUT.out.drew.trans HBUT5.out).thenB HB7.out (by omega)).setn (q := ⟨X, 2, none⟩) (by dsimp only; omega) (.slice vb6 (acc.length + 1) vc6))
                  have HT7 := Lib.hid (HT6.out.other (a := ⟨X, 2, none⟩) (.slice vb6 (acc.length + 1) vc6) (by dsimp only; omega))
                  have HZ7 := Lib.hid (HZ6.out.other (a := ⟨X, 2, none⟩) (.slice vb6 (acc.length + 1) vc6) (by dsimp only; omega))
                  have HX7 : Hid (Blk (w6.setCell ⟨X, 2, none⟩ (.slice vb6 (acc.length + 1) vc6)) X #[.string word, .string nm, .slice vb6 (acc.length + 1) vc6, .int .i64 px]) := Lib.hid (HX6.out.set 2 (.slice vb6 (acc.length + 1) vc6))
                  have HKS7 := Lib.hid (HKS6.out.setb (q := X) (by omega) 2 (.slice vb6 (acc.length + 1) vc6))
                  clear x0 x1 x2 x3 f0 f1 f2 f3 HXT6 HX6 HT6 HKS6 HB7 HD5 HLE hrsd hrdd HXT HXT5 HX5 HT5 HZ5 HZ6 HR5 HZS5 HL5 HRS5 HBUT5 HOV5 HKA hHeld t0 t1 t2 t3
                  by_cases hk3 : k2 < ws.length
                  · obtain ⟨y2, hy2⟩ := HX2.out k2 hk3
                    have HN2 := Lib.hid (fun W h => HNX.out k2 y2 hy2 W h)
                    have hnk := HNK.out
                    rw [drop_at hy2] at hnk
                    have HNK2 := Lib.hid (show keysP sz ⟨word, nm, acc ++ [kk], px⟩ (y2 :: ws.drop (k2 + 1)) = R from hnk)
                    clear hnk HNK hy2
                    try unfold wordW wordV at HN2
                    go_wp2_with fail
                    refine (HN2.out _ HRS7.out).mono ?_
                    rintro e w8 ⟨rfl, hrs8, hbut8⟩
                    have hX8 := hbut8.blk HX7.out (by omega)
                    have hT8 := hbut8.blk HT7.out (by omega)
                    have hZ8 := hbut8.blk HZ7.out (by omega)
                    have hK8 := HKS7.out.but (p := p) (by omega) hbut8
                    have hB8 := HBUT7.out.trans hbut8
                    obtain ⟨t0, t1, t2, t3⟩ := Blk4 hT8
                    obtain ⟨f0, f1, f2, f3⟩ := Blk4f hT8
                    have HX8 := Lib.hid hX8
                    have HT8 := Lib.hid hT8
                    have HZ8 := Lib.hid hZ8
                    have HK8 := Lib.hid hK8
                    have HB8 := Lib.hid hB8
                    have HRS8 := Lib.hid hrs8
                    clear hX8 hT8 hZ8 hK8 hB8 hrs8 hbut8 HRS7 HBUT7 HT7 HZ7 HX7 HKS7
                    go_wp2_with fail
                    go_roundw
                    case rel =>
                      refine Lib.hid ⟨y2, k2 + 1, acc ++ [kk], _, HNK2.out, by omega, by simp; omega, blk_set4 HT8.out, (((HX8.out.other (a := ⟨T, 0, none⟩) _ (by dsimp only; omega)).other (a := ⟨T, 1, none⟩) _ (by dsimp only; omega)).other (a := ⟨T, 2, none⟩) _ (by dsimp only; omega)).other (a := ⟨T, 3, none⟩) _ (by dsimp only; omega), (((HK8.out.setb (q := T) (by omega) _ _).setb (q := T) (by omega) _ _).setb (q := T) (by omega) _ _).setb (q := T) (by omega) _ _, (((HRS8.out.setn (q := T) (o := 0) (by omega) _).setn (q := T) (o := 1) (by omega) _).setn (q := T) (o := 2) (by omega) _).setn (q := T) (o := 3) (by omega) _, (((HB8.out.setn (q := ⟨T, 0, none⟩) (by dsimp only; omega) _).setn (q := ⟨T, 1, none⟩) (by dsimp only; omega) _).setn (q := ⟨T, 2, none⟩) (by dsimp only; omega) _).setn (q := ⟨T, 3, none⟩) (by dsimp only; omega) _, (((HZ8.out.other (a := ⟨T, 0, none⟩) _ (by dsimp only; omega)).other (a := ⟨T, 1, none⟩) _ (by dsimp only; omega)).other (a := ⟨T, 2, none⟩) _ (by dsimp only; omega)).other (a := ⟨T, 3, none⟩) _ (by dsimp only; omega)⟩
                    case measure =>
                      rw [((((HRS8.out.setn (q := T) (o := 0) (by omega) _).setn (q := T) (o := 1) (by omega) _).setn (q := T) (o := 2) (by omega) _).setn (q := T) (o := 3) (by omega) _).left, HRS.out.left]
                      omega
                  · have hke : k2 = ws.length := by omega
                    have hnk := HNK.out
                    rw [hke, List.drop_length, keysP_nil] at hnk
                    rw [hke] at HRS7
                    subst hnk
                    go_wp2_with fail
                    refine (HNN.out _ HRS7.out).mono ?_
                    rintro e w8 ⟨rfl, q8⟩
                    exact ⟨rfl, rfl, HBUT7.out.trans (But.of q8)⟩
          · have hke : kx = ws.length := by omega
            have hsp1 := HSP.out
            rw [hke, List.drop_length, keysP_nil] at hsp1
            rw [hke] at HRSb
            subst hsp1
            clear HSP
            go_wp2_with fail
            refine (HNN.out _ HRSb.out).mono ?_
            rintro e w5 ⟨rfl, q5⟩
            exact ⟨rfl, rfl, HBb.out.trans (But.of q5)⟩
        · rw [if_neg hkd] at hsp1
          have HNB := Lib.hid (fun W h => nextOf_bad 1 p g (k + 1) sz ws yn hyn HWS.out hkd W h)
          subst hsp1
          clear HSP0 hkd hyn
          go_wp2_with fail
          refine (HNB.out _ HRSb.out).mono ?_
          rintro e w5 ⟨rfl, hbut5⟩
          exact ⟨rfl, rfl, HBb.out.trans hbut5⟩
      · have hke : k + 1 = ws.length := by omega
        have hsp1 := HSP0.out
        rw [hke, List.drop_length] at hsp1
        dsimp only at hsp1
        rw [hke] at HRSb
        have HNE := Lib.hid (fun W h => nextOf_end 1 p g sz ws W h)
        subst hsp1
        clear HSP0
        go_wp2_with fail
        refine (HNE.out _ HRSb.out).mono ?_
        rintro e w5 ⟨rfl, hbut5⟩
        exact ⟨rfl, rfl, HBb.out.trans hbut5⟩
end Go.Proofs.YtdikoeeoglfmaaaGreatDoor
