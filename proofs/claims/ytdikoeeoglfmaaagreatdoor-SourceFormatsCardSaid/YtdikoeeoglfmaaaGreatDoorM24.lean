/-
  Copying statements: items.
-/
import Derived.Test.YtdikoeeoglfmaaaGreatDoorM17
import Derived.Test.YtdikoeeoglfmaaaGreatDoorM18
import Derived.Test.YtdikoeeoglfmaaaGreatDoorM20
namespace SS
open Go Go.RowKit PB SC
section
variable {P : Program}
theorem run_append_empty (w : World) (t ty e : TypeId) (i : TypeInfo) (ht : P.underlying t = some (.slice e)) (hi : P.info? e = some i) (b : Option Addr) (c : Nat) :
    (Builtin.append_ #[t, t] ty #[.slice none 0 0, .slice b 0 c]).run P w = .ok (.slice none 0 0) w := by
  cases b <;> simp [Builtin.append_, run_underlying ht, Go.sizeOf, typeInfo, hi, Builtin.lenOf, Builtin.firstCells, loadCells, loadCellsFrom]
theorem bt_set2 {w : World} {g : Nat} {T : TypeId} {a b c d v : Value} (h : BT w g T #[a, b, c, d]) : BT (w.setCell ⟨g, 2, none⟩ v) g T #[a, b, v, d] := by
  unfold BT at h ⊢
  simp [World.setCell, Array.getElem?_modify, h]
theorem BT.keptN {w w' : World} {g N : Nat} {T : TypeId} {cs : Array Value} (h : BT w g T cs) (hb : Below N w w') (hg : g < N) : BT w' g T cs := by
  unfold BT
  rw [hb.block g hg]; exact h
theorem bt_of {w : World} {g : Nat} {T : TypeId} {cs cs' : Array Value} (_ : Blk w g cs') (h : BT w g T cs) : BT w g T cs := h
/-- append(nil, z..) of ints. -/
theorem wp_append_copy {w : World} {o : Oper} {a : Act} {K : Act → World → Prop} {Q : Exit → Act → World → Prop} (s x : Operand) (t : TypeId)
    (ho : o.op = .call { callee := .builtin .append, args := #[s, x], argTypes := #[t, t] }) (E : TypeId) (i : TypeInfo) (ht : P.underlying t = some (.slice E)) (hi : P.info? E = some i) (hz : i.zero = some (.int .i64 0)) (hsize : i.size = 1) (hby : i.bytes = 8)
    (hs : a.eval s = .slice none 0 0) (v : Value) (vals : List Int) (hx : a.eval x = v) (hv : RdV w v vals) (hn : vals.length ≤ 1000000)
    (h : ∀ v' w', OwnVs E w.heap.size w' v' vals → Below w.heap.size w w' → K (a.put o.dst v') w') : Oper.wp P o a w K Q := by
  obtain ⟨base, b, off, c, rfl, h1, _, h4⟩ := hv.form
  by_cases h0 : vals.length = 0
  · obtain rfl := List.eq_nil_of_length_eq_zero h0
    unfold Oper.wp execOp
    simp only [ho, resolve, invoke, builtin, Sem.run_bind, Sem.run_pure, Result.andThen_ok, List.map_toArray, List.map_cons, List.map_nil, hs, hx]
    rw [show (.slice base ([] : List Int).length c : Value) = .slice base 0 c from rfl, run_append_empty w t o.type E i ht hi base c]
    exact h _ _ (OwnVs.nil _ _ _) (Below.refl _ _)
  · obtain rfl := h1 h0
    refine wp_append_own w s x t ho w.heap.size E i (.int .i64 0) 1 8 ht hi hz hsize hby rfl (by decide) (.slice none 0 0) 0 [] hs (World.ownsRow_nil w _ E 1) ⟨b, off, none⟩ vals.length c (vcs vals) hx (by unfold vcs; simp) (fun j u hu => ?_) (fun u hu => ?_) (by unfold maxLen; omega) (by omega) (Nat.le_refl _) ?_
    · rw [oaddr]
      unfold vcs at hu
      rw [List.getElem?_map] at hu
      cases hj : vals[j]? with
      | none => rw [hj] at hu; cases hu
      | some n => rw [hj] at hu; cases hu; exact h4 j n hj
    · unfold vcs at hu
      obtain ⟨n, _, rfl⟩ := List.mem_map.1 hu
      rfl
    · intro v' w' k1 k2 _
      refine h v' w' ?_ ((Below.refl _ _).grown k2 (Nat.le_refl _) (fun q hq => by cases hq))
      unfold OwnVs
      simpa using k1
theorem step_append_copy {w : World} {ops : Array Oper} {o : Oper} {a : Act} {K : Act → World → Prop} {Q : Exit → Act → World → Prop} {Ep : Prop} (hgd : o.guard = none) (s x : Operand) (t : TypeId)
    (ho : o.op = .call { callee := .builtin .append, args := #[s, x], argTypes := #[t, t] }) (E : TypeId) (i : TypeInfo) (ht : P.underlying t = some (.slice E)) (hi : P.info? E = some i) (hz : i.zero = some (.int .i64 0)) (hsize : i.size = 1) (hby : i.bytes = 8)
    (hs : a.eval s = .slice none 0 0) (v : Value) (vals : List Int) (hx : a.eval x = v) (hv : RdV w v vals) (hn : vals.length ≤ 1000000)
    (h : ∀ v' w', OwnVs E w.heap.size w' v' vals → Below w.heap.size w w' → K (a.put o.dst v') w') : if Region.wanted o (yielded ops a.tmps) = true then Oper.wp P o a w K Q else Ep := by
  have hw : Region.wanted o (yielded ops a.tmps) = true := by simp [Region.wanted, hgd]
  rw [if_pos hw]
  exact wp_append_copy s x t ho E i ht hi hz hsize hby hs v vals hx hv hn h
end
theorem take_snoc' {α : Type} {l : List α} {i : Nat} {x : α} (h : l[i]? = some x) : l.take i ++ [x] = l.take (i + 1) := by
  obtain ⟨hi, e⟩ := List.getElem?_eq_some_iff.1 h
  rw [List.take_succ_eq_append_getElem hi, e]
theorem ilen_take {α : Type} {l : List α} {i : Nat} (h : i ≤ l.length) : (l.take i).length = i := by rw [List.length_take]; omega
end SS
namespace Go.Proofs.YtdikoeeoglfmaaaGreatDoor
open Go.RowKit SC PB SS
set_option maxRecDepth 100000 in
theorem info_rkey : (Tryz.prog.info? 53).map (fun i => (i.zero, i.size, i.bytes)) = some (some (.agg #[.string ⟨#[]⟩, .slice none 0 0, .int .i64 0]), 3, 48) := by kernel_rfl
set_option maxRecDepth 100000 in
theorem info_ritem : (Tryz.prog.info? 52).map (fun i => (i.zero, i.size, i.bytes)) = some (some (.agg #[.string ⟨#[]⟩, .string ⟨#[]⟩, .slice none 0 0, .int .i64 0]), 4, 64) := by kernel_rfl
set_option maxHeartbeats 16000000 in
set_option maxRecDepth 100000 in
theorem items_any (l : List I) (v : Value) (w : World) (hr : RdI w v l) (hn : l.length ≤ 1000000) (hok : ∀ x ∈ l, x.keys.length ≤ 1000000 ∧ ∀ k ∈ x.keys, k.vals.length ≤ 1000000) :
    Calls Tryz.prog 8 #[v] w fun e w' => ∃ v', e = .returned v' ∧ RdI w' v' l ∧ Below w.heap.size w w' := by
  obtain ⟨i0, hi, hz0, hz1, hz2⟩ := info_parts info_vint
  obtain ⟨j0, hj, ky0, ky1, ky2⟩ := info_parts info_rkey
  obtain ⟨m0, hm, mt0, mt1, mt2⟩ := info_parts info_ritem
  obtain ⟨base, b, off, c, rfl, h1, h2, h4⟩ := hr
  have HK := Lib.hid (fun (i : Nat) (x : I) (hi : l[i]? = some x) => (show ∃ zb kb ko zc, (x.keys.length ≠ 0 → zb = some ⟨kb, ko, none⟩) ∧ (x.keys.length ≠ 0 → kb < w.heap.size) ∧ (∀ W, Below w.heap.size w W → W.cell? ⟨b, off + i * 4, none⟩ = some (.string x.word) ∧ W.cell? ⟨b, off + i * 4 + 1, none⟩ = some (.string x.name) ∧ W.cell? ⟨b, off + i * 4 + 2, none⟩ = some (.slice zb x.keys.length zc) ∧ W.cell? ⟨b, off + i * 4 + 3, none⟩ = some (.int .i64 x.pos)) ∧
      ∀ k y, x.keys[k]? = some y → ∃ ub un uc, ∀ W, Below w.heap.size w W → W.cell? ⟨kb, ko + k * 3, none⟩ = some (.string y.key) ∧ W.cell? ⟨kb, ko + k * 3 + 1, none⟩ = some (.slice ub un uc) ∧ W.cell? ⟨kb, ko + k * 3 + 2, none⟩ = some (.int .i64 y.pos) ∧ RdV W (.slice ub un uc) y.vals by
    obtain ⟨z, hz⟩ := h4 i x hi
    have hlt := h2 (by have := (List.getElem?_eq_some_iff.1 hi).1; omega)
    obtain ⟨zb, kb, ko, zc, rfl, a1, a2, a4⟩ := hz.2.2.2.2
    refine ⟨zb, kb, ko, zc, a1, a2, fun W h => ?_, fun k y hy => ?_⟩
    · obtain ⟨e1, e2, e3, e4, _⟩ := hz.kept h hlt
      exact ⟨e1, e2, e3, e4⟩
    · obtain ⟨u, hu⟩ := a4 k y hy
      obtain ⟨ub, un, uc, rfl⟩ := rdv_form hu.2.2.2
      exact ⟨ub, un, uc, fun W h => hu.kept h (a2 (by have := (List.getElem?_eq_some_iff.1 hy).1; omega))⟩))
  have HB := Lib.hid h1
  have HL := Lib.hid h2
  have HX := Lib.hid (fun (k : Nat) (hk : k < l.length) => (⟨l[k], List.getElem?_eq_getElem hk, hok _ (List.getElem_mem hk)⟩ : ∃ x, l[k]? = some x ∧ x.keys.length ≤ 1000000 ∧ ∀ k ∈ x.keys, k.vals.length ≤ 1000000))
  have HTK := Lib.hid (fun (i : Nat) (x : I) (h : l[i]? = some x) => take_snoc' h)
  have HTL := Lib.hid (fun (i : Nat) (h : i ≤ l.length) => ilen_take h)
  have HTA := Lib.hid (show l.take l.length = l from List.take_length)
  clear h1 h2 h4 hok
  generalize hnl : l.length = n at *
  have HNL := Lib.hid hnl
  clear hnl
  go_enter Tryz.func8, Tryz.ntmps8
  go_wp2_with fail
  go_loopw [3, 4] (fun tv i wr => ∃ (k : Nat), k ≤ n ∧ i = .int .i64 k ∧ Hid (OwnIs 3 53 52 w.heap.size wr tv (l.take k)) ∧ Hid (Below w.heap.size w wr)) (fun _ i _ => n - (intOf i).toNat)
  case atStart => exact ⟨0, Nat.zero_le _, rfl, Lib.hid (by rw [List.take_zero]; exact OwnIs.nil _ _ _ _ _), Lib.hid (Below.refl _ _)⟩
  case round =>
    obtain ⟨i, hin, rfl, hO, hwr⟩ := hrel
    obtain ⟨ob, oc, rfl⟩ := hO.out.form
    by_cases hkn : i < n
    · have htl := HTL.out i hin
      rw [htl] at hO ⊢
      clear htl
      obtain rfl := HB.out (by omega)
      obtain ⟨x, hx, hxk, hxv⟩ := HX.out i hkn
      obtain ⟨zb, kb, ko, zc, a1, a2, a3, a4⟩ := HK.out i x hx
      obtain ⟨c0, c1, c2, c3⟩ := a3 _ hwr.out
      have hlt : b < wr.heap.size := Nat.lt_of_lt_of_le (HL.out (by omega)) hwr.out.size
      have HA1 := Lib.hid a1
      have HA2 := Lib.hid a2
      have HA3 := Lib.hid a3
      have HA4 := Lib.hid a4
      have HXV := Lib.hid hxv
      have HXX := Lib.hid (fun (k : Nat) (hk : k < x.keys.length) => (⟨x.keys[k], List.getElem?_eq_getElem hk, hxv _ (List.getElem_mem hk)⟩ : ∃ y, x.keys[k]? = some y ∧ y.vals.length ≤ 1000000))
      have HX0 := Lib.hid hx
      have hik : (i : Int) < n := by omega
      clear a1 a2 a3 a4 hxv hx
      go_wp2_with fail
      go_region_held3 (fun w' => w'.cell? ⟨b, off + i * 4, none⟩ = some (.string x.word) ∧ w'.cell? ⟨b, off + i * 4 + 1, none⟩ = some (.string x.name) ∧ w'.cell? ⟨b, off + i * 4 + 3, none⟩ = some (.int .i64 x.pos))
        (first | exact ⟨c0, c1, c3⟩ | go_keep)
        (first | fail "no arm")
      have HBX := Lib.hid (show BT (wr.alloc (.cells #[.string x.word, .string x.name, .slice none 0 0, .int .i64 x.pos] 52)).drew wr.heap.size 52 #[.string x.word, .string x.name, .slice none 0 0, .int .i64 x.pos] from bt_new rfl)
      have HQX := Lib.hid (show Below wr.heap.size wr (wr.alloc (.cells #[.string x.word, .string x.name, .slice none 0 0, .int .i64 x.pos] 52)).drew from sb_drew (sb_alloc (Below.refl _ _) _))
      clear c0 c1 c2 c3
      go_wp2_with fail
      obtain ⟨wo, rfl⟩ : ∃ wo, wo = wr := ⟨_, rfl⟩
      go_loopw [6] (fun kv wr => ∃ (k : Nat), k ≤ x.keys.length ∧ kv = .int .i64 k ∧ Hid (∃ u : Value, BT wr wo.heap.size 52 #[.string x.word, .string x.name, u, .int .i64 x.pos] ∧ OwnKs 3 53 (wo.heap.size + 1) wr u (x.keys.take k)) ∧ Hid (Below wo.heap.size wo wr)) (fun kv _ => x.keys.length - (intOf kv).toNat)
      case atStart => exact ⟨0, Nat.zero_le _, rfl, Lib.hid ⟨_, HBX.out, by rw [List.take_zero]; exact OwnKs.nil _ _ _ _⟩, HQX⟩
      case round =>
        clear HBX HQX
        obtain ⟨k, hk, rfl, hX, hwq⟩ := hrel
        obtain ⟨u, hBX, hown⟩ := hX.out
        have hw2 := next hwr.out hwq.out
        obtain ⟨c0, c1, c2, c3⟩ := HA3.out _ hw2
        have HW2 := Lib.hid hw2
        clear hw2
        by_cases hkm : k < x.keys.length
        · obtain rfl := HA1.out (by omega)
          obtain ⟨y, hy, hyv⟩ := HXX.out k hkm
          obtain ⟨ub, un, uc, hu⟩ := HA4.out k y hy
          obtain ⟨y0, y1, y2, yr⟩ := hu _ HW2.out
          have hklt : kb < wr.heap.size := Nat.lt_of_lt_of_le (HA2.out (by omega)) HW2.out.size
          obtain ⟨zs5, hl5, hr5, hz5⟩ := hown
          have htk := ilen_take (l := x.keys) hk
          have HTKK := Lib.hid (take_snoc' hy)
          rw [htk] at hr5
          obtain ⟨vb0, vc0, rfl⟩ := row_form hr5
          have HTKL := Lib.hid htk
          have hkmi : (k : Int) < x.keys.length := by omega
          have hXlt : wo.heap.size < wr.heap.size := (Array.getElem?_eq_some_iff.1 hBX).1
          have hKK : BT (wr.alloc (.cells #[.string y.key, .slice ub un uc, .int .i64 y.pos] 41)) wr.heap.size 41 #[.string y.key, .slice ub un uc, .int .i64 y.pos] := bt_new rfl
          have hBX2 := hBX.kept (sb_alloc (Below.refl _ _) (.cells #[.string y.key, .slice ub un uc, .int .i64 y.pos] 41))
          obtain ⟨k0, k1, k2⟩ := Blk3 hKK.blk
          obtain ⟨x0, x1, x2, x3⟩ := Blk4 hBX2.blk
          have HBW1 := Lib.hid ((Below.refl wr.heap.size wr).alloc (Nat.le_refl _) (.cells #[.string y.key, .slice ub un uc, .int .i64 y.pos] 41) |>.mono (hwq.out.size))
          have HS := Lib.hid (fun W (h : Below (wr.heap.size + 1) (wr.alloc (.cells #[.string y.key, .slice ub un uc, .int .i64 y.pos] 41)) W) => (⟨(Blk4 (hBX2.blk.below h (by omega))).2.2.1, Blk3 (hKK.blk.below h (by omega))⟩ : _ ∧ _ ∧ _ ∧ _))
          have HYR := Lib.hid (show RdV (wr.alloc (.cells #[.string y.key, .slice ub un uc, .int .i64 y.pos] 41)).drew (.slice ub un uc) y.vals from yr.kept (sb_drew (sb_alloc (Below.refl _ _) _)))
          have HBX3 := Lib.hid hBX2
          have hKKb := Lib.hid hKK
          have HR5 := Lib.hid hr5
          have HZ5 := Lib.hid hz5
          have HL5 := Lib.hid hl5
          have HYV := Lib.hid hyv
          have hsz : (wr.alloc (.cells #[.string y.key, .slice ub un uc, .int .i64 y.pos] 41)).heap.size = wr.heap.size + 1 := World.size_alloc _ _
          clear hBX hBX2 hKK yr hu hr5 hz5 hl5 hX hyv htk
          go_wp2_with fail
          generalize hW1 : wr.alloc (.cells #[.string y.key, .slice ub un uc, .int .i64 y.pos] 41) = W1 at *
          refine wp_region_last (L := 13) (n := 13) (S := fun w' => w'.cell? ⟨wo.heap.size, 2, none⟩ = some (.slice vb0 k vc0) ∧ w'.cell? ⟨wr.heap.size, 0, none⟩ = some (.string y.key) ∧ w'.cell? ⟨wr.heap.size, 1, none⟩ = some (.slice ub un uc) ∧ w'.cell? ⟨wr.heap.size, 2, none⟩ = some (.int .i64 y.pos)) (by kernel_rfl) (by kernel_rfl) rfl (⟨x2, k0, k1, k2⟩) (fun hHeld => ?_)
          try simp only [Act.put, List.setIfInBounds_toArray, List.set_cons_zero, List.set_cons_succ]
          refine wpAnyH_take (i := 0) (oi := { dst := some 48, op := Go.Op.fieldAddr 52 (Go.Operand.tmp 5) 2, type := 0, pos := "law.go:29", after := #[], guard := none }) (v := ?v1_0) rfl (by kernel_rfl) (by kernel_rfl) (by kernel_rfl) (fun _ _ _ h => h) (Or.inl ⟨by rfl, ?hy1_0⟩) (by assumption) ?rest1_0
          case hy1_0 => ((intro w hSw; (try dsimp only at hSw); go_simp); (try (with_reducible rfl)))
          try simp only [Act.put, List.setIfInBounds_toArray, List.set_cons_zero, List.set_cons_succ]
          refine wpAnyH_take (i := 1) (oi := { dst := some 49, op := Go.Op.load 50 (Go.Operand.tmp 48), type := 50, pos := "law.go:29", after := #[{ on := 0, ground := Go.Ground.data }], guard := none }) (v := ?v1_1) rfl (by kernel_rfl) (by kernel_rfl) (by kernel_rfl) (fun _ _ _ h => h) (Or.inl ⟨by rfl, ?hy1_1⟩) (by assumption) ?rest1_1
          case hy1_1 => ((intro w hSw; (try dsimp only at hSw); go_simp); (try (with_reducible rfl)))
          try simp only [Act.put, List.setIfInBounds_toArray, List.set_cons_zero, List.set_cons_succ]
          refine wpAnyH_take (i := 2) (oi := { dst := some 50, op := Go.Op.fieldAddr 41 (Go.Operand.tmp 7) 0, type := 0, pos := "law.go:29", after := #[], guard := none }) (v := ?v1_2) rfl (by kernel_rfl) (by kernel_rfl) (by kernel_rfl) (fun _ _ _ h => h) (Or.inl ⟨by rfl, ?hy1_2⟩) (by assumption) ?rest1_2
          case hy1_2 => ((intro w hSw; (try dsimp only at hSw); go_simp); (try (with_reducible rfl)))
          try simp only [Act.put, List.setIfInBounds_toArray, List.set_cons_zero, List.set_cons_succ]
          refine wpAnyH_take (i := 3) (oi := { dst := some 51, op := Go.Op.load 9 (Go.Operand.tmp 50), type := 9, pos := "law.go:29", after := #[{ on := 2, ground := Go.Ground.data }], guard := none }) (v := ?v1_3) rfl (by kernel_rfl) (by kernel_rfl) (by kernel_rfl) (fun _ _ _ h => h) (Or.inl ⟨by rfl, ?hy1_3⟩) (by assumption) ?rest1_3
          case hy1_3 => ((intro w hSw; (try dsimp only at hSw); go_simp); (try (with_reducible rfl)))
          try simp only [Act.put, List.setIfInBounds_toArray, List.set_cons_zero, List.set_cons_succ]
          refine wpAnyH_take (i := 4) (oi := { dst := some 52, op := Go.Op.fieldAddr 41 (Go.Operand.tmp 7) 1, type := 0, pos := "law.go:29", after := #[], guard := none }) (v := ?v1_4) rfl (by kernel_rfl) (by kernel_rfl) (by kernel_rfl) (fun _ _ _ h => h) (Or.inl ⟨by rfl, ?hy1_4⟩) (by assumption) ?rest1_4
          case hy1_4 => ((intro w hSw; (try dsimp only at hSw); go_simp); (try (with_reducible rfl)))
          try simp only [Act.put, List.setIfInBounds_toArray, List.set_cons_zero, List.set_cons_succ]
          refine wpAnyH_take (i := 5) (oi := { dst := some 53, op := Go.Op.load 33 (Go.Operand.tmp 52), type := 33, pos := "law.go:29", after := #[{ on := 4, ground := Go.Ground.data }], guard := none }) (v := ?v1_5) rfl (by kernel_rfl) (by kernel_rfl) (by kernel_rfl) (fun _ _ _ h => h) (Or.inl ⟨by rfl, ?hy1_5⟩) (by assumption) ?rest1_5
          case hy1_5 => ((intro w hSw; (try dsimp only at hSw); go_simp); (try (with_reducible rfl)))
          try simp only [Act.put, List.setIfInBounds_toArray, List.set_cons_zero, List.set_cons_succ]
          refine wpAnyH_take (i := 7) (oi := { dst := some 55, op := Go.Op.fieldAddr 41 (Go.Operand.tmp 7) 2, type := 0, pos := "law.go:29", after := #[], guard := none }) (v := ?v1_7) rfl (by kernel_rfl) (by kernel_rfl) (by kernel_rfl) (fun _ _ _ h => h) (Or.inl ⟨by rfl, ?hy1_7⟩) (by assumption) ?rest1_7
          case hy1_7 => ((intro w hSw; (try dsimp only at hSw); go_simp); (try (with_reducible rfl)))
          try simp only [Act.put, List.setIfInBounds_toArray, List.set_cons_zero, List.set_cons_succ]
          refine wpAnyH_take (i := 8) (oi := { dst := some 56, op := Go.Op.load 3 (Go.Operand.tmp 55), type := 3, pos := "law.go:29", after := #[{ on := 7, ground := Go.Ground.data }], guard := none }) (v := ?v1_8) rfl (by kernel_rfl) (by kernel_rfl) (by kernel_rfl) (fun _ _ _ h => h) (Or.inl ⟨by rfl, ?hy1_8⟩) (by assumption) ?rest1_8
          case hy1_8 => ((intro w hSw; (try dsimp only at hSw); go_simp); (try (with_reducible rfl)))
          try simp only [Act.put, List.setIfInBounds_toArray, List.set_cons_zero, List.set_cons_succ]
          refine wpAnyH_ready (rs := [6]) (by kernel_rfl) (by simp) ?_
          refine AllReadyH.cons (o := { dst := some 54, op := Go.Op.call { callee := Go.Callee.builtin Go.Builtin.append, args := #[Go.Operand.const (Go.Value.slice none 0 0), Go.Operand.tmp 53], argTypes := #[33, 33] }, type := 33, pos := "law.go:29", after := #[{ on := 5, ground := Go.Ground.data }], guard := none }) rfl (fun K hK => ?_) AllReadyH.nil
          refine step_append_copy (by rfl) _ _ 33 (by rfl) 3 i0 Tryz.underlying33 hi hz0 hz1 hz2 (by rfl) _ y.vals (by rfl) (by exact HYR.out) HYV.out ?_
          intro v6 w6 hov6 hbl6
          have hb6 : Below (wr.heap.size + 1) W1 w6 := by have h := (sb_drew (Below.refl W1.heap.size W1)).trans hbl6; rw [hsz] at h; exact h
          obtain ⟨vb6, vc6, rfl⟩ := row_form hov6
          have HB6 := Lib.hid hb6
          have HOV6 := Lib.hid hov6
          clear hov6 hbl6 hb6
          refine hK.out _ _ (HS.out _ HB6.out) (fun hHeld => ?_)
          clear hK K
          try simp only [Act.put, List.setIfInBounds_toArray, List.set_cons_zero, List.set_cons_succ]
          refine wpAnyH_take (i := 9) (oi := { dst := some 57, op := Go.Op.build 53 #[(0, Go.Operand.tmp 51), (1, Go.Operand.tmp 54), (2, Go.Operand.tmp 56)], type := 53, pos := "law.go:29", after := #[{ on := 3, ground := Go.Ground.data }, { on := 6, ground := Go.Ground.data }, { on := 8, ground := Go.Ground.data }], guard := none }) (v := ?v1_9) rfl (by kernel_rfl) (by kernel_rfl) (by kernel_rfl) (fun _ _ _ h => h) (Or.inl ⟨by rfl, ?hy1_9⟩) (by assumption) ?rest1_9
          case hy1_9 => ((intro w hSw; (try dsimp only at hSw); go_simp); (try (with_reducible rfl)))
          try simp only [Act.put, List.setIfInBounds_toArray, List.set_cons_zero, List.set_cons_succ]
          refine wpAnyH_ready (rs := [10]) (by kernel_rfl) (by simp) ?_
          refine AllReadyH.cons (o := { dst := some 58, op := Go.Op.buildSlice 50 1 #[(0, Go.Operand.tmp 57)], type := 50, pos := "law.go:29", after := #[{ on := 9, ground := Go.Ground.data }], guard := none }) rfl (fun K hK => ?_) AllReadyH.nil
          go_simp
          refine hK.out _ _ (HS.out _ (HB6.out.alloc (by have := HB6.out.size; omega) _)) (fun hHeld => ?_)
          clear hK K
          try simp only [Act.put, List.setIfInBounds_toArray, List.set_cons_zero, List.set_cons_succ]
          refine wpAnyH_ready (rs := [11]) (by kernel_rfl) (by simp) ?_
          refine AllReadyH.cons (o := { dst := some 59, op := Go.Op.call { callee := Go.Callee.builtin Go.Builtin.append, args := #[Go.Operand.tmp 49, Go.Operand.tmp 58], argTypes := #[50, 50] }, type := 50, pos := "law.go:29", after := #[{ on := 1, ground := Go.Ground.data }, { on := 10, ground := Go.Ground.data }, { on := 6, ground := Go.Ground.chain }], guard := none }) rfl (fun K hK => ?_) AllReadyH.nil
          have HR6 := Lib.hid (row_kept HR5.out fun g hg => (((Below.refl wr.heap.size wr).alloc (Nat.le_refl _) _).trans (hW1 ▸ HB6.out.mono (by omega))).block g (World.ownsRow.lt HR5.out g hg).2)
          have HZ6 := Lib.hid (fun (i : Nat) (q : SS.K) (z : Value) a b => show OwnVs 3 (wo.heap.size + 1) w6 z q.vals from row_kept (HZ5.out i q z a b) fun g hg => (((Below.refl wr.heap.size wr).alloc (Nat.le_refl _) _).trans (hW1 ▸ HB6.out.mono (by omega))).block g (World.ownsRow.lt (HZ5.out i q z a b) g hg).2)
          refine step_append_n (by rfl) _ _ 50 (by rfl) 53 j0 (.agg #[.string ⟨#[]⟩, .slice none 0 0, .int .i64 0]) 3 48 Tryz.underlying50 hj ky0 ky1 ky2 rfl (by decide) (wo.heap.size + 1) _ k (kcs (x.keys.take k) zs5) (by rfl) (by exact World.ownsRow.alloc HR6.out _) _ [.string y.key, .slice vb6 y.vals.length vc6, .int .i64 y.pos] (by rfl) rfl (fun u hu => by simp at hu; rcases hu with rfl | rfl | rfl <;> rfl) (by exact cells_news _ _ _) (by omega) (by omega) (by have := HB6.out.size; simp; omega) ?_
          intro v7 w7 hown7 hbl7 hg7
          obtain ⟨vb7, vc7, rfl⟩ := row_form hown7
          have hX7 := ((HBX3.out.blk.below HB6.out (by omega)).alloc (.cells #[.string y.key, .slice vb6 y.vals.length vc6, .int .i64 y.pos] 53)).below hbl7 (Nat.lt_succ_self _)
          obtain ⟨x0, x1, x2, x3⟩ := Blk4 hX7
          obtain ⟨f0, f1, f2, f3⟩ := Blk4f hX7
          have HX7 := Lib.hid (bt_of hX7 (((HBX3.out.keptN HB6.out (by omega)).kept (sb_alloc (Below.refl _ _) (.cells #[.string y.key, .slice vb6 y.vals.length vc6, .int .i64 y.pos] 53))).keptN hbl7 (Nat.lt_succ_self _)))
          have hS7 := (((hKKb.out.keptN HB6.out (by omega)).kept (sb_alloc (Below.refl _ _) (.cells #[.string y.key, .slice vb6 y.vals.length vc6, .int .i64 y.pos] 53))).oth (oth_grown (World.ownsRow.alloc HR6.out _) (by exact hg7)) (by decide))
          obtain ⟨k0, k1, k2⟩ := Blk3 hS7.blk
          have HKS7 := Lib.hid (show OwnKs 3 53 (wo.heap.size + 1) w7 (.slice vb7 (k + 1) vc7) (x.keys.take (k + 1)) by rw [← HTKK.out]; exact OwnKs.snoc (w := w6.alloc (.cells #[.string y.key, .slice vb6 y.vals.length vc6, .int .i64 y.pos] 53)) (zs := zs5) HL5.out (by rw [HTKL.out]; exact World.ownsRow.alloc HR6.out _) (fun i k z a b => ((HZ6.out i k z a b).kept (sb_alloc (Below.refl _ _) _))) ((HOV6.out.mono (by rw [World.size_drew, hsz]; omega)).kept (sb_alloc (Below.refl _ _) _)) (by decide) (by exact hg7) (by rw [HTKL.out]; exact hown7))
          clear hX7 hS7
          refine hK.out _ _ (⟨x2, k0, k1, k2⟩) (fun hHeld => ?_)
          clear hK K
          try simp only [Act.put, List.setIfInBounds_toArray, List.set_cons_zero, List.set_cons_succ]
          refine wpAnyH_take (i := 12) (oi := { dst := some 60, op := Go.Op.fieldAddr 52 (Go.Operand.tmp 5) 2, type := 0, pos := "law.go:29", after := #[{ on := 0, ground := Go.Ground.phase }, { on := 1, ground := Go.Ground.phase }, { on := 2, ground := Go.Ground.phase }, { on := 3, ground := Go.Ground.phase }, { on := 4, ground := Go.Ground.phase }, { on := 5, ground := Go.Ground.phase }, { on := 6, ground := Go.Ground.phase }, { on := 7, ground := Go.Ground.phase }, { on := 8, ground := Go.Ground.phase }, { on := 9, ground := Go.Ground.phase }, { on := 10, ground := Go.Ground.phase }, { on := 11, ground := Go.Ground.phase }], guard := none }) (v := ?v1_12) rfl (by kernel_rfl) (by kernel_rfl) (by kernel_rfl) (fun _ _ _ h => h) (Or.inl ⟨by rfl, ?hy1_12⟩) (by assumption) ?rest1_12
          case hy1_12 => ((intro w hSw; (try dsimp only at hSw); go_simp); (try (with_reducible rfl)))
          try simp only [Act.put, List.setIfInBounds_toArray, List.set_cons_zero, List.set_cons_succ]
          refine wpAnyH_done (by kernel_rfl) ?_ _
          refine QLast.normal ?_
          refine wpOp_step (o := { dst := none, op := Go.Op.store 50 (Go.Operand.tmp 60) (Go.Operand.tmp 59), type := 0, pos := "law.go:29", after := #[{ on := 12, ground := Go.Ground.data }, { on := 11, ground := Go.Ground.data }, { on := 11, ground := Go.Ground.chain }, { on := 0, ground := Go.Ground.phase }, { on := 1, ground := Go.Ground.phase }, { on := 2, ground := Go.Ground.phase }, { on := 3, ground := Go.Ground.phase }, { on := 4, ground := Go.Ground.phase }, { on := 5, ground := Go.Ground.phase }, { on := 6, ground := Go.Ground.phase }, { on := 7, ground := Go.Ground.phase }, { on := 8, ground := Go.Ground.phase }, { on := 9, ground := Go.Ground.phase }, { on := 10, ground := Go.Ground.phase }, { on := 11, ground := Go.Ground.phase }], guard := none }) rfl (fun K hK => ?_)
          go_simp
          refine hK _ _ ?_
          clear hK K
          have HB8 : Hid (Below wo.heap.size wo (w7.setCell ⟨wo.heap.size, 2, none⟩ (.slice vb7 (k + 1) vc7))) := Lib.hid (((hwq.out.trans HBW1.out).trans (HB6.out.mono (by omega)) |>.trans ((((Below.refl w6.heap.size w6).alloc (Nat.le_refl _) _).mono (by have := HB6.out.size; omega)).trans (hbl7.mono (by omega)))) |>.setCell (p := ⟨wo.heap.size, 2, none⟩) (Nat.le_refl _) _)
          have HX8 := Lib.hid (show BT (w7.setCell ⟨wo.heap.size, 2, none⟩ (.slice vb7 (k + 1) vc7)) wo.heap.size 52 #[.string x.word, .string x.name, .slice vb7 (k + 1) vc7, .int .i64 x.pos] from bt_set2 HX7.out)
          have HK8 := Lib.hid (HKS7.out.setb (q := wo.heap.size) (by omega) 2 (.slice vb7 (k + 1) vc7))
          clear x0 x1 x2 x3 k0 k1 k2 f0 f1 f2 f3 hHeld hbl7 hg7 hown7 HX7 HKS7 HOV6 HB6 HR6 HS HYR HBX3 HR5 HZ5 HL5 HBW1
          go_wp2_with fail
          go_roundw
          case rel => exact ⟨k + 1, by omega, by go_num, Lib.hid ⟨_, HX8.out, HK8.out⟩, HB8⟩
          case measure => simp [intOf]; omega
        · have hkme : k = x.keys.length := by omega
          subst hkme
          obtain ⟨ub, uc, rfl⟩ := hown.form
          rw [ilen_take (Nat.le_refl _)] at hBX hown
          rw [List.take_length] at hown
          have hO2 := hO.out.kept hwq.out
          obtain ⟨zs, hzl, hzr, hzz⟩ := hO2
          have htl2 := ilen_take (l := l) (i := i) (by rw [HNL.out]; exact hin)
          rw [htl2] at hzl hzr
          obtain ⟨x0, x1, x2, x3⟩ := Blk4 hBX.blk
          have HZR := Lib.hid hzr
          have HZZ := Lib.hid hzz
          have HZL := Lib.hid (show zs.length = (l.take i).length by rw [htl2]; exact hzl)
          have HOWN := Lib.hid (hown.mono (N' := w.heap.size) (by have := hwr.out.size; omega))
          have HTL2 := Lib.hid htl2
          have hws := hwr.out.size
          have hwqs := hwq.out.size
          have hkmi : ¬ (x.keys.length : Int) < x.keys.length := by omega
          clear hX hBX hown hzl hzr hzz htl2
          go_wp2_with (at_builtin; refine wpList_append_own_at _ rfl _ _ 28 rfl w.heap.size 52 m0 (.agg #[.string ⟨#[]⟩, .string ⟨#[]⟩, .slice none 0 0, .int .i64 0]) 4 64 Tryz.underlying28 hm mt0 mt1 mt2 rfl (by decide) _ i (ics (l.take i) zs) rfl (World.ownsRow.alloc HZR.out _) ⟨wr.heap.size, 0, none⟩ 1 1 [.string x.word, .string x.name, .slice ub x.keys.length uc, .int .i64 x.pos] rfl rfl (cells_news _ _ _) (fun u hu => by simp at hu; rcases hu with rfl | rfl | rfl | rfl <;> rfl) (by unfold maxLen; omega) (by omega) (by simp; omega) ?_)
          intro v9 w9 hown9 hg9 _ _
          have HB9 := Lib.hid ((Below.refl w.heap.size _).grown hg9 (by simp; omega) (fun q hq => (World.ownsRow.lt HZR.out q hq).1))
          have HI9 := Lib.hid (show OwnIs 3 53 52 w.heap.size w9 v9 (l.take (i + 1)) by
            rw [← HTK.out i x HX0.out]
            exact OwnIs.snoc (zs := zs) HZL.out (by rw [HTL2.out]; exact World.ownsRow.alloc HZR.out _) (fun i k z a b => (HZZ.out i k z a b).kept (sb_alloc (Below.refl _ _) _)) (HOWN.out.kept (sb_alloc (Below.refl _ _) _)) (by decide) (by decide) hg9 (by rw [HTL2.out]; exact hown9))
          have HQ9 := Lib.hid ((sb_alloc (next hwr.out hwq.out) _).trans HB9.out)
          clear hown9 hg9 HB9 x0 x1 x2 x3
          go_wp2_with fail
          go_roundw
          case rel => exact ⟨i + 1, by omega, by go_num, HI9, HQ9⟩
          case measure => simp [intOf]; omega
    · have hie : i = n := by omega
      subst hie
      have hta := HTA.out
      go_wp2_with fail
      go_ret
      refine ⟨_, rfl, ?_, hwr.out⟩
      show RdI wr (.slice ob (l.take i).length oc) l
      have h := hO.out.rd
      rw [hta] at h ⊢
      exact h
end Go.Proofs.YtdikoeeoglfmaaaGreatDoor
