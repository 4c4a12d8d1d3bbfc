/-
  Writing a statement: appendItem.
-/
import Derived.Lib.ItoaLen
import Derived.Lib.AppendStr
import Derived.Test.YtdikoeeoglfmaaaGreatDoorM14
namespace SS
open Go Go.RowKit PB SC
/-- The slice value v owns the bytes l. -/
def OwnB (E : TypeId) (N : Nat) (w : World) (v : Value) (l : List UInt8) : Prop := w.ownsRow N E 1 v l.length (Lib.byteCells l)
theorem OwnB.nil (E : TypeId) (N : Nat) (w : World) : OwnB E N w (.slice none 0 0) [] := World.ownsRow_nil w N E 1
theorem OwnB.kept {E : TypeId} {N : Nat} {w w' : World} {v : Value} {l : List UInt8} (h : OwnB E N w v l) (hb : Below w.heap.size w w') : OwnB E N w' v l := row_below h hb
theorem oth_grown {w w' : World} {E : TypeId} {N size n : Nat} {v : Value} {xs : List Value} (h : w.ownsRow N E size v n xs) (hg : w.grownBy w' v.ownBlock) : Lib.OthersKept E none w w' := fun k o hk _ ho => by
  have hlt := (Array.getElem?_eq_some_iff.1 hk).1
  rw [hg.block k hlt (fun e => ?_)]
  · exact hk
  · rcases h.2 with ⟨rfl, _⟩ | ⟨g, cap, cur, rfl, _, hh, _⟩
    · cases e
    · obtain rfl : k = g := Option.some.inj e
      rw [hk] at hh
      exact ho _ _ (Option.some.inj hh)
/-- A block of a known type. -/
def BT (w : World) (g : Nat) (T : TypeId) (cs : Array Value) : Prop := w.heap[g]? = some (.cells cs T (0, 0))
theorem BT.blk {w : World} {g : Nat} {T : TypeId} {cs : Array Value} (h : BT w g T cs) : Blk w g cs := ⟨T, h⟩
theorem BT.oth {w w' : World} {g : Nat} {T E : TypeId} {cs : Array Value} (h : BT w g T cs) (ho : Lib.OthersKept E none w w') (hE : T ≠ E) : BT w' g T cs := ho g _ h (by simp) (fun c fz e => by injection e with _ e; exact hE e)
theorem BT.kept {w w' : World} {g : Nat} {T : TypeId} {cs : Array Value} (h : BT w g T cs) (hb : Below w.heap.size w w') : BT w' g T cs := by
  unfold BT
  rw [hb.block g (Array.getElem?_eq_some_iff.1 h).1]; exact h
theorem bt_new {w : World} {g : Nat} {T : TypeId} {cs : Array Value} (hg : g = w.heap.size) : BT (w.alloc (.cells cs T)) g T cs := by subst hg; exact heap_made _ _
theorem one_at (w : World) (x : Value) (T : TypeId) (g : Nat) (hg : g = w.heap.size) : ∀ j u, [x][j]? = some u → (w.alloc (.cells #[x] T)).cell? ((⟨g, 0, none⟩ : Addr).add j) = some u := by subst hg; exact cell_one_new w x T
theorem wpList_app_str {P : Program} (w : World) {ops : Array Oper} {rest : List Oper} {o : Oper} {a : Act} {Q : Exit → Act → World → Prop} (hgd : o.guard = none) (sl x : Operand) (t u : TypeId)
    (ho : o.op = .call { callee := .builtin .append, args := #[sl, x], argTypes := #[t, u] }) (E : TypeId) (i : TypeInfo) (ht : P.underlying t = some (.slice E)) (hu : P.underlying u = some .string) (hi : P.info? E = some i) (hz : i.zero = some (.int .u8 0)) (hsize : i.size = 1) (hby : i.bytes = 1)
    (N : Nat) (v : Value) (l : List UInt8) (hs : a.eval sl = v) (hown : OwnB E N w v l) (s : ByteArray) (hx : a.eval x = .string s) (hn : l.length ≤ 1000000000) (hn2 : s.size ≤ 1000000000) (hN : N ≤ w.heap.size)
    (h : ∀ b c t' w', Hid (t' = l ++ s.data.toList) → OwnB E N w' (.slice b t'.length c) t' → Below N w w' → Lib.OthersKept E none w w' → wpList P ops Q rest (a.put o.dst (.slice b t'.length c)) w') : wpList P ops Q (o :: rest) a w := by
  refine Lib.wpList_append_own_string w hgd sl x t u ho N E i ht hu hi hz hsize hby v l.length (Lib.byteCells l) hs hown s hx (by unfold maxLen; omega) (by omega) hN ?_
  intro v' w' h1 h2 _
  have e : (l ++ s.data.toList).length = l.length + s.size := by simp
  have h3 : OwnB E N w' v' (l ++ s.data.toList) := by
    unfold OwnB
    rw [e, Lib.byteCells_append, ← Lib.strCells_eq]
    exact h1
  obtain ⟨b, c, rfl⟩ := row_form h3
  exact h b c _ w' (Lib.hid rfl) h3 ((Below.refl _ _).grown h2 hN (fun q hq => (World.ownsRow.lt hown q hq).1)) (oth_grown hown h2)
theorem wpList_app_one {P : Program} (w : World) {ops : Array Oper} {rest : List Oper} {o : Oper} {a : Act} {Q : Exit → Act → World → Prop} (hgd : o.guard = none) (sl x : Operand) (t : TypeId)
    (ho : o.op = .call { callee := .builtin .append, args := #[sl, x], argTypes := #[t, t] }) (E : TypeId) (i : TypeInfo) (ht : P.underlying t = some (.slice E)) (hi : P.info? E = some i) (hz : i.zero = some (.int .u8 0)) (hsize : i.size = 1) (hby : i.bytes = 1)
    (N : Nat) (v : Value) (l : List UInt8) (hs : a.eval sl = v) (hown : OwnB E N w v l) (b0 : Nat) (ch : UInt8) (hx : a.eval x = .slice (some ⟨b0, 0, none⟩) 1 1) (hc : ∀ j u, ([.int .u8 ch.toNat] : List Value)[j]? = some u → w.cell? ((⟨b0, 0, none⟩ : Addr).add j) = some u) (hn : l.length ≤ 1000000000) (hN : N ≤ w.heap.size)
    (h : ∀ b c t' w', Hid (t' = l ++ [ch]) → OwnB E N w' (.slice b t'.length c) t' → Below N w w' → Lib.OthersKept E none w w' → wpList P ops Q rest (a.put o.dst (.slice b t'.length c)) w') : wpList P ops Q (o :: rest) a w := by
  refine wpList_append_own_at w hgd sl x t ho N E i (.int .u8 0) 1 1 ht hi hz hsize hby rfl (by decide) v l.length (Lib.byteCells l) hs hown ⟨b0, 0, none⟩ 1 1 [.int .u8 ch.toNat] hx rfl hc (fun u hu => by simp at hu; subst hu; rfl) (by unfold maxLen; omega) (by omega) hN ?_
  intro v' w' h1 h2 _ _
  have h3 : OwnB E N w' v' (l ++ [ch]) := by
    unfold OwnB
    rw [Lib.byteCells_append, List.length_append]
    exact h1
  obtain ⟨b, c, rfl⟩ := row_form h3
  exact h b c _ w' (Lib.hid rfl) h3 ((Below.refl _ _).grown h2 hN (fun q hq => (World.ownsRow.lt hown q hq).1)) (oth_grown hown h2)
def valsT : List Int → List UInt8
  | [] => []
  | n :: t => 32 :: (Lib.itoa n ++ valsT t)
def keyT (k : K) : List UInt8 := 32 :: (k.key.data.toList ++ valsT k.vals)
/-- The keys, until the text is too long. -/
def appKeys (t : List UInt8) : List K → List UInt8
  | [] => t
  | k :: ks => if 20000 < t.length then t else appKeys (t ++ keyT k) ks
def nameT (s : ByteArray) : List UInt8 := if s = ⟨#[]⟩ then [] else 32 :: s.data.toList
def appI (t : List UInt8) (x : I) : List UInt8 := appKeys (t ++ x.word.data.toList ++ nameT x.name) x.keys ++ [59, 10]
/-- A statement of ordinary size. -/
structure OkI (x : I) : Prop where
  word : x.word.size ≤ 1000000
  name : x.name.size ≤ 1000000
  keys : x.keys.length ≤ 1000000
  key : ∀ k ∈ x.keys, k.key.size ≤ 1000000 ∧ k.vals.length ≤ 1000000 ∧ ∀ n ∈ k.vals, -9223372036854775808 ≤ n ∧ n ≤ 9223372036854775807
theorem valsT_step {vals : List Int} {j : Nat} {n : Int} {t r : List UInt8} (h : t ++ valsT (vals.drop j) = r) (hx : vals[j]? = some n) : (t ++ [32]) ++ Lib.itoa n ++ valsT (vals.drop (j + 1)) = r := by
  obtain ⟨hi, e⟩ := List.getElem?_eq_some_iff.1 hx
  rw [List.drop_eq_getElem_cons hi, e] at h
  rw [← h]
  simp [valsT]
theorem valsT_end {vals : List Int} {j : Nat} {t r : List UInt8} (h : t ++ valsT (vals.drop j) = r) (hj : vals.length ≤ j) : t = r := by
  rw [List.drop_eq_nil_of_le hj] at h
  simpa [valsT] using h
theorem appKeys_step {ks : List K} {i : Nat} {k : K} {t r : List UInt8} (h : appKeys t (ks.drop i) = r) (hx : ks[i]? = some k) : (20000 < t.length → t = r) ∧ (¬ 20000 < t.length → appKeys (t ++ keyT k) (ks.drop (i + 1)) = r) := by
  obtain ⟨hi, e⟩ := List.getElem?_eq_some_iff.1 hx
  rw [List.drop_eq_getElem_cons hi, e] at h
  unfold appKeys at h
  exact ⟨fun hh => by rw [if_pos hh] at h; exact h, fun hh => by rw [if_neg hh] at h; exact h⟩
theorem appKeys_end {ks : List K} {i : Nat} {t r : List UInt8} (h : appKeys t (ks.drop i) = r) (hj : ks.length ≤ i) : t = r := by
  rw [List.drop_eq_nil_of_le hj] at h
  exact h
theorem tab_mono {P : Program} {B B' : Nat} {w w' : World} {nm : String} {k : IntKind} {zs : List Int} (h : Lib.TabBelow P B w nm k zs) (hb : Below B w w') (hB : B ≤ B') : Lib.TabBelow P B' w' nm k zs := fun w2 h2 => h w2 (hb.trans (h2.mono hB))
end SS
namespace Go.Proofs.YtdikoeeoglfmaaaGreatDoor
open Go.RowKit SC PB SS
set_option maxRecDepth 100000 in
theorem info_u8 : (Tryz.prog.info? 5).map (fun i => (i.zero, i.size, i.bytes)) = some (some (.int .u8 0), 1, 1) := by kernel_rfl
set_option maxHeartbeats 8000000 in
set_option maxRecDepth 100000 in
theorem appitem_any (x : I) (z : Value) (l : List UInt8) (N : Nat) (v : Value) (w0 w : World) (hN : N ≤ w.heap.size) (hown : OwnB 5 N w v l) (hl : l.length ≤ 20000) (hx : OkI x) (hr : RdK w0 z x.keys) (hb0 : Below w0.heap.size w0 w) (hN0 : w0.heap.size ≤ N)
    (htab : Lib.TabBelow Tryz.prog N w "internal/strconv.uint64pow10" .u64 Lib.pow10Tab) :
    Calls Tryz.prog 12 #[v, iagg x z] w fun e w' => ∃ v', e = .returned v' ∧ OwnB 5 N w' v' (appI l x) ∧ Below N w w' := by
  obtain ⟨i0, hi, hz0, hz1, hz2⟩ := info_parts info_u8
  obtain ⟨h1, h2, h3, h4⟩ := hx
  have HAI := Lib.hid (fun (n : Int) (sv : Value) (t : List UInt8) (W : World) (h : OwnB 5 N W sv t) (hb : Below N w W) (hn : -9223372036854775808 ≤ n ∧ n ≤ 9223372036854775807) (ht : t.length ≤ 1000000000) =>
    (show Calls Tryz.prog 27 #[sv, .int .i64 n, .int .i64 10] W fun e w' => ∃ v', e = .returned v' ∧ OwnB 5 N w' v' (t ++ Lib.itoa n) ∧ Below N W w' ∧ Lib.OthersKept 5 none W w' from
    (Tryz.strconv_AppendInt_10 N t.length n hn.1 hn.2 sv (Lib.byteCells t) W h (Nat.le_trans hN hb.size) (by omega) (htab.on hb)).mono fun e w' ⟨v', he, ho, hbl, hoth⟩ =>
      ⟨v', he, by unfold OwnB; rw [List.length_append, Lib.byteCells_append]; exact ho, hbl, hoth⟩))
  obtain ⟨xb, kb, ko, xc, rfl, hk1, hk2, hk4⟩ := hr
  have HK := Lib.hid (fun W (h : Below N w W) (i : Nat) (y : K) (hi : x.keys[i]? = some y) => (show ∃ z, KAt W kb (ko + i * 3) y z ∧ ∀ W', Below N w W' → RdV W' z y.vals by
    obtain ⟨z, hz⟩ := hk4 i y hi
    have hlt := hk2 (by have := (List.getElem?_eq_some_iff.1 hi).1; omega)
    exact ⟨z, hz.kept (hb0.trans (h.mono hN0)) hlt, fun W' h' => hz.2.2.2.kept (hb0.trans (h'.mono hN0))⟩))
  have HKB := Lib.hid hk1
  have HX := Lib.hid (fun (k : Nat) (hk : k < x.keys.length) => (⟨x.keys[k], List.getElem?_eq_getElem hk, h4 _ (List.getElem_mem hk)⟩ : ∃ y, x.keys[k]? = some y ∧ y.key.size ≤ 1000000 ∧ y.vals.length ≤ 1000000 ∧ ∀ n ∈ y.vals, -9223372036854775808 ≤ n ∧ n ≤ 9223372036854775807))
  generalize hR : appKeys (l ++ x.word.data.toList ++ nameT x.name) x.keys = R
  have HRR := Lib.hid (show appKeys (l ++ x.word.data.toList ++ nameT x.name) (x.keys.drop 0) = R by rw [List.drop_zero]; exact hR)
  have hRe : appI l x = R ++ [59, 10] := by unfold appI; rw [hR]
  rw [hRe]
  have HE := Lib.hid (fun (i : Nat) (t : List UInt8) (h : appKeys t (x.keys.drop i) = R) (hi : x.keys.length ≤ i) => appKeys_end h hi)
  have HST := Lib.hid (fun (i : Nat) (t : List UInt8) (y : K) (h : appKeys t (x.keys.drop i) = R) (hy : x.keys[i]? = some y) => appKeys_step h hy)
  have HOWN := Lib.hid (hown.kept (sb_alloc (Below.refl _ _) (.cells #[.string x.word, .string x.name, .slice xb x.keys.length xc, .int .i64 x.pos] 38)))
  have HB0 := Lib.hid (show BT (w.alloc (.cells #[.string x.word, .string x.name, .slice xb x.keys.length xc, .int .i64 x.pos] 38)) w.heap.size 38 #[.string x.word, .string x.name, .slice xb x.keys.length xc, .int .i64 x.pos] from bt_new rfl)
  have HQ0 := Lib.hid (show Below N w (w.alloc (.cells #[.string x.word, .string x.name, .slice xb x.keys.length xc, .int .i64 x.pos] 38)) from (Below.refl _ _).alloc hN _)
  obtain ⟨vb, vc, rfl⟩ := row_form hown
  clear hk1 hk2 hk4 htab hown hR h4 hb0 hN0 hRe
  unfold iagg
  go_enter Tryz.func12, Tryz.ntmps12
  go_wp2_with (at_builtin; refine wpList_app_str _ rfl _ _ 42 9 rfl 5 i0 Tryz.underlying42 Tryz.underlying9 hi hz0 hz1 hz2 N _ l rfl HOWN.out x.word rfl (by omega) (by omega) (Nat.le_trans hN HQ0.out.size) ?_)
  intro b1 c1 T1 w1 e1 o1 q1 k1
  have HO1 := Lib.hid o1
  have hB1 := HB0.out.oth k1 (by decide)
  have HQ1 := Lib.hid (HQ0.out.trans q1)
  obtain ⟨x0, x1, x2, x3⟩ := Blk4 hB1.blk
  have HB1 := Lib.hid hB1
  have hlen1 : T1.length ≤ 1020000 := by rw [e1.out]; simp; omega
  rw [← e1.out] at HRR
  clear o1 q1 k1 hB1 HOWN HB0 HQ0 e1
  by_cases hnm : x.name = ⟨#[]⟩
  · have ht0 : (x.name.toList == []) = true := by rw [hnm, Lib.toList_data]; rfl
    have ht1 : (x.name.toList != []) = false := by simp [bne, ht0]
    have hnt : nameT x.name = [] := if_pos hnm
    rw [hnt, List.append_nil] at HRR
    clear hnm hnt
    go_wp2_with fail
    clear ht0 ht1
    have HLN := Lib.hid hlen1
    have HNN := Lib.hid hN
    clear hlen1
    go_loopw [0, 26] (fun tv i wr => ∃ (k : Nat) (t : List UInt8) (b : Option Addr) (c : Nat), k ≤ x.keys.length ∧ i = .int .i64 k ∧ tv = .slice b t.length c ∧ Hid (OwnB 5 N wr (.slice b t.length c) t) ∧ Hid (appKeys t (x.keys.drop k) = R) ∧ Hid (BT wr w.heap.size 38 #[.string x.word, .string x.name, .slice xb x.keys.length xc, .int .i64 x.pos]) ∧ Hid (Below N w wr) ∧ t.length ≤ 100000000) (fun _ i _ => x.keys.length - (intOf i).toNat)
    case atStart => exact ⟨0, T1, b1, c1, Nat.zero_le _, rfl, rfl, HO1, HRR, HB1, HQ1, by have := HLN.out; omega⟩
    case round =>
      clear HRR HO1 HB1 HQ1
      obtain ⟨k, t, tb, tc, hk, rfl, rfl, hO, hA, hBi, hwr, htl⟩ := hrel
      have hN2 : N ≤ wr.heap.size := Nat.le_trans HNN.out hwr.out.size
      by_cases hkn : k < x.keys.length
      · obtain rfl := HKB.out (by omega)
        obtain ⟨y, hy, hy1, hy2, hy3⟩ := HX.out k hkn
        obtain ⟨z, ⟨c0, c1, c2, hz⟩, hzz⟩ := HK.out wr hwr.out k y hy
        obtain ⟨zb, vb, vo, zc, rfl, -, -, -⟩ := hz.form
        obtain ⟨s1, s2⟩ := HST.out k t y hA.out hy
        have HZZ := Lib.hid hzz
        have HY3 := Lib.hid hy3
        clear hy hz hzz hy3
        by_cases hbig : 20000 < t.length
        · have hbi : (20000 : Int) < t.length := by omega
          have hV := s1 hbig
          subst hV
          clear s1 s2
          go_wp2_with (at_builtin; refine wpList_app_str _ rfl _ _ 42 9 rfl 5 i0 Tryz.underlying42 Tryz.underlying9 hi hz0 hz1 hz2 N _ t rfl (hO.out.kept (sb_alloc (Below.refl _ _) _)) ⟨#[59, 10]⟩ rfl (by omega) (by decide) (by simp; omega) ?_)
          intro b2 c2 T2 w2 e2 o2 q2 k2
          go_wp2_with fail
          go_ret
          exact ⟨_, rfl, by have := e2.out; subst this; exact o2, (hwr.out.alloc hN2 _).trans q2⟩
        · have hbi : ¬ (20000 : Int) < t.length := by omega
          have HS2 := Lib.hid (s2 hbig)
          have htl2 : t.length ≤ 20000 := by omega
          clear s1 s2 hbig htl hA
          go_wp2_with (at_builtin; refine wpList_app_one _ rfl _ _ 42 rfl 5 i0 Tryz.underlying42 hi hz0 hz1 hz2 N _ t rfl ((hO.out.kept (sb_alloc (Below.refl _ _) _)).kept (sb_alloc (Below.refl _ _) _)) _ 32 rfl (one_at _ _ _ _ (by simp)) (by omega) (by simp; omega) ?_)
          intro b2 c2 T2 w2 e2 o2 q2 k2
          have HO2 := Lib.hid o2
          have hB2 := ((hBi.out.kept (sb_alloc (Below.refl _ _) (.cells #[.string y.key, .slice zb y.vals.length zc, .int .i64 y.pos] 41))).kept (sb_alloc (Below.refl _ _) (.cells #[.int .u8 32] 5))).oth k2 (by decide)
          have hK2 := ((show BT _ wr.heap.size 41 #[.string y.key, .slice zb y.vals.length zc, .int .i64 y.pos] from bt_new rfl).kept (sb_alloc (Below.refl _ _) (.cells #[.int .u8 32] 5))).oth k2 (by decide)
          have HQ2 := Lib.hid (((hwr.out.alloc hN2 (.cells #[.string y.key, .slice zb y.vals.length zc, .int .i64 y.pos] 41)).alloc (by simp; omega) (.cells #[.int .u8 32] 5)).trans q2)
          obtain ⟨y0, y1, y2⟩ := Blk3 hK2.blk
          have HB2 := Lib.hid hB2
          have HK2 := Lib.hid hK2
          have hlen2 : T2.length ≤ 20001 := by rw [e2.out, List.length_append]; simp only [List.length_cons, List.length_nil]; omega
          clear o2 q2 k2 hB2 hK2 hO hBi hwr hN2
          go_wp2_with (at_builtin; refine wpList_app_str _ rfl _ _ 42 9 rfl 5 i0 Tryz.underlying42 Tryz.underlying9 hi hz0 hz1 hz2 N _ T2 rfl HO2.out y.key rfl (by omega) (by omega) (Nat.le_trans HNN.out HQ2.out.size) ?_)
          intro b3 c3 T3 w3 e3 o3 q3 k3
          have HO3 := Lib.hid o3
          have hB3 := HB2.out.oth k3 (by decide)
          have hK3 := HK2.out.oth k3 (by decide)
          have HQ3 := Lib.hid (HQ2.out.trans q3)
          obtain ⟨y0, y1, y2⟩ := Blk3 hK3.blk
          have HB3 := Lib.hid hB3
          have hlen3 : T3.length ≤ 1020001 := by rw [e3.out, List.length_append]; simp; omega
          generalize hR2 : T3 ++ valsT y.vals = R2
          have HR2 := Lib.hid (show T3 ++ valsT (y.vals.drop 0) = R2 by rw [List.drop_zero]; exact hR2)
          have HR3 := Lib.hid (show t ++ keyT y = R2 by rw [← hR2, e3.out, e2.out]; unfold keyT; simp)
          have HS3 := HS2.out
          rw [HR3.out] at HS3
          have HS4 := Lib.hid HS3
          have HV := Lib.hid (fun (j : Nat) (hj : j < y.vals.length) => (⟨y.vals[j], List.getElem?_eq_getElem hj, HY3.out _ (List.getElem_mem hj)⟩ : ∃ n, y.vals[j]? = some n ∧ -9223372036854775808 ≤ n ∧ n ≤ 9223372036854775807))
          have HSV := Lib.hid (fun (j : Nat) (n : Int) (u : List UInt8) (h : u ++ valsT (y.vals.drop j) = R2) (hj : y.vals[j]? = some n) => valsT_step h hj)
          have HEV := Lib.hid (fun (j : Nat) (u : List UInt8) (h : u ++ valsT (y.vals.drop j) = R2) (hj : y.vals.length ≤ j) => valsT_end h hj)
          clear o3 q3 k3 hB3 hK3 HO2 HB2 HK2 HQ2 hlen2 e2 e3 hR2 HR3 HS3 HS2 HY3
          go_wp2_with fail
          clear y0 y1 y2
          obtain ⟨wo, rfl⟩ : ∃ wo, wo = wr := ⟨_, rfl⟩
          go_loopw [0, 43] (fun tv i wr => ∃ (j : Nat) (u : List UInt8) (b : Option Addr) (c : Nat), j ≤ y.vals.length ∧ i = .int .i64 j ∧ tv = .slice b u.length c ∧ Hid (OwnB 5 N wr (.slice b u.length c) u) ∧ Hid (u ++ valsT (y.vals.drop j) = R2) ∧ Hid (BT wr w.heap.size 38 #[.string x.word, .string x.name, .slice (some ⟨kb, ko, none⟩) x.keys.length xc, .int .i64 x.pos]) ∧ Hid (Below N w wr) ∧ u.length ≤ 1020001 + 22 * j) (fun _ i _ => y.vals.length - (intOf i).toNat)
          case atStart => exact ⟨0, T3, b3, c3, Nat.zero_le _, rfl, rfl, HO3, HR2, HB3, HQ3, by omega⟩
          case round =>
            clear HR2 HO3 HB3 HQ3
            obtain ⟨j, u, ub, uc, hj, rfl, rfl, hO, hU, hBi, hwr, hul⟩ := hrel
            have hN2 : N ≤ wr.heap.size := Nat.le_trans HNN.out hwr.out.size
            by_cases hjn : j < y.vals.length
            · obtain ⟨nn, hnn, hn1, hn2⟩ := HV.out j hjn
              obtain ⟨zb', vb', vo', zc', hze, hzb, -, hzc⟩ := (HZZ.out wr hwr.out).form
              injection hze with hze1 hze2 hze3
              have hzb2 := hze1.trans (hzb (by omega))
              subst hzb2
              have z0 := hzc j nn hnn
              have HSV1 := Lib.hid (HSV.out j nn u hU.out hnn)
              clear hze1 hze3 hzb hzc hnn
              go_wp2_with (at_builtin; refine wpList_app_one _ rfl _ _ 42 rfl 5 i0 Tryz.underlying42 hi hz0 hz1 hz2 N _ u rfl (hO.out.kept (sb_alloc (Below.refl _ _) _)) _ 32 rfl (one_at _ _ _ _ (by simp)) (by omega) (by simp; omega) ?_)
              intro b4 c4 T4 w4 e4 o4 q4 k4
              have HO4 := Lib.hid o4
              have HB4 := Lib.hid ((hBi.out.kept (sb_alloc (Below.refl _ _) (.cells #[.int .u8 32] 5))).oth k4 (by decide))
              have HQ4 := Lib.hid ((hwr.out.alloc hN2 (.cells #[.int .u8 32] 5)).trans q4)
              have hlen4 : T4.length ≤ 1020001 + 22 * j + 1 := by rw [e4.out, List.length_append]; simp only [List.length_cons, List.length_nil]; omega
              rw [← e4.out] at HSV1
              have HIL := Lib.hid (Lib.itoa_length_le nn hn1 hn2)
              have HA4 := Lib.hid (HAI.out nn (.slice b4 T4.length c4) T4 w4 HO4.out HQ4.out ⟨hn1, hn2⟩ (by omega))
              clear o4 q4 k4 hO hBi hwr hU e4 z0 hN2
              go_wp2_with fail
              refine HA4.out.mono ?_
              rintro e w5 ⟨v5, rfl, o5, q5, k5⟩
              obtain ⟨b5, c5, rfl⟩ := row_form o5
              have HB5 := Lib.hid (HB4.out.oth k5 (by decide))
              have HQ5 := Lib.hid (HQ4.out.trans q5)
              have hlen5 : (T4 ++ Lib.itoa nn).length ≤ 1020001 + 22 * (j + 1) := by rw [List.length_append]; have := HIL.out; omega
              have HO5 := Lib.hid o5
              generalize T4 ++ Lib.itoa nn = T5 at *
              clear o5 q5 k5 HB4 HQ4 HO4 HA4 HIL hlen4
              go_wp2_with fail
              go_roundw
              case rel => exact ⟨j + 1, T5, b5, c5, by omega, by go_num, rfl, HO5, HSV1, HB5, HQ5, hlen5⟩
              case measure => simp [intOf]; omega
            · have hV := HEV.out j u hU.out (by omega)
              subst hV
              go_wp2_with fail
              go_roundw
              case rel => exact ⟨k + 1, u, ub, uc, by omega, by go_num, rfl, hO, HS4, hBi, hwr, by omega⟩
              case measure => simp [intOf]; omega
      · have hV := HE.out k t hA.out (by omega)
        subst hV
        go_wp2_with (at_builtin; refine wpList_app_str _ rfl _ _ 42 9 rfl 5 i0 Tryz.underlying42 Tryz.underlying9 hi hz0 hz1 hz2 N _ t rfl hO.out ⟨#[59, 10]⟩ rfl (by omega) (by decide) hN2 ?_)
        intro b2 c2 T2 w2 e2 o2 q2 k2
        go_wp2_with fail
        go_ret
        exact ⟨_, rfl, by have := e2.out; subst this; exact o2, hwr.out.trans q2⟩
  · have ht0 : (x.name.toList == []) = false := beq_l (l := []) hnm
    have ht1 : (x.name.toList != []) = true := by simp [bne, ht0]
    have hnt : nameT x.name = 32 :: x.name.data.toList := if_neg hnm
    rw [hnt] at HRR
    clear hnm hnt
    go_wp2_with (at_builtin; refine wpList_app_one _ rfl _ _ 42 rfl 5 i0 Tryz.underlying42 hi hz0 hz1 hz2 N _ T1 rfl (HO1.out.kept (sb_alloc (Below.refl _ _) _)) _ 32 rfl (one_at _ _ _ _ (by simp)) (by omega) (by have := HQ1.out.size; simp; omega) ?_)
    intro b2 c2 T2 w2 e2 o2 q2 k2
    have HO2 := Lib.hid o2
    have hB2 := (HB1.out.kept (sb_alloc (Below.refl _ _) (.cells #[.int .u8 32] 5))).oth k2 (by decide)
    have HQ2 := Lib.hid ((HQ1.out.alloc (Nat.le_trans hN HQ1.out.size) (.cells #[.int .u8 32] 5)).trans q2)
    obtain ⟨x0, x1, x2, x3⟩ := Blk4 hB2.blk
    have HB2 := Lib.hid hB2
    have hlen2 : T2.length ≤ 1020001 := by rw [e2.out, List.length_append]; simp only [List.length_cons, List.length_nil]; omega
    clear o2 q2 k2 hB2 HO1 HQ1 HB1 hlen1
    go_wp2_with (at_builtin; refine wpList_app_str _ rfl _ _ 42 9 rfl 5 i0 Tryz.underlying42 Tryz.underlying9 hi hz0 hz1 hz2 N _ T2 rfl HO2.out x.name rfl (by omega) (by omega) (Nat.le_trans hN HQ2.out.size) ?_)
    intro b1 c1 T3 w1 e3 o1 q1 k1
    have HO1 := Lib.hid o1
    have hB1 := HB2.out.oth k1 (by decide)
    have HQ1 := Lib.hid (HQ2.out.trans q1)
    obtain ⟨x0, x1, x2, x3⟩ := Blk4 hB1.blk
    have HB1 := Lib.hid hB1
    have hlen1 : T3.length ≤ 2020001 := by rw [e3.out, List.length_append]; simp; omega
    rw [show T1 ++ 32 :: x.name.data.toList = T3 by rw [e3.out, e2.out]; simp] at HRR
    clear o1 q1 k1 hB1 HO2 HQ2 HB2 hlen2 e2 e3
    go_wp2_with fail
    clear ht0 ht1
    have HLN := Lib.hid hlen1
    have HNN := Lib.hid hN
    clear hlen1
    go_loopw [0, 26] (fun tv i wr => ∃ (k : Nat) (t : List UInt8) (b : Option Addr) (c : Nat), k ≤ x.keys.length ∧ i = .int .i64 k ∧ tv = .slice b t.length c ∧ Hid (OwnB 5 N wr (.slice b t.length c) t) ∧ Hid (appKeys t (x.keys.drop k) = R) ∧ Hid (BT wr w.heap.size 38 #[.string x.word, .string x.name, .slice xb x.keys.length xc, .int .i64 x.pos]) ∧ Hid (Below N w wr) ∧ t.length ≤ 100000000) (fun _ i _ => x.keys.length - (intOf i).toNat)
    case atStart => exact ⟨0, T3, b1, c1, Nat.zero_le _, rfl, rfl, HO1, HRR, HB1, HQ1, by have := HLN.out; omega⟩
    case round =>
      clear HRR HO1 HB1 HQ1
      obtain ⟨k, t, tb, tc, hk, rfl, rfl, hO, hA, hBi, hwr, htl⟩ := hrel
      have hN2 : N ≤ wr.heap.size := Nat.le_trans HNN.out hwr.out.size
      by_cases hkn : k < x.keys.length
      · obtain rfl := HKB.out (by omega)
        obtain ⟨y, hy, hy1, hy2, hy3⟩ := HX.out k hkn
        obtain ⟨z, ⟨c0, c1, c2, hz⟩, hzz⟩ := HK.out wr hwr.out k y hy
        obtain ⟨zb, vb, vo, zc, rfl, -, -, -⟩ := hz.form
        obtain ⟨s1, s2⟩ := HST.out k t y hA.out hy
        have HZZ := Lib.hid hzz
        have HY3 := Lib.hid hy3
        clear hy hz hzz hy3
        by_cases hbig : 20000 < t.length
        · have hbi : (20000 : Int) < t.length := by omega
          have hV := s1 hbig
          subst hV
          clear s1 s2
          go_wp2_with (at_builtin; refine wpList_app_str _ rfl _ _ 42 9 rfl 5 i0 Tryz.underlying42 Tryz.underlying9 hi hz0 hz1 hz2 N _ t rfl (hO.out.kept (sb_alloc (Below.refl _ _) _)) ⟨#[59, 10]⟩ rfl (by omega) (by decide) (by simp; omega) ?_)
          intro b2 c2 T2 w2 e2 o2 q2 k2
          go_wp2_with fail
          go_ret
          exact ⟨_, rfl, by have := e2.out; subst this; exact o2, (hwr.out.alloc hN2 _).trans q2⟩
        · have hbi : ¬ (20000 : Int) < t.length := by omega
          have HS2 := Lib.hid (s2 hbig)
          have htl2 : t.length ≤ 20000 := by omega
          clear s1 s2 hbig htl hA
          go_wp2_with (at_builtin; refine wpList_app_one _ rfl _ _ 42 rfl 5 i0 Tryz.underlying42 hi hz0 hz1 hz2 N _ t rfl ((hO.out.kept (sb_alloc (Below.refl _ _) _)).kept (sb_alloc (Below.refl _ _) _)) _ 32 rfl (one_at _ _ _ _ (by simp)) (by omega) (by simp; omega) ?_)
          intro b2 c2 T2 w2 e2 o2 q2 k2
          have HO2 := Lib.hid o2
          have hB2 := ((hBi.out.kept (sb_alloc (Below.refl _ _) (.cells #[.string y.key, .slice zb y.vals.length zc, .int .i64 y.pos] 41))).kept (sb_alloc (Below.refl _ _) (.cells #[.int .u8 32] 5))).oth k2 (by decide)
          have hK2 := ((show BT _ wr.heap.size 41 #[.string y.key, .slice zb y.vals.length zc, .int .i64 y.pos] from bt_new rfl).kept (sb_alloc (Below.refl _ _) (.cells #[.int .u8 32] 5))).oth k2 (by decide)
          have HQ2 := Lib.hid (((hwr.out.alloc hN2 (.cells #[.string y.key, .slice zb y.vals.length zc, .int .i64 y.pos] 41)).alloc (by simp; omega) (.cells #[.int .u8 32] 5)).trans q2)
          obtain ⟨y0, y1, y2⟩ := Blk3 hK2.blk
          have HB2 := Lib.hid hB2
          have HK2 := Lib.hid hK2
          have hlen2 : T2.length ≤ 20001 := by rw [e2.out, List.length_append]; simp only [List.length_cons, List.length_nil]; omega
          clear o2 q2 k2 hB2 hK2 hO hBi hwr hN2
          go_wp2_with (at_builtin; refine wpList_app_str _ rfl _ _ 42 9 rfl 5 i0 Tryz.underlying42 Tryz.underlying9 hi hz0 hz1 hz2 N _ T2 rfl HO2.out y.key rfl (by omega) (by omega) (Nat.le_trans HNN.out HQ2.out.size) ?_)
          intro b3 c3 T3 w3 e3 o3 q3 k3
          have HO3 := Lib.hid o3
          have hB3 := HB2.out.oth k3 (by decide)
          have hK3 := HK2.out.oth k3 (by decide)
          have HQ3 := Lib.hid (HQ2.out.trans q3)
          obtain ⟨y0, y1, y2⟩ := Blk3 hK3.blk
          have HB3 := Lib.hid hB3
          have hlen3 : T3.length ≤ 1020001 := by rw [e3.out, List.length_append]; simp; omega
          generalize hR2 : T3 ++ valsT y.vals = R2
          have HR2 := Lib.hid (show T3 ++ valsT (y.vals.drop 0) = R2 by rw [List.drop_zero]; exact hR2)
          have HR3 := Lib.hid (show t ++ keyT y = R2 by rw [← hR2, e3.out, e2.out]; unfold keyT; simp)
          have HS3 := HS2.out
          rw [HR3.out] at HS3
          have HS4 := Lib.hid HS3
          have HV := Lib.hid (fun (j : Nat) (hj : j < y.vals.length) => (⟨y.vals[j], List.getElem?_eq_getElem hj, HY3.out _ (List.getElem_mem hj)⟩ : ∃ n, y.vals[j]? = some n ∧ -9223372036854775808 ≤ n ∧ n ≤ 9223372036854775807))
          have HSV := Lib.hid (fun (j : Nat) (n : Int) (u : List UInt8) (h : u ++ valsT (y.vals.drop j) = R2) (hj : y.vals[j]? = some n) => valsT_step h hj)
          have HEV := Lib.hid (fun (j : Nat) (u : List UInt8) (h : u ++ valsT (y.vals.drop j) = R2) (hj : y.vals.length ≤ j) => valsT_end h hj)
          clear o3 q3 k3 hB3 hK3 HO2 HB2 HK2 HQ2 hlen2 e2 e3 hR2 HR3 HS3 HS2 HY3
          go_wp2_with fail
          clear y0 y1 y2
          obtain ⟨wo, rfl⟩ : ∃ wo, wo = wr := ⟨_, rfl⟩
          go_loopw [0, 43] (fun tv i wr => ∃ (j : Nat) (u : List UInt8) (b : Option Addr) (c : Nat), j ≤ y.vals.length ∧ i = .int .i64 j ∧ tv = .slice b u.length c ∧ Hid (OwnB 5 N wr (.slice b u.length c) u) ∧ Hid (u ++ valsT (y.vals.drop j) = R2) ∧ Hid (BT wr w.heap.size 38 #[.string x.word, .string x.name, .slice (some ⟨kb, ko, none⟩) x.keys.length xc, .int .i64 x.pos]) ∧ Hid (Below N w wr) ∧ u.length ≤ 1020001 + 22 * j) (fun _ i _ => y.vals.length - (intOf i).toNat)
          case atStart => exact ⟨0, T3, b3, c3, Nat.zero_le _, rfl, rfl, HO3, HR2, HB3, HQ3, by omega⟩
          case round =>
            clear HR2 HO3 HB3 HQ3
            obtain ⟨j, u, ub, uc, hj, rfl, rfl, hO, hU, hBi, hwr, hul⟩ := hrel
            have hN2 : N ≤ wr.heap.size := Nat.le_trans HNN.out hwr.out.size
            by_cases hjn : j < y.vals.length
            · obtain ⟨nn, hnn, hn1, hn2⟩ := HV.out j hjn
              obtain ⟨zb', vb', vo', zc', hze, hzb, -, hzc⟩ := (HZZ.out wr hwr.out).form
              injection hze with hze1 hze2 hze3
              have hzb2 := hze1.trans (hzb (by omega))
              subst hzb2
              have z0 := hzc j nn hnn
              have HSV1 := Lib.hid (HSV.out j nn u hU.out hnn)
              clear hze1 hze3 hzb hzc hnn
              go_wp2_with (at_builtin; refine wpList_app_one _ rfl _ _ 42 rfl 5 i0 Tryz.underlying42 hi hz0 hz1 hz2 N _ u rfl (hO.out.kept (sb_alloc (Below.refl _ _) _)) _ 32 rfl (one_at _ _ _ _ (by simp)) (by omega) (by simp; omega) ?_)
              intro b4 c4 T4 w4 e4 o4 q4 k4
              have HO4 := Lib.hid o4
              have HB4 := Lib.hid ((hBi.out.kept (sb_alloc (Below.refl _ _) (.cells #[.int .u8 32] 5))).oth k4 (by decide))
              have HQ4 := Lib.hid ((hwr.out.alloc hN2 (.cells #[.int .u8 32] 5)).trans q4)
              have hlen4 : T4.length ≤ 1020001 + 22 * j + 1 := by rw [e4.out, List.length_append]; simp only [List.length_cons, List.length_nil]; omega
              rw [← e4.out] at HSV1
              have HIL := Lib.hid (Lib.itoa_length_le nn hn1 hn2)
              have HA4 := Lib.hid (HAI.out nn (.slice b4 T4.length c4) T4 w4 HO4.out HQ4.out ⟨hn1, hn2⟩ (by omega))
              clear o4 q4 k4 hO hBi hwr hU e4 z0 hN2
              go_wp2_with fail
              refine HA4.out.mono ?_
              rintro e w5 ⟨v5, rfl, o5, q5, k5⟩
              obtain ⟨b5, c5, rfl⟩ := row_form o5
              have HB5 := Lib.hid (HB4.out.oth k5 (by decide))
              have HQ5 := Lib.hid (HQ4.out.trans q5)
              have hlen5 : (T4 ++ Lib.itoa nn).length ≤ 1020001 + 22 * (j + 1) := by rw [List.length_append]; have := HIL.out; omega
              have HO5 := Lib.hid o5
              generalize T4 ++ Lib.itoa nn = T5 at *
              clear o5 q5 k5 HB4 HQ4 HO4 HA4 HIL hlen4
              go_wp2_with fail
              go_roundw
              case rel => exact ⟨j + 1, T5, b5, c5, by omega, by go_num, rfl, HO5, HSV1, HB5, HQ5, hlen5⟩
              case measure => simp [intOf]; omega
            · have hV := HEV.out j u hU.out (by omega)
              subst hV
              go_wp2_with fail
              go_roundw
              case rel => exact ⟨k + 1, u, ub, uc, by omega, by go_num, rfl, hO, HS4, hBi, hwr, by omega⟩
              case measure => simp [intOf]; omega
      · have hV := HE.out k t hA.out (by omega)
        subst hV
        go_wp2_with (at_builtin; refine wpList_app_str _ rfl _ _ 42 9 rfl 5 i0 Tryz.underlying42 Tryz.underlying9 hi hz0 hz1 hz2 N _ t rfl hO.out ⟨#[59, 10]⟩ rfl (by omega) (by decide) hN2 ?_)
        intro b2 c2 T2 w2 e2 o2 q2 k2
        go_wp2_with fail
        go_ret
        exact ⟨_, rfl, by have := e2.out; subst this; exact o2, hwr.out.trans q2⟩
end Go.Proofs.YtdikoeeoglfmaaaGreatDoor
