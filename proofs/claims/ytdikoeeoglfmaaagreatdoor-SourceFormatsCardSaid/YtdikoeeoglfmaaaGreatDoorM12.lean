/-
  The reader of words: demand, next, nextOf.
  Looking a key up: find, Get, and the reference's Get.
-/
import Derived.WalkLawsBesides
import Derived.Test.YtdikoeeoglfmaaaGreatDoorM11
namespace SS
open Go Go.RowKit PB SC
def wordW (x : W) : Value := wordV x.kind ⟨x.text.toArray⟩ x.num x.pos
/-- Given up with an error at a place. -/
def Gave (F : TypeId) (e p : Int) : Ending := .panicked [{ v := .iface F (.agg #[.int .i64 e, .int .i64 p]), recovered := false }]
/-- The reader in block p stands ahead of word k of ws, which lie in block g. -/
structure RS (w : World) (p g : Nat) (sz : Int) (ws : List W) (k : Nat) : Prop where
  blk : ∃ (base : Option Addr) (c : Nat), Blk w p #[.slice base (ws.length - k) c, .int .i64 sz] ∧ (k < ws.length → base = some ⟨g, k * 4, none⟩) ∧ ws.length - k ≤ c
  row : WRow w g ws
  lt : g < p
theorem wat_but {w w' : World} {p g i : Nat} {x : W} (h : WAt w g i x) (hb : But p w w') (hg : g < w.heap.size) (hp : g ≠ p) : WAt w' g i x := by
  obtain ⟨h1, h2, h3, h4⟩ := h
  exact ⟨by rw [hb.cell (q := ⟨g, _, none⟩) hg hp]; exact h1, by rw [hb.cell (q := ⟨g, _, none⟩) hg hp]; exact h2, by rw [hb.cell (q := ⟨g, _, none⟩) hg hp]; exact h3, by rw [hb.cell (q := ⟨g, _, none⟩) hg hp]; exact h4⟩
theorem wrow_but {w w' : World} {p g : Nat} {ws : List W} (h : WRow w g ws) (hb : But p w w') (hg : g < w.heap.size) (hp : g ≠ p) : WRow w' g ws := fun i x hx => wat_but (h i x hx) hb hg hp
theorem RS.ltp {w : World} {p g : Nat} {sz : Int} {ws : List W} {k : Nat} (h : RS w p g sz ws k) : p < w.heap.size := by
  obtain ⟨⟨_, _, hb, _⟩, _, _⟩ := h; exact hb.lt
theorem RS.kept {w w' : World} {p g : Nat} {sz : Int} {ws : List W} {k : Nat} (h : RS w p g sz ws k) (hb : Below w.heap.size w w') : RS w' p g sz ws k := by
  obtain ⟨⟨b, c, h1, h2, h3⟩, hr, hl⟩ := h
  have hp := h1.lt
  exact ⟨⟨b, c, h1.kept hb, h2, h3⟩, wrow_but hr (But.of (p := p) hb) (Nat.lt_trans hl hp) (by omega), hl⟩
theorem RS.setn {w : World} {p g q : Nat} {sz : Int} {ws : List W} {k o : Nat} (h : RS w p g sz ws k) (hq : p < q) (v : Value) : RS (w.setCell ⟨q, o, none⟩ v) p g sz ws k := by
  obtain ⟨⟨b, c, h1, h2, h3⟩, hr, hl⟩ := h
  refine ⟨⟨b, c, h1.other v (by dsimp only; omega), h2, h3⟩, fun i x hx => ?_, hl⟩
  obtain ⟨a1, a2, a3, a4⟩ := hr i x hx
  have e : ∀ j, (w.setCell ⟨q, o, none⟩ v).cell? ⟨g, j, none⟩ = w.cell? ⟨g, j, none⟩ := fun j => World.cell?_setCell_other w _ _ v (by intro e; injection e; omega)
  exact ⟨by rw [e]; exact a1, by rw [e]; exact a2, by rw [e]; exact a3, by rw [e]; exact a4⟩
end SS
namespace Go.Proofs.YtdikoeeoglfmaaaGreatDoor
open Go.RowKit SC PB SS
set_option maxHeartbeats 4000000 in
set_option maxRecDepth 100000 in
theorem demand_yes (x : W) (er : Int) (w : World) :
    Calls Tryz.prog 20 #[.bool true, .int .i64 er, wordW x] w fun e w' => e = .returned (.tuple #[]) ∧ Below w.heap.size w w' := by
  unfold wordW
  go_enter Tryz.func20, Tryz.ntmps20
  go_wp2_with fail
  go_end0
  exact ⟨rfl, (Below.refl _ _).alloc (Nat.le_refl _) _⟩
set_option maxHeartbeats 4000000 in
set_option maxRecDepth 100000 in
theorem demand_no (x : W) (er : Int) (w : World) :
    Calls Tryz.prog 20 #[.bool false, .int .i64 er, wordW x] w fun e w' => e = Gave 55 er x.pos ∧ Below w.heap.size w w' := by
  unfold wordW
  go_enter Tryz.func20, Tryz.ntmps20
  go_wp2_with fail
  exact ⟨rfl, rfl, (Below.refl _ _).alloc (Nat.le_refl _) _⟩
set_option maxHeartbeats 4000000 in
set_option maxRecDepth 100000 in
theorem next_end (p g : Nat) (sz : Int) (ws : List W) (w : World) (h : RS w p g sz ws ws.length) :
    Calls Tryz.prog 37 #[.pointer (some ⟨p, 0, none⟩)] w fun e w' => e = Gave 55 4 sz ∧ Below w.heap.size w w' := by
  obtain ⟨⟨base, c, hb, _, _⟩, _, _⟩ := h
  rw [Nat.sub_self] at hb
  obtain ⟨c0, c1⟩ := Blk2 hb
  have hlt := hb.lt
  clear hb
  go_enter Tryz.func37, Tryz.ntmps37
  go_wp2_with fail
  exact ⟨rfl, rfl, (Below.refl _ _).alloc (Nat.le_refl _) _⟩
set_option maxHeartbeats 4000000 in
set_option maxRecDepth 100000 in
theorem next_ok (p g k : Nat) (sz : Int) (ws : List W) (x : W) (hx : ws[k]? = some x) (hn : ws.length ≤ 1000000) (w : World) (h : RS w p g sz ws k) :
    Calls Tryz.prog 37 #[.pointer (some ⟨p, 0, none⟩)] w fun e w' => e = .returned (wordW x) ∧ RS w' p g sz ws (k + 1) ∧ But p w w' := by
  obtain ⟨⟨base, c, hb, hbase, hc⟩, hrow, hgp⟩ := h
  have hk := (List.getElem?_eq_some_iff.1 hx).1
  obtain rfl := hbase hk
  obtain ⟨c0, c1⟩ := Blk2 hb
  obtain ⟨f0, f1⟩ := Blk2f hb
  have hlt := hb.lt
  obtain ⟨x0, x1, x2, x3⟩ := hrow k x hx
  have HB := Lib.hid hb
  have HX := Lib.hid hx
  have HR := Lib.hid hrow
  clear hb hx hrow
  generalize hm : ws.length - k = m at *
  have HM := Lib.hid hm
  have hm1 : 1 ≤ m := by omega
  have hm2 : m ≤ 1000000 := by omega
  have hg : g < w.heap.size := Nat.lt_trans hgp hlt
  have hm0 : ((m : Int) == 0) = false := beq_eq_false_iff_ne.2 (by omega)
  clear hm hn hk hbase
  unfold wordW
  go_enter Tryz.func37, Tryz.ntmps37
  go_wp2_with fail
  all_goals
    have hm3 : ws.length - (k + 1) = m - 1 := by have := HM.out; omega
    refine bodyPost_ret (blk_res (g := w.heap.size) rfl _ rfl ((blk_new (by simp)).alloc _) Tryz.underlying64 rfl (by rfl)) rfl ?_
    refine ⟨rfl, ⟨⟨_, _, by rw [hm3]; exact (((HB.out.set 0 _).alloc _).alloc _), fun hk2 => ?_, by omega⟩, wrow_but HR.out (((But.set p w 0 _).alloc _).alloc _) hg (by omega), hgp⟩, ((But.set p w 0 _).alloc _).alloc _⟩
    first | (congr 2; omega) | (exfalso; omega)
set_option maxHeartbeats 4000000 in
set_option maxRecDepth 100000 in
theorem nextOf_end (kd : Int) (p g : Nat) (sz : Int) (ws : List W) (w : World) (h : RS w p g sz ws ws.length) :
    Calls Tryz.prog 39 #[.pointer (some ⟨p, 0, none⟩), .int .i64 kd] w fun e w' => e = Gave 55 4 sz ∧ But p w w' := by
  have H := Lib.hid h
  clear h
  go_enter Tryz.func39, Tryz.ntmps39
  go_wp2_with fail
  refine (next_end p g sz ws _ (H.out.kept ((Below.refl _ _).alloc (Nat.le_refl _) _))).mono ?_
  rintro e w1 ⟨rfl, q1⟩
  exact ⟨rfl, rfl, But.of (next ((Below.refl _ _).alloc (Nat.le_refl _) _) q1)⟩
set_option maxHeartbeats 4000000 in
set_option maxRecDepth 100000 in
theorem nextOf_bad (kd : Int) (p g k : Nat) (sz : Int) (ws : List W) (x : W) (hx : ws[k]? = some x) (hn : ws.length ≤ 1000000) (hkd : ¬ x.kind = kd) (w : World) (h : RS w p g sz ws k) :
    Calls Tryz.prog 39 #[.pointer (some ⟨p, 0, none⟩), .int .i64 kd] w fun e w' => e = Gave 55 4 x.pos ∧ But p w w' := by
  have H := Lib.hid h
  have HN := Lib.hid (fun W h => next_ok p g k sz ws x hx hn W h)
  have HD := Lib.hid (fun W => demand_no x 4 W)
  have hb : ((x.kind : Int) == kd) = false := beq_eq_false_iff_ne.2 hkd
  clear h hx hn hkd
  go_enter Tryz.func39, Tryz.ntmps39
  go_wp2_with fail
  refine (HN.out _ (H.out.kept ((Below.refl _ _).alloc (Nat.le_refl _) _))).mono ?_
  rintro e w1 ⟨rfl, h1, q1⟩
  have q2 := (But.of (p := p) ((Below.refl w.heap.size w).alloc (Nat.le_refl _) _)).trans q1
  have H1 := Lib.hid h1
  clear h1 q1
  unfold wordW
  go_wp2_with fail
  refine (HD.out _).mono ?_
  rintro e w2 ⟨rfl, q3⟩
  exact ⟨rfl, rfl, (q2.alloc _).trans (But.of q3)⟩
set_option maxHeartbeats 4000000 in
set_option maxRecDepth 100000 in
theorem nextOf_ok (kd : Int) (p g k : Nat) (sz : Int) (ws : List W) (x : W) (hx : ws[k]? = some x) (hn : ws.length ≤ 1000000) (hkd : x.kind = kd) (w : World) (h : RS w p g sz ws k) :
    Calls Tryz.prog 39 #[.pointer (some ⟨p, 0, none⟩), .int .i64 kd] w fun e w' => e = .returned (wordW x) ∧ RS w' p g sz ws (k + 1) ∧ But p w w' := by
  subst hkd
  have H := Lib.hid h
  have HN := Lib.hid (fun W h => next_ok p g k sz ws x hx hn W h)
  have HD := Lib.hid (fun W => demand_yes x 4 W)
  clear h hx hn
  go_enter Tryz.func39, Tryz.ntmps39
  go_wp2_with fail
  refine (HN.out _ (H.out.kept ((Below.refl _ _).alloc (Nat.le_refl _) _))).mono ?_
  rintro e w1 ⟨rfl, h1, q1⟩
  have hlt : w.heap.size < w1.heap.size := by have := q1.size; simp at this; omega
  have q2 := (But.of (p := p) ((Below.refl w.heap.size w).alloc (Nat.le_refl _) _)).trans q1
  have H1 := Lib.hid h1
  clear h1
  unfold wordW
  go_wp2_with fail
  refine (HD.out _).mono ?_
  rintro e w2 ⟨rfl, q3⟩
  have hp := H.out.ltp
  have R : Blk w2 w.heap.size #[.int .i64 0, .string ⟨#[]⟩, .int .i64 0, .int .i64 0] := ((q1.blk (blk_new rfl) (by omega)).alloc _).kept q3
  have X : Blk w2 w1.heap.size #[.int .i64 x.kind, .string ⟨x.text.toArray⟩, .int .i64 x.num, .int .i64 x.pos] := (blk_new rfl).kept q3
  obtain ⟨x0, x1, x2, x3⟩ := Blk4 X
  obtain ⟨r0, r1, r2, r3⟩ := Blk4 R
  obtain ⟨f0, f1, f2, f3⟩ := Blk4f R
  have RR := Lib.hid R
  have H2 := Lib.hid ((H1.out.kept ((Below.refl _ _).alloc (Nat.le_refl _) _)).kept q3)
  have q4 := (q2.alloc _).trans (But.of q3)
  clear R X q1 q3
  go_wp2_with fail
  refine bodyPost_ret (blk_res rfl _ rfl (blk_set4 RR.out) Tryz.underlying64 rfl (by rfl)) rfl ?_
  refine ⟨rfl, ?_, (((q4.setn (Nat.le_refl _) _).setn (Nat.le_refl _) _).setn (Nat.le_refl _) _).setn (Nat.le_refl _) _⟩
  exact ((((H2.out.setn hp _).setn hp _).setn hp _).setn hp _)
end Go.Proofs.YtdikoeeoglfmaaaGreatDoor

namespace SS
open Go Go.RowKit PB SC
def kagg (k : K) (z : Value) : Value := .agg #[.string k.key, z, .int .i64 k.pos]
def iagg (x : I) (z : Value) : Value := .agg #[.string x.word, .string x.name, z, .int .i64 x.pos]
/-- The index of the first key called so, counted from i. -/
def fidx (key : ByteArray) : List K → Nat → Int
  | [], _ => -1
  | k :: t, i => if k.key = key then i else fidx key t (i + 1)
def getV (key : ByteArray) : List K → Option (List Int)
  | [] => none
  | k :: t => if k.key = key then some k.vals else getV key t
def oV : Option (List Int) → List Int
  | some l => l
  | none => []
theorem fidx_cons {key : ByteArray} {ks : List K} {i : Nat} {k : K} {r : Int} (h : fidx key (ks.drop i) i = r) (hk : ks[i]? = some k) : (k.key = key → r = i) ∧ (¬ k.key = key → fidx key (ks.drop (i + 1)) (i + 1) = r) := by
  obtain ⟨hi, e⟩ := List.getElem?_eq_some_iff.1 hk
  rw [List.drop_eq_getElem_cons hi, e] at h
  unfold fidx at h
  exact ⟨fun hh => by rw [if_pos hh] at h; exact h.symm, fun hh => by rw [if_neg hh] at h; exact h⟩
theorem fidx_end {key : ByteArray} {ks : List K} {i : Nat} {r : Int} (h : fidx key (ks.drop i) i = r) (hi : ks.length ≤ i) : r = -1 := by
  rw [List.drop_eq_nil_of_le hi] at h; exact h.symm
theorem fidx_spec (key : ByteArray) : ∀ (ks : List K) (i : Nat), (∃ j k, fidx key ks i = ((i + j : Nat) : Int) ∧ ks[j]? = some k ∧ getV key ks = some k.vals ∧ hasKey ks key = true) ∨ (fidx key ks i = -1 ∧ getV key ks = none ∧ hasKey ks key = false)
  | [], i => .inr ⟨rfl, rfl, rfl⟩
  | k :: t, i => by
    by_cases hk : k.key = key
    · exact .inl ⟨0, k, by unfold fidx; rw [if_pos hk]; rfl, rfl, by unfold getV; rw [if_pos hk], by unfold hasKey; simp [hk]⟩
    · rcases fidx_spec key t (i + 1) with ⟨j, k', h1, h2, h3, h4⟩ | ⟨h1, h2, h3⟩
      · exact .inl ⟨j + 1, k', by unfold fidx; rw [if_neg hk, h1]; congr 1; omega, by simpa using h2, by unfold getV; rw [if_neg hk, h3], by unfold hasKey at h4 ⊢; rw [List.any_cons, h4]; simp⟩
      · exact .inr ⟨by unfold fidx; rw [if_neg hk, h1], by unfold getV; rw [if_neg hk, h2], by unfold hasKey at h3 ⊢; rw [List.any_cons, h3, decide_eq_false hk]; rfl⟩
theorem getV_cons {key : ByteArray} {ks : List K} {i : Nat} {k : K} {r : Option (List Int)} (h : getV key (ks.drop i) = r) (hk : ks[i]? = some k) : (k.key = key → r = some k.vals) ∧ (¬ k.key = key → getV key (ks.drop (i + 1)) = r) := by
  obtain ⟨hi, e⟩ := List.getElem?_eq_some_iff.1 hk
  rw [List.drop_eq_getElem_cons hi, e] at h
  unfold getV at h
  exact ⟨fun hh => by rw [if_pos hh] at h; exact h.symm, fun hh => by rw [if_neg hh] at h; exact h⟩
theorem getV_end {key : ByteArray} {ks : List K} {i : Nat} {r : Option (List Int)} (h : getV key (ks.drop i) = r) (hi : ks.length ≤ i) : r = none := by
  rw [List.drop_eq_nil_of_le hi] at h; exact h.symm
end SS
namespace Go.Proofs.YtdikoeeoglfmaaaGreatDoor
open Go.RowKit SC PB SS
set_option maxHeartbeats 4000000 in
set_option maxRecDepth 100000 in
theorem clo_any (k : K) (z : Value) (key : ByteArray) (b : Nat) (w : World) (hb : w.cell? ⟨b, 0, none⟩ = some (.string key)) :
    Calls Tryz.prog 42 #[kagg k z, .pointer (some ⟨b, 0, none⟩)] w fun e w' => e = .returned (.bool (decide (k.key = key))) ∧ Below w.heap.size w w' := by
  have hlt := World.block_lt_of_cell? w _ hb
  have HD := Lib.hid (beq_str_dec k.key key)
  unfold kagg
  go_enter Tryz.func42, Tryz.ntmps42
  go_wp2_with fail
  go_ret
  exact ⟨by rw [← HD.out]; rfl, (Below.refl _ _).alloc (Nat.le_refl _) _⟩
set_option maxHeartbeats 4000000 in
set_option maxRecDepth 100000 in
theorem index_any (ks : List K) (v : Value) (key : ByteArray) (bx : Nat) (w : World) (hr : RdK w v ks) (hn : ks.length ≤ 1000000) (hb : w.cell? ⟨bx, 0, none⟩ = some (.string key)) :
    Calls Tryz.prog 41 #[v, .func (.func 42) #[] #[.pointer (some ⟨bx, 0, none⟩)]] w fun e w' => e = .returned (.int .i64 (fidx key ks 0)) ∧ Below w.heap.size w w' := by
  obtain ⟨base, b, off, c, rfl, h1, h2, h4⟩ := hr
  have hlt := World.block_lt_of_cell? w _ hb
  have HB := Lib.hid h1
  have HL := Lib.hid h2
  have HC := Lib.hid (fun k z w hb => clo_any k z key bx w hb)
  have HBX := Lib.hid (fun w' (h : Below w.heap.size w w') => (show w'.cell? ⟨bx, 0, none⟩ = some (.string key) by rw [h.cell (p := ⟨bx, 0, none⟩) hlt]; exact hb))
  have HK := Lib.hid (fun w' (h : Below w.heap.size w w') (i : Nat) k (hi : ks[i]? = some k) => (show ∃ z, KAt w' b (off + i * 3) k z by
    obtain ⟨z, hz⟩ := h4 i k hi
    exact ⟨z, hz.kept h (h2 (by have := (List.getElem?_eq_some_iff.1 hi).1; omega))⟩))
  have HX := Lib.hid (fun (k : Nat) (hk : k < ks.length) => (⟨ks[k], List.getElem?_eq_getElem hk⟩ : ∃ x, ks[k]? = some x))
  generalize hR : fidx key ks 0 = R
  have HR0 := Lib.hid (show fidx key (ks.drop 0) 0 = R by rw [List.drop_zero]; exact hR)
  have HE := Lib.hid (show ∀ i, fidx key (ks.drop i) i = R → ks.length ≤ i → R = -1 from fun i h hi => fidx_end h hi)
  clear h1 h2 h4 hb hR hlt
  generalize hN : ks.length = n at *
  clear hN
  go_enter Tryz.func41, Tryz.ntmps41
  go_wp2_with fail
  go_loopw [8] (fun i wr => ∃ k : Nat, k ≤ n ∧ i = .int .i64 k ∧ Hid (fidx key (ks.drop k) k = R) ∧ Hid (Below w.heap.size w wr)) (fun i _ => n - (intOf i).toNat)
  case atStart => exact ⟨0, Nat.zero_le _, rfl, HR0, Lib.hid (Below.refl _ _)⟩
  case round =>
    clear HR0
    obtain ⟨k, hk, rfl, hA, hwr⟩ := hrel
    by_cases hkn : k < n
    · obtain rfl := HB.out (by omega)
      obtain ⟨y, hy⟩ := HX.out k hkn
      obtain ⟨z, c0, c1, c2, hv⟩ := HK.out _ hwr.out k y hy
      have hcl := HC.out y z _ (HBX.out _ hwr.out)
      obtain ⟨s1, s2⟩ := fidx_cons hA.out hy
      have HCL := Lib.hid hcl
      clear hv hy hcl
      by_cases hxy : y.key = key
      · rw [decide_eq_true hxy] at HCL
        have HV := Lib.hid (s1 hxy)
        clear s1 s2 hxy
        unfold kagg at HCL
        go_wp2_with fail
        refine HCL.out.mono ?_
        rintro e w1 ⟨rfl, hw1⟩
        have HB1 := Lib.hid (next hwr.out hw1)
        clear hw1 c0 c1 c2
        go_wp2_with fail
        go_ret
        exact ⟨by rw [HV.out]; rfl, HB1.out⟩
      · rw [decide_eq_false hxy] at HCL
        have HV := Lib.hid (s2 hxy)
        clear s1 s2 hxy
        unfold kagg at HCL
        go_wp2_with fail
        refine HCL.out.mono ?_
        rintro e w1 ⟨rfl, hw1⟩
        have HB1 := Lib.hid (next hwr.out hw1)
        clear hw1 c0 c1 c2
        go_wp2_with fail
        go_roundw
        case rel => exact ⟨k + 1, by omega, by go_num, HV, HB1⟩
        case measure => simp [intOf]; omega
    · have HV := Lib.hid (HE.out k hA.out (by omega))
      go_wp2_with fail
      go_ret
      exact ⟨by rw [HV.out]; rfl, hwr.out⟩
set_option maxHeartbeats 4000000 in
set_option maxRecDepth 100000 in
theorem find_any (x : I) (z : Value) (key : ByteArray) (w : World) (hr : RdK w z x.keys) (hn : x.keys.length ≤ 1000000) :
    Calls Tryz.prog 22 #[iagg x z, .string key] w fun e w' => e = .returned (.int .i64 (fidx key x.keys 0)) ∧ Below w.heap.size w w' := by
  have hmf : ∀ (fn : Fn) (first cap : Array Value) (w : World), (Instr.makeFunc fn first cap).run Tryz.prog w = .ok (.func fn first cap) w := fun _ _ _ _ => rfl
  have H := Lib.hid (fun W (h : Below w.heap.size w W) bx hb => index_any x.keys z key bx W (hr.kept h) hn hb)
  clear hr hn
  unfold iagg
  go_enter Tryz.func22, Tryz.ntmps22
  go_wp2_with fail
  refine (H.out _ (sb_alloc (sb_alloc (Below.refl _ _) _) _) (w.heap.size + 1) (cell_new _ _ _ _ _ _ (by simp) rfl)).mono ?_
  rintro e w1 ⟨rfl, hw1⟩
  go_wp2_with fail
  go_ret
  exact ⟨rfl, next (sb_alloc (sb_alloc (Below.refl _ _) _) _) hw1⟩
theorem vclone_any (vals : List Int) (v : Value) (w : World) (hr : RdV w v vals) (hn : vals.length ≤ 1000000) :
    Calls Tryz.prog 23 #[v] w fun e w' => ∃ v', e = .returned v' ∧ RdV w' v' vals ∧ Below w.heap.size w w' := by
  obtain ⟨base, b, off, c, rfl, h1, h2, h4⟩ := hr.form
  by_cases h0 : vals.length = 0
  · obtain rfl := List.eq_nil_of_length_eq_zero h0
    cases base with
    | none =>
      refine (Tryz.slices_Clone_int_nil _ c w).mono ?_
      rintro e w' ⟨rfl, rfl⟩
      exact ⟨_, rfl, (OwnVs.nil 3 0 _).rd, Below.refl _ _⟩
    | some a =>
      refine (Tryz.slices_Clone_int_zero a c w).mono ?_
      rintro e w' ⟨v', rfl, hown, _, hb⟩
      exact ⟨_, rfl, own_rd hown, hb⟩
  · obtain rfl := h1 h0
    refine (Tryz.slices_Clone_int b off vals.length c vals w (Nat.le_refl _) (by omega) (fun j hj => ?_)).mono ?_
    · rw [h4 j _ (List.getElem?_eq_getElem hj), List.getD_eq_getElem?_getD, List.getElem?_eq_getElem hj]; rfl
    · rintro e w' ⟨v', rfl, hown, _, hb⟩
      rw [List.take_length] at hown
      exact ⟨_, rfl, own_rd hown, hb⟩
set_option maxHeartbeats 4000000 in
set_option maxRecDepth 100000 in
theorem get_any (x : I) (z : Value) (key : ByteArray) (w : World) (hr : RdK w z x.keys) (hn : x.keys.length ≤ 1000000) (hv : ∀ k ∈ x.keys, k.vals.length ≤ 1000000) :
    Calls Tryz.prog 10 #[iagg x z, .string key] w fun e w' => ∃ v, e = .returned (.tuple #[v, .bool (getV key x.keys).isSome]) ∧ RdV w' v (oV (getV key x.keys)) ∧ Below w.heap.size w w' := by
  have HF := Lib.hid (fun W (h : Below w.heap.size w W) => find_any x z key W (hr.kept h) hn)
  rcases fidx_spec key x.keys 0 with ⟨j, k, h1, h2, h3, _⟩ | ⟨h1, h2, _⟩
  · rw [Nat.zero_add] at h1
    rw [h3]
    rw [h1] at HF
    have hj := (List.getElem?_eq_some_iff.1 h2).1
    have HC := Lib.hid (fun v w h => vclone_any k.vals v w h (hv k (List.mem_of_getElem? h2)))
    obtain ⟨base, b, off, c, rfl, g1, g2, g4⟩ := hr
    obtain rfl := g1 (by omega)
    have g2 := g2 (by omega)
    obtain ⟨y, hy⟩ := g4 j k h2
    have HY := Lib.hid (fun W (h : Below w.heap.size w W) => hy.kept h g2)
    generalize x.keys.length = n at *
    clear h1 h2 h3 hv g1 g4 hy
    unfold iagg at HF ⊢
    go_enter Tryz.func10, Tryz.ntmps10
    go_wp2_with fail
    refine (HF.out _ (sb_alloc (Below.refl _ _) _)).mono ?_
    rintro e w1 ⟨rfl, q1⟩
    have q2 := next (sb_alloc (Below.refl w.heap.size w) _) q1
    have B := (show Blk _ _ _ from blk_new rfl).kept q1
    obtain ⟨b0, b1, b2, b3⟩ := Blk4 B
    obtain ⟨y0, y1, y2, y3⟩ := HY.out _ q2
    have HV := Lib.hid y3
    clear B q1 y3
    go_wp2_with fail
    refine (HC.out _ _ HV.out).mono ?_
    rintro e w2 ⟨v2, rfl, r2, q3⟩
    have HR := Lib.hid r2
    clear r2
    go_wp2_with fail
    go_ret2
    exact ⟨_, rfl, HR.out, next q2 q3⟩
  · rw [h2]
    rw [h1] at HF
    clear h1 h2 hv hr
    unfold iagg at HF ⊢
    go_enter Tryz.func10, Tryz.ntmps10
    go_wp2_with fail
    refine (HF.out _ (sb_alloc (Below.refl _ _) _)).mono ?_
    rintro e w1 ⟨rfl, q1⟩
    go_wp2_with fail
    go_ret2
    exact ⟨_, rfl, (OwnVs.nil 3 0 _).rd, next (sb_alloc (Below.refl _ _) _) q1⟩
end Go.Proofs.YtdikoeeoglfmaaaGreatDoor
