/-
  The reference's table: its entries are the chapter's table.
  The reference's Keys: the row of a word.
-/
import Derived.KernelRfl
import Derived.Test.YtdikoeeoglfmaaaGreatDoorM09
import Derived.Test.YtdikoeeoglfmaaaGreatDoorM28
namespace SS
open Go Go.RowKit PB SC
def entL : List ByteArray := [⟨#[116, 97, 98, 108, 101]⟩, ⟨#[114, 97, 100, 105, 117, 115, 32, 49, 32, 98, 97, 108, 108, 115, 32, 49, 32, 103, 114, 97, 118, 105, 116, 121, 32, 50, 32, 100, 114, 97, 103, 32, 50, 32, 114, 101, 115, 116, 32, 49, 32, 116, 114, 111, 117, 103, 104, 32, 49]⟩, ⟨#[119, 97, 108, 108]⟩, ⟨#[108, 101, 118, 101, 108, 32, 49, 32, 102, 114, 111, 109, 32, 50, 32, 116, 111, 32, 50, 32, 114, 101, 115, 116, 32, 49, 32, 103, 114, 105, 112, 32, 49, 32, 107, 105, 99, 107, 32, 49, 32, 109, 105, 110, 32, 49, 32, 99, 111, 105, 108, 32, 49, 32, 115, 119, 105, 116, 99, 104, 32, 49]⟩, ⟨#[103, 97, 116, 101]⟩, ⟨#[108, 101, 118, 101, 108, 32, 49, 32, 102, 114, 111, 109, 32, 50, 32, 116, 111, 32, 50, 32, 114, 101, 115, 116, 32, 49, 32, 103, 114, 105, 112, 32, 49, 32, 107, 105, 99, 107, 32, 49, 32, 109, 105, 110, 32, 49, 32, 99, 111, 105, 108, 32, 49, 32, 115, 119, 105, 116, 99, 104, 32, 49]⟩, ⟨#[116, 97, 114, 103, 101, 116]⟩, ⟨#[108, 101, 118, 101, 108, 32, 49, 32, 102, 114, 111, 109, 32, 50, 32, 116, 111, 32, 50, 32, 114, 101, 115, 116, 32, 49, 32, 103, 114, 105, 112, 32, 49, 32, 107, 105, 99, 107, 32, 49, 32, 109, 105, 110, 32, 49, 32, 99, 111, 105, 108, 32, 49, 32, 115, 119, 105, 116, 99, 104, 32, 49]⟩, ⟨#[115, 108, 105, 110, 103]⟩, ⟨#[108, 101, 118, 101, 108, 32, 49, 32, 102, 114, 111, 109, 32, 50, 32, 116, 111, 32, 50, 32, 114, 101, 115, 116, 32, 49, 32, 103, 114, 105, 112, 32, 49, 32, 107, 105, 99, 107, 32, 49, 32, 109, 105, 110, 32, 49, 32, 99, 111, 105, 108, 32, 49, 32, 115, 119, 105, 116, 99, 104, 32, 49]⟩, ⟨#[97, 114, 99]⟩, ⟨#[108, 101, 118, 101, 108, 32, 49, 32, 99, 101, 110, 116, 101, 114, 32, 50, 32, 102, 114, 111, 109, 32, 50, 32, 116, 111, 32, 50, 32, 114, 101, 115, 116, 32, 49, 32, 103, 114, 105, 112, 32, 49, 32, 109, 105, 110, 32, 49, 32, 115, 119, 105, 116, 99, 104, 32, 49]⟩, ⟨#[112, 111, 115, 116]⟩, ⟨#[108, 101, 118, 101, 108, 32, 49, 32, 99, 101, 110, 116, 101, 114, 32, 50, 32, 115, 105, 122, 101, 32, 49, 32, 114, 101, 115, 116, 32, 49, 32, 103, 114, 105, 112, 32, 49, 32, 107, 105, 99, 107, 32, 49, 32, 109, 105, 110, 32, 49, 32, 99, 111, 105, 108, 32, 49, 32, 115, 119, 105, 116, 99, 104, 32, 49]⟩, ⟨#[102, 108, 105, 112, 112, 101, 114]⟩, ⟨#[108, 101, 118, 101, 108, 32, 49, 32, 99, 101, 110, 116, 101, 114, 32, 50, 32, 108, 101, 110, 103, 116, 104, 32, 49, 32, 109, 105, 114, 114, 111, 114, 32, 48, 32, 114, 97, 110, 103, 101, 32, 50, 32, 117, 112, 32, 49, 32, 100, 111, 119, 110, 32, 49, 32, 109, 97, 120, 32, 49, 32, 114, 101, 115, 116, 32, 49, 32, 103, 114, 105, 112, 32, 49, 32, 99, 111, 105, 108, 32, 49, 32, 115, 119, 105, 116, 99, 104, 32, 49]⟩, ⟨#[122, 111, 110, 101]⟩, ⟨#[108, 101, 118, 101, 108, 32, 49, 32, 102, 114, 111, 109, 32, 50, 32, 116, 111, 32, 50, 32, 104, 97, 108, 102, 32, 50, 32, 99, 111, 105, 108, 32, 49]⟩, ⟨#[115, 97, 117, 99, 101, 114]⟩, ⟨#[108, 101, 118, 101, 108, 32, 49, 32, 99, 101, 110, 116, 101, 114, 32, 50, 32, 115, 105, 122, 101, 32, 49, 32, 108, 105, 109, 105, 116, 32, 49, 32, 111, 117, 116, 32, 50, 32, 99, 111, 105, 108, 32, 49, 32, 115, 119, 105, 116, 99, 104, 32, 49]⟩, ⟨#[108, 97, 110, 101]⟩, ⟨#[108, 101, 118, 101, 108, 32, 49, 32, 99, 101, 110, 116, 101, 114, 32, 50, 32, 115, 105, 122, 101, 32, 49, 32, 115, 119, 105, 116, 99, 104, 32, 49]⟩, ⟨#[114, 97, 109, 112]⟩, ⟨#[108, 101, 118, 101, 108, 32, 49, 32, 105, 110, 116, 111, 32, 49, 32, 99, 101, 110, 116, 101, 114, 32, 50, 32, 115, 105, 122, 101, 32, 49, 32, 100, 105, 114, 32, 50]⟩, ⟨#[100, 114, 97, 105, 110]⟩, ⟨#[108, 101, 118, 101, 108, 32, 49, 32, 99, 101, 110, 116, 101, 114, 32, 50, 32, 115, 105, 122, 101, 32, 49]⟩, ⟨#[108, 97, 117, 110, 99, 104, 101, 114]⟩, ⟨#[108, 101, 118, 101, 108, 32, 49, 32, 99, 101, 110, 116, 101, 114, 32, 50, 32, 111, 117, 116, 32, 50, 32, 99, 111, 105, 108, 32, 49]⟩]
def rowB : List (ByteArray × Nat) → List W → Bool
  | [], [] => true
  | q :: t, y :: y' :: ws => decide (bs y.text = q.1) && (decide (y'.num = (q.2 : Int)) && rowB t ws)
  | _, _ => false
def entsB : List (ByteArray × List (ByteArray × Nat)) → List ByteArray → Bool
  | [], [] => true
  | r :: t, a :: b :: l => decide (a = r.1) && ((match words b.data.toList with
    | .ok ws => rowB r.2 ws
    | .bad _ _ => false) && entsB t l)
  | _, _ => false
theorem ents_ok : entsB tab entL = true := by kernel_rfl
theorem rowB_spec : ∀ {ks : List (ByteArray × Nat)} {ws : List W}, rowB ks ws = true → ws.length = 2 * ks.length ∧ ∀ j q, ks[j]? = some q → ∃ y y', ws[2 * j]? = some y ∧ ws[2 * j + 1]? = some y' ∧ bs y.text = q.1 ∧ y'.num = (q.2 : Int)
  | [], [], _ => ⟨rfl, fun j q h => by simp at h⟩
  | [], y :: ws, h => by cases h
  | q :: t, [], h => by cases h
  | q :: t, [y], h => by cases h
  | q :: t, y :: y' :: ws, h => by
    unfold rowB at h
    simp only [Bool.and_eq_true, decide_eq_true_eq] at h
    obtain ⟨h1, h2, h3⟩ := h
    obtain ⟨a1, a2⟩ := rowB_spec h3
    refine ⟨by simp only [List.length_cons]; omega, fun j q' hq => ?_⟩
    cases j with
    | zero =>
      obtain rfl : q = q' := by simpa using hq
      exact ⟨y, y', rfl, rfl, h1, h2⟩
    | succ j =>
      obtain ⟨z, z', b1, b2, b3⟩ := a2 j q' (by simpa using hq)
      refine ⟨z, z', ?_, ?_, b3⟩
      · rw [show 2 * (j + 1) = 2 * j + 2 by omega]; simpa using b1
      · rw [show 2 * (j + 1) + 1 = (2 * j + 1) + 2 by omega]; simpa using b2
theorem entsB_spec : ∀ {t : List (ByteArray × List (ByteArray × Nat))} {l : List ByteArray}, entsB t l = true → ∀ i r, t[i]? = some r → ∃ b ws, l[2 * i]? = some r.1 ∧ l[2 * i + 1]? = some b ∧ words b.data.toList = .ok ws ∧ rowB r.2 ws = true
  | [], _, _, i, r, h => by simp at h
  | r :: t, [], h, _, _, _ => by cases h
  | r :: t, [a], h, _, _, _ => by cases h
  | r :: t, a :: b :: l, h, i, r', hr => by
    unfold entsB at h
    simp only [Bool.and_eq_true, decide_eq_true_eq] at h
    obtain ⟨h1, h2, h3⟩ := h
    cases i with
    | zero =>
      obtain rfl : r = r' := by simpa using hr
      split at h2
      · rename_i ws hw
        exact ⟨b, ws, by rw [← h1]; rfl, rfl, hw, h2⟩
      · cases h2
    | succ i =>
      obtain ⟨c, ws, b1, b2, b3⟩ := entsB_spec h3 i r' (by simpa using hr)
      refine ⟨c, ws, ?_, ?_, b3⟩
      · rw [show 2 * (i + 1) = 2 * i + 2 by omega]; simpa using b1
      · rw [show 2 * (i + 1) + 1 = (2 * i + 1) + 2 by omega]; simpa using b2
theorem rowIn_step {word : ByteArray} {k : Nat} {r : ByteArray × List (ByteArray × Nat)} {R : List (ByteArray × Nat)} (h : rowIn (tab.drop k) word = R) (hk : tab[k]? = some r) : (r.1 = word → R = r.2) ∧ (¬ r.1 = word → rowIn (tab.drop (k + 1)) word = R) := by
  obtain ⟨hi, e⟩ := List.getElem?_eq_some_iff.1 hk
  rw [List.drop_eq_getElem_cons hi, e] at h
  unfold rowIn at h
  exact ⟨fun hh => by rw [if_pos hh] at h; exact h.symm, fun hh => by rw [if_neg hh] at h; exact h⟩
theorem rowIn_end {word : ByteArray} {k : Nat} {R : List (ByteArray × Nat)} (h : rowIn (tab.drop k) word = R) (hk : 14 ≤ k) : R = [] := by
  rw [List.drop_eq_nil_of_le (show tab.length ≤ k from hk)] at h; exact h.symm
theorem ent_small : ∀ b ∈ entL, b.size ≤ 1000 := by decide +kernel
theorem bt_one {w : World} {g : Nat} {T : TypeId} {x : Value} (h : BT w g T #[x]) : ∀ j u, ([x] : List Value)[j]? = some u → w.cell? ((⟨g, 0, none⟩ : Addr).add j) = some u := by
  intro j u hu
  rw [oaddr]
  cases j with
  | zero =>
    obtain rfl : x = u := by simpa using hu
    exact h.blk.cell 0 _ rfl
  | succ j => simp at hu
theorem strs_snoc (l : List ByteArray) (x : ByteArray) : (l ++ [x]).map Value.string = l.map Value.string ++ [Value.string x] := by simp
end SS
namespace Go.Proofs.YtdikoeeoglfmaaaGreatDoor
open Go.RowKit SC PB SS
set_option maxHeartbeats 4000000 in
set_option maxRecDepth 100000 in
theorem entries_any (w : World) :
    Calls Tryz.prog 68 #[] w fun e w' => ∃ v, e = .returned v ∧ RdS w' v entL ∧ Below w.heap.size w w' := by
  go_enter Tryz.func68, Tryz.ntmps68
  go_wp2_with fail
  go_ret
  exact ⟨_, rfl, rds_new w entL _ _ rfl (List.cons_ne_nil _ _), (Below.refl _ _).alloc (Nat.le_refl _) _⟩
set_option maxRecDepth 100000 in
theorem info_vstr : (Tryz.prog.info? 9).map (fun i => (i.zero, i.size, i.bytes)) = some (some (.string ⟨#[]⟩), 1, 16) := by kernel_rfl
end Go.Proofs.YtdikoeeoglfmaaaGreatDoor

namespace SS
open Go Go.RowKit PB SC
def nvs (l : List (ByteArray × Nat)) : List Value := l.map fun q => Value.string q.1
def mvs (l : List (ByteArray × Nat)) : List Value := l.map fun q => Value.int .i64 (q.2 : Int)
theorem nvs_snoc (l : List (ByteArray × Nat)) (q : ByteArray × Nat) : nvs (l ++ [q]) = nvs l ++ [.string q.1] := by unfold nvs; simp
theorem mvs_snoc (l : List (ByteArray × Nat)) (q : ByteArray × Nat) : mvs (l ++ [q]) = mvs l ++ [.int .i64 (q.2 : Int)] := by unfold mvs; simp
theorem rds_rows {w : World} {v : Value} {N j : Nat} {E : TypeId} {l : List (ByteArray × Nat)} (h : w.ownsRow N E 1 v j (nvs (l.take j))) (hj : j = l.length) : RdS w v (l.map (·.1)) := by
  subst hj
  rw [List.take_length] at h
  have h := own_rd h
  unfold RdS
  rw [List.length_map, List.map_map]
  exact h
theorem rdv_rows {w : World} {v : Value} {N j : Nat} {E : TypeId} {l : List (ByteArray × Nat)} (h : w.ownsRow N E 1 v j (mvs (l.take j))) (hj : j = l.length) : RdV w v (l.map fun q => (q.2 : Int)) := by
  subst hj
  rw [List.take_length] at h
  have h := own_rd h
  unfold RdV vcs
  rw [List.length_map, List.map_map]
  exact h
/-- One row grows, the other is kept. -/
theorem step_rows {P : Program} {w w0 : World} {ops : Array Oper} {o : Oper} {a : Act} {K : Act → World → Prop} {Q : Exit → Act → World → Prop} {Ep : Prop} (hgd : o.guard = none) (s x : Operand) (t : TypeId)
    (ho : o.op = .call { callee := .builtin .append, args := #[s, x], argTypes := #[t, t] }) (E : TypeId) (i : TypeInfo) (z : Value) (bytes : Nat) (ht : P.underlying t = some (.slice E)) (hi : P.info? E = some i) (hz : i.zero = some z) (hsize : i.size = 1) (hby : i.bytes = bytes) (hzs : z.cells.size = 1)
    (N : Nat) (v : Value) (n : Nat) (xs : List Value) (hs : a.eval s = v) (hown : w.ownsRow N E 1 v n xs) (E' : TypeId) (v' : Value) (n' : Nat) (xs' : List Value) (hown' : w.ownsRow N E' 1 v' n' xs') (hE : E' ≠ E) (hq : Below N w0 w)
    (b : Nat) (u : Value) (hx : a.eval x = .slice (some ⟨b, 0, none⟩) 1 1) (h1 : u.oneCell' = true) (hb : BT w b E #[u]) (hn : n ≤ 1000000) (hbytes : (n + 1) * bytes ≤ 140737488355328) (hN : N ≤ w0.heap.size)
    (h : ∀ b c w', Hid (w'.ownsRow N E 1 (.slice b (n + 1) c) (n + 1) (xs ++ [u])) → Hid (w'.ownsRow N E' 1 v' n' xs') → Hid (Below N w0 w') → Hid (∀ g cs, BT w g E' cs → BT w' g E' cs) → K (a.put o.dst (.slice b (n + 1) c)) w') : if Region.wanted o (yielded ops a.tmps) = true then Oper.wp P o a w K Q else Ep := by
  refine step_append_n hgd s x t ho E i z 1 bytes ht hi hz hsize hby hzs (by decide) N v n xs hs hown b [u] hx rfl (fun y hy => by simp at hy; subst hy; exact h1) (bt_one hb) hn hbytes (Nat.le_trans hN hq.size) ?_
  intro v1 w1 k1 k2 k3
  obtain ⟨b1, c1, rfl⟩ := row_form k1
  exact h b1 c1 w1 (Lib.hid k1) (Lib.hid (row_grown hown' hown hE k3)) (Lib.hid (hq.trans k2)) (Lib.hid (fun g cs hg => hg.oth (oth_grown hown k3) hE))
theorem tab_some : ∀ r ∈ tab, r.2.length ≤ 12 ∧ r.2.isEmpty = false := by decide +kernel
end SS
namespace Go.Proofs.YtdikoeeoglfmaaaGreatDoor
open Go.RowKit SC PB SS
set_option maxHeartbeats 16000000 in
set_option maxRecDepth 100000 in
theorem rkeys_any (word : ByteArray) (w : World) :
    Calls Tryz.prog 49 #[.string word] w fun e w' => ∃ v u, e = .returned (.tuple #[v, u, .bool (!(rowOf word).isEmpty)]) ∧ RdS w' v ((rowOf word).map (·.1)) ∧ RdV w' u ((rowOf word).map fun q => (q.2 : Int)) ∧ Below w.heap.size w w' := by
  obtain ⟨i0, hi, hz0, hz1, hz2⟩ := info_parts info_vint
  obtain ⟨t0, ht, sz0, sz1, sz2⟩ := info_parts info_vstr
  have HEnt := Lib.hid (fun W => entries_any W)
  have HW := Lib.hid (fun (b : ByteArray) W (hs : b.size ≤ 1000) => rwords_any b W (by omega))
  generalize hR : rowOf word = R
  have HR0 := Lib.hid (show rowIn (tab.drop 0) word = R from hR)
  have HRS := Lib.hid (fun (k : Nat) (r : ByteArray × List (ByteArray × Nat)) (h : rowIn (tab.drop k) word = R) (hk : tab[k]? = some r) => rowIn_step h hk)
  have HRE := Lib.hid (fun (k : Nat) (h : rowIn (tab.drop k) word = R) (hk : 14 ≤ k) => rowIn_end h hk)
  clear hR
  go_enter Tryz.func49, Tryz.ntmps49
  go_wp2_with fail
  refine (HEnt.out _).mono ?_
  rintro e w1 ⟨v1, rfl, r1, q1⟩
  obtain ⟨base, b, off, c, rfl, g1, g2, g4⟩ := r1.form
  obtain rfl := g1 (by decide)
  have g2 := g2 (by decide)
  have HT := Lib.hid (fun W (h : Below w1.heap.size w1 W) (k : Nat) (r : ByteArray × List (ByteArray × Nat)) (hk : tab[k]? = some r) => (show ∃ d ws, W.cell? ⟨b, off + 2 * k, none⟩ = some (.string r.1) ∧ W.cell? ⟨b, off + (2 * k + 1), none⟩ = some (.string d) ∧ d.size ≤ 1000 ∧ words d.data.toList = .ok ws ∧ rowB r.2 ws = true by
    obtain ⟨d, ws, e1, e2, e3, e4⟩ := entsB_spec ents_ok k r hk
    exact ⟨d, ws, by rw [h.cell (p := ⟨b, _, none⟩) g2]; exact g4 _ _ e1, by rw [h.cell (p := ⟨b, _, none⟩) g2]; exact g4 _ _ e2, ent_small d (List.mem_of_getElem? e2), e3, e4⟩))
  have HTX := Lib.hid (fun (k : Nat) (hk : k < 14) => (⟨tab[k]'hk, List.getElem?_eq_getElem hk⟩ : ∃ r, tab[k]? = some r))
  have HQ1 := Lib.hid q1
  have HG2 := Lib.hid g2
  rw [show entL.length = 28 from rfl]
  clear r1 g4 q1 g1 g2
  go_wp2_with fail
  go_loopw [6] (fun iv wr => ∃ (k m : Nat), m ≤ 2 * k ∧ 2 * k ≤ m ∧ k ≤ 14 ∧ iv = .int .i64 m ∧ Hid (rowIn (tab.drop k) word = R) ∧ Hid (Below w1.heap.size w1 wr)) (fun iv _ => 28 - (intOf iv).toNat)
  case atStart => exact ⟨0, 0, Nat.le_refl _, Nat.le_refl _, by decide, rfl, HR0, Lib.hid (Below.refl _ _)⟩
  case round =>
    clear HR0
    obtain ⟨k, m, hm1, hm2, hk, rfl, hA, hwr⟩ := hrel
    by_cases hkn : k < 14
    · obtain ⟨r, hr⟩ := HTX.out k hkn
      obtain ⟨d, ws, d0, d1, hds, hdw, hrb⟩ := HT.out _ hwr.out k r hr
      obtain ⟨s1, s2⟩ := HRS.out k r hA.out hr
      have hmk : 2 * k = m := by omega
      rw [hmk] at d0 d1
      have hlt : b < wr.heap.size := Nat.lt_of_lt_of_le HG2.out hwr.out.size
      have HD := beq_str_dec r.1 word
      have hm28 : (m : Int) < 28 := by omega
      obtain ⟨hr12, hre⟩ := tab_some r (List.mem_of_getElem? hr)
      have hw1 : IntKind.i64.wrap ((m : Int) + 1) = ((m + 1 : Nat) : Int) := by rw [IntWalk.i64_in _ (by omega)]; omega
      clear hr
      by_cases hrw : r.1 = word
      · rw [decide_eq_true hrw] at HD
        obtain rfl := s1 hrw
        obtain ⟨hwl, hwg⟩ := rowB_spec hrb
        have HWD := Lib.hid (HW.out d)
        rw [hdw] at HWD
        have HWG := Lib.hid hwg
        have HNX := Lib.hid (fun (j : Nat) (hj : j < r.2.length) => (⟨r.2[j], List.getElem?_eq_getElem hj⟩ : ∃ q, r.2[j]? = some q))
        have hr1 : (m + 1 : Nat) < 28 := by omega
        clear s1 s2 hrb hdw hwg hrw
        go_wp2_with fail
        refine (HWD.out _ hds).mono ?_
        rintro e w2 ⟨v2, rfl, r2, q2⟩
        have HQ2 := Lib.hid (next (next HQ1.out hwr.out) q2)
        dsimp only [WR.err, WR.at, WR.list] at r2 ⊢
        obtain ⟨wb, g, wcp, rfl, l1, l2, l3, _⟩ := ownw_slice r2
        have HL1 := Lib.hid l1
        have HL3 := Lib.hid l3
        have HWC := Lib.hid (fun W (h : Below w2.heap.size w2 W) (j m' : Nat) (hm' : 2 * j = m') (q : ByteArray × Nat) (hq : r.2[j]? = some q) => (show W.cell? ⟨g, m' * 4 + 1, none⟩ = some (.string q.1) ∧ W.cell? ⟨g, (m' + 1) * 4 + 2, none⟩ = some (.int .i64 (q.2 : Int)) by
          obtain ⟨y, y', e1, e2, e3, e4⟩ := HWG.out j q hq
          subst hm'
          have hg := l3 (by have := (List.getElem?_eq_some_iff.1 e1).1; omega)
          have k1 := ((l2 _ _ e1).kept h hg).2.1
          have k2 := ((l2 _ _ e2).kept h hg).2.2.1
          rw [e4] at k2
          exact ⟨by rw [← e3]; exact k1, k2⟩))
        have HTK := Lib.hid (fun (j : Nat) (q : ByteArray × Nat) (hq : r.2[j]? = some q) => take_snoc' hq)
        have HTL := Lib.hid (fun (j : Nat) (hj : j ≤ r.2.length) => ilen_take hj)
        have HTA := Lib.hid (show r.2.take r.2.length = r.2 from List.take_length)
        have HNE := Lib.hid (show (!r.2.isEmpty) = true by rw [hre]; rfl)
        rw [hwl] at HL1 HL3 ⊢
        clear d0 d1 HD HWD HWG l1 l2 l3 r2 q2 hwl hds hlt hwr hA hm28 hw1 hr1 hmk hm1 hm2 HRS HRE HTX HT HEnt HW hre
        have HNL := Lib.hid (show r.2.length = r.2.length from rfl)
        generalize hnl : r.2.length = n at *
        generalize h2n : 2 * n = n2 at *
        have hn2a : n2 ≤ 2 * n := by omega
        have hn2b : 2 * n ≤ n2 := by omega
        have HNN := Lib.hid hnl
        clear h2n hnl HNL
        go_wp2_with fail
        go_loopw [10, 11, 12] (fun nv mv kv wq => ∃ (j p : Nat) (nb : Option Addr) (nc : Nat) (mb : Option Addr) (mc : Nat), p ≤ 2 * j ∧ 2 * j ≤ p ∧ j ≤ n ∧ kv = .int .i64 p ∧ nv = .slice nb j nc ∧ mv = .slice mb j mc ∧ Hid (wq.ownsRow w2.heap.size 9 1 (.slice nb j nc) j (nvs (r.2.take j))) ∧ Hid (wq.ownsRow w2.heap.size 3 1 (.slice mb j mc) j (mvs (r.2.take j))) ∧ Hid (Below w2.heap.size w2 wq)) (fun _ _ kv _ => n2 - (intOf kv).toNat)
        case atStart => exact ⟨0, 0, none, 0, none, 0, Nat.le_refl _, Nat.le_refl _, Nat.zero_le _, rfl, rfl, rfl, Lib.hid (World.ownsRow_nil w2 _ _ _), Lib.hid (World.ownsRow_nil w2 _ _ _), Lib.hid (Below.refl _ _)⟩
        case round =>
          obtain ⟨j, p, nb, nc, mb, mc, hp1, hp2, hj, rfl, rfl, rfl, hN, hM, hwq⟩ := hrel
          have hwp : IntKind.i64.wrap ((p : Int) + 1) = (p : Int) + 1 := IntWalk.i64_in _ (by omega)
          have hp0 : (0 : Int) ≤ (p : Int) + 1 := by omega
          have hpt : ((p : Int) + 1).toNat = p + 1 := by omega
          by_cases hjn : j < n
          · obtain rfl := HL1.out (by omega)
            obtain ⟨q, hq⟩ := HNX.out j hjn
            obtain ⟨c0, c1⟩ := HWC.out _ hwq.out j p (by omega) q hq
            have hgl : g < wr.heap.size := Nat.lt_of_lt_of_le (HL3.out (by omega)) hwq.out.size
            have HTKQ := Lib.hid (HTK.out j q hq)
            have hpi : (p : Int) + 1 < n2 := by omega
            have hpj : (p : Int) < n2 := by omega
            have hpk : p + 1 < n2 := by omega
            have hE1 : (3 : TypeId) ≠ 9 := by decide
            have hE2 : (9 : TypeId) ≠ 3 := by decide
            go_wp2_with fail
            go_region_held3 (fun w' => w'.cell? ⟨g, p * 4 + 1, none⟩ = some (.string q.1) ∧ w'.cell? ⟨g, (p + 1) * 4 + 2, none⟩ = some (.int .i64 (q.2 : Int)))
              (first | exact ⟨by assumption, by assumption⟩ | go_keep)
              (first
                | (refine step_rows (w0 := w2) (by rfl) _ _ 69 (by rfl) 9 t0 (.string ⟨#[]⟩) 16 Tryz.underlying69 ht sz0 sz1 sz2 rfl w2.heap.size (.slice nb j nc) j (nvs (r.2.take j)) (by rfl) (by first | exact World.ownsRow.alloc hN.out _ | exact World.ownsRow.alloc (World.ownsRow.alloc hN.out _) _) 3 (.slice mb j mc) j (mvs (r.2.take j)) (by first | exact World.ownsRow.alloc hM.out _ | exact World.ownsRow.alloc (World.ownsRow.alloc hM.out _) _) hE1 (by first | exact sb_drew (sb_alloc hwq.out _) | exact sb_drew (sb_alloc (sb_drew (sb_alloc hwq.out _)) _) | exact sb_alloc (sb_drew (sb_alloc hwq.out _)) _ | exact sb_drew (sb_alloc (sb_alloc hwq.out _) _) | exact sb_alloc (sb_alloc hwq.out _) _ | exact sb_alloc hwq.out _) _ (.string q.1) (by rfl) rfl (by first | exact bt_new rfl | exact bt_new (by simp) | exact (bt_new rfl).kept (sb_alloc (sb_drew (Below.refl _ _)) _) | exact (bt_new rfl).kept (sb_drew (sb_alloc (sb_drew (Below.refl _ _)) _)) | exact (bt_new rfl).kept (sb_drew (sb_alloc (Below.refl _ _) _)) | exact (bt_new rfl).kept (sb_alloc (Below.refl _ _) _)) (by omega) (by omega) (Nat.le_refl _) ?_
                   intro vb7 vc7 w7 HN7 HM7 HQ7 HK7
                   obtain ⟨c07, c17⟩ := HWC.out _ HQ7.out j p (by omega) q hq)
                | (refine step_rows (w0 := w2) (by rfl) _ _ 33 (by rfl) 3 i0 (.int .i64 0) 8 Tryz.underlying33 hi hz0 hz1 hz2 rfl w2.heap.size (.slice mb j mc) j (mvs (r.2.take j)) (by rfl) (by first | exact HM7.out | exact World.ownsRow.alloc HM7.out _) 9 (.slice vb7 (j + 1) vc7) (j + 1) (nvs (r.2.take j) ++ [.string q.1]) (by first | exact HN7.out | exact World.ownsRow.alloc HN7.out _) hE2 (by first | exact HQ7.out | exact sb_alloc HQ7.out _ | exact sb_drew (sb_alloc HQ7.out _) | exact sb_drew HQ7.out) _ (.int .i64 (q.2 : Int)) (by rfl) rfl (by first | exact bt_new rfl | exact HK7.out _ _ (bt_new (by simp)) | exact HK7.out _ _ ((bt_new rfl).kept (sb_alloc (sb_drew (Below.refl _ _)) _)) | exact HK7.out _ _ ((bt_new rfl).kept (sb_drew (sb_alloc (sb_drew (Below.refl _ _)) _))) | exact HK7.out _ _ ((bt_new rfl).kept (sb_drew (sb_alloc (Below.refl _ _) _))) | exact HK7.out _ _ ((bt_new rfl).kept (sb_alloc (Below.refl _ _) _))) (by omega) (by omega) (Nat.le_refl _) ?_
                   intro vb9 vc9 w9 HM9 HN9 HQ9 HK9
                   obtain ⟨c09, c19⟩ := HWC.out _ HQ9.out j p (by omega) q hq))
            all_goals (
              have HN10 := Lib.hid (show w9.ownsRow w2.heap.size 9 1 (.slice vb7 (j + 1) vc7) (j + 1) (nvs (r.2.take (j + 1))) by rw [← HTKQ.out, nvs_snoc]; exact HN9.out)
              have HM10 := Lib.hid (show w9.ownsRow w2.heap.size 3 1 (.slice vb9 (j + 1) vc9) (j + 1) (mvs (r.2.take (j + 1))) by rw [← HTKQ.out, mvs_snoc]; exact HM9.out)
              go_wp2_with fail
              go_roundw
              case rel => exact ⟨_, _, _, _, _, _, _, _, _, _, _, _, _, _, _, _, _, _, _, _, _, _, _, _, _, _, _, ⟨j + 1, p + 2, vb7, vc7, vb9, vc9, by omega, by omega, by omega, by go_num, rfl, rfl, HN10, HM10, HQ9⟩, rfl⟩
              case measure => simp [intOf]; omega)
          · have hje : j = n := by omega
            have hpi : ¬ (p : Int) + 1 < n2 := by omega
            subst hje
            go_wp2_with fail
            go_ret3
            exact ⟨_, _, by rw [HNE.out]; rfl, rds_rows hN.out HNN.out.symm, rdv_rows hM.out HNN.out.symm, next HQ2.out hwq.out⟩
      · rw [decide_eq_false hrw] at HD
        have HV := Lib.hid (s2 hrw)
        clear s1 s2 hrb hdw hrw
        go_wp2_with fail
        go_roundw
        case rel => exact ⟨k + 1, m + 2, by omega, by omega, by omega, by go_num, HV, hwr⟩
        case measure => simp [intOf]; omega
    · have hke : k = 14 := by omega
      obtain rfl : m = 28 := by omega
      have hV := HRE.out k hA.out (by omega)
      subst hV
      go_wp2_with fail
      go_ret3
      exact ⟨_, _, rfl, ⟨none, 0, 0, 0, rfl, fun h => absurd rfl h, fun h => absurd rfl h, fun _ => rfl, fun j u hu => by simp at hu⟩, (OwnVs.nil 3 0 _).rd, next HQ1.out hwr.out⟩
end Go.Proofs.YtdikoeeoglfmaaaGreatDoor
