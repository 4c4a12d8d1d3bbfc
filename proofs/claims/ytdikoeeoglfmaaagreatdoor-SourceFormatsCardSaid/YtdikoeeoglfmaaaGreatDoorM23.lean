/-
  The reference's text of statements, and that it is the program's.
-/
import Derived.Test.YtdikoeeoglfmaaaGreatDoorM21
import Derived.Test.YtdikoeeoglfmaaaGreatDoorM22
namespace SS
open Go Go.RowKit PB SC
def rnameT (x : I) : List UInt8 := if x.word = bTable then [] else 32 :: x.name.data.toList
def wrV (t : List UInt8) : List Int → List UInt8
  | [] => t
  | n :: l => if 20000 < t.length then t else wrV (t ++ 32 :: Lib.itoa n) l
def wrK (t : List UInt8) : List K → List UInt8
  | [] => t
  | k :: l => if 20000 < t.length then t else wrK (wrV (t ++ 32 :: k.key.data.toList) k.vals) l
def wrI (t : List UInt8) (x : I) : List UInt8 := wrK (t ++ x.word.data.toList ++ rnameT x) x.keys ++ [59, 10]
def wrL (t : List UInt8) : List I → List UInt8
  | [] => t
  | x :: l => if 20000 < t.length then t else wrL (wrI t x) l
theorem wrV_len : ∀ (l : List Int) (t : List UInt8), t.length ≤ (wrV t l).length
  | [], t => Nat.le_refl _
  | n :: l, t => by
    unfold wrV
    split
    · exact Nat.le_refl _
    · have := wrV_len l (t ++ 32 :: Lib.itoa n)
      simp only [List.length_append] at this
      omega
theorem wrK_len : ∀ (l : List K) (t : List UInt8), t.length ≤ (wrK t l).length
  | [], t => Nat.le_refl _
  | n :: l, t => by
    unfold wrK
    split
    · exact Nat.le_refl _
    · have := wrK_len l (wrV (t ++ 32 :: n.key.data.toList) n.vals)
      have h2 := wrV_len n.vals (t ++ 32 :: n.key.data.toList)
      simp only [List.length_append] at h2
      omega
theorem wrI_len (t : List UInt8) (x : I) : t.length ≤ (wrI t x).length := by
  unfold wrI
  have := wrK_len x.keys (t ++ x.word.data.toList ++ rnameT x)
  simp only [List.length_append] at this ⊢
  omega
theorem wrL_len : ∀ (l : List I) (t : List UInt8), t.length ≤ (wrL t l).length
  | [], t => Nat.le_refl _
  | x :: l, t => by
    unfold wrL
    split
    · exact Nat.le_refl _
    · have := wrL_len l (wrI t x)
      have h2 := wrI_len t x
      omega
theorem wrV_full : ∀ (l : List Int) (t : List UInt8), (wrV t l).length ≤ 20000 ∨ (t ++ valsT l).length ≤ 20000 → wrV t l = t ++ valsT l
  | [], t, _ => by unfold wrV valsT; rw [List.append_nil]
  | n :: l, t, h => by
    unfold wrV valsT at *
    by_cases h0 : 20000 < t.length
    · rw [if_pos h0] at h
      simp only [List.length_append] at h
      omega
    · rw [if_neg h0] at h ⊢
      rw [wrV_full l _ (by simpa using h)]
      simp
theorem wrK_full : ∀ (l : List K) (t : List UInt8), (wrK t l).length ≤ 20000 ∨ (t ++ keysT l).length ≤ 20000 → wrK t l = t ++ keysT l
  | [], t, _ => by unfold wrK keysT; rw [List.append_nil]
  | k :: l, t, h => by
    unfold wrK keysT keyT at *
    by_cases h0 : 20000 < t.length
    · rw [if_pos h0] at h
      simp only [List.length_append] at h
      omega
    · rw [if_neg h0] at h ⊢
      have e : wrV (t ++ 32 :: k.key.data.toList) k.vals = t ++ 32 :: k.key.data.toList ++ valsT k.vals := by
        refine wrV_full _ _ ?_
        rcases h with h | h
        · exact .inl (Nat.le_trans (wrK_len l _) h)
        · refine .inr ?_
          simp only [List.length_append, List.length_cons] at h ⊢
          omega
      rw [e] at h ⊢
      rw [wrK_full l _ (by simpa using h)]
      simp
def fullR (x : I) : List UInt8 := x.word.data.toList ++ rnameT x ++ keysT x.keys ++ [59, 10]
def fullRL : List I → List UInt8
  | [] => []
  | x :: l => fullR x ++ fullRL l
theorem wrL_full : ∀ (l : List I) (t : List UInt8), (wrL t l).length ≤ 20000 ∨ (t ++ fullRL l).length ≤ 20000 → wrL t l = t ++ fullRL l
  | [], t, _ => by unfold wrL fullRL; rw [List.append_nil]
  | x :: l, t, h => by
    unfold wrL fullRL at *
    by_cases h0 : 20000 < t.length
    · rw [if_pos h0] at h
      simp only [List.length_append] at h
      omega
    · rw [if_neg h0] at h ⊢
      have e : wrI t x = t ++ fullR x := by
        unfold wrI fullR
        rw [wrK_full]
        · simp
        · rcases h with h | h
          · have h1 := Nat.le_trans (wrL_len l _) h
            unfold wrI at h1
            simp only [List.length_append] at h1
            exact .inl (by omega)
          · unfold fullR at h
            simp only [List.length_append] at h ⊢
            exact .inr (by omega)
      rw [e] at h ⊢
      rw [wrL_full l _ (by simpa using h)]
      simp
theorem fullR_wf {x : I} (h : WfI x) : fullR x = fullI x := by
  unfold fullR fullI rnameT nameT
  by_cases hb : x.word = bTable
  · rw [if_pos hb, if_pos (h.tbl hb)]
  · rw [if_neg hb, if_neg]
    intro e
    have := (h.nam hb).2
    rw [e] at this
    exact this rfl
theorem fullRL_wf : ∀ {l : List I}, (∀ x ∈ l, WfI x) → fullRL l = fullL l
  | [], _ => rfl
  | x :: l, h => by
    unfold fullRL fullL
    rw [fullR_wf (h x List.mem_cons_self), fullRL_wf (fun y hy => h y (List.mem_cons_of_mem _ hy))]
/-- Statements that are the same can both be written. -/
theorem hasKey_all : ∀ {s t : List K} {k : ByteArray}, allB sameKB s t = true → hasKey s k = hasKey t k
  | [], [], _, _ => rfl
  | a :: s, [], _, h => by cases h
  | [], b :: t, _, h => by cases h
  | a :: s, b :: t, k, h => by
    unfold allB at h
    simp only [Bool.and_eq_true] at h
    have h1 := h.1
    unfold sameKB at h1
    simp only [Bool.and_eq_true, decide_eq_true_eq, beq_iff_eq] at h1
    have := hasKey_all (k := k) h.2
    unfold hasKey at this ⊢
    rw [List.any_cons, List.any_cons, this, h1.1]
theorem kwf_same {word : ByteArray} : ∀ {s t pre pre' : List K}, allB sameKB s t = true → allB sameKB pre pre' = true → KWf word pre s → KWf word pre' t
  | [], [], _, _, _, _, _ => trivial
  | a :: s, [], _, _, h, _, _ => by cases h
  | [], b :: t, _, _, h, _, _ => by cases h
  | a :: s, b :: t, pre, pre', h, hp, hk => by
    unfold allB at h
    simp only [Bool.and_eq_true] at h
    have h1 := h.1
    unfold sameKB at h1
    simp only [Bool.and_eq_true, decide_eq_true_eq, beq_iff_eq] at h1
    obtain ⟨k1, k2, k3, k4⟩ := hk
    refine ⟨by rw [← h1.1, ← h1.2]; exact k1, by rw [← h1.1, ← hasKey_all hp]; exact k2, by rw [← h1.2]; exact k3, kwf_same h.2 (allB_snoc hp h.1) k4⟩
theorem wf_same {x y : I} (h : sameIB x y = true) (hx : WfI x) : WfI y := by
  unfold sameIB at h
  simp only [Bool.and_eq_true, decide_eq_true_eq] at h
  obtain ⟨h1, h2, h3⟩ := h
  exact ⟨by rw [← h1]; exact hx.row, by rw [← h1, ← h2]; exact hx.tbl, by rw [← h1, ← h2]; exact hx.nam, by rw [← h1]; exact kwf_same h3 rfl hx.keys⟩
theorem wfs_same : ∀ {m l : List I}, allB sameIB m l = true → (∀ x ∈ m, WfI x) → (∀ x ∈ l, WfI x) ∧ m.length = l.length
  | [], [], _, _ => ⟨fun x hx => by simp at hx, rfl⟩
  | a :: s, [], h, _ => by cases h
  | [], b :: t, h, _ => by cases h
  | a :: s, b :: t, h, hm => by
    unfold allB at h
    simp only [Bool.and_eq_true] at h
    obtain ⟨h1, h2⟩ := wfs_same h.2 (fun x hx => hm x (List.mem_cons_of_mem _ hx))
    refine ⟨fun x hx => ?_, by simp [h2]⟩
    rcases List.mem_cons.1 hx with rfl | hx
    · exact wf_same h.1 (hm a List.mem_cons_self)
    · exact h1 x hx
theorem parse_len {s : List UInt8} {m : List I} (h : parse s = .ok m) : s.length ≤ 20000 := by
  unfold parse words at h
  by_cases h0 : 20000 < s.length
  · rw [if_pos h0] at h; cases h
  · omega
/-- What the reference's Format returns. -/
def wrC (l : List I) : Option (List UInt8) := chkF l (wrL [] l) (parse (wrL [] l))
theorem wrC_some {l : List I} {t : List UInt8} (h : wrC l = some t) : (∀ x ∈ l, WfI x) ∧ l.length ≤ 400 ∧ (fullL l).length ≤ 20000 := by
  unfold wrC at h
  cases hp : parse (wrL [] l) with
  | bad e q => rw [hp] at h; cases h
  | ok m =>
    rw [hp] at h
    unfold chkF at h
    dsimp only at h
    by_cases hs : allB sameIB m l = true
    · obtain ⟨h1, h2⟩ := wfs_same hs (parse_wf hp).1
      have h3 := parse_len hp
      have e := wrL_full l [] (.inl h3)
      rw [e, fullRL_wf h1] at h3
      exact ⟨h1, by rw [← h2]; exact (parse_ok hp).2, h3⟩
    · rw [if_neg hs] at h; cases h
theorem wrC_full {l : List I} (hw : ∀ x ∈ l, WfI x) (hn : l.length ≤ 400) (ht : (fullL l).length ≤ 20000) : wrC l = some (fullL l) := by
  obtain ⟨m, e, hm⟩ := parse_full hw hn ht
  have e2 : wrL [] l = fullL l := by
    rw [wrL_full l [] (.inr (by rw [fullRL_wf hw]; exact ht)), fullRL_wf hw]
    rfl
  unfold wrC
  rw [e2, e]
  unfold chkF
  dsimp only
  rw [hm]
  rfl
theorem appKeys_len : ∀ (l : List K) (t : List UInt8), t.length ≤ (appKeys t l).length
  | [], t => Nat.le_refl _
  | n :: l, t => by
    unfold appKeys
    split
    · exact Nat.le_refl _
    · have := appKeys_len l (t ++ keyT n)
      simp only [List.length_append] at this
      omega
theorem appKeys_few : ∀ (ks : List K) (t : List UInt8), (appKeys t ks).length ≤ 20000 → appKeys t ks = t ++ keysT ks
  | [], t, _ => by unfold keysT appKeys; rw [List.append_nil]
  | k :: ks, t, h => by
    unfold keysT appKeys at *
    by_cases h0 : 20000 < t.length
    · rw [if_pos h0] at h; omega
    · rw [if_neg h0] at h ⊢
      rw [appKeys_few ks _ h, List.append_assoc]
theorem appI_few {x : I} {t : List UInt8} (h : (appI t x).length ≤ 20000) : appI t x = t ++ fullI x := by
  unfold appI fullI at *
  rw [appKeys_few _ _ (by simp only [List.length_append] at h ⊢; omega)]
  simp
theorem fmtF_few : ∀ (l : List I) (t r : List UInt8), fmtF t l = some r → t.length ≤ 20000 → r = t ++ fullL l ∧ r.length ≤ 20000
  | [], t, r, h, ht => by cases h; unfold fullL; rw [List.append_nil]; exact ⟨rfl, ht⟩
  | x :: l, t, r, h, ht => by
    unfold fmtF fullL at *
    by_cases h0 : 20000 < (appI t x).length
    · rw [if_pos h0] at h; cases h
    · rw [if_neg h0] at h
      obtain ⟨h1, h2⟩ := fmtF_few l _ _ h (by omega)
      rw [appI_few (by omega)] at h1
      exact ⟨by rw [h1, List.append_assoc], h2⟩
theorem fmtC_some {l : List I} {t : List UInt8} (h : fmtC l = some t) : (∀ x ∈ l, WfI x) ∧ l.length ≤ 400 ∧ (fullL l).length ≤ 20000 := by
  unfold fmtC at h
  cases hf : fmtF [] l with
  | none => rw [hf] at h; cases h
  | some r =>
    obtain ⟨e, h3⟩ := fmtF_few l [] r hf (by decide)
    rw [hf] at h
    unfold fmtO at h
    dsimp only at h
    cases hp : parse r with
    | bad e q => rw [hp] at h; cases h
    | ok m =>
      rw [hp] at h
      unfold chkF at h
      dsimp only at h
      by_cases hs : allB sameIB m l = true
      · obtain ⟨h1, h2⟩ := wfs_same hs (parse_wf hp).1
        rw [e] at h3
        exact ⟨h1, by rw [← h2]; exact (parse_ok hp).2, h3⟩
      · rw [if_neg hs] at h; cases h
theorem wrC_eq (l : List I) : wrC l = fmtC l := by
  cases h : wrC l with
  | some t =>
    obtain ⟨h1, h2, h3⟩ := wrC_some h
    rw [← h, wrC_full h1 h2 h3, fmtC_full h1 h2 h3]
  | none =>
    cases h' : fmtC l with
    | none => rfl
    | some t =>
      obtain ⟨h1, h2, h3⟩ := fmtC_some h'
      rw [wrC_full h1 h2 h3] at h
      cases h
end SS
