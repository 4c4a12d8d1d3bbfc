/-
  The reference's word at a place: plain laws.
-/
import Derived.Test.YtdikoeeoglfmaaaGreatDoorM06
namespace SC
open Go Go.RowKit PB
theorem sp_next {p : UInt8 → Bool} {s : ByteArray} {k : Nat} (h : k < s.size) (hb : p (s[k]'h) = true) : span p (s.data.toList.drop k) = span p (s.data.toList.drop (k + 1)) + 1 := by
  rw [drop_cons s k h]
  show (if p (s[k]'h) = true then _ else 0) = _
  rw [if_pos hb]
theorem sp_stop {p : UInt8 → Bool} {s : ByteArray} {k : Nat} (h : k < s.size) (hb : p (s[k]'h) = false) : span p (s.data.toList.drop k) = 0 := by
  rw [drop_cons s k h]
  show (if p (s[k]'h) = true then _ else 0) = _
  rw [hb, if_neg Bool.false_ne_true]
theorem sp_end {p : UInt8 → Bool} {s : ByteArray} {k : Nat} (h : ¬ k < s.size) : span p (s.data.toList.drop k) = 0 := by
  rw [List.drop_eq_nil_of_le (by simp; omega)]; rfl
/-- The reference's word at a place. -/
def oneV (l : List UInt8) (a : Nat) : Value := match fst l with
  | .bad e => .tuple #[wordV 0 ⟨#[]⟩ 0 0, .int .i64 0, .int .i64 e, .int .i64 a]
  | .ok k n v => if k = 2 ∧ nameLen (l.drop n) ≠ 0 then .tuple #[wordV 0 ⟨#[]⟩ 0 0, .int .i64 0, .int .i64 4, .int .i64 ((a : Int) + n)]
    else .tuple #[wordV k ⟨(l.take n).toArray⟩ v a, .int .i64 ((a : Int) + n), .int .i64 0, .int .i64 0]
theorem nameLen_no {s : ByteArray} {a : Nat} (h : a < s.size) (hb : ltr (s[a]'h) = false) : nameLen (s.data.toList.drop a) = 0 := by
  rw [drop_cons s a h]
  show (if ltr (s[a]'h) = true then _ else 0) = _
  rw [hb, if_neg Bool.false_ne_true]
theorem nameLen_yes {s : ByteArray} {a : Nat} (h : a < s.size) (hb : ltr (s[a]'h) = true) : nameLen (s.data.toList.drop a) = span lod (s.data.toList.drop a) ∧ nameLen (s.data.toList.drop a) ≠ 0 := by
  have e : nameLen (s.data.toList.drop a) = span lod (s.data.toList.drop (a + 1)) + 1 := by
    rw [drop_cons s a h]
    show (if ltr (s[a]'h) = true then _ else 0) = _
    rw [if_pos hb]
  rw [e, sp_next h (by unfold lod; rw [hb]; rfl)]
  exact ⟨rfl, by omega⟩
theorem nameLen_none {s : ByteArray} {k : Nat} (h : ¬ k < s.size) : nameLen (s.data.toList.drop k) = 0 := by
  rw [List.drop_eq_nil_of_le (by simp; omega)]; rfl
theorem head_at {s : ByteArray} {a : Nat} (h : a < s.size) : (s.data.toList.drop a).head? = some (s[a]'h) := by
  rw [drop_cons s a h]; rfl
theorem extract_mk (s : ByteArray) (a n : Nat) : s.extract a (a + n) = ⟨((s.data.toList.drop a).take n).toArray⟩ := by
  apply ByteArray.ext
  apply Array.toList_inj.1
  have := Lib.extract_data s a (a + n)
  rw [this, Nat.add_sub_cancel_left]
theorem one_semi {s : ByteArray} {a : Nat} (h : a < s.size) (hb : s[a]'h = 59) : oneV (s.data.toList.drop a) a = .tuple #[wordV 3 ⟨#[59]⟩ 0 a, .int .i64 ((a : Int) + 1), .int .i64 0, .int .i64 0] := by
  have hl : ltr (s[a]'h) = false := by rw [hb]; decide
  have hn := nameLen_no h hl
  have hh := head_at h
  rw [hb] at hh
  have hu : numLen (s.data.toList.drop a) = 0 := by
    unfold numLen
    have hd : digs (s.data.toList.drop a) = s.data.toList.drop a := by unfold digs; rw [hh, if_neg (by decide)]
    rw [hd, sp_stop h (by rw [hb]; decide), if_pos rfl]
  have hf : fst (s.data.toList.drop a) = .ok 3 1 0 := by
    unfold fst; rw [hn, hu, hh]; rfl
  unfold oneV
  rw [hf]
  dsimp only
  rw [if_neg (by rintro ⟨h, _⟩; exact absurd h (by decide)), drop_cons s a h, hb]
  rfl
theorem one_name {s : ByteArray} {a m : Nat} (hm : nameLen (s.data.toList.drop a) = m) (h0 : m ≠ 0) : oneV (s.data.toList.drop a) a = if m ≤ 12 then .tuple #[wordV 1 (s.extract a (a + m)) 0 a, .int .i64 ((a : Int) + m), .int .i64 0, .int .i64 0] else .tuple #[wordV 0 ⟨#[]⟩ 0 0, .int .i64 0, .int .i64 6, .int .i64 a] := by
  unfold oneV fst
  rw [hm, if_pos h0]
  by_cases h : m ≤ 12
  · rw [if_pos h, if_pos h]
    dsimp only
    rw [if_neg (by rintro ⟨h, _⟩; exact absurd h (by decide)), extract_mk]
  · rw [if_neg h, if_neg h]
/-- What stands behind the sign, in places. -/
theorem digs_at {s : ByteArray} {a : Nat} (h : a < s.size) : (s[a]'h = 45 → digs (s.data.toList.drop a) = s.data.toList.drop (a + 1) ∧ sgn (s.data.toList.drop a) = 1) ∧ (s[a]'h ≠ 45 → digs (s.data.toList.drop a) = s.data.toList.drop a ∧ sgn (s.data.toList.drop a) = 0) := by
  have hh := head_at h
  constructor
  · intro hb
    rw [hb] at hh
    unfold digs sgn
    rw [hh, if_pos rfl, if_pos rfl, List.drop_drop]
    exact ⟨rfl, rfl⟩
  · intro hb
    unfold digs sgn
    rw [hh, if_neg (fun e => hb (Option.some.inj e)), if_neg (fun e => hb (Option.some.inj e))]
    exact ⟨rfl, rfl⟩
theorem one_none {s : ByteArray} {a i : Nat} (h : a < s.size) (hl : ltr (s[a]'h) = false) (h59 : s[a]'h ≠ 59) (hd : digs (s.data.toList.drop a) = s.data.toList.drop i) (hi : span dgt (s.data.toList.drop i) = 0) : oneV (s.data.toList.drop a) a = .tuple #[wordV 0 ⟨#[]⟩ 0 0, .int .i64 0, .int .i64 4, .int .i64 a] := by
  have hn := nameLen_no h hl
  have hu : numLen (s.data.toList.drop a) = 0 := by unfold numLen; rw [hd, hi, if_pos rfl]
  have hh := head_at h
  unfold oneV fst
  rw [hn, hu, if_neg (by simp), if_neg (by simp), if_neg (by rw [hh]; intro e; exact h59 (Option.some.inj e))]
theorem one_num {s : ByteArray} {a i m : Nat} {neg : Bool} (h : a < s.size) (hl : ltr (s[a]'h) = false) (hd : digs (s.data.toList.drop a) = s.data.toList.drop i) (hs : sgn (s.data.toList.drop a) = i - a) (hia : a ≤ i) (hneg : neg = decide (s[a]'h = 45)) (hi : span dgt (s.data.toList.drop i) = m) (h0 : m ≠ 0) :
    oneV (s.data.toList.drop a) a = if val ((s.data.toList.drop i).take m) ≤ 1073741824 then
      (if nameLen (s.data.toList.drop (i + m)) ≠ 0 then .tuple #[wordV 0 ⟨#[]⟩ 0 0, .int .i64 0, .int .i64 4, .int .i64 ((i : Int) + m)]
       else .tuple #[wordV 2 (s.extract a (i + m)) (if neg then -(val ((s.data.toList.drop i).take m) : Int) else val ((s.data.toList.drop i).take m)) a, .int .i64 ((i : Int) + m), .int .i64 0, .int .i64 0])
      else .tuple #[wordV 0 ⟨#[]⟩ 0 0, .int .i64 0, .int .i64 5, .int .i64 a] := by
  have hn := nameLen_no h hl
  have hh := head_at h
  have hnd : numDig (s.data.toList.drop a) = (s.data.toList.drop i).take m := by unfold numDig; rw [hd, hi]
  have hu : numLen (s.data.toList.drop a) = i - a + m := by unfold numLen; rw [hd, hi, hs, if_neg h0]
  have hv : numVal (s.data.toList.drop a) = if neg then -(val ((s.data.toList.drop i).take m) : Int) else val ((s.data.toList.drop i).take m) := by
    unfold numVal; rw [hnd, hh, hneg]
    by_cases h45 : s[a]'h = 45
    · rw [h45, if_pos rfl]; simp
    · rw [if_neg (fun e => h45 (Option.some.inj e)), decide_eq_false h45]; simp
  have e1 : (a : Int) + ((i - a + m : Nat) : Int) = (i : Int) + m := by omega
  have e2 : a + (i - a + m) = i + m := by omega
  unfold oneV fst
  rw [hn, if_neg (by simp), hu, if_pos (by omega), hnd, hv]
  by_cases hc : val ((s.data.toList.drop i).take m) ≤ 1073741824
  · rw [if_pos hc, if_pos hc]
    dsimp only
    rw [List.drop_drop, e1, ← extract_mk, e2]
    by_cases hx : nameLen (s.data.toList.drop (i + m)) ≠ 0
    · rw [if_pos hx, if_pos ⟨rfl, hx⟩]
    · rw [if_neg hx, if_neg (fun hh => hx hh.2)]
  · rw [if_neg hc, if_neg hc]
/-- The digits that have been read from i on. -/
structure NumAt (s : ByteArray) (i k : Nat) : Prop where
  le : i ≤ k
  span : span dgt (s.data.toList.drop i) = (k - i) + SC.span dgt (s.data.toList.drop k)
def valAt (s : ByteArray) (i k : Nat) : Nat := val ((s.data.toList.drop i).take (k - i))
theorem NumAt.start (s : ByteArray) (i : Nat) : NumAt s i i := ⟨Nat.le_refl _, by omega⟩
theorem valAt_start (s : ByteArray) (i : Nat) : valAt s i i = 0 := by unfold valAt; rw [Nat.sub_self]; rfl
theorem NumAt.next {s : ByteArray} {i k : Nat} (h : NumAt s i k) (hk : k < s.size) (hd : dgt (s[k]'hk) = true) : NumAt s i (k + 1) := by
  refine ⟨by have := h.le; omega, ?_⟩
  have := h.le
  rw [h.span, sp_next hk hd]; omega
theorem valAt_next {s : ByteArray} {i k : Nat} (h : i ≤ k) (hk : k < s.size) : valAt s i (k + 1) = 10 * valAt s i k + ((s[k]'hk).toNat - 48) := by
  unfold valAt
  have e : k + 1 - i = (k - i) + 1 := by omega
  rw [e, List.take_succ_eq_append_getElem (by simp; omega), val_snoc]
  congr 3
  simp only [List.getElem_drop]
  have : i + (k - i) = k := by omega
  simp only [this]
  rfl
theorem NumAt.done {s : ByteArray} {i k : Nat} (h : NumAt s i k) (hk : ∀ hk : k < s.size, dgt (s[k]'hk) = false) : SC.span dgt (s.data.toList.drop i) = k - i := by
  rw [h.span]
  by_cases hp : k < s.size
  · rw [sp_stop hp (hk hp)]; omega
  · rw [sp_end hp]; omega
/-- The bytes of a name that have been read. -/
structure NamAt (s : ByteArray) (a k : Nat) : Prop where
  le : a ≤ k
  span : nameLen (s.data.toList.drop a) = (k - a) + SC.span lod (s.data.toList.drop k)
theorem NamAt.next {s : ByteArray} {i k : Nat} (h : NamAt s i k) (hk : k < s.size) (hd : lod (s[k]'hk) = true) : NamAt s i (k + 1) := by
  refine ⟨by have := h.le; omega, ?_⟩
  have := h.le
  rw [h.span, sp_next hk hd]; omega
theorem NamAt.done {s : ByteArray} {i k : Nat} (h : NamAt s i k) (hk : ∀ hk : k < s.size, lod (s[k]'hk) = false) : nameLen (s.data.toList.drop i) = k - i := by
  rw [h.span]
  by_cases hp : k < s.size
  · rw [sp_stop hp (hk hp)]; omega
  · rw [sp_end hp]; omega
theorem results_cell3 {fn : Func} {p u v x : Tmp} {ty : TypeId} (h : fn.results = #[.cell p ty, .tmp u, .tmp v, .tmp x]) (tmps : Array Value) (P : Program) (w : World) :
    (results fn tmps).run P w =
      ((asAddr (tmps.getD p undef)).run P w).andThen fun a w₁ => ((loadVar ty a).run P w₁).andThen fun z w₂ => .ok (.tuple #[z, tmps.getD u undef, tmps.getD v undef, tmps.getD x undef]) w₂ := by
  simp only [results, h]
  simp [Sem.run_bind, Result.andThen]
theorem blk_res3 {P : Program} {fn : Func} {p u v x : Tmp} {ty : TypeId} (h : fn.results = #[.cell p ty, .tmp u, .tmp v, .tmp x]) {tmps : Array Value} {w : World} {g : Nat} {cs : Array Value} (d : TypeDesc)
    (hp : tmps.getD p undef = .pointer (some ⟨g, 0, none⟩)) (hg : Blk w g cs)
    (hu : P.underlying ty = some d) (hd : (match d with | .struct _ | .array _ _ => true | _ => false) = true) (hi : (P.info? ty).map (·.size) = some cs.size) :
    (results fn tmps).run P w = .ok (.tuple #[.agg cs, tmps.getD u undef, tmps.getD v undef, tmps.getD x undef]) w := by
  obtain ⟨T, hg⟩ := hg
  rw [results_cell3 h]
  have hp' : tmps[p]?.getD undef = .pointer (some ⟨g, 0, none⟩) := by simpa using hp
  simp [hp', asAddr, run_loadVar_row w g T ty cs (0, 0) d hg hu hd hi, Result.andThen]
end SC
