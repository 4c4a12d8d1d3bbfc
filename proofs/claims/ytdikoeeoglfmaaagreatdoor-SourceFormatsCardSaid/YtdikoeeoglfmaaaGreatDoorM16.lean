/-
  The deferred closure of Parse.
  Where words stand in their text.
-/
import Derived.Defers
import Derived.Recover
import Derived.Deep.QuietTactic
import Derived.Test.YtdikoeeoglfmaaaGreatDoorM01
import Derived.Test.YtdikoeeoglfmaaaGreatDoorM05
import Derived.Test.YtdikoeeoglfmaaaGreatDoorM15
namespace SS
open Go Go.RowKit PB SC
theorem leaves_congr {P : Program} {fn : Func} {t t' : Array Value} {R : Ending → World → Prop} (h : results fn t = results fn t') : ∀ (ds : List Deferred) (u : FrameMode) (w : World), Leaves P fn t R ds u w → Leaves P fn t' R ds u w
  | [], .returning, w, hl => by
    obtain ⟨v, h1, h2⟩ := hl
    exact ⟨v, by rw [← h]; exact h1, h2⟩
  | [], .panicking c, w, hl => hl
  | [], .run, w, hl => hl
  | d :: ds, u, w, hl => by
    obtain ⟨h1, fv, cap, f, args, h2, h3, h4⟩ := hl
    refine ⟨h1, fv, cap, f, args, h2, h3, h4.mono fun e u' w' he => ?_⟩
    cases e with
    | returned v => exact leaves_congr h ds _ _ he
    | panicked c => exact leaves_congr h ds _ _ he
    | outgrown => exact he
section
variable {P : Program} {ops : Array Oper} {Q : Exit → Act → List Frame → World → Prop} {a : Act} {cs : List Frame} {w : World} {i : Nat} {rest : List Nat} {o : Oper}
/-- No tactic looks into it. -/
structure WS (P : Program) (ops : Array Oper) (Q : Exit → Act → List Frame → World → Prop) (l : List Nat) (a : Act) (cs : List Frame) (w : World) : Prop where
  out : wpOpsS P ops Q l a cs w
theorem ws_cons (ho : ops[i]? = some o) (hw : Region.wanted o (yielded ops a.tmps) = true) (h : ∀ K : Act → World → Prop, (∀ a' w', WS P ops Q rest a' cs w' → K a' w') → Oper.wp P o a w K (fun e a' w' => Q e a' cs w')) : WS P ops Q (i :: rest) a cs w := by
  constructor
  have h0 := h (fun a' w' => wpOpsS P ops Q rest a' cs w') (fun _ _ h => h.out)
  unfold Oper.wp at h0
  simp only [wpOpsS, ho, hw, if_true]
  generalize (execOp a.eval o).run P w = r at h0 ⊢
  cases r with
  | ok n w' => cases n <;> first | exact h0 | exact (h0 : False).elim
  | halt x w' => exact h0
theorem ws_some {w' : World} {v : Value} {cs' : List Frame} (ho : ops[i]? = some o) (hw : Region.wanted o (yielded ops a.tmps) = true) (hr : (execOp a.eval o).run P w = .ok .recover w') (hrec : recoverD cs = some (v, cs')) (h : WS P ops Q rest (a.put o.dst v) cs' w') : WS P ops Q (i :: rest) a cs w := by
  constructor
  simp only [wpOpsS, ho, hw, if_true, hr, hrec]
  exact h.out
theorem ws_none {w' : World} (ho : ops[i]? = some o) (hw : Region.wanted o (yielded ops a.tmps) = true) (hr : (execOp a.eval o).run P w = .ok .recover w') (hrec : recoverD cs = none) (h : WS P ops Q rest (a.put o.dst .nilIface) cs w') : WS P ops Q (i :: rest) a cs w := by
  constructor
  simp only [wpOpsS, ho, hw, if_true, hr, hrec]
  exact h.out
theorem ws_nil (h : Q .normal a cs w) : WS P ops Q [] a cs w := ⟨h⟩
theorem ws_region {id : Nat} {l : List Nat} (hl : List.range ops.size = l) (h : WS P ops Q l a cs w) : (Code.region id ops false).wpS P Q a cs w := wpS_region (by rw [hl]; exact h.out)
end
theorem recD_ret {c : Frame} {cs : List Frame} (hu : c.mode = .returning) : recoverD (c :: cs) = none := by simp [recoverD, hu]
theorem recD_pan {c : Frame} {cs : List Frame} {v : Value} {older : List PanicEntry} (hu : c.mode = .panicking ({ v, recovered := false } :: older)) : recoverD (c :: cs) = some (v, { c with mode := .panicking ({ v, recovered := true } :: older) } :: cs) := by simp [recoverD, hu]
end SS
namespace Go.Proofs.YtdikoeeoglfmaaaGreatDoor
open Go.RowKit SC PB SS
set_option maxRecDepth 100000 in
theorem res_put (d : Nat) (h2 : d ≠ 2) (h3 : d ≠ 3) (h4 : d ≠ 4) (t : Array Value) (v : Value) : results Tryz.f9 (t.setIfInBounds d v) = results Tryz.f9 t := by
  have e : ∀ j, d ≠ j → (t.setIfInBounds d v)[j]? = t[j]? := fun j hj => Array.getElem?_setIfInBounds_ne hj
  simp [results, Tryz.results9, e 2 h2, e 3 h3, e 4 h4]
theorem exec_recover (e : Operand → Value) (o : Oper) (w : World) (ho : o.op = Go.Op.call { callee := Go.Callee.builtin Go.Builtin.recover, args := #[], argTypes := #[] }) : (execOp e o).run Tryz.prog w = .ok .recover w := by
  unfold execOp
  simp only [ho, resolve, invoke, builtin, Sem.run_bind, Sem.run_pure, Result.andThen_ok, List.map_toArray, List.map_nil]
set_option maxRecDepth 100000 in
theorem assert_nil (w : World) : (Instr.typeAssert .nilIface 20 55 true).run Tryz.prog w = .ok (.tuple #[.agg #[.int .i64 0, .int .i64 0], .bool false]) w := by kernel_rfl
set_option maxRecDepth 100000 in
theorem assert_fault (v : Value) (w : World) : (Instr.typeAssert (.iface 55 v) 20 55 true).run Tryz.prog w = .ok (.tuple #[v, .bool true]) w := by kernel_rfl
set_option maxHeartbeats 1000000 in
set_option maxRecDepth 100000 in
theorem catch_idle (L E A : Nat) (w : World) :
    CallsD Tryz.prog 18 #[.pointer (some ⟨L, 0, none⟩), .pointer (some ⟨E, 0, none⟩), .pointer (some ⟨A, 0, none⟩)] .returning w fun e u' w' => e = .returned (.tuple #[]) ∧ u' = .returning ∧ Below w.heap.size w w' := by
  have ha := assert_nil
  refine callsD_of_wpS Tryz.func18 rfl fun c₀ cs hu => ?_
  apply wpS_seq
  refine ws_region (l := [0, 1, 2, 3, 4, 5, 6, 7]) rfl ?_
  rw [show (#[.pointer (some ⟨L, 0, none⟩), .pointer (some ⟨E, 0, none⟩), .pointer (some ⟨A, 0, none⟩)] : Array Value) ++ Array.replicate (Tryz.f18.ntmps - (#[.pointer (some ⟨L, 0, none⟩), .pointer (some ⟨E, 0, none⟩), .pointer (some ⟨A, 0, none⟩)] : Array Value).size) undef = #[.pointer (some ⟨L, 0, none⟩), .pointer (some ⟨E, 0, none⟩), .pointer (some ⟨A, 0, none⟩), undef, undef, undef, undef, undef, undef, undef, undef, undef, undef, undef, undef] from by rw [Tryz.ntmps18]; rfl]
  refine ws_none (o := { dst := some 6, op := Go.Op.call { callee := Go.Callee.builtin Go.Builtin.recover, args := #[], argTypes := #[] }, type := 20, pos := "reader.go:14", after := #[], guard := none }) rfl (by rfl) (exec_recover _ _ _ rfl) (recD_ret hu) ?_
  try simp only [Act.put, List.setIfInBounds_toArray, List.set_cons_zero, List.set_cons_succ]
  refine ws_cons (o := { dst := some 7, op := Go.Op.typeAssert (Go.Operand.tmp 6) 20 55 true, type := 56, pos := "reader.go:14", after := #[{ on := 0, ground := Go.Ground.data }], guard := none }) rfl (by rfl) (fun K hK => ?_)
  go_simp
  refine hK _ _ ?_
  clear hK K
  try simp only [Act.put, List.setIfInBounds_toArray, List.set_cons_zero, List.set_cons_succ]
  refine ws_cons (o := { dst := some 5, op := Go.Op.move (Go.Operand.tmp 7), type := 56, pos := "reader.go:14", after := #[{ on := 1, ground := Go.Ground.data }], guard := none }) rfl (by rfl) (fun K hK => ?_)
  go_simp
  refine hK _ _ ?_
  clear hK K
  try simp only [Act.put, List.setIfInBounds_toArray, List.set_cons_zero, List.set_cons_succ]
  refine ws_cons (o := { dst := some 8, op := Go.Op.extract (Go.Operand.tmp 5) 0, type := 55, pos := "reader.go:14", after := #[{ on := 2, ground := Go.Ground.data }], guard := none }) rfl (by rfl) (fun K hK => ?_)
  go_simp
  refine hK _ _ ?_
  clear hK K
  try simp only [Act.put, List.setIfInBounds_toArray, List.set_cons_zero, List.set_cons_succ]
  refine ws_cons (o := { dst := some 9, op := Go.Op.extract (Go.Operand.tmp 5) 1, type := 4, pos := "reader.go:14", after := #[{ on := 2, ground := Go.Ground.data }, { on := 6, ground := Go.Ground.gcOnly Go.Departure.lateStores }], guard := none }) rfl (by rfl) (fun K hK => ?_)
  go_simp
  refine hK _ _ ?_
  clear hK K
  try simp only [Act.put, List.setIfInBounds_toArray, List.set_cons_zero, List.set_cons_succ]
  refine ws_cons (o := { dst := some 3, op := Go.Op.alloc 55, type := 0, pos := "reader.go:14", after := #[], guard := none }) rfl (by rfl) (fun K hK => ?_)
  go_simp
  refine hK _ _ ?_
  clear hK K
  try simp only [Act.put, List.setIfInBounds_toArray, List.set_cons_zero, List.set_cons_succ]
  refine ws_cons (o := { dst := none, op := Go.Op.store 55 (Go.Operand.tmp 3) (Go.Operand.tmp 8), type := 0, pos := "reader.go:14", after := #[{ on := 5, ground := Go.Ground.data }, { on := 3, ground := Go.Ground.data }, { on := 0, ground := Go.Ground.chain }, { on := 0, ground := Go.Ground.phase }, { on := 1, ground := Go.Ground.phase }, { on := 2, ground := Go.Ground.phase }, { on := 3, ground := Go.Ground.phase }, { on := 4, ground := Go.Ground.textOnly Go.Departure.lateStores }, { on := 5, ground := Go.Ground.phase }], guard := none }) rfl (by rfl) (fun K hK => ?_)
  go_simp
  refine hK _ _ ?_
  clear hK K
  try simp only [Act.put, List.setIfInBounds_toArray, List.set_cons_zero, List.set_cons_succ]
  refine ws_cons (o := { dst := some 4, op := Go.Op.assign (Go.Operand.tmp 9), type := 4, pos := "reader.go:14", after := #[{ on := 4, ground := Go.Ground.data }, { on := 6, ground := Go.Ground.chain }, { on := 0, ground := Go.Ground.phase }, { on := 1, ground := Go.Ground.phase }, { on := 2, ground := Go.Ground.phase }, { on := 3, ground := Go.Ground.phase }, { on := 4, ground := Go.Ground.phase }, { on := 5, ground := Go.Ground.phase }, { on := 6, ground := Go.Ground.phase }], guard := none }) rfl (by rfl) (fun K hK => ?_)
  go_simp
  refine hK _ _ ?_
  clear hK K
  try simp only [Act.put, List.setIfInBounds_toArray, List.set_cons_zero, List.set_cons_succ]
  refine ws_nil ?_
  refine wpS_of_wp ?_
  go_wp2_with fail
  refine ⟨rfl, .returning, ?_, _, results_none rfl _ _ _, rfl, rfl, sb_alloc (Below.refl _ _) _⟩
  cases c₀
  simp only at hu
  subst hu
  rfl
set_option maxHeartbeats 1000000 in
set_option maxRecDepth 100000 in
theorem catch_pan (L E A : Nat) (er q : Int) (older : List PanicEntry) (v0 v1 v2 : Value) (w : World) (hL : Blk w L #[v0]) (hE : Blk w E #[v1]) (hA : Blk w A #[v2]) (hLE : L ≠ E) (hLA : L ≠ A) (hEA : E ≠ A) :
    CallsD Tryz.prog 18 #[.pointer (some ⟨L, 0, none⟩), .pointer (some ⟨E, 0, none⟩), .pointer (some ⟨A, 0, none⟩)] (.panicking ({ v := .iface 55 (.agg #[.int .i64 er, .int .i64 q]), recovered := false } :: older)) w fun e u' w' =>
      e = .returned (.tuple #[]) ∧ u' = .panicking ({ v := .iface 55 (.agg #[.int .i64 er, .int .i64 q]), recovered := true } :: older) ∧ Blk w' L #[.slice none 0 0] ∧ Blk w' E #[.int .i64 er] ∧ Blk w' A #[.int .i64 q] ∧ ∀ N, N ≤ L → N ≤ E → N ≤ A → N ≤ w.heap.size → Below N w w' := by
  have ha := assert_fault
  refine callsD_of_wpS Tryz.func18 rfl fun c₀ cs hu => ?_
  apply wpS_seq
  refine ws_region (l := [0, 1, 2, 3, 4, 5, 6, 7]) rfl ?_
  rw [show (#[.pointer (some ⟨L, 0, none⟩), .pointer (some ⟨E, 0, none⟩), .pointer (some ⟨A, 0, none⟩)] : Array Value) ++ Array.replicate (Tryz.f18.ntmps - (#[.pointer (some ⟨L, 0, none⟩), .pointer (some ⟨E, 0, none⟩), .pointer (some ⟨A, 0, none⟩)] : Array Value).size) undef = #[.pointer (some ⟨L, 0, none⟩), .pointer (some ⟨E, 0, none⟩), .pointer (some ⟨A, 0, none⟩), undef, undef, undef, undef, undef, undef, undef, undef, undef, undef, undef, undef] from by rw [Tryz.ntmps18]; rfl]
  refine ws_some (o := { dst := some 6, op := Go.Op.call { callee := Go.Callee.builtin Go.Builtin.recover, args := #[], argTypes := #[] }, type := 20, pos := "reader.go:14", after := #[], guard := none }) rfl (by rfl) (exec_recover _ _ _ rfl) (recD_pan hu) ?_
  try simp only [Act.put, List.setIfInBounds_toArray, List.set_cons_zero, List.set_cons_succ]
  refine ws_cons (o := { dst := some 7, op := Go.Op.typeAssert (Go.Operand.tmp 6) 20 55 true, type := 56, pos := "reader.go:14", after := #[{ on := 0, ground := Go.Ground.data }], guard := none }) rfl (by rfl) (fun K hK => ?_)
  go_simp
  refine hK _ _ ?_
  clear hK K
  try simp only [Act.put, List.setIfInBounds_toArray, List.set_cons_zero, List.set_cons_succ]
  refine ws_cons (o := { dst := some 5, op := Go.Op.move (Go.Operand.tmp 7), type := 56, pos := "reader.go:14", after := #[{ on := 1, ground := Go.Ground.data }], guard := none }) rfl (by rfl) (fun K hK => ?_)
  go_simp
  refine hK _ _ ?_
  clear hK K
  try simp only [Act.put, List.setIfInBounds_toArray, List.set_cons_zero, List.set_cons_succ]
  refine ws_cons (o := { dst := some 8, op := Go.Op.extract (Go.Operand.tmp 5) 0, type := 55, pos := "reader.go:14", after := #[{ on := 2, ground := Go.Ground.data }], guard := none }) rfl (by rfl) (fun K hK => ?_)
  go_simp
  refine hK _ _ ?_
  clear hK K
  try simp only [Act.put, List.setIfInBounds_toArray, List.set_cons_zero, List.set_cons_succ]
  refine ws_cons (o := { dst := some 9, op := Go.Op.extract (Go.Operand.tmp 5) 1, type := 4, pos := "reader.go:14", after := #[{ on := 2, ground := Go.Ground.data }, { on := 6, ground := Go.Ground.gcOnly Go.Departure.lateStores }], guard := none }) rfl (by rfl) (fun K hK => ?_)
  go_simp
  refine hK _ _ ?_
  clear hK K
  try simp only [Act.put, List.setIfInBounds_toArray, List.set_cons_zero, List.set_cons_succ]
  refine ws_cons (o := { dst := some 3, op := Go.Op.alloc 55, type := 0, pos := "reader.go:14", after := #[], guard := none }) rfl (by rfl) (fun K hK => ?_)
  go_simp
  refine hK _ _ ?_
  clear hK K
  try simp only [Act.put, List.setIfInBounds_toArray, List.set_cons_zero, List.set_cons_succ]
  refine ws_cons (o := { dst := none, op := Go.Op.store 55 (Go.Operand.tmp 3) (Go.Operand.tmp 8), type := 0, pos := "reader.go:14", after := #[{ on := 5, ground := Go.Ground.data }, { on := 3, ground := Go.Ground.data }, { on := 0, ground := Go.Ground.chain }, { on := 0, ground := Go.Ground.phase }, { on := 1, ground := Go.Ground.phase }, { on := 2, ground := Go.Ground.phase }, { on := 3, ground := Go.Ground.phase }, { on := 4, ground := Go.Ground.textOnly Go.Departure.lateStores }, { on := 5, ground := Go.Ground.phase }], guard := none }) rfl (by rfl) (fun K hK => ?_)
  go_simp
  refine hK _ _ ?_
  clear hK K
  try simp only [Act.put, List.setIfInBounds_toArray, List.set_cons_zero, List.set_cons_succ]
  refine ws_cons (o := { dst := some 4, op := Go.Op.assign (Go.Operand.tmp 9), type := 4, pos := "reader.go:14", after := #[{ on := 4, ground := Go.Ground.data }, { on := 6, ground := Go.Ground.chain }, { on := 0, ground := Go.Ground.phase }, { on := 1, ground := Go.Ground.phase }, { on := 2, ground := Go.Ground.phase }, { on := 3, ground := Go.Ground.phase }, { on := 4, ground := Go.Ground.phase }, { on := 5, ground := Go.Ground.phase }, { on := 6, ground := Go.Ground.phase }], guard := none }) rfl (by rfl) (fun K hK => ?_)
  go_simp
  refine hK _ _ ?_
  clear hK K
  try simp only [Act.put, List.setIfInBounds_toArray, List.set_cons_zero, List.set_cons_succ]
  have hl0 := hL.lt
  have hl1 := hE.lt
  have hl2 := hA.lt
  have c0 := hL.cell 0 _ rfl
  have c1 := hE.cell 0 _ rfl
  have c2 := hA.cell 0 _ rfl
  have f0 := hL.free 0
  have f1 := hE.free 0
  have f2 := hA.free 0
  refine ws_nil ?_
  refine wpS_of_wp ?_
  go_wp2_with fail
  go_region
  refine ⟨rfl, _, rfl, _, results_none rfl _ _ _, rfl, rfl, ?_, ?_, ?_, ?_⟩
  · exact ((((hL.set 0 _).other (a := ⟨E, 0, none⟩) _ hLE).other (a := ⟨A, 0, none⟩) _ hLA).alloc _).drew
  · exact ((((hE.other (a := ⟨L, 0, none⟩) _ (Ne.symm hLE)).set 0 _).other (a := ⟨A, 0, none⟩) _ hEA).alloc _).drew
  · exact ((((hA.other (a := ⟨L, 0, none⟩) _ (Ne.symm hLA)).other (a := ⟨E, 0, none⟩) _ (Ne.symm hEA)).set 0 _).alloc _).drew
  · intro N h1 h2 h3 h4
    exact (((((Below.refl N w).setCell (p := ⟨L, 0, none⟩) h1 _).setCell (p := ⟨E, 0, none⟩) h2 _).setCell (p := ⟨A, 0, none⟩) h3 _).alloc (by simpa using h4) _).drew
end Go.Proofs.YtdikoeeoglfmaaaGreatDoor

namespace SC
/-- A word that is one by itself. -/
def Fit (x : W) : Prop := fst x.text = .ok x.kind x.text.length x.num ∧ x.text ≠ []
def Chain (s : List UInt8) : Nat → List W → Prop
  | a, [] => a ≤ s.length
  | a, x :: t => a ≤ x.pos ∧ x.pos + x.text.length ≤ s.length ∧ x.text = (s.drop x.pos).take x.text.length ∧ Fit x ∧ Chain s (x.pos + x.text.length) t
theorem span_take {p : UInt8 → Bool} : ∀ {l : List UInt8} {n : Nat}, n ≤ span p l → span p (l.take n) = n
  | _, 0, _ => by rw [List.take_zero]; rfl
  | [], n + 1, h => by simp [span] at h
  | c :: t, n + 1, h => by
    rw [List.take_succ_cons]
    unfold span at h ⊢
    split at h
    · rename_i hc; rw [if_pos hc, span_take (by omega)]
    · omega
theorem numLen_pos {m : List UInt8} (h : span dgt (digs m) ≠ 0) : numLen m = sgn m + span dgt (digs m) := if_neg h
theorem fst_take {l : List UInt8} {k : Int} {n : Nat} {v : Int} (h : fst l = .ok k n v) : fst (l.take n) = .ok k n v := by
  have hn := fst_len h
  unfold fst at h
  split at h
  · rename_i h0
    split at h
    · rename_i h12
      cases h
      have e : nameLen (l.take (nameLen l)) = nameLen l := by
        cases l with
        | nil => rfl
        | cons c t =>
          by_cases hc : ltr c = true
          · have e1 : nameLen (c :: t) = span lod t + 1 := by show (if ltr c = true then _ else 0) = _; rw [if_pos hc]
            rw [e1, List.take_succ_cons]
            show (if ltr c = true then _ else 0) = _
            rw [if_pos hc, span_take (Nat.le_refl _)]
          · have e1 : nameLen (c :: t) = 0 := by show (if ltr c = true then _ else 0) = _; rw [if_neg hc]
            exact absurd e1 h0
      unfold fst
      rw [e, if_pos h0, if_pos h12]
    · cases h
  · rename_i h0
    split at h
    · rename_i h1
      split at h
      · rename_i h2
        cases h
        have hs : numLen l = sgn l + span dgt (digs l) ∧ span dgt (digs l) ≠ 0 := by
          unfold numLen at h1 ⊢
          split
          · rename_i hz; rw [if_pos hz] at h1; exact absurd rfl h1
          · rename_i hz; exact ⟨rfl, hz⟩
        have eh : (l.take (numLen l)).head? = l.head? := head_take h1
        have ed : digs (l.take (numLen l)) = (digs l).take (span dgt (digs l)) := digs_take h1
        have es : sgn (l.take (numLen l)) = sgn l := by unfold sgn; rw [eh]
        have esp : span dgt (digs (l.take (numLen l))) = span dgt (digs l) := by rw [ed, span_take (Nat.le_refl _)]
        have en : numLen (l.take (numLen l)) = numLen l := by
          rw [numLen_pos (by rw [esp]; exact hs.2), esp, es, ← hs.1]
        have edd : numDig (l.take (numLen l)) = numDig l := by
          show (digs (l.take (numLen l))).take (span dgt (digs (l.take (numLen l)))) = _
          rw [esp, ed, List.take_take, Nat.min_self]; rfl
        have ev : numVal (l.take (numLen l)) = numVal l := by unfold numVal; rw [eh, edd]
        have enm : nameLen (l.take (numLen l)) = 0 := by
          cases l with
          | nil => rfl
          | cons c t =>
            have hc : ltr c ≠ true := fun hc => h0 (by show (if ltr c = true then span lod t + 1 else 0) ≠ 0; rw [if_pos hc]; omega)
            obtain ⟨m, hm⟩ : ∃ m, numLen (c :: t) = m + 1 := ⟨numLen (c :: t) - 1, by omega⟩
            rw [hm, List.take_succ_cons]
            show (if ltr c = true then _ else 0) = 0
            rw [if_neg hc]
        unfold fst
        rw [enm, if_neg (by simp), en, if_pos h1, edd, if_pos h2, ev]
      · cases h
    · split at h
      · rename_i h3
        cases h
        cases l with
        | nil => cases h3
        | cons c t =>
          obtain rfl : c = 59 := by simpa using h3
          rfl
      · cases h
theorem chain_of : ∀ (f : Nat) (s : List UInt8) (a : Nat) (acc r : List W), a ≤ s.length → wordsF f (s.drop a) a acc = .ok r → ∃ ws, r = acc ++ ws ∧ Chain s a ws
  | 0, s, a, acc, r, ha, h => by
    cases h
    exact ⟨[], by simp, ha⟩
  | f + 1, s, a, acc, r, ha, h => by
    rw [wordsF] at h
    have hk := skp_le false (s.drop a)
    rw [List.length_drop] at hk
    split at h
    · cases h
      exact ⟨[], by simp, ha⟩
    · cases hf : fst ((s.drop a).drop (skp false (s.drop a))) with
      | bad e => rw [hf] at h; cases h
      | ok k n v =>
        rw [hf] at h
        dsimp only at h
        have hn := fst_len hf
        rw [List.drop_drop] at h hn hf
        rw [List.length_drop] at hn
        split at h
        · cases h
        · rw [List.drop_drop, ← Nat.add_assoc] at h
          obtain ⟨ws, e, hc⟩ := chain_of f s _ _ _ (by omega) h
          have ht : ((s.drop (a + skp false (s.drop a))).take n).length = n := by rw [List.length_take, List.length_drop]; omega
          refine ⟨⟨k, (s.drop (a + skp false (s.drop a))).take n, v, a + skp false (s.drop a)⟩ :: ws, by rw [e]; simp, by dsimp only; omega, by dsimp only; rw [ht]; omega, by dsimp only; rw [ht], ⟨?_, ?_⟩, ?_⟩
          · dsimp only; rw [ht]; exact fst_take hf
          · dsimp only; intro e0; rw [e0] at ht; simp at ht; omega
          · dsimp only; rw [ht]; exact hc
theorem words_chain {s : List UInt8} {r : List W} (h : words s = .ok r) : Chain s 0 r := by
  unfold words at h
  split at h
  · cases h
  · obtain ⟨ws, e, hc⟩ := chain_of (s.length + 1) s 0 [] r (Nat.zero_le _) h
    rw [e]; exact hc
theorem chain_at : ∀ {s : List UInt8} {a : Nat} {ws : List W}, Chain s a ws → ∀ (i : Nat) (x : W), ws[i]? = some x → x.pos + x.text.length ≤ s.length ∧ x.text = (s.drop x.pos).take x.text.length ∧ Fit x
  | _, _, [], _, i, x, h => by simp at h
  | s, a, y :: t, hc, 0, x, h => by
    obtain rfl : y = x := by simpa using h
    exact ⟨hc.2.1, hc.2.2.1, hc.2.2.2.1⟩
  | s, a, y :: t, hc, i + 1, x, h => chain_at hc.2.2.2.2 i x (by simpa using h)
theorem wordsF_at : ∀ (f : Nat) (l : List UInt8) (a : Nat) (acc : List W) (e : Int) (p : Nat), wordsF f l a acc = .bad e p → p ≤ a + l.length
  | 0, _, _, _, _, _, h => by cases h
  | f + 1, l, a, acc, e, p, h => by
    rw [wordsF] at h
    have hk := skp_le false l
    split at h
    · cases h
    · cases hf : fst (l.drop (skp false l)) with
      | bad e => rw [hf] at h; cases h; omega
      | ok k n v =>
        have hn := fst_len hf
        rw [List.length_drop] at hn
        rw [hf] at h
        dsimp only at h
        split at h
        · cases h; omega
        · have ih := wordsF_at f _ _ _ _ _ h
          rw [List.length_drop, List.length_drop] at ih
          omega
theorem words_at {s : List UInt8} {e : Int} {p : Nat} (h : words s = .bad e p) : p ≤ s.length := by
  unfold words at h
  split at h
  · cases h; omega
  · have := wordsF_at (s.length + 1) s 0 [] e p h
    omega
theorem wordsF_ne : ∀ (f : Nat) (l : List UInt8) (a : Nat) (acc : List W) (e : Int) (p : Nat), wordsF f l a acc = .bad e p → e = 4 ∨ e = 5 ∨ e = 6
  | 0, _, _, _, _, _, h => by cases h
  | f + 1, l, a, acc, e, p, h => by
    rw [wordsF] at h
    split at h
    · cases h
    · cases hf : fst (l.drop (skp false l)) with
      | bad e =>
        rw [hf] at h; cases h
        unfold fst at hf
        split at hf
        · split at hf
          · cases hf
          · cases hf; exact .inr (.inr rfl)
        · split at hf
          · split at hf
            · cases hf
            · cases hf; exact .inr (.inl rfl)
          · split at hf
            · cases hf
            · cases hf; exact .inl rfl
      | ok k n v =>
        rw [hf] at h
        dsimp only at h
        split at h
        · cases h; exact .inl rfl
        · exact wordsF_ne f _ _ _ _ _ h
theorem words_ne {s : List UInt8} {e : Int} {p : Nat} (h : words s = .bad e p) : e = 2 ∨ e = 4 ∨ e = 5 ∨ e = 6 := by
  unfold words at h
  split at h
  · cases h; exact .inl rfl
  · exact .inr (wordsF_ne (s.length + 1) s 0 [] e p h)
end SC
