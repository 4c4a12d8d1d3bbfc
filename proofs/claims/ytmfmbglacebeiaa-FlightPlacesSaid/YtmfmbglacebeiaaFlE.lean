/-
  Motions: ends, positions, motions that stay, on both sides.
-/
import Derived.Test.YtmfmbglacebeiaaFlV
import Derived.BigRegion
namespace FL
open Go Go.RowKit PB VB
def stV (x y : Int) : Int × Int := if Wi 8388608 x y then (x, y) else (0, 0)
theorem blk_res2 {P : Program} {fn : Func} {p q : Tmp} {ty ty' : TypeId} (h : fn.results = #[.cell p ty, .cell q ty']) {tmps : Array Value} {w : World} {g k : Nat} {cs ds : Array Value} (d d' : TypeDesc)
    (hp : tmps.getD p undef = .pointer (some ⟨g, 0, none⟩)) (hg : Blk w g cs)
    (hu : P.underlying ty = some d) (hd : (match d with | .struct _ | .array _ _ => true | _ => false) = true) (hi : (P.info? ty).map (·.size) = some cs.size)
    (hp' : tmps.getD q undef = .pointer (some ⟨k, 0, none⟩)) (hg' : Blk w k ds)
    (hu' : P.underlying ty' = some d') (hd' : (match d' with | .struct _ | .array _ _ => true | _ => false) = true) (hi' : (P.info? ty').map (·.size) = some ds.size) :
    (results fn tmps).run P w = .ok (.tuple #[.agg cs, .agg ds]) w := by
  obtain ⟨T, hg⟩ := hg
  obtain ⟨T', hg'⟩ := hg'
  have hp2 : tmps[p]?.getD undef = .pointer (some ⟨g, 0, none⟩) := by simpa using hp
  have hp3 : tmps[q]?.getD undef = .pointer (some ⟨k, 0, none⟩) := by simpa using hp'
  simp only [results, h]
  simp [Sem.run_bind, Result.andThen, hp2, hp3, asAddr, run_loadVar_row w g T ty cs (0, 0) d hg hu hd hi, run_loadVar_row w k T' ty' ds (0, 0) d' hg' hu' hd' hi']
end FL
namespace Go.Proofs.Ytmfmbglacebeiaa
open Go.RowKit PB VB FL
set_option maxRecDepth 100000 in
set_option maxHeartbeats 2000000 in
theorem fstay_any (x y : Int) (w : World) : Calls Try.prog 19 #[vec x y] w fun e w' => e = .returned (mo (stV x y).1 (stV x y).2 0 0 0 0) ∧ Below w.heap.size w w' := by
  have H1 := Lib.hid (fun W => fvalid_any x y 0 0 0 0 W)
  by_cases hv : Wi 8388608 x y
  · have E := Lib.hid (show stV x y = (x, y) from if_pos hv)
    rw [vmB_t ⟨hv, ⟨by decide, by decide, by decide, by decide⟩, ⟨by decide, by decide, by decide, by decide⟩⟩] at H1
    clear hv
    go_enter Try.func19, Try.ntmps19
    go_wp2_with fail
    refine (H1.out _).mono ?_
    rintro e w1 ⟨rfl, hw1⟩
    have R1 : Blk w1 (w.heap.size + 1) #[.int .i64 0, .int .i64 0, .int .i64 0, .int .i64 0, .int .i64 0, .int .i64 0] := ((blk_new (by simp)).alloc _).kept hw1
    have M1 : Blk w1 (w.heap.size + 1 + 1) #[.int .i64 x, .int .i64 y, .int .i64 0, .int .i64 0, .int .i64 0, .int .i64 0] := (blk_new (by simp)).kept hw1
    have q1 : Below w.heap.size w w1 := in3 hw1
    obtain ⟨c0, c1, c2, c3, c4, c5⟩ := Blk6 M1
    obtain ⟨f0, f1, f2, f3, f4, f5⟩ := Blk6f R1
    obtain ⟨r0, r1, r2, r3, r4, r5⟩ := Blk6 R1
    clear hw1
    go_wp2_with fail
    refine bodyPost_ret (blk_res rfl _ rfl (blk_set6 R1) Try.underlying25 rfl (by rfl)) rfl ⟨by rw [E.out], below_set6 q1 (by omega)⟩
  · have E := Lib.hid (show stV x y = (0, 0) from if_neg hv)
    rw [vmB_f (fun h => hv h.p)] at H1
    clear hv
    go_enter Try.func19, Try.ntmps19
    go_wp2_with fail
    refine (H1.out _).mono ?_
    rintro e w1 ⟨rfl, hw1⟩
    have R1 : Blk w1 (w.heap.size + 1) #[.int .i64 0, .int .i64 0, .int .i64 0, .int .i64 0, .int .i64 0, .int .i64 0] := ((blk_new (by simp)).alloc _).kept hw1
    have M1 : Blk w1 (w.heap.size + 1 + 1) #[.int .i64 x, .int .i64 y, .int .i64 0, .int .i64 0, .int .i64 0, .int .i64 0] := (blk_new (by simp)).kept hw1
    have q1 : Below w.heap.size w w1 := in3 hw1
    obtain ⟨c0, c1, c2, c3, c4, c5⟩ := Blk6 M1
    obtain ⟨f0, f1, f2, f3, f4, f5⟩ := Blk6f R1
    obtain ⟨r0, r1, r2, r3, r4, r5⟩ := Blk6 R1
    clear hw1
    go_wp2_with fail
    refine bodyPost_ret (blk_res rfl _ rfl (blk_set6 R1) Try.underlying25 rfl (by rfl)) rfl ⟨by rw [E.out], below_set6 q1 (by omega)⟩
set_option maxRecDepth 100000 in
set_option maxHeartbeats 2000000 in
theorem rstay_any (x y : Int) (w : World) : Calls Try.prog 20 #[vec x y] w fun e w' => e = .returned (mo (stV x y).1 (stV x y).2 0 0 0 0) ∧ Below w.heap.size w w' := by
  have H1 := Lib.hid (fun W => rvalid_any x y 0 0 0 0 W)
  by_cases hv : Wi 8388608 x y
  · have E := Lib.hid (show stV x y = (x, y) from if_pos hv)
    rw [vmB_t ⟨hv, ⟨by decide, by decide, by decide, by decide⟩, ⟨by decide, by decide, by decide, by decide⟩⟩] at H1
    clear hv
    go_enter Try.func20, Try.ntmps20
    go_wp2_with fail
    refine (H1.out _).mono ?_
    rintro e w1 ⟨rfl, hw1⟩
    have R1 : Blk w1 (w.heap.size + 1) #[.int .i64 0, .int .i64 0, .int .i64 0, .int .i64 0, .int .i64 0, .int .i64 0] := ((blk_new (by simp)).alloc _).kept hw1
    have M1 : Blk w1 (w.heap.size + 1 + 1) #[.int .i64 x, .int .i64 y, .int .i64 0, .int .i64 0, .int .i64 0, .int .i64 0] := (blk_new (by simp)).kept hw1
    have q1 : Below w.heap.size w w1 := in3 hw1
    obtain ⟨c0, c1, c2, c3, c4, c5⟩ := Blk6 M1
    obtain ⟨f0, f1, f2, f3, f4, f5⟩ := Blk6f R1
    obtain ⟨r0, r1, r2, r3, r4, r5⟩ := Blk6 R1
    clear hw1
    go_wp2_with fail
    refine bodyPost_ret (blk_res rfl _ rfl (blk_set6 R1) Try.underlying25 rfl (by rfl)) rfl ⟨by rw [E.out], below_set6 q1 (by omega)⟩
  · have E := Lib.hid (show stV x y = (0, 0) from if_neg hv)
    rw [vmB_f (fun h => hv h.p)] at H1
    clear hv
    go_enter Try.func20, Try.ntmps20
    go_wp2_with fail
    refine (H1.out _).mono ?_
    rintro e w1 ⟨rfl, hw1⟩
    have R1 : Blk w1 (w.heap.size + 1) #[.int .i64 0, .int .i64 0, .int .i64 0, .int .i64 0, .int .i64 0, .int .i64 0] := ((blk_new (by simp)).alloc _).kept hw1
    have M1 : Blk w1 (w.heap.size + 1 + 1) #[.int .i64 x, .int .i64 y, .int .i64 0, .int .i64 0, .int .i64 0, .int .i64 0] := (blk_new (by simp)).kept hw1
    have q1 : Below w.heap.size w w1 := in3 hw1
    obtain ⟨c0, c1, c2, c3, c4, c5⟩ := Blk6 M1
    obtain ⟨f0, f1, f2, f3, f4, f5⟩ := Blk6f R1
    obtain ⟨r0, r1, r2, r3, r4, r5⟩ := Blk6 R1
    clear hw1
    go_wp2_with fail
    refine bodyPost_ret (blk_res rfl _ rfl (blk_set6 R1) Try.underlying25 rfl (by rfl)) rfl ⟨by rw [E.out], below_set6 q1 (by omega)⟩
end Go.Proofs.Ytmfmbglacebeiaa
