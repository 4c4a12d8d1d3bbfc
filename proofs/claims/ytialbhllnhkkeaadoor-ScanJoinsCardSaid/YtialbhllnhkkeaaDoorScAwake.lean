/-
  The examples of the chapter.
-/
import Derived.Test.YtialbhllnhkkeaaDoorScWords
import Derived.Test.YtialbhllnhkkeaaDoorScIsName
import Derived.KernelRfl
namespace SC
open Go Go.RowKit PB
theorem ex1 : words [112, 111, 115, 116, 32, 112, 49, 32, 115, 105, 122, 101, 32, 45, 53, 59] = .ok [⟨1, [112, 111, 115, 116], 0, 0⟩, ⟨1, [112, 49], 0, 5⟩, ⟨1, [115, 105, 122, 101], 0, 8⟩, ⟨2, [45, 53], -5, 13⟩, ⟨3, [59], 0, 15⟩] := by kernel_rfl
theorem ex2 : words [53, 97] = .bad 4 1 := by kernel_rfl
theorem ex3 : words [45, 32, 53] = .bad 4 0 := by kernel_rfl
theorem ex4 : isName [97, 57] = true := by kernel_rfl
end SC
namespace Go.Proofs.YtialbhllnhkkeaaDoor
open Go.RowKit SC PB
theorem words_bad (s : ByteArray) (w : World) (er : Int) (p : Nat) (hs : s.size ≤ 9223372036854775807) (h : words s.data.toList = .bad er p) :
    Calls Tryd.prog 9 #[.string s] w fun e w' => ∃ v, e = .returned (.tuple #[v, .int .i64 er, .int .i64 p]) ∧ Below w.heap.size w w' :=
  (words_any s w hs).mono fun e w' ⟨v, he, _, hb⟩ => ⟨v, by rw [he, h]; rfl, hb⟩
set_option maxHeartbeats 2000000 in
theorem awake_any (w : World) : Calls Tryd.prog 8 #[] w fun e w' => e = .returned (.bool true) ∧ Below w.heap.size w w' := by
  have H1 := Lib.hid (fun w => words_any ⟨#[112, 111, 115, 116, 32, 112, 49, 32, 115, 105, 122, 101, 32, 45, 53, 59]⟩ w (by decide))
  have H2 := Lib.hid (fun w => words_bad ⟨#[53, 97]⟩ w 4 1 (by decide) ex2)
  have H3 := Lib.hid (fun w => words_bad ⟨#[45, 32, 53]⟩ w 4 0 (by decide) ex3)
  have H4 := Lib.hid (fun w => name_is ⟨#[97, 57]⟩ w (by decide))
  rw [show words (⟨#[112, 111, 115, 116, 32, 112, 49, 32, 115, 105, 122, 101, 32, 45, 53, 59]⟩ : ByteArray).data.toList = _ from ex1] at H1
  rw [show isName (⟨#[97, 57]⟩ : ByteArray).data.toList = _ from ex4] at H4
  go_enter Tryd.func8, Tryd.ntmps8
  go_wp2_with fail
  refine (H1.out _).mono ?_
  rintro e w1 ⟨v1, rfl, o1, q1⟩
  obtain ⟨base, g, c, rfl, hb, hW, hg, _⟩ := ownw_slice o1
  obtain rfl := hb (by decide)
  have a3 : w1.cell? ⟨g, 14, none⟩ = some (.int .i64 (-5)) := (hW 3 _ rfl).2.2.1
  have a4 : w1.cell? ⟨g, 16, none⟩ = some (.int .i64 3) := (hW 4 _ rfl).1
  have hg0 := hg (by decide)
  clear hW hg hb o1
  dsimp only [WR.list, WR.err, WR.at, List.length]
  go_wp2_with fail
  refine (H2.out _).mono ?_
  rintro e w2 ⟨v2, rfl, q2⟩
  have b3 : w2.cell? ⟨g, 14, none⟩ = some (.int .i64 (-5)) := by rw [q2.cell (p := ⟨g, 14, none⟩) hg0]; exact a3
  have b4 : w2.cell? ⟨g, 16, none⟩ = some (.int .i64 3) := by rw [q2.cell (p := ⟨g, 16, none⟩) hg0]; exact a4
  have hg1 : g < w2.heap.size := Nat.lt_of_lt_of_le hg0 q2.size
  have r2 := q1.trans (q2.mono q1.size)
  clear a3 a4 hg0 q1 q2
  go_wp2_with fail
  refine (H3.out _).mono ?_
  rintro e w3 ⟨v3, rfl, q3⟩
  have a3 : w3.cell? ⟨g, 14, none⟩ = some (.int .i64 (-5)) := by rw [q3.cell (p := ⟨g, 14, none⟩) hg1]; exact b3
  have a4 : w3.cell? ⟨g, 16, none⟩ = some (.int .i64 3) := by rw [q3.cell (p := ⟨g, 16, none⟩) hg1]; exact b4
  have r3 := r2.trans (q3.mono r2.size)
  clear b3 b4 hg1 r2 q3
  go_wp2_with fail
  refine (H4.out _).mono ?_
  rintro e w4 ⟨rfl, q4⟩
  have r4 := r3.trans (q4.mono r3.size)
  go_wp2_with fail
  go_ret
  exact ⟨rfl, r4⟩
end Go.Proofs.YtialbhllnhkkeaaDoor
