/-
  The four candidates of a projection.
-/
import Derived.Test.YtejodcpigfbnpaaVDot
import Derived.Test.YtejodcpigfbnpaaVAr
namespace VB
open Go Go.RowKit PB
/-- An array of four vectors. -/
abbrev arr4 (a b c d e f g h : Int) : Value := .agg #[.int .i64 a, .int .i64 b, .int .i64 c, .int .i64 d, .int .i64 e, .int .i64 f, .int .i64 g, .int .i64 h]
theorem blk_set8 {w : World} {k : Nat} {a b c d e f g h a' b' c' d' e' f' g' h' : Value} (H : Blk w k #[a, b, c, d, e, f, g, h]) :
    Blk ((((((((w.setCell ⟨k, 0, none⟩ a').setCell ⟨k, 1, none⟩ b').setCell ⟨k, 2, none⟩ c').setCell ⟨k, 3, none⟩ d').setCell ⟨k, 4, none⟩ e').setCell ⟨k, 5, none⟩ f').setCell ⟨k, 6, none⟩ g').setCell ⟨k, 7, none⟩ h') k #[a', b', c', d', e', f', g', h'] := by
  have h0 : Blk _ k #[a', b, c, d, e, f, g, h] := H.set 0 a'
  have h1 : Blk _ k #[a', b', c, d, e, f, g, h] := h0.set 1 b'
  have h2 : Blk _ k #[a', b', c', d, e, f, g, h] := h1.set 2 c'
  have h3 : Blk _ k #[a', b', c', d', e, f, g, h] := h2.set 3 d'
  have h4 : Blk _ k #[a', b', c', d', e', f, g, h] := h3.set 4 e'
  have h5 : Blk _ k #[a', b', c', d', e', f', g, h] := h4.set 5 f'
  have h6 : Blk _ k #[a', b', c', d', e', f', g', h] := h5.set 6 g'
  have h7 : Blk _ k #[a', b', c', d', e', f', g', h'] := h6.set 7 h'
  exact h7
theorem below_set8 {w w0 : World} {k N : Nat} {a' b' c' d' e' f' g' h' : Value} (H : Below N w0 w) (hk : N ≤ k) :
    Below N w0 ((((((((w.setCell ⟨k, 0, none⟩ a').setCell ⟨k, 1, none⟩ b').setCell ⟨k, 2, none⟩ c').setCell ⟨k, 3, none⟩ d').setCell ⟨k, 4, none⟩ e').setCell ⟨k, 5, none⟩ f').setCell ⟨k, 6, none⟩ g').setCell ⟨k, 7, none⟩ h') :=
  (((((((H.setCell hk _).setCell hk _).setCell hk _).setCell hk _).setCell hk _).setCell hk _).setCell hk _).setCell hk _
theorem Blk8 {w : World} {k : Nat} {a b c d e f g h : Value} (H : Blk w k #[a, b, c, d, e, f, g, h]) : w.cell? ⟨k, 0, none⟩ = some a ∧ w.cell? ⟨k, 1, none⟩ = some b ∧ w.cell? ⟨k, 2, none⟩ = some c ∧ w.cell? ⟨k, 3, none⟩ = some d ∧ w.cell? ⟨k, 4, none⟩ = some e ∧ w.cell? ⟨k, 5, none⟩ = some f ∧ w.cell? ⟨k, 6, none⟩ = some g ∧ w.cell? ⟨k, 7, none⟩ = some h :=
  ⟨H.cell 0 _ rfl, H.cell 1 _ rfl, H.cell 2 _ rfl, H.cell 3 _ rfl, H.cell 4 _ rfl, H.cell 5 _ rfl, H.cell 6 _ rfl, H.cell 7 _ rfl⟩
theorem Blk8f {w : World} {k : Nat} {a b c d e f g h : Value} (H : Blk w k #[a, b, c, d, e, f, g, h]) : w.frozen? ⟨k, 0, none⟩ = false ∧ w.frozen? ⟨k, 1, none⟩ = false ∧ w.frozen? ⟨k, 2, none⟩ = false ∧ w.frozen? ⟨k, 3, none⟩ = false ∧ w.frozen? ⟨k, 4, none⟩ = false ∧ w.frozen? ⟨k, 5, none⟩ = false ∧ w.frozen? ⟨k, 6, none⟩ = false ∧ w.frozen? ⟨k, 7, none⟩ = false :=
  ⟨H.free 0, H.free 1, H.free 2, H.free 3, H.free 4, H.free 5, H.free 6, H.free 7⟩
end VB
namespace Go.Proofs.Ytejodcpigfbnpaa
open Go.RowKit PB VB
set_option maxRecDepth 100000 in
set_option maxHeartbeats 2000000 in
theorem cand_any (vx vy nx ny : Int) (w : World) (hv : Sm vx vy) (hn : Sm nx ny) (A1 : ArOK (-ny) (crossI nx ny vx vy) (dotI nx ny nx ny)) (A2 : ArOK nx (crossI nx ny vx vy) (dotI nx ny nx ny)) :
    Calls Try.prog 54 #[vec vx vy, vec nx ny] w fun e w' => e = .returned (arr4 (-ny * crossI nx ny vx vy / dotI nx ny nx ny) (nx * crossI nx ny vx vy / dotI nx ny nx ny) (-ny * crossI nx ny vx vy / dotI nx ny nx ny) (cdiv (nx * crossI nx ny vx vy) (dotI nx ny nx ny)) (cdiv (-ny * crossI nx ny vx vy) (dotI nx ny nx ny)) (nx * crossI nx ny vx vy / dotI nx ny nx ny) (cdiv (-ny * crossI nx ny vx vy) (dotI nx ny nx ny)) (cdiv (nx * crossI nx ny vx vy) (dotI nx ny nx ny))) ∧ Below w.heap.size w w' := by
  have H1 := Lib.hid A1
  have H2 := Lib.hid A2
  have C1 := Lib.hid (fun w => vcross_t nx ny vx vy w hn hv)
  have D1 := Lib.hid (fun w => vdot_t nx ny nx ny w hn hn)
  have hn1 := hn.c
  have hn2 := hn.d
  clear A1 A2
  generalize crossI nx ny vx vy = c at *
  generalize dotI nx ny nx ny = d at *
  go_enter Try.func54, Try.ntmps54
  go_wp2_with fail
  generalize hW : World.alloc _ _ = W
  have BV : Blk W w.heap.size #[.int .i64 vx, .int .i64 vy] := by rw [← hW]; exact ((blk_new rfl).alloc _).alloc _
  have BN : Blk W (w.heap.size + 1) #[.int .i64 nx, .int .i64 ny] := by rw [← hW]; exact (blk_new (by simp)).alloc _
  have BR : Blk W (w.heap.size + 1 + 1) #[.int .i64 0, .int .i64 0, .int .i64 0, .int .i64 0, .int .i64 0, .int .i64 0, .int .i64 0, .int .i64 0] := by rw [← hW]; exact blk_new (by simp)
  have hBW : Below w.heap.size w W := by rw [← hW]; exact (((Below.refl _ _).alloc (Nat.le_refl _) _).alloc (by simp) _).alloc (by simp; omega) _
  clear hW
  have HK := Lib.hid (show ∀ w1, Below W.heap.size W w1 → (w1.cell? ⟨w.heap.size, 0, none⟩ = some (.int .i64 vx) ∧ w1.cell? ⟨w.heap.size, 1, none⟩ = some (.int .i64 vy)) ∧ (w1.cell? ⟨w.heap.size + 1, 0, none⟩ = some (.int .i64 nx) ∧ w1.cell? ⟨w.heap.size + 1, 1, none⟩ = some (.int .i64 ny)) from
    fun w1 h => ⟨Blk2 (BV.kept h), Blk2 (BN.kept h)⟩)
  obtain ⟨⟨a0, a1⟩, b0, b1⟩ := HK.out _ (Below.refl _ _)
  have BN' := Lib.hid BN
  have BR' := Lib.hid BR
  have HB := Lib.hid hBW
  clear BV BN BR hBW
  have hq : Below W.heap.size W W := Below.refl _ _
  go_region_held3 (fun w' => (w'.cell? ⟨w.heap.size, 0, none⟩ = some (.int .i64 vx) ∧ w'.cell? ⟨w.heap.size, 1, none⟩ = some (.int .i64 vy)) ∧ (w'.cell? ⟨w.heap.size + 1, 0, none⟩ = some (.int .i64 nx) ∧ w'.cell? ⟨w.heap.size + 1, 1, none⟩ = some (.int .i64 ny)))
    (first | exact ⟨⟨a0, a1⟩, b0, b1⟩ | exact HK.out _ hq)
    (first
      | (go_at_call 20; refine (C1.out _).mono ?_; rintro e x1 ⟨rfl, hx1⟩; have hq : Below W.heap.size W x1 := (by first | exact hq.trans (hx1.mono hq.size) | exact hq.trans (below_undrew (hx1.mono hq.size))))
      | (go_at_call 18; refine (D1.out _).mono ?_; rintro e x2 ⟨rfl, hx2⟩; have hq : Below W.heap.size W x2 := (by first | exact hq.trans (hx2.mono hq.size) | exact hq.trans (below_undrew (hx2.mono hq.size))))
      | fail "no arm")
  have BN2 := BN'.out.kept hq
  have BR2 := BR'.out.kept hq
  have HB2 := HB.out.trans (hq.mono HB.out.size)
  clear a0 a1 b0 b1 hx2 hq hx1 HK BN' BR' HB C1 D1
  obtain ⟨b0, b1⟩ := Blk2 BN2
  unfold ArOK at H1 H2
  go_wp2_with fail
  refine (H1.out _).mono ?_
  rintro e x3 ⟨rfl, hx3⟩
  obtain ⟨p1, hp1⟩ : ∃ p, -ny * c / d = p := ⟨_, rfl⟩
  rw [hp1]
  have E1 := Lib.hid hp1
  clear hp1
  obtain ⟨p2, hp2⟩ : ∃ p, cdiv (-ny * c) d = p := ⟨_, rfl⟩
  rw [hp2]
  have E2 := Lib.hid hp2
  clear hp2
  have BN3 := BN2.kept hx3
  have BR3 := BR2.kept hx3
  have HB3 := next HB2 hx3
  clear b0 b1 BN2 BR2 HB2 hx3 H1
  obtain ⟨b0, b1⟩ := Blk2 BN3
  go_wp2_with fail
  refine (H2.out _).mono ?_
  rintro e x4 ⟨rfl, hx4⟩
  obtain ⟨p3, hp3⟩ : ∃ p, nx * c / d = p := ⟨_, rfl⟩
  rw [hp3]
  have E3 := Lib.hid hp3
  clear hp3
  obtain ⟨p4, hp4⟩ : ∃ p, cdiv (nx * c) d = p := ⟨_, rfl⟩
  rw [hp4]
  have E4 := Lib.hid hp4
  clear hp4
  have BR4 := BR3.kept hx4
  have HB4 := next HB3 hx4
  clear b0 b1 BN3 BR3 HB3 hx4 H2
  obtain ⟨c0, c1, c2, c3, c4, c5, c6, c7⟩ := Blk8 BR4
  obtain ⟨f0, f1, f2, f3, f4, f5, f6, f7⟩ := Blk8f BR4
  go_wp2_with fail
  refine bodyPost_ret (blk_res rfl _ rfl (blk_set8 BR4) Try.underlying59 rfl (by rfl)) rfl ⟨by rw [E1.out, E2.out, E3.out, E4.out], below_set8 HB4 (by omega)⟩
end Go.Proofs.Ytejodcpigfbnpaa
