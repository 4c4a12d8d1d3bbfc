/-
  The reference's statement.
-/
import Derived.Deep.DeepCutAuto
import Derived.Deep.CutRange
import Derived.Test.YtdikoeeoglfmaaaGreatDoorM28
import Derived.Test.YtdikoeeoglfmaaaGreatDoorM30
namespace SS
open Go Go.RowKit PB SC
end SS
namespace Go.Proofs.YtdikoeeoglfmaaaGreatDoor
open Go.RowKit SC PB SS
set_option maxHeartbeats 16000000 in
set_option maxRecDepth 100000 in
theorem rstat_any (p g k : Nat) (sz : Int) (ws : List W) (y0 : W) (hy0 : ws[k]? = some y0) (hn : ws.length ≤ 1000000) (hf : ∀ (i : Nat) (y : W), ws[i]? = some y → Fit y) (hgp : g < p) (w : World) (h : RR 81 w p g sz ws k) :
    Calls Tryz.prog 33 #[.pointer (some ⟨p, 0, none⟩)] w (RetI 3 53 81 (itemP sz (ws.drop k)) w p g sz ws) := by
  obtain ⟨i0, hi, hz0, hz1, hz2⟩ := info_parts info_vint
  obtain ⟨j0, hj, ky0, ky1, ky2⟩ := info_parts info_rkey
  have hk := (List.getElem?_eq_some_iff.1 hy0).1
  have HAT := Lib.hid (fun (i : Nat) (hi : i ≤ ws.length) W h => rat_any 81 p g sz ws i W h hn hi)
  have HKD := Lib.hid (fun (i : Nat) (hi : i ≤ ws.length) W h => rkind_any 81 p g sz ws i W h hn hi)
  have HKY := Lib.hid (fun b W => rkeys_any b W)
  have HAR := Lib.hid (fun a b W => rarity_any a b W)
  have HN := Lib.hid hn
  have HF := Lib.hid hf
  have HGP := Lib.hid hgp
  generalize hR : itemP sz (ws.drop k) = R
  have HI0 := item_first hf hy0 hR
  have hp0 : p < w.heap.size := by obtain ⟨⟨_, _, hb, _⟩, _⟩ := h; exact hb.blk.lt
  have HRR0 := Lib.hid (h.kept (sb_alloc (Below.refl _ _) (.cells zItem 52)))
  have HB0 := Lib.hid (But.of (p := p) (sb_alloc (Below.refl w.heap.size w) (.cells zItem 52)))
  have HRB0 := Lib.hid (show Blk (w.alloc (.cells zItem 52)) w.heap.size zItem from blk_new rfl)
  have HSZ := Lib.hid (show (w.alloc (.cells zItem 52)).heap.size = w.heap.size + 1 from World.size_alloc _ _)
  have HY0 := Lib.hid hy0
  obtain ⟨word, hword⟩ : ∃ word, bs y0.text = word := ⟨_, rfl⟩
  rw [hword] at HI0
  have HI := Lib.hid HI0
  have HWD := Lib.hid hword
  clear h hn hf hR hgp hy0 HI0 hword
  go_enter Tryz.func33, Tryz.ntmps33
  go_upto_region 1 with fail
  rw [show (#[.string ⟨#[]⟩, .string ⟨#[]⟩, .slice none 0 0, .int .i64 0] : Array Value) = zItem from rfl]
  generalize w.alloc (.cells zItem 52) = W1 at *
  obtain ⟨c, hl1, hl2, hcs⟩ := HRR0.out.cells HY0.out
  rw [HWD.out] at hcs
  have HCS := Lib.hid hcs
  obtain ⟨⟨c0, c1, c2⟩, c3, c4⟩ := hcs _ (Below.refl _ _)
  have HA1 := Lib.hid (fun W (h : Below W1.heap.size W1 W) => HAT.out k (by omega) W (HRR0.out.kept h))
  rw [posAt_some HY0.out] at HA1
  have hik : (k : Int) < ws.length := by omega
  generalize hps : (y0.pos : Int) = ps at *
  clear hps hcs
  go_cut [4] (fun s4 wx => ∃ X : Nat, s4 = .pointer (some ⟨X, 0, none⟩) ∧ Hid (w.heap.size < X ∧ Blk wx X #[.string word, .string ⟨#[]⟩, .slice none 0 0, .int .i64 ps]) ∧ Hid (Below W1.heap.size W1 wx))
  case first =>
    go_region_held3 (fun w' => (w'.cell? ⟨p, 0, none⟩ = some (.slice (some ⟨g, 0, none⟩) ws.length c) ∧ w'.cell? ⟨p, 1, none⟩ = some (.int .i64 k) ∧ w'.cell? ⟨p, 2, none⟩ = some (.int .i64 sz)) ∧ w'.cell? ⟨g, k * 4 + 1, none⟩ = some (.string word) ∧ w'.cell? ⟨g, k * 4 + 2, none⟩ = some (.int .i64 y0.num))
      (first | exact ⟨⟨c0, c1, c2⟩, c3, c4⟩ | exact HCS.out _ hq3 | exact HCS.out _ (sb_alloc hq3 _) | exact HCS.out _ (sb_alloc (sb_drew (Below.refl _ _)) _) | exact HCS.out _ (sb_alloc (Below.refl _ _) _) | exact HCS.out _ (sb_drew (Below.refl _ _)) | exact HCS.out _ (sb_set (sb_set (sb_set (sb_set hq3 (Nat.le_refl _) _) (Nat.le_refl _) _) (Nat.le_refl _) _) (Nat.le_refl _) _) | go_keep)
      (first
        | (go_at_call 32; (with_reducible refine (HA1.out _ (by first | exact sb_drew (Below.refl _ _) | exact sb_drew (sb_alloc (sb_drew (Below.refl _ _)) _) | exact sb_alloc (sb_drew (Below.refl _ _)) _ | exact sb_drew (sb_alloc (Below.refl _ _) _))).mono ?_); rintro e w3 ⟨rfl, q3⟩; have hq3 : Below W1.heap.size W1 w3 := next (by first | exact sb_drew (Below.refl _ _) | exact sb_drew (sb_alloc (sb_drew (Below.refl _ _)) _) | exact sb_alloc (sb_drew (Below.refl _ _)) _ | exact sb_drew (sb_alloc (Below.refl _ _) _)) q3; try (have hX3 := Blk.kept (g := W1.heap.size) (cs := zItem) (by first | exact blk_new rfl | exact Blk.drew (blk_new rfl)) q3; obtain ⟨x0, x1, x2, x3⟩ := Blk4 hX3; obtain ⟨f0, f1, f2, f3⟩ := Blk4f hX3))
        | fail "no arm")
    · go_wp2_with fail
      go_meet
      have hsz := HSZ.out
      have hsz3 := hq3.size
      exact ⟨_, rfl, Lib.hid ⟨by omega, blk_new rfl⟩, Lib.hid (sb_alloc hq3 _)⟩
    · go_wp2_with fail
      go_meet
      have hsz := HSZ.out
      have hsz3 := hq3.size
      exact ⟨_, rfl, Lib.hid ⟨by omega, blk_set4 hX3⟩, Lib.hid (sb_set (sb_set (sb_set (sb_set hq3 (Nat.le_refl _) _) (Nat.le_refl _) _) (Nat.le_refl _) _) (Nat.le_refl _) _)⟩
  case rest =>
    have hs := hcut
    clear hcut c0 c1 c2 c3 c4
    obtain ⟨X, rfl, HX0, HW⟩ := hs
    have hRX := HX0.out.1
    have HXB := Lib.hid HX0.out.2
    have HRR := Lib.hid (HRR0.out.kept HW.out)
    have HRB := Lib.hid (HRB0.out.kept HW.out)
    have HBU := Lib.hid (HB0.out.trans (But.of HW.out))
    have hk6 : k ≤ 1000000 := by have := HN.out; omega
    have hklen : k ≤ ws.length := by omega
    clear HX0 HRR0 HRB0 HB0 HW HCS HA1 HSZ hl1 hl2 hik
    have HK1 := Lib.hid (fun W => HKY.out word W)
    have HD1 := Lib.hid (fun W h => HKD.out k hklen W h)
    obtain ⟨x0, x1, x2, x3⟩ := Blk4 HXB.out
    by_cases e1 : kindAt ws k = 1
    · rw [e1] at HD1
      by_cases e2 : rowOf word = []
      · have hV := HI.out.2.1 e2
        subst hV
        rw [show (!(rowOf word).isEmpty) = false by rw [e2]; rfl] at HK1
        clear e1 e2 HI
        go_wp2_with fail
        refine (HK1.out _).mono ?_
        rintro e w2 ⟨v, u, rfl, r1, r2, q2⟩
        obtain ⟨nb, ng, no, nc, rfl, -, -, -⟩ := r1.form
        obtain ⟨mb, mg, mo, mc, rfl, -, -, -⟩ := r2.form
        have HRR2 := Lib.hid (HRR.out.kept q2)
        clear r1 r2
        go_wp2_with fail
        refine (HD1.out _ HRR2.out).mono ?_
        rintro e w3 ⟨rfl, q3⟩
        have HXB3 := Lib.hid ((HXB.out.kept q2).kept q3)
        have HRB3 := Lib.hid ((HRB.out.kept q2).kept q3)
        have HRR3 := Lib.hid (HRR2.out.kept q3)
        have HBU3 := Lib.hid ((HBU.out.trans (But.of q2)).trans (But.of q3))
        clear q2 q3 HRR2
        clear x0 x1 x2 x3
        obtain ⟨x0, x1, x2, x3⟩ := Blk4 HXB3.out
        obtain ⟨r0, r1, r2, r3⟩ := Blk4 HRB3.out
        obtain ⟨f0, f1, f2, f3⟩ := Blk4f HRB3.out
        go_wp2_with fail
        refine bodyPost_ret (blk_res_tmp (g := w.heap.size) rfl _ rfl (blk_set4 HRB3.out) Tryz.underlying52 rfl (by rfl)) rfl ?_
        exact ⟨_, _, _, _, _, _, k, rfl, hklen, rfl, (((HRR3.out.setn hp0 HGP.out _).setn hp0 HGP.out _).setn hp0 HGP.out _).setn hp0 HGP.out _, (((HBU3.out.setn (Nat.le_refl _) _).setn (Nat.le_refl _) _).setn (Nat.le_refl _) _).setn (Nat.le_refl _) _⟩
      · have hV := HI.out.2.2 e1 e2
        rw [show (!(rowOf word).isEmpty) = true by cases hr : rowOf word with | nil => exact absurd hr e2 | cons a b => rfl] at HK1
        have HV := Lib.hid hV
        clear e1 e2 HI hV
        go_wp2_with fail
        refine (HK1.out _).mono ?_
        rintro e w2 ⟨v, u, rfl, r1, r2, q2⟩
        obtain ⟨nb, ng, no, nc, rfl, -, -, -⟩ := r1.form
        obtain ⟨mb, mg, mo, mc, rfl, -, -, -⟩ := r2.form
        have HRR2 := Lib.hid (HRR.out.kept q2)
        clear r1 r2
        go_wp2_with fail
        refine (HD1.out _ HRR2.out).mono ?_
        rintro e w3 ⟨rfl, q3⟩
        have HXB3 := Lib.hid ((HXB.out.kept q2).kept q3)
        have HRB3 := Lib.hid ((HRB.out.kept q2).kept q3)
        have HRR3 := Lib.hid (HRR2.out.kept q3)
        have HBU3 := Lib.hid ((HBU.out.trans (But.of q2)).trans (But.of q3))
        clear q2 q3 HRR2
        obtain ⟨c1, cf1, cl1⟩ := HRR3.out.free _ (Below.refl _ _)
        go_upto_region 6 with fail
        have HXB4 := Lib.hid (HXB3.out.other (a := ⟨p, 1, none⟩) (.int .i64 ((k : Int) + 1)) (by dsimp only; omega))
        have HRB4 := Lib.hid (HRB3.out.other (a := ⟨p, 1, none⟩) (.int .i64 ((k : Int) + 1)) (by dsimp only; omega))
        have HRR4 := Lib.hid (HRR3.out.succ HGP.out)
        have HBU4 := Lib.hid (HBU3.out.setp 1 (.int .i64 ((k : Int) + 1)))
        clear x0 x1 x2 x3 c1 cf1 cl1 HXB3 HRB3 HRR3 HBU3 HXB HRR HRB HBU HK1 HD1
        generalize w3.setCell ⟨p, 1, none⟩ (.int .i64 ((k : Int) + 1)) = w4 at *
        obtain ⟨x0, x1, x2, x3⟩ := Blk4 HXB4.out
        obtain ⟨f0, f1, f2, f3⟩ := Blk4f HXB4.out
        go_upto_if 50 with fail
        obtain ⟨tb, htb⟩ : ∃ tb, (!(word.toList == [116, 97, 98, 108, 101])) = tb := ⟨_, rfl⟩
        rw [htb]
        have HTB := Lib.hid htb
        clear htb
        go_cut [] (fun wx => Hid (SInv 3 53 81 w p g sz ws X R wx))
        case first =>
          by_cases ht : word = bTable
          · obtain rfl : tb = false := by rw [← HTB.out, ht]; kernel_rfl
            have HT := Lib.hid (HV.out.1 ht)
            clear ht
            go_wp2_with fail
            go_meet
            exact Lib.hid ⟨word, ⟨#[]⟩, ps, k + 1, [], _, by omega, Nat.zero_le _, HT.out, fun q hq => by simp at hq, HRB4.out, HXB4.out, OwnKs.nil _ _ _ _, HRR4.out, HBU4.out⟩
          · have t0 := beq_l (s := word) (l := [116, 97, 98, 108, 101]) ht
            obtain rfl : tb = true := by rw [← HTB.out, t0]; rfl
            clear t0
            have HT := Lib.hid (HV.out.2 ht)
            have HD2 := Lib.hid (fun W h => HKD.out (k + 1) (by omega) W h)
            clear ht HV
            by_cases e3 : kindAt ws (k + 1) = 1
            · obtain ⟨q, hq, hq2⟩ := HT.out.2 e3
              rw [e3] at HD2
              have HQ := Lib.hid hq
              have HQ2 := Lib.hid hq2
              clear e3 hq hq2 HT
              go_wp2_with fail
              refine (HD2.out _ HRR4.out).mono ?_
              rintro e w5 ⟨rfl, q5⟩
              obtain ⟨cq, hl1, hl2, hcs⟩ := (HRR4.out.kept q5).cells HQ.out
              have HXB5 := Lib.hid ((HXB4.out.kept q5).kept (sb_drew (Below.refl _ _)))
              have HRB5 := Lib.hid ((HRB4.out.kept q5).kept (sb_drew (Below.refl _ _)))
              have HRR5 := Lib.hid ((HRR4.out.kept q5).kept (sb_drew (Below.refl _ _)))
              have HBU5 := Lib.hid ((HBU4.out.trans (But.of q5)).drew)
              obtain ⟨⟨c0, c1, c2⟩, c3, c4⟩ := hcs _ (sb_drew (Below.refl _ _))
              obtain ⟨x0, x1, x2, x3⟩ := Blk4 HXB5.out
              obtain ⟨f0, f1, f2, f3⟩ := Blk4f HXB5.out
              have hxl := HXB5.out.lt
              have hk1 := (List.getElem?_eq_some_iff.1 HQ.out).1
              have hki : ((k + 1 : Nat) : Int) < ws.length := by omega
              generalize hkk : k + 1 = kk at *
              clear hcs q5 hl1 hl2
              generalize bs q.text = nm at *
              go_wp2_with fail
              refine wp_region_last (L := 12) (n := 12) (S := fun w' => (w'.cell? ⟨p, 0, none⟩ = some (.slice (some ⟨g, 0, none⟩) ws.length cq) ∧ w'.cell? ⟨p, 1, none⟩ = some (.int .i64 kk) ∧ w'.cell? ⟨p, 2, none⟩ = some (.int .i64 sz)) ∧ w'.cell? ⟨g, kk * 4 + 1, none⟩ = some (.string nm)) (by kernel_rfl) (by kernel_rfl) rfl (⟨⟨c0, c1, c2⟩, c3⟩) (fun hHeld => ?_)
              try simp only [Act.put, List.setIfInBounds_toArray, List.set_cons_zero, List.set_cons_succ]
              refine wpAnyH_take (i := 0) (oi := { dst := some 55, op := Go.Op.move (Go.Operand.tmp 0), type := 79, pos := "ref.go:107", after := #[], guard := none }) (v := ?v1_0) rfl (by kernel_rfl) (by kernel_rfl) (by kernel_rfl) (fun _ _ _ h => h) (Or.inl ⟨by rfl, ?hy1_0⟩) (by assumption) ?rest1_0
              case hy1_0 => ((intro w hSw; (try dsimp only at hSw); go_simp); (try (with_reducible rfl)))
              try simp only [Act.put, List.setIfInBounds_toArray, List.set_cons_zero, List.set_cons_succ]
              refine wpAnyH_take (i := 1) (oi := { dst := some 56, op := Go.Op.nilCheck (Go.Operand.tmp 55), type := 0, pos := "ref.go:107", after := #[{ on := 0, ground := Go.Ground.data }], guard := none }) (v := ?v1_1) rfl (by kernel_rfl) (by kernel_rfl) (by kernel_rfl) (fun _ _ _ h => h) (Or.inl ⟨by rfl, ?hy1_1⟩) (by assumption) ?rest1_1
              case hy1_1 => ((intro w hSw; (try dsimp only at hSw); go_simp); (try (with_reducible rfl)))
              try simp only [Act.put, List.setIfInBounds_toArray, List.set_cons_zero, List.set_cons_succ]
              refine wpAnyH_take (i := 2) (oi := { dst := some 57, op := Go.Op.fieldAddr 81 (Go.Operand.tmp 56) 0, type := 0, pos := "ref.go:107", after := #[{ on := 1, ground := Go.Ground.data }], guard := none }) (v := ?v1_2) rfl (by kernel_rfl) (by kernel_rfl) (by kernel_rfl) (fun _ _ _ h => h) (Or.inl ⟨by rfl, ?hy1_2⟩) (by assumption) ?rest1_2
              case hy1_2 => ((intro w hSw; (try dsimp only at hSw); go_simp); (try (with_reducible rfl)))
              try simp only [Act.put, List.setIfInBounds_toArray, List.set_cons_zero, List.set_cons_succ]
              refine wpAnyH_take (i := 3) (oi := { dst := some 58, op := Go.Op.load 76 (Go.Operand.tmp 57), type := 76, pos := "ref.go:107", after := #[{ on := 2, ground := Go.Ground.data }], guard := none }) (v := ?v1_3) rfl (by kernel_rfl) (by kernel_rfl) (by kernel_rfl) (fun _ _ _ h => h) (Or.inl ⟨by rfl, ?hy1_3⟩) (by assumption) ?rest1_3
              case hy1_3 => ((intro w hSw; (try dsimp only at hSw); go_simp); (try (with_reducible rfl)))
              try simp only [Act.put, List.setIfInBounds_toArray, List.set_cons_zero, List.set_cons_succ]
              refine wpAnyH_take (i := 4) (oi := { dst := some 59, op := Go.Op.move (Go.Operand.tmp 0), type := 79, pos := "ref.go:107", after := #[], guard := none }) (v := ?v1_4) rfl (by kernel_rfl) (by kernel_rfl) (by kernel_rfl) (fun _ _ _ h => h) (Or.inl ⟨by rfl, ?hy1_4⟩) (by assumption) ?rest1_4
              case hy1_4 => ((intro w hSw; (try dsimp only at hSw); go_simp); (try (with_reducible rfl)))
              try simp only [Act.put, List.setIfInBounds_toArray, List.set_cons_zero, List.set_cons_succ]
              refine wpAnyH_take (i := 5) (oi := { dst := some 60, op := Go.Op.nilCheck (Go.Operand.tmp 59), type := 0, pos := "ref.go:107", after := #[{ on := 4, ground := Go.Ground.data }], guard := none }) (v := ?v1_5) rfl (by kernel_rfl) (by kernel_rfl) (by kernel_rfl) (fun _ _ _ h => h) (Or.inl ⟨by rfl, ?hy1_5⟩) (by assumption) ?rest1_5
              case hy1_5 => ((intro w hSw; (try dsimp only at hSw); go_simp); (try (with_reducible rfl)))
              try simp only [Act.put, List.setIfInBounds_toArray, List.set_cons_zero, List.set_cons_succ]
              refine wpAnyH_take (i := 6) (oi := { dst := some 61, op := Go.Op.fieldAddr 81 (Go.Operand.tmp 60) 1, type := 0, pos := "ref.go:107", after := #[{ on := 5, ground := Go.Ground.data }], guard := none }) (v := ?v1_6) rfl (by kernel_rfl) (by kernel_rfl) (by kernel_rfl) (fun _ _ _ h => h) (Or.inl ⟨by rfl, ?hy1_6⟩) (by assumption) ?rest1_6
              case hy1_6 => ((intro w hSw; (try dsimp only at hSw); go_simp); (try (with_reducible rfl)))
              try simp only [Act.put, List.setIfInBounds_toArray, List.set_cons_zero, List.set_cons_succ]
              refine wpAnyH_take (i := 7) (oi := { dst := some 62, op := Go.Op.load 3 (Go.Operand.tmp 61), type := 3, pos := "ref.go:107", after := #[{ on := 6, ground := Go.Ground.data }], guard := none }) (v := ?v1_7) rfl (by kernel_rfl) (by kernel_rfl) (by kernel_rfl) (fun _ _ _ h => h) (Or.inl ⟨by rfl, ?hy1_7⟩) (by assumption) ?rest1_7
              case hy1_7 => ((intro w hSw; (try dsimp only at hSw); go_simp); (try (with_reducible rfl)))
              try simp only [Act.put, List.setIfInBounds_toArray, List.set_cons_zero, List.set_cons_succ]
              refine wpAnyH_take (i := 8) (oi := { dst := some 63, op := Go.Op.indexAddr 76 (Go.Operand.tmp 58) (Go.Operand.tmp 62), type := 0, pos := "ref.go:107", after := #[{ on := 3, ground := Go.Ground.data }, { on := 7, ground := Go.Ground.data }], guard := none }) (v := ?v1_8) rfl (by kernel_rfl) (by kernel_rfl) (by kernel_rfl) (fun _ _ _ h => h) (Or.inl ⟨by rfl, ?hy1_8⟩) (by assumption) ?rest1_8
              case hy1_8 => ((intro w hSw; (try dsimp only at hSw); go_simp); (try (with_reducible rfl)))
              try simp only [Act.put, List.setIfInBounds_toArray, List.set_cons_zero, List.set_cons_succ]
              refine wpAnyH_take (i := 9) (oi := { dst := some 64, op := Go.Op.fieldAddr 103 (Go.Operand.tmp 63) 1, type := 0, pos := "ref.go:107", after := #[{ on := 8, ground := Go.Ground.data }], guard := none }) (v := ?v1_9) rfl (by kernel_rfl) (by kernel_rfl) (by kernel_rfl) (fun _ _ _ h => h) (Or.inl ⟨by rfl, ?hy1_9⟩) (by assumption) ?rest1_9
              case hy1_9 => ((intro w hSw; (try dsimp only at hSw); go_simp); (try (with_reducible rfl)))
              try simp only [Act.put, List.setIfInBounds_toArray, List.set_cons_zero, List.set_cons_succ]
              refine wpAnyH_take (i := 10) (oi := { dst := some 65, op := Go.Op.load 9 (Go.Operand.tmp 64), type := 9, pos := "ref.go:107", after := #[{ on := 9, ground := Go.Ground.data }], guard := none }) (v := ?v1_10) rfl (by kernel_rfl) (by kernel_rfl) (by kernel_rfl) (fun _ _ _ h => h) (Or.inl ⟨by rfl, ?hy1_10⟩) (by assumption) ?rest1_10
              case hy1_10 => ((intro w hSw; (try dsimp only at hSw); go_simp); (try (with_reducible rfl)))
              try simp only [Act.put, List.setIfInBounds_toArray, List.set_cons_zero, List.set_cons_succ]
              refine wpAnyH_take (i := 11) (oi := { dst := some 66, op := Go.Op.fieldAddr 52 (Go.Operand.tmp 4) 1, type := 0, pos := "ref.go:107", after := #[{ on := 0, ground := Go.Ground.phase }, { on := 1, ground := Go.Ground.phase }, { on := 2, ground := Go.Ground.phase }, { on := 3, ground := Go.Ground.phase }, { on := 4, ground := Go.Ground.phase }, { on := 5, ground := Go.Ground.phase }, { on := 6, ground := Go.Ground.phase }, { on := 7, ground := Go.Ground.phase }, { on := 8, ground := Go.Ground.phase }, { on := 9, ground := Go.Ground.phase }, { on := 10, ground := Go.Ground.phase }], guard := none }) (v := ?v1_11) rfl (by kernel_rfl) (by kernel_rfl) (by kernel_rfl) (fun _ _ _ h => h) (Or.inl ⟨by rfl, ?hy1_11⟩) (by assumption) ?rest1_11
              case hy1_11 => ((intro w hSw; (try dsimp only at hSw); go_simp); (try (with_reducible rfl)))
              try simp only [Act.put, List.setIfInBounds_toArray, List.set_cons_zero, List.set_cons_succ]
              refine wpAnyH_done (by kernel_rfl) ?_ _
              refine QLast.normal ?_
              refine wpOp_step (o := { dst := none, op := Go.Op.store 9 (Go.Operand.tmp 66) (Go.Operand.tmp 65), type := 0, pos := "ref.go:107", after := #[{ on := 11, ground := Go.Ground.data }, { on := 10, ground := Go.Ground.data }, { on := 0, ground := Go.Ground.phase }, { on := 1, ground := Go.Ground.phase }, { on := 2, ground := Go.Ground.phase }, { on := 3, ground := Go.Ground.phase }, { on := 4, ground := Go.Ground.phase }, { on := 5, ground := Go.Ground.phase }, { on := 6, ground := Go.Ground.phase }, { on := 7, ground := Go.Ground.phase }, { on := 8, ground := Go.Ground.phase }, { on := 9, ground := Go.Ground.phase }, { on := 10, ground := Go.Ground.phase }], guard := none }) rfl (fun K hK => ?_)
              go_simp
              refine hK _ _ ?_
              clear hK K
              have HXB6 : Hid (Blk (w5.setCell ⟨X, 1, none⟩ (.string nm)).drew X #[.string word, .string nm, .slice none 0 0, .int .i64 ps]) := Lib.hid ((HXB5.out.set 1 (.string nm)))
              have HRB6 := Lib.hid (show Blk (w5.setCell ⟨X, 1, none⟩ (.string nm)).drew w.heap.size zItem from HRB5.out.other (a := ⟨X, 1, none⟩) (.string nm) (by dsimp only; omega))
              have HRR6 := Lib.hid (show RR 81 (w5.setCell ⟨X, 1, none⟩ (.string nm)).drew p g sz ws kk from HRR5.out.setn (q := X) (o := 1) (by omega) HGP.out (.string nm))
              have HBU6 := Lib.hid (show But p w (w5.setCell ⟨X, 1, none⟩ (.string nm)).drew from HBU5.out.setn (q := ⟨X, 1, none⟩) (by dsimp only; omega) (.string nm))
              clear x0 x1 x2 x3 f0 f1 f2 f3 c0 c1 c2 c3 c4 hxl HXB5 HRB5 HRR5 HBU5 hHeld hki
              generalize (w5.setCell ⟨X, 1, none⟩ (.string nm)).drew = w6 at *
              obtain ⟨c1, cf1, cl1⟩ := HRR6.out.free _ (Below.refl _ _)
              go_wp2_with fail
              go_meet
              exact Lib.hid ⟨word, nm, ps, kk + 1, [], _, by omega, Nat.zero_le _, by rw [← hkk]; exact HQ2.out, fun q hq => by simp at hq, HRB6.out.other (a := ⟨p, 1, none⟩) _ (by dsimp only; omega), HXB6.out.other (a := ⟨p, 1, none⟩) _ (by dsimp only; omega), OwnKs.nil _ _ _ _, HRR6.out.succ HGP.out, HBU6.out.setp 1 _⟩
            · have hV := HT.out.1 e3
              subst hV
              have hne : (kindAt ws (k + 1) != 1) = true := by simp [bne, e3]
              generalize kindAt ws (k + 1) = kd at *
              clear e3 HT
              go_wp2_with fail
              refine (HD2.out _ HRR4.out).mono ?_
              rintro e w5 ⟨rfl, q5⟩
              have HXB5 := Lib.hid (HXB4.out.kept q5)
              have HRB5 := Lib.hid (HRB4.out.kept q5)
              have HRR5 := Lib.hid (HRR4.out.kept q5)
              have HBU5 := Lib.hid (HBU4.out.trans (But.of q5))
              clear q5 x0 x1 x2 x3 f0 f1 f2 f3
              obtain ⟨x0, x1, x2, x3⟩ := Blk4 HXB5.out
              obtain ⟨r0, r1, r2, r3⟩ := Blk4 HRB5.out
              obtain ⟨f0, f1, f2, f3⟩ := Blk4f HRB5.out
              go_wp2_with fail
              refine bodyPost_ret (blk_res_tmp (g := w.heap.size) rfl _ rfl (blk_set4 HRB5.out) Tryz.underlying52 rfl (by rfl)) rfl ?_
              exact ⟨_, _, _, _, _, _, (k + 1), rfl, (by omega), rfl, (((HRR5.out.setn hp0 HGP.out _).setn hp0 HGP.out _).setn hp0 HGP.out _).setn hp0 HGP.out _, (((HBU5.out.setn (Nat.le_refl _) _).setn (Nat.le_refl _) _).setn (Nat.le_refl _) _).setn (Nat.le_refl _) _⟩
        case rest =>
          have HS := hcut
          clear hcut HXB4 HRB4 HRR4 HBU4 x0 x1 x2 x3 f0 f1 f2 f3 HV HY0 HWD
          go_wp2_with fail
          go_loopw [] (fun wr => Hid (SInv 3 53 81 w p g sz ws X R wr)) (fun wr => ws.length + 1 - rpos wr p)
          case atStart => exact HS
          case round =>
            clear HS
            obtain ⟨wd, nm, pi, i, ks, v, hil, hks, hR2, hv2, hRB, hXB, hown, hrr, hbu⟩ := hrel.out
            obtain ⟨vb, vc, rfl⟩ := hown.form
            have HKR := Lib.hid (keys_round HF.out hR2)
            have HPOS := Lib.hid hrr.pos
            have HRB := Lib.hid hRB
            have HXB := Lib.hid hXB
            have HOW := Lib.hid hown
            have HV2 := Lib.hid hv2
            have HRR := Lib.hid hrr
            have HBU := Lib.hid hbu
            have HD1 := Lib.hid (fun W h => HKD.out i hil W h)
            have HDQ := Lib.hid (fun W (h : RR 81 W p g sz ws i) => rkind_q 81 p g sz ws i W h HN.out hil)
            clear hrel hR2 hv2 hRB hXB hown hrr hbu
            have hi6 : i ≤ 1000000 := by have := HN.out; omega
            by_cases h3 : kindAt ws i = 3
            · rw [h3] at HD1
              obtain ⟨y, hy, hV⟩ := HKR.out.1 h3
              have hi1 := (List.getElem?_eq_some_iff.1 hy).1
              subst hV
              clear h3 HKR hy
              go_wp2_with fail
              refine (HD1.out _ HRR.out).mono ?_
              rintro e w2 ⟨rfl, q2⟩
              have HXB2 := Lib.hid (HXB.out.kept q2)
              have HRB2 := Lib.hid (HRB.out.kept q2)
              have HRR2 := Lib.hid (HRR.out.kept q2)
              have HBU2 := Lib.hid (HBU.out.trans (But.of q2))
              have HOW2 := Lib.hid (HOW.out.kept q2)
              clear q2 HXB HRB HRR HBU HOW
              obtain ⟨c1, cf1, cl1⟩ := HRR2.out.free _ (Below.refl _ _)
              go_upto_region 28 with fail
              have HXB3 := Lib.hid (HXB2.out.other (a := ⟨p, 1, none⟩) (.int .i64 ((i : Int) + 1)) (by dsimp only; omega))
              have HRB3 := Lib.hid (HRB2.out.other (a := ⟨p, 1, none⟩) (.int .i64 ((i : Int) + 1)) (by dsimp only; omega))
              have HRR3 := Lib.hid (HRR2.out.succ HGP.out)
              have HBU3 := Lib.hid (HBU2.out.setp 1 (.int .i64 ((i : Int) + 1)))
              have HOW3 := Lib.hid (HOW2.out.but (p := p) (by omega) (But.set p w2 1 (.int .i64 ((i : Int) + 1))))
              clear c1 cf1 cl1 HXB2 HRB2 HRR2 HBU2 HOW2
              generalize w2.setCell ⟨p, 1, none⟩ (.int .i64 ((i : Int) + 1)) = w3 at *
              obtain ⟨x0, x1, x2, x3⟩ := Blk4 HXB3.out
              obtain ⟨r0, r1, r2, r3⟩ := Blk4 HRB3.out
              obtain ⟨f0, f1, f2, f3⟩ := Blk4f HRB3.out
              go_wp2_with fail
              refine bodyPost_ret (blk_res_tmp (g := w.heap.size) rfl _ rfl (blk_set4 HRB3.out) Tryz.underlying52 rfl (by rfl)) rfl ?_
              exact ⟨_, i + 1, rfl, rfl, hi1, ((((HOW3.out.setb (by omega) _ _).setb (by omega) _ _).setb (by omega) _ _).setb (by omega) _ _).mono (by omega), (((HRR3.out.setn hp0 HGP.out _).setn hp0 HGP.out _).setn hp0 HGP.out _).setn hp0 HGP.out _, (((HBU3.out.setn (Nat.le_refl _) _).setn (Nat.le_refl _) _).setn (Nat.le_refl _) _).setn (Nat.le_refl _) _⟩
            · have hne3 : (kindAt ws i != 3) = true := by simp [bne, h3]
              by_cases h1 : kindAt ws i = 1
              · rw [h1] at HD1
                obtain ⟨y, hy, hnone, hsome⟩ := HKR.out.2.2 h1
                obtain ⟨key, hkey⟩ : ∃ key, bs y.text = key := ⟨_, rfl⟩
                have hi1 := (List.getElem?_eq_some_iff.1 hy).1
                have hii : (i : Int) < ws.length := by omega
                have HY := Lib.hid hy
                have HKEY := Lib.hid hkey
                rw [hkey] at hnone hsome
                clear h3 h1 HKR hy hkey HDQ
                go_wp2_with fail
                refine (HD1.out _ HRR.out).mono ?_
                rintro e w2 ⟨rfl, q2⟩
                obtain ⟨ci, hl1, hl2, hcs⟩ := (HRR.out.kept q2).cells HY.out
                rw [HKEY.out] at hcs
                have HXC := Lib.hid (fun W (h : Below w2.heap.size w2 W) => (⟨(Blk4 ((HXB.out.kept q2).kept h)).1, hcs _ h⟩ : _ ∧ _))
                have HRC := Lib.hid (fun W (h : Below w2.heap.size w2 W) => (HRR.out.kept q2).kept h)
                have HAW := Lib.hid (fun W => HAR.out wd key W)
                have hb2 := sb_drew (Below.refl w2.heap.size w2)
                obtain ⟨x0, ⟨c0, c1, c2⟩, c3, c4⟩ := HXC.out _ (Below.refl _ _)
                have hbw := q2.size
                have hpl : p < wr.heap.size := by obtain ⟨⟨_, _, hb, _⟩, _⟩ := HRR.out; exact hb.blk.lt
                have hxl : X < wr.heap.size := HXB.out.lt
                clear hcs
                cases ha : arityN wd key with
                | none =>
                  have hV := hnone ha
                  subst hV
                  rw [arity_none ha] at HAW
                  clear ha hnone hsome
                  go_wp2_with fail
                  go_region_held3 (fun w' => w'.cell? ⟨X, 0, none⟩ = some (.string wd) ∧ (w'.cell? ⟨p, 0, none⟩ = some (.slice (some ⟨g, 0, none⟩) ws.length ci) ∧ w'.cell? ⟨p, 1, none⟩ = some (.int .i64 i) ∧ w'.cell? ⟨p, 2, none⟩ = some (.int .i64 sz)) ∧ w'.cell? ⟨g, i * 4 + 1, none⟩ = some (.string key) ∧ w'.cell? ⟨g, i * 4 + 2, none⟩ = some (.int .i64 y.num))
                    (first | exact ⟨x0, ⟨c0, c1, c2⟩, c3, c4⟩ | exact HXC.out _ hq4 | exact HXC.out _ hq3)
                    (first
                      | (go_at_call 51; (with_reducible refine (HAW.out _).mono ?_); rintro e w4 ⟨rfl, q4⟩; have hq4 : Below w2.heap.size w2 w4 := next hq3 q4)
                      | (go_at_call 50; (with_reducible refine (HD1.out _ (HRC.out _ hb2)).mono ?_); rintro e w3 ⟨rfl, q3⟩; have hq3 : Below w2.heap.size w2 w3 := next hb2 q3)
                      | fail "no arm")
                  have HXB3 := Lib.hid ((HXB.out.kept q2).kept hq4)
                  have HRB3 := Lib.hid ((HRB.out.kept q2).kept hq4)
                  have HRR3 := Lib.hid ((HRR.out.kept q2).kept hq4)
                  have HBU3 := Lib.hid ((HBU.out.trans (But.of q2)).trans (But.of hq4))
                  clear x0 c0 c1 c2 c3 c4 q2 q3 q4 hq3 hq4 hb2 HXC HRC HXB HRB HRR HBU HOW
                  obtain ⟨x0, x1, x2, x3⟩ := Blk4 HXB3.out
                  obtain ⟨r0, r1, r2, r3⟩ := Blk4 HRB3.out
                  obtain ⟨f0, f1, f2, f3⟩ := Blk4f HRB3.out
                  go_wp2_with fail
                  refine bodyPost_ret (blk_res_tmp (g := w.heap.size) rfl _ rfl (blk_set4 HRB3.out) Tryz.underlying52 rfl (by rfl)) rfl ?_
                  exact ⟨_, _, _, _, _, _, i, rfl, hil, rfl, (((HRR3.out.setn hp0 HGP.out _).setn hp0 HGP.out _).setn hp0 HGP.out _).setn hp0 HGP.out _, (((HBU3.out.setn (Nat.le_refl _) _).setn (Nat.le_refl _) _).setn (Nat.le_refl _) _).setn (Nat.le_refl _) _⟩
                | some n =>
                  have hn2 : n ≤ 2 := arityN_le ha
                  obtain ⟨hdup, hgo⟩ := hsome n ha
                  rw [arity_some ha] at HAW
                  clear ha hnone hsome
                  go_wp2_with fail
                  go_region_held3 (fun w' => w'.cell? ⟨X, 0, none⟩ = some (.string wd) ∧ (w'.cell? ⟨p, 0, none⟩ = some (.slice (some ⟨g, 0, none⟩) ws.length ci) ∧ w'.cell? ⟨p, 1, none⟩ = some (.int .i64 i) ∧ w'.cell? ⟨p, 2, none⟩ = some (.int .i64 sz)) ∧ w'.cell? ⟨g, i * 4 + 1, none⟩ = some (.string key) ∧ w'.cell? ⟨g, i * 4 + 2, none⟩ = some (.int .i64 y.num))
                    (first | exact ⟨x0, ⟨c0, c1, c2⟩, c3, c4⟩ | exact HXC.out _ hq4 | exact HXC.out _ hq3)
                    (first
                      | (go_at_call 51; (with_reducible refine (HAW.out _).mono ?_); rintro e w4 ⟨rfl, q4⟩; have hq4 : Below w2.heap.size w2 w4 := next hq3 q4)
                      | (go_at_call 50; (with_reducible refine (HD1.out _ (HRC.out _ hb2)).mono ?_); rintro e w3 ⟨rfl, q3⟩; have hq3 : Below w2.heap.size w2 w3 := next hb2 q3)
                      | fail "no arm")
                  have HXB3 := Lib.hid ((HXB.out.kept q2).kept hq4)
                  have HRB3 := Lib.hid ((HRB.out.kept q2).kept hq4)
                  have HRR3 := Lib.hid ((HRR.out.kept q2).kept hq4)
                  have HBU3 := Lib.hid ((HBU.out.trans (But.of q2)).trans (But.of hq4))
                  have HOW3 := Lib.hid ((HOW.out.kept q2).kept hq4)
                  have HCS4 := Lib.hid (fun W (h : Below w4.heap.size w4 W) => (HXC.out W (next hq4 h)).2)
                  obtain ⟨⟨c0, c1, c2⟩, c3, c4⟩ := HCS4.out _ (Below.refl _ _)
                  have HA4 := Lib.hid (fun W (h : Below w4.heap.size w4 W) => HAT.out i hil W (HRR3.out.kept h))
                  rw [posAt_some HY.out] at HA4
                  have hls4 := hq4.size
                  clear x0 q2 q3 q4 hq3 hq4 hb2 HXC HRC HXB HRB HRR HBU HOW
                  go_upto_region 14 with fail
                  go_cut [8] (fun s8 wx => ∃ B : Nat, s8 = .pointer (some ⟨B, 0, none⟩) ∧ Hid (w4.heap.size ≤ B ∧ Blk wx B #[.string key, .slice none 0 0, .int .i64 y.pos]) ∧ Hid (Below w4.heap.size w4 wx))
                  case first =>
                    go_region_held3 (fun w' => (w'.cell? ⟨p, 0, none⟩ = some (.slice (some ⟨g, 0, none⟩) ws.length ci) ∧ w'.cell? ⟨p, 1, none⟩ = some (.int .i64 i) ∧ w'.cell? ⟨p, 2, none⟩ = some (.int .i64 sz)) ∧ w'.cell? ⟨g, i * 4 + 1, none⟩ = some (.string key) ∧ w'.cell? ⟨g, i * 4 + 2, none⟩ = some (.int .i64 y.num))
                      (first | exact ⟨⟨c0, c1, c2⟩, c3, c4⟩ | exact HCS4.out _ hq5 | exact HCS4.out _ (sb_alloc hq5 _) | exact HCS4.out _ (sb_alloc (sb_drew (Below.refl _ _)) _) | exact HCS4.out _ (sb_alloc (Below.refl _ _) _) | exact HCS4.out _ (sb_drew (Below.refl _ _)) | exact HCS4.out _ (sb_set (sb_set (sb_set hq5 (Nat.le_refl _) _) (Nat.le_refl _) _) (Nat.le_refl _) _) | go_keep)
                      (first
                        | (go_at_call 32; (with_reducible refine (HA4.out _ (by first | exact sb_drew (Below.refl _ _) | exact sb_drew (sb_alloc (sb_drew (Below.refl _ _)) _) | exact sb_alloc (sb_drew (Below.refl _ _)) _ | exact sb_drew (sb_alloc (Below.refl _ _) _))).mono ?_); rintro e w5 ⟨rfl, q5⟩; have hq5 : Below w4.heap.size w4 w5 := next (by first | exact sb_drew (Below.refl _ _) | exact sb_drew (sb_alloc (sb_drew (Below.refl _ _)) _) | exact sb_alloc (sb_drew (Below.refl _ _)) _ | exact sb_drew (sb_alloc (Below.refl _ _) _)) q5; try (have hX3 := Blk.kept (g := w4.heap.size) (cs := #[.string ⟨#[]⟩, .slice none 0 0, .int .i64 0]) (by first | exact blk_new rfl | exact Blk.drew (blk_new rfl)) q5; obtain ⟨x0, x1, x2⟩ := Blk3 hX3; obtain ⟨f0, f1, f2⟩ := Blk3f hX3))
                        | fail "no arm")
                    · go_wp2_with fail
                      go_meet
                      have hsz3 := hq5.size
                      exact ⟨_, rfl, Lib.hid ⟨by omega, blk_new rfl⟩, Lib.hid (sb_alloc hq5 _)⟩
                    · go_wp2_with fail
                      go_meet
                      exact ⟨_, rfl, Lib.hid ⟨by omega, blk_set3 hX3⟩, Lib.hid (sb_set (sb_set (sb_set hq5 (Nat.le_refl _) _) (Nat.le_refl _) _) (Nat.le_refl _) _)⟩
                  case rest =>
                    have hs := hcut
                    clear hcut c0 c1 c2 c3 c4
                    obtain ⟨B, rfl, HB0, HW⟩ := hs
                    have hB4 := HB0.out.1
                    have HKB := Lib.hid HB0.out.2
                    have HXB5 := Lib.hid (HXB3.out.kept HW.out)
                    have HRB5 := Lib.hid (HRB3.out.kept HW.out)
                    have HRR5 := Lib.hid (HRR3.out.kept HW.out)
                    have HBU5 := Lib.hid (HBU3.out.trans (But.of HW.out))
                    have HOW5 := Lib.hid (HOW3.out.kept HW.out)
                    have HW5 := Lib.hid HW.out
                    have hok6 : ks.length ≤ 1000000 := by omega
                    have HGET := Lib.hid (fun W (h : RdK W (.slice vb ks.length vc) ks) => rget_any ⟨wd, nm, ks, pi⟩ (.slice vb ks.length vc) key W h hok6 (fun q hq => Nat.le_trans (HV2.out q hq) (by decide)))
                    clear HB0 HW HRR3 HCS4 HA4
                    obtain ⟨x0, x1, x2, x3⟩ := Blk4 HXB5.out
                    obtain ⟨b0, b1, b2⟩ := Blk3 HKB.out
                    rw [getV_has] at HGET
                    cases hd : hasKey ks key with
                    | true =>
                      have hV := hdup hd
                      subst hV
                      rw [hd] at HGET
                      clear hdup hgo hd
                      unfold iagg at HGET
                      clear HXB3 HRB3 HBU3 HOW3
                      go_wp2_with fail
                      refine (HGET.out _ HOW5.out.rd).mono ?_
                      rintro e w6 ⟨v6, rfl, r6, q6⟩
                      obtain ⟨b6, g6, o6, c6, rfl, -, -, -⟩ := r6.form
                      have HXB3 := Lib.hid (HXB5.out.kept q6)
                      have HRB3 := Lib.hid (HRB5.out.kept q6)
                      have HRR3 := Lib.hid (HRR5.out.kept q6)
                      have HBU3 := Lib.hid (HBU5.out.trans (But.of q6))
                      clear x0 x1 x2 x3 b0 b1 b2 r6 q6
                      obtain ⟨x0, x1, x2, x3⟩ := Blk4 HXB3.out
                      obtain ⟨r0, r1, r2, r3⟩ := Blk4 HRB3.out
                      obtain ⟨f0, f1, f2, f3⟩ := Blk4f HRB3.out
                      go_wp2_with fail
                      refine bodyPost_ret (blk_res_tmp (g := w.heap.size) rfl _ rfl (blk_set4 HRB3.out) Tryz.underlying52 rfl (by rfl)) rfl ?_
                      exact ⟨_, _, _, _, _, _, i, rfl, hil, rfl, (((HRR3.out.setn hp0 HGP.out _).setn hp0 HGP.out _).setn hp0 HGP.out _).setn hp0 HGP.out _, (((HBU3.out.setn (Nat.le_refl _) _).setn (Nat.le_refl _) _).setn (Nat.le_refl _) _).setn (Nat.le_refl _) _⟩
                    | false =>
                      obtain ⟨nr, hnr, hbad, hok⟩ := hgo hd
                      rw [hd] at HGET
                      have HNR := Lib.hid hnr
                      have HBAD := Lib.hid hbad
                      have HOK := Lib.hid hok
                      clear hdup hgo hd hnr hbad hok
                      unfold iagg at HGET
                      go_wp2_with fail
                      refine (HGET.out _ HOW5.out.rd).mono ?_
                      rintro e w6 ⟨v6, rfl, r6, q6⟩
                      obtain ⟨b6, g6, o6, c6, rfl, -, -, -⟩ := r6.form
                      have HXB6 := Lib.hid (HXB5.out.kept q6)
                      have HKB6 := Lib.hid (HKB.out.kept q6)
                      have HRR6 := Lib.hid (HRR5.out.kept q6)
                      have HBP6 := Lib.hid ((But.of (p := p) HW5.out).trans (But.of q6))
                      have hbl := HKB.out.lt
                      clear x0 x1 x2 x3 b0 b1 b2 r6 q6 HXB5 HRB5 HRR5 HBU5 HOW5 HW5 HKB HGET
                      obtain ⟨c1, cf1, cl1⟩ := HRR6.out.free _ (Below.refl _ _)
                      go_upto_region 19 with fail
                      have HXB7 := Lib.hid (HXB6.out.other (a := ⟨p, 1, none⟩) (.int .i64 ((i : Int) + 1)) (by dsimp only; omega))
                      have HKB7 := Lib.hid (HKB6.out.other (a := ⟨p, 1, none⟩) (.int .i64 ((i : Int) + 1)) (by dsimp only; omega))
                      have HRR7 := Lib.hid (HRR6.out.succ HGP.out)
                      have HBP7 := Lib.hid (HBP6.out.setp 1 (.int .i64 ((i : Int) + 1)))
                      clear c1 cf1 cl1 HXB6 HKB6 HRR6 HBP6
                      generalize w6.setCell ⟨p, 1, none⟩ (.int .i64 ((i : Int) + 1)) = w7 at *
                      obtain ⟨x0, x1, x2, x3⟩ := Blk4 HXB7.out
                      obtain ⟨b0, b1, b2⟩ := Blk3 HKB7.out
                      go_wp2_with fail
                      refine (HAW.out _).mono ?_
                      rintro e w8 ⟨rfl, q8⟩
                      have HKB8 := Lib.hid (HKB7.out.kept q8)
                      have HRR8 := Lib.hid (HRR7.out.kept q8)
                      have HBP8 := Lib.hid (HBP7.out.trans (But.of q8))
                      clear x0 x1 x2 x3 b0 b1 b2 q8 HXB7 HKB7 HRR7 HBP7 hbl
                      go_wp2_with fail
                      obtain ⟨wo, hwo⟩ : ∃ wo, wo = wr := ⟨_, rfl⟩
                      subst hwo
                      generalize hkp : (y.pos : Int) = kp at *
                      clear hkp
                      go_loopw [11] (fun nv wq => ∃ (m j : Nat) (acc : List Int) (u : Value), m ≤ n ∧ nv = .int .i64 m ∧ Hid (numsP sz m acc (ws.drop j) = nr ∧ j ≤ ws.length ∧ i + 1 ≤ j ∧ acc.length + m = n) ∧ Hid (Blk wq B #[.string key, u, .int .i64 kp]) ∧ Hid (OwnVs 3 (B + 1) wq u acc) ∧ Hid (RR 81 wq p g sz ws j) ∧ Hid (But p w4 wq)) (fun nv _ => (intOf nv).toNat)
                      case atStart => exact ⟨n, i + 1, [], _, Nat.le_refl _, rfl, Lib.hid ⟨HNR.out, hi1, Nat.le_refl _, by simp⟩, HKB8, Lib.hid (OwnVs.nil _ _ _), HRR8, HBP8⟩
                      case round =>
                        clear HNR HKB8 HRR8 HBP8
                        obtain ⟨m, j, acc, u, hm, rfl, hJ, hB, hov, hrj, hbj⟩ := hrel
                        obtain ⟨-, hj2, hj3, hj4⟩ := hJ.out
                        obtain ⟨ub, uc, rfl⟩ := row_form hov.out
                        have hbs := hbj.out.size
                        have hBl := hB.out.lt
                        have HXBw := Lib.hid (hbj.out.blk HXB3.out (by omega))
                        have HRBw := Lib.hid (hbj.out.blk HRB3.out (by omega))
                        have HBUw := Lib.hid (HBU3.out.trans hbj.out)
                        have HOWw := Lib.hid (HOW3.out.but (p := p) (by omega) hbj.out)
                        have hj6 : j ≤ 1000000 := by have := HN.out; omega
                        by_cases hm0 : m = 0
                        · have hmi : ¬ (0 : Int) < m := by omega
                          have hnr := hJ.out.1
                          rw [hm0] at hnr
                          have HR3 := Lib.hid (HOK.out acc (ws.drop j) hnr.symm)
                          clear hnr HBAD HOK
                          obtain ⟨x0, x1, x2, x3⟩ := Blk4 HXBw.out
                          obtain ⟨b0, b1, b2⟩ := Blk3 hB.out
                          obtain ⟨zs, hzl, hzr, hzz⟩ := HOWw.out
                          have HZR := Lib.hid hzr
                          have HZZ := Lib.hid hzz
                          have HZL := Lib.hid hzl
                          have hxw := HXBw.out.lt
                          clear hzl hzr hzz
                          go_wp2_with (at_builtin; refine wpList_append_own_at _ rfl _ _ 50 rfl (X + 1) 53 j0 (.agg #[.string ⟨#[]⟩, .slice none 0 0, .int .i64 0]) 3 48 Tryz.underlying50 hj ky0 ky1 ky2 rfl (by decide) _ ks.length (kcs ks zs) rfl (World.ownsRow.alloc HZR.out _) ⟨wr.heap.size, 0, none⟩ 1 1 [.string key, .slice ub acc.length uc, .int .i64 kp] rfl rfl (cells_news _ _ _) (fun u hu => by simp at hu; rcases hu with rfl | rfl | rfl <;> rfl) (by unfold maxLen; omega) (by omega) (by simp; omega) ?_)
                          intro v9 w9 hown9 hg9 _ _
                          obtain ⟨vb9, vc9, rfl⟩ := row_form hown9
                          have hb9 : Below (X + 1) wr w9 := ((Below.refl (X + 1) wr).alloc (by omega) _).trans ((Below.refl (X + 1) _).grown hg9 (by simp; omega) (fun q hq => (World.ownsRow.lt HZR.out q hq).1))
                          have hX9 := HXBw.out.below hb9 (Nat.lt_succ_self _)
                          obtain ⟨x0, x1, x2, x3⟩ := Blk4 hX9
                          obtain ⟨f0, f1, f2, f3⟩ := Blk4f hX9
                          have HO9 := Lib.hid (show OwnKs 3 53 (X + 1) w9 (.slice vb9 (ks.length + 1) vc9) (ks ++ [(⟨key, acc, kp⟩ : SS.K)]) from OwnKs.snoc HZL.out (World.ownsRow.alloc HZR.out _) (fun i k z a b => (HZZ.out i k z a b).kept (sb_alloc (Below.refl _ _) _)) ((hov.out.mono (by omega)).kept (sb_alloc (Below.refl _ _) _)) (by decide) (by exact hg9) hown9)
                          have HX9 := Lib.hid hX9
                          have HBB := Lib.hid hb9
                          clear hown9 hg9 hX9 hb9
                          go_wp2_with fail
                          have HREL : Hid (SInv 3 53 81 w p g sz ws X R (w9.setCell ⟨X, 2, none⟩ (.slice vb9 (ks.length + 1) vc9))) := Lib.hid ⟨wd, nm, pi, j, ks ++ [(⟨key, acc, kp⟩ : SS.K)], _, hj2, by simp; omega, HR3.out, fun q hq => by
                            rcases List.mem_append.1 hq with h | h
                            · exact HV2.out q h
                            · simp at h; subst h; dsimp only; omega, (HRBw.out.below HBB.out (by omega)).other (a := ⟨X, 2, none⟩) _ (by dsimp only; omega), HX9.out.set 2 _, HO9.out.setb (q := X) (by omega) _ _, (hrj.out.below (by omega) HGP.out HBB.out).setn (by omega) HGP.out _, (HBUw.out.thenB HBB.out (by omega)).setn (q := ⟨X, 2, none⟩) (by dsimp only; omega) _⟩
                          have hme : ws.length + 1 - rpos (w9.setCell ⟨X, 2, none⟩ (.slice vb9 (ks.length + 1) vc9)) p < ws.length + 1 - rpos wo p := by
                            rw [((hrj.out.below (N := X + 1) (by omega) HGP.out HBB.out).setn (q := X) (o := 2) (by omega) HGP.out _).pos, HPOS.out]
                            omega
                          go_roundw
                          case rel => exact HREL
                          case measure => exact hme
                        · obtain ⟨m, rfl⟩ : ∃ m', m = m' + 1 := ⟨m - 1, by omega⟩
                          have hmi : (0 : Int) < (m + 1 : Nat) := by omega
                          have HNM := Lib.hid (nums_round hJ.out.1)
                          have HDj := Lib.hid (fun W h => HKD.out j hj2 W h)
                          by_cases h2 : kindAt ws j = 2
                          · rw [h2] at HDj
                            obtain ⟨y1, hy1, hn1⟩ := HNM.out.1 h2
                            have hj1 := (List.getElem?_eq_some_iff.1 hy1).1
                            have HY1 := Lib.hid hy1
                            have HN1 := Lib.hid hn1
                            clear h2 hy1 hn1 HNM hm0
                            go_wp2_with fail
                            refine (HDj.out _ hrj.out).mono ?_
                            rintro e w5 ⟨rfl, q5⟩
                            have hB5 := hB.out.kept q5
                            have hov5 := hov.out.kept q5
                            have hrj5 := hrj.out.kept q5
                            have hbl5 : B < w5.heap.size := hB5.lt
                            obtain ⟨cj, hcs⟩ := hrj5.cellsN (N := B + 1) HY1.out (by omega) HGP.out
                            have HS := Lib.hid (fun W (h : Below (B + 1) w5 W) => (⟨(Blk3 (hB5.below h (Nat.lt_succ_self _))).2.1, hcs W h⟩ : _ ∧ _))
                            obtain ⟨b1, ⟨c0, c1, c2⟩, c3, c4⟩ := HS.out _ (Below.refl _ _)
                            have HB5 := Lib.hid hB5
                            have HOV5 := Lib.hid hov5
                            have HRJ5 := Lib.hid hrj5
                            have HBP5 := Lib.hid (hbj.out.trans (But.of q5))
                            have hji : (j : Int) < ws.length := by omega
                            have hbd5 : Below (B + 1) w5 w5.drew := (sb_drew (Below.refl w5.heap.size w5)).mono (by omega)
                            clear hB5 hov5 hrj5 hcs q5 hbj hrj hov hB HXBw HRBw HBUw HOWw
                            go_wp2_with fail
                            refine wp_region_last (L := 16) (n := 16) (S := fun w' => w'.cell? ⟨B, 1, none⟩ = some (.slice ub acc.length uc) ∧ (w'.cell? ⟨p, 0, none⟩ = some (.slice (some ⟨g, 0, none⟩) ws.length cj) ∧ w'.cell? ⟨p, 1, none⟩ = some (.int .i64 j) ∧ w'.cell? ⟨p, 2, none⟩ = some (.int .i64 sz)) ∧ w'.cell? ⟨g, j * 4 + 1, none⟩ = some (.string (bs y1.text)) ∧ w'.cell? ⟨g, j * 4 + 2, none⟩ = some (.int .i64 y1.num)) (by kernel_rfl) (by kernel_rfl) rfl (HS.out _ hbd5) (fun hHeld => ?_)
                            try simp only [Act.put, List.setIfInBounds_toArray, List.set_cons_zero, List.set_cons_succ]
                            refine wpAnyH_take (i := 0) (oi := { dst := some 141, op := Go.Op.fieldAddr 53 (Go.Operand.tmp 8) 1, type := 0, pos := "ref.go:123", after := #[], guard := none }) (v := ?v2_0) rfl (by kernel_rfl) (by kernel_rfl) (by kernel_rfl) (fun _ _ _ h => h) (Or.inl ⟨by rfl, ?hy2_0⟩) (by assumption) ?rest2_0
                            case hy2_0 => ((intro w hSw; (try dsimp only at hSw); go_simp); (try (with_reducible rfl)))
                            try simp only [Act.put, List.setIfInBounds_toArray, List.set_cons_zero, List.set_cons_succ]
                            refine wpAnyH_take (i := 1) (oi := { dst := some 142, op := Go.Op.load 33 (Go.Operand.tmp 141), type := 33, pos := "ref.go:123", after := #[{ on := 0, ground := Go.Ground.data }], guard := none }) (v := ?v2_1) rfl (by kernel_rfl) (by kernel_rfl) (by kernel_rfl) (fun _ _ _ h => h) (Or.inl ⟨by rfl, ?hy2_1⟩) (by assumption) ?rest2_1
                            case hy2_1 => ((intro w hSw; (try dsimp only at hSw); go_simp); (try (with_reducible rfl)))
                            try simp only [Act.put, List.setIfInBounds_toArray, List.set_cons_zero, List.set_cons_succ]
                            refine wpAnyH_take (i := 2) (oi := { dst := some 143, op := Go.Op.move (Go.Operand.tmp 0), type := 79, pos := "ref.go:123", after := #[], guard := none }) (v := ?v2_2) rfl (by kernel_rfl) (by kernel_rfl) (by kernel_rfl) (fun _ _ _ h => h) (Or.inl ⟨by rfl, ?hy2_2⟩) (by assumption) ?rest2_2
                            case hy2_2 => ((intro w hSw; (try dsimp only at hSw); go_simp); (try (with_reducible rfl)))
                            try simp only [Act.put, List.setIfInBounds_toArray, List.set_cons_zero, List.set_cons_succ]
                            refine wpAnyH_take (i := 3) (oi := { dst := some 144, op := Go.Op.nilCheck (Go.Operand.tmp 143), type := 0, pos := "ref.go:123", after := #[{ on := 2, ground := Go.Ground.data }], guard := none }) (v := ?v2_3) rfl (by kernel_rfl) (by kernel_rfl) (by kernel_rfl) (fun _ _ _ h => h) (Or.inl ⟨by rfl, ?hy2_3⟩) (by assumption) ?rest2_3
                            case hy2_3 => ((intro w hSw; (try dsimp only at hSw); go_simp); (try (with_reducible rfl)))
                            try simp only [Act.put, List.setIfInBounds_toArray, List.set_cons_zero, List.set_cons_succ]
                            refine wpAnyH_take (i := 4) (oi := { dst := some 145, op := Go.Op.fieldAddr 81 (Go.Operand.tmp 144) 0, type := 0, pos := "ref.go:123", after := #[{ on := 3, ground := Go.Ground.data }], guard := none }) (v := ?v2_4) rfl (by kernel_rfl) (by kernel_rfl) (by kernel_rfl) (fun _ _ _ h => h) (Or.inl ⟨by rfl, ?hy2_4⟩) (by assumption) ?rest2_4
                            case hy2_4 => ((intro w hSw; (try dsimp only at hSw); go_simp); (try (with_reducible rfl)))
                            try simp only [Act.put, List.setIfInBounds_toArray, List.set_cons_zero, List.set_cons_succ]
                            refine wpAnyH_take (i := 5) (oi := { dst := some 146, op := Go.Op.load 76 (Go.Operand.tmp 145), type := 76, pos := "ref.go:123", after := #[{ on := 4, ground := Go.Ground.data }], guard := none }) (v := ?v2_5) rfl (by kernel_rfl) (by kernel_rfl) (by kernel_rfl) (fun _ _ _ h => h) (Or.inl ⟨by rfl, ?hy2_5⟩) (by assumption) ?rest2_5
                            case hy2_5 => ((intro w hSw; (try dsimp only at hSw); go_simp); (try (with_reducible rfl)))
                            try simp only [Act.put, List.setIfInBounds_toArray, List.set_cons_zero, List.set_cons_succ]
                            refine wpAnyH_take (i := 6) (oi := { dst := some 147, op := Go.Op.move (Go.Operand.tmp 0), type := 79, pos := "ref.go:123", after := #[], guard := none }) (v := ?v2_6) rfl (by kernel_rfl) (by kernel_rfl) (by kernel_rfl) (fun _ _ _ h => h) (Or.inl ⟨by rfl, ?hy2_6⟩) (by assumption) ?rest2_6
                            case hy2_6 => ((intro w hSw; (try dsimp only at hSw); go_simp); (try (with_reducible rfl)))
                            try simp only [Act.put, List.setIfInBounds_toArray, List.set_cons_zero, List.set_cons_succ]
                            refine wpAnyH_take (i := 7) (oi := { dst := some 148, op := Go.Op.nilCheck (Go.Operand.tmp 147), type := 0, pos := "ref.go:123", after := #[{ on := 6, ground := Go.Ground.data }], guard := none }) (v := ?v2_7) rfl (by kernel_rfl) (by kernel_rfl) (by kernel_rfl) (fun _ _ _ h => h) (Or.inl ⟨by rfl, ?hy2_7⟩) (by assumption) ?rest2_7
                            case hy2_7 => ((intro w hSw; (try dsimp only at hSw); go_simp); (try (with_reducible rfl)))
                            try simp only [Act.put, List.setIfInBounds_toArray, List.set_cons_zero, List.set_cons_succ]
                            refine wpAnyH_take (i := 8) (oi := { dst := some 149, op := Go.Op.fieldAddr 81 (Go.Operand.tmp 148) 1, type := 0, pos := "ref.go:123", after := #[{ on := 7, ground := Go.Ground.data }], guard := none }) (v := ?v2_8) rfl (by kernel_rfl) (by kernel_rfl) (by kernel_rfl) (fun _ _ _ h => h) (Or.inl ⟨by rfl, ?hy2_8⟩) (by assumption) ?rest2_8
                            case hy2_8 => ((intro w hSw; (try dsimp only at hSw); go_simp); (try (with_reducible rfl)))
                            try simp only [Act.put, List.setIfInBounds_toArray, List.set_cons_zero, List.set_cons_succ]
                            refine wpAnyH_take (i := 9) (oi := { dst := some 150, op := Go.Op.load 3 (Go.Operand.tmp 149), type := 3, pos := "ref.go:123", after := #[{ on := 8, ground := Go.Ground.data }], guard := none }) (v := ?v2_9) rfl (by kernel_rfl) (by kernel_rfl) (by kernel_rfl) (fun _ _ _ h => h) (Or.inl ⟨by rfl, ?hy2_9⟩) (by assumption) ?rest2_9
                            case hy2_9 => ((intro w hSw; (try dsimp only at hSw); go_simp); (try (with_reducible rfl)))
                            try simp only [Act.put, List.setIfInBounds_toArray, List.set_cons_zero, List.set_cons_succ]
                            refine wpAnyH_take (i := 10) (oi := { dst := some 151, op := Go.Op.indexAddr 76 (Go.Operand.tmp 146) (Go.Operand.tmp 150), type := 0, pos := "ref.go:123", after := #[{ on := 5, ground := Go.Ground.data }, { on := 9, ground := Go.Ground.data }], guard := none }) (v := ?v2_10) rfl (by kernel_rfl) (by kernel_rfl) (by kernel_rfl) (fun _ _ _ h => h) (Or.inl ⟨by rfl, ?hy2_10⟩) (by assumption) ?rest2_10
                            case hy2_10 => ((intro w hSw; (try dsimp only at hSw); go_simp); (try (with_reducible rfl)))
                            try simp only [Act.put, List.setIfInBounds_toArray, List.set_cons_zero, List.set_cons_succ]
                            refine wpAnyH_take (i := 11) (oi := { dst := some 152, op := Go.Op.fieldAddr 103 (Go.Operand.tmp 151) 2, type := 0, pos := "ref.go:123", after := #[{ on := 10, ground := Go.Ground.data }], guard := none }) (v := ?v2_11) rfl (by kernel_rfl) (by kernel_rfl) (by kernel_rfl) (fun _ _ _ h => h) (Or.inl ⟨by rfl, ?hy2_11⟩) (by assumption) ?rest2_11
                            case hy2_11 => ((intro w hSw; (try dsimp only at hSw); go_simp); (try (with_reducible rfl)))
                            try simp only [Act.put, List.setIfInBounds_toArray, List.set_cons_zero, List.set_cons_succ]
                            refine wpAnyH_take (i := 12) (oi := { dst := some 153, op := Go.Op.load 3 (Go.Operand.tmp 152), type := 3, pos := "ref.go:123", after := #[{ on := 11, ground := Go.Ground.data }], guard := none }) (v := ?v2_12) rfl (by kernel_rfl) (by kernel_rfl) (by kernel_rfl) (fun _ _ _ h => h) (Or.inl ⟨by rfl, ?hy2_12⟩) (by assumption) ?rest2_12
                            case hy2_12 => ((intro w hSw; (try dsimp only at hSw); go_simp); (try (with_reducible rfl)))
                            try simp only [Act.put, List.setIfInBounds_toArray, List.set_cons_zero, List.set_cons_succ]
                            refine wpAnyH_ready (rs := [13]) (by kernel_rfl) (by simp) ?_
                            refine AllReadyH.cons (o := { dst := some 154, op := Go.Op.buildSlice 33 1 #[(0, Go.Operand.tmp 153)], type := 33, pos := "ref.go:123", after := #[{ on := 12, ground := Go.Ground.data }], guard := none }) rfl (fun K hK => ?_) AllReadyH.nil
                            go_simp
                            refine hK.out _ _ (HS.out _ (hbd5.alloc (by simp; omega) _)) (fun hHeld => ?_)
                            clear hK K
                            try simp only [Act.put, List.setIfInBounds_toArray, List.set_cons_zero, List.set_cons_succ]
                            refine wpAnyH_ready (rs := [14]) (by kernel_rfl) (by simp) ?_
                            refine AllReadyH.cons (o := { dst := some 155, op := Go.Op.call { callee := Go.Callee.builtin Go.Builtin.append, args := #[Go.Operand.tmp 142, Go.Operand.tmp 154], argTypes := #[33, 33] }, type := 33, pos := "ref.go:123", after := #[{ on := 1, ground := Go.Ground.data }, { on := 13, ground := Go.Ground.data }], guard := none }) rfl (fun K hK => ?_) AllReadyH.nil
                            refine step_append_n (by rfl) _ _ 33 (by rfl) 3 i0 (.int .i64 0) 1 8 Tryz.underlying33 hi hz0 hz1 hz2 rfl (by decide) (B + 1) _ acc.length (vcs acc) (by rfl) (by exact World.ownsRow.alloc (HOV5.out.kept (sb_drew (Below.refl _ _))) _) _ [.int .i64 y1.num] (by rfl) rfl (fun u hu => by simp at hu; subst hu; rfl) (by exact cell_one_new _ _ _) (by omega) (by omega) (by simp; omega) ?_
                            intro v6 w6 hown6 hbl6 hg6
                            obtain ⟨vb6, vc6, rfl⟩ := row_form hown6
                            have hbb6 := HB5.out.below ((hbd5.alloc (by simp; omega) _).trans hbl6) (Nat.lt_succ_self _)
                            obtain ⟨b0, b1, b2⟩ := Blk3 hbb6
                            obtain ⟨f0, f1, f2⟩ := Blk3f hbb6
                            clear hbb6
                            refine hK.out _ _ (HS.out _ ((hbd5.alloc (by simp; omega) _).trans hbl6)) (fun hHeld => ?_)
                            clear hK K
                            try simp only [Act.put, List.setIfInBounds_toArray, List.set_cons_zero, List.set_cons_succ]
                            refine wpAnyH_take (i := 15) (oi := { dst := some 156, op := Go.Op.fieldAddr 53 (Go.Operand.tmp 8) 1, type := 0, pos := "ref.go:123", after := #[{ on := 0, ground := Go.Ground.phase }, { on := 1, ground := Go.Ground.phase }, { on := 2, ground := Go.Ground.phase }, { on := 3, ground := Go.Ground.phase }, { on := 4, ground := Go.Ground.phase }, { on := 5, ground := Go.Ground.phase }, { on := 6, ground := Go.Ground.phase }, { on := 7, ground := Go.Ground.phase }, { on := 8, ground := Go.Ground.phase }, { on := 9, ground := Go.Ground.phase }, { on := 10, ground := Go.Ground.phase }, { on := 11, ground := Go.Ground.phase }, { on := 12, ground := Go.Ground.phase }, { on := 13, ground := Go.Ground.phase }, { on := 14, ground := Go.Ground.phase }], guard := none }) (v := ?v2_15) rfl (by kernel_rfl) (by kernel_rfl) (by kernel_rfl) (fun _ _ _ h => h) (Or.inl ⟨by rfl, ?hy2_15⟩) (by assumption) ?rest2_15
                            case hy2_15 => ((intro w hSw; (try dsimp only at hSw); go_simp); (try (with_reducible rfl)))
                            try simp only [Act.put, List.setIfInBounds_toArray, List.set_cons_zero, List.set_cons_succ]
                            refine wpAnyH_done (by kernel_rfl) ?_ _
                            refine QLast.normal ?_
                            refine wpOp_step (o := { dst := none, op := Go.Op.store 33 (Go.Operand.tmp 156) (Go.Operand.tmp 155), type := 0, pos := "ref.go:123", after := #[{ on := 15, ground := Go.Ground.data }, { on := 14, ground := Go.Ground.data }, { on := 14, ground := Go.Ground.chain }, { on := 0, ground := Go.Ground.phase }, { on := 1, ground := Go.Ground.phase }, { on := 2, ground := Go.Ground.phase }, { on := 3, ground := Go.Ground.phase }, { on := 4, ground := Go.Ground.phase }, { on := 5, ground := Go.Ground.phase }, { on := 6, ground := Go.Ground.phase }, { on := 7, ground := Go.Ground.phase }, { on := 8, ground := Go.Ground.phase }, { on := 9, ground := Go.Ground.phase }, { on := 10, ground := Go.Ground.phase }, { on := 11, ground := Go.Ground.phase }, { on := 12, ground := Go.Ground.phase }, { on := 13, ground := Go.Ground.phase }, { on := 14, ground := Go.Ground.phase }], guard := none }) rfl (fun K hK => ?_)
                            go_simp
                            refine hK _ _ ?_
                            clear hK K
                            have hb7 : Below (B + 1) w5 w6 := (hbd5.alloc (by simp; omega) _).trans hbl6
                            have HKB7 := Lib.hid (show Blk (w6.setCell ⟨B, 1, none⟩ (.slice vb6 (acc.length + 1) vc6)) B #[.string key, .slice vb6 (acc.length + 1) vc6, .int .i64 kp] from (HB5.out.below hb7 (Nat.lt_succ_self _)).set 1 _)
                            have HOV7 := Lib.hid (show OwnVs 3 (B + 1) (w6.setCell ⟨B, 1, none⟩ (.slice vb6 (acc.length + 1) vc6)) (.slice vb6 (acc.length + 1) vc6) (acc ++ [y1.num]) by
                              unfold OwnVs
                              rw [vcs_snoc, List.length_append]
                              exact ownsRow_setCell_below hown6 (by dsimp only; omega) _)
                            have HRR7 := Lib.hid ((HRJ5.out.below (N := B + 1) (by omega) HGP.out hb7).setn (q := B) (o := 1) (by omega) HGP.out (.slice vb6 (acc.length + 1) vc6))
                            have HBP7 := Lib.hid ((HBP5.out.thenB hb7 (by omega)).setn (q := ⟨B, 1, none⟩) (by dsimp only; omega) (.slice vb6 (acc.length + 1) vc6))
                            clear b0 b1 b2 f0 f1 f2 c0 c1 c2 c3 c4 hg6 hbl6 hown6 hb7 hHeld HB5 HOV5 HRJ5 HBP5 HS hbd5 hji
                            generalize w6.setCell ⟨B, 1, none⟩ (.slice vb6 (acc.length + 1) vc6) = w7 at *
                            obtain ⟨c1, cf1, cl1⟩ := HRR7.out.free _ (Below.refl _ _)
                            go_wp2_with fail
                            go_roundw
                            case rel => exact ⟨m, j + 1, acc ++ [y1.num], _, by omega, by first | go_num | (congr 1; omega), Lib.hid ⟨HN1.out, by omega, by omega, by simp; omega⟩, Lib.hid (HKB7.out.other (a := ⟨p, 1, none⟩) _ (by dsimp only; omega)), Lib.hid (HOV7.out.but (p := p) (by omega) (But.set p _ 1 _)), Lib.hid (HRR7.out.succ HGP.out), Lib.hid (HBP7.out.setp 1 _)⟩
                            case measure => first | (simp [intOf]; done) | (simp [intOf]; omega)
                          · have hV := HBAD.out 4 _ (HNM.out.2 h2)
                            subst hV
                            have hne2 : (kindAt ws j != 2) = true := by simp [bne, h2]
                            generalize kindAt ws j = kd at *
                            clear h2 HNM HBAD HOK
                            go_wp2_with fail
                            refine (HDj.out _ hrj.out).mono ?_
                            rintro e w5 ⟨rfl, q5⟩
                            have HXBz := Lib.hid (HXBw.out.kept q5)
                            have HRBz := Lib.hid (HRBw.out.kept q5)
                            have HRRz := Lib.hid (hrj.out.kept q5)
                            have HBUz := Lib.hid (HBUw.out.trans (But.of q5))
                            clear q5
                            obtain ⟨x0, x1, x2, x3⟩ := Blk4 HXBz.out
                            obtain ⟨r0, r1, r2, r3⟩ := Blk4 HRBz.out
                            obtain ⟨f0, f1, f2, f3⟩ := Blk4f HRBz.out
                            go_wp2_with fail
                            refine bodyPost_ret (blk_res_tmp (g := w.heap.size) rfl _ rfl (blk_set4 HRBz.out) Tryz.underlying52 rfl (by rfl)) rfl ?_
                            exact ⟨_, _, _, _, _, _, j, rfl, hj2, rfl, (((HRRz.out.setn hp0 HGP.out _).setn hp0 HGP.out _).setn hp0 HGP.out _).setn hp0 HGP.out _, (((HBUz.out.setn (Nat.le_refl _) _).setn (Nat.le_refl _) _).setn (Nat.le_refl _) _).setn (Nat.le_refl _) _⟩
              · have hV := HKR.out.2.1 h3 h1
                subst hV
                have hne1 : (kindAt ws i != 1) = true := by simp [bne, h1]
                generalize kindAt ws i = kd at *
                clear h3 h1 HKR
                go_wp2_with fail
                refine (HD1.out _ HRR.out).mono ?_
                rintro e w2 ⟨rfl, q2⟩
                have HRC := Lib.hid (fun W (h : Below w2.heap.size w2 W) => (HRR.out.kept q2).kept h)
                go_wp2_with fail
                go_quiet ((go_at_call 50; exact Calls.quiet_of (HDQ.out _ (HRC.out _ (PB.below_drewN (Below.refl _ _) _)))))
                have HXB3 := Lib.hid ((HXB.out.kept q2).kept (PB.below_drewN (Below.refl w2.heap.size w2) nq))
                have HRB3 := Lib.hid ((HRB.out.kept q2).kept (PB.below_drewN (Below.refl w2.heap.size w2) nq))
                have HRR3 := Lib.hid ((HRR.out.kept q2).kept (PB.below_drewN (Below.refl w2.heap.size w2) nq))
                have HBU3 := Lib.hid ((HBU.out.trans (But.of q2)).trans (But.of (PB.below_drewN (Below.refl w2.heap.size w2) nq)))
                clear q2 HRC HXB HRB HRR HBU HOW
                obtain ⟨x0, x1, x2, x3⟩ := Blk4 HXB3.out
                obtain ⟨r0, r1, r2, r3⟩ := Blk4 HRB3.out
                obtain ⟨f0, f1, f2, f3⟩ := Blk4f HRB3.out
                go_wp2_with fail
                refine bodyPost_ret (blk_res_tmp (g := w.heap.size) rfl _ rfl (blk_set4 HRB3.out) Tryz.underlying52 rfl (by rfl)) rfl ?_
                exact ⟨_, _, _, _, _, _, i, rfl, hil, rfl, (((HRR3.out.setn hp0 HGP.out _).setn hp0 HGP.out _).setn hp0 HGP.out _).setn hp0 HGP.out _, (((HBU3.out.setn (Nat.le_refl _) _).setn (Nat.le_refl _) _).setn (Nat.le_refl _) _).setn (Nat.le_refl _) _⟩
    · have hV := HI.out.1 e1
      subst hV
      have hne : (kindAt ws k != 1) = true := by simp [bne, e1]
      generalize kindAt ws k = kd at *
      generalize (!(rowOf word).isEmpty) = em at *
      clear e1 HI
      go_wp2_with fail
      refine (HK1.out _).mono ?_
      rintro e w2 ⟨v, u, rfl, r1, r2, q2⟩
      obtain ⟨nb, ng, no, nc, rfl, -, -, -⟩ := r1.form
      obtain ⟨mb, mg, mo, mc, rfl, -, -, -⟩ := r2.form
      have HRR2 := Lib.hid (HRR.out.kept q2)
      clear r1 r2
      go_wp2_with fail
      refine (HD1.out _ HRR2.out).mono ?_
      rintro e w3 ⟨rfl, q3⟩
      have HXB3 := Lib.hid ((HXB.out.kept q2).kept q3)
      have HRB3 := Lib.hid ((HRB.out.kept q2).kept q3)
      have HRR3 := Lib.hid (HRR2.out.kept q3)
      have HBU3 := Lib.hid ((HBU.out.trans (But.of q2)).trans (But.of q3))
      clear q2 q3 HRR2
      clear x0 x1 x2 x3
      obtain ⟨x0, x1, x2, x3⟩ := Blk4 HXB3.out
      obtain ⟨r0, r1, r2, r3⟩ := Blk4 HRB3.out
      obtain ⟨f0, f1, f2, f3⟩ := Blk4f HRB3.out
      go_wp2_with fail
      refine bodyPost_ret (blk_res_tmp (g := w.heap.size) rfl _ rfl (blk_set4 HRB3.out) Tryz.underlying52 rfl (by rfl)) rfl ?_
      exact ⟨_, _, _, _, _, _, k, rfl, hklen, rfl, (((HRR3.out.setn hp0 HGP.out _).setn hp0 HGP.out _).setn hp0 HGP.out _).setn hp0 HGP.out _, (((HBU3.out.setn (Nat.le_refl _) _).setn (Nat.le_refl _) _).setn (Nat.le_refl _) _).setn (Nat.le_refl _) _⟩
end Go.Proofs.YtdikoeeoglfmaaaGreatDoor
