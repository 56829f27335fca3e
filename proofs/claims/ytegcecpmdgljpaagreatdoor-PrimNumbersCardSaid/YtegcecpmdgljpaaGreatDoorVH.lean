/- Layer 13: PrimNumbers's walk. Condition: the arguments are a pair and a number; the listed variables hold what they hold. -/
import Derived.Test.YtegcecpmdgljpaaGreatDoorVG
namespace Go.Proofs.YtegcecpmdgljpaaGreatDoor
open Go.RowKit
set_option linter.unusedVariables false

set_option maxHeartbeats 4000000 in
set_option maxRecDepth 100000 in
theorem numbers_walk {w : World} (g : Good w) (x y : Int) (wx : (Lit.int .i64 x).wf = true) (wy : (Lit.int .i64 y).wf = true) (base : Int) (wb : (Lit.int .i64 base).wf = true) :
    Calls Tryz.prog 5 #[.agg #[.int .i64 x, .int .i64 y], .int .i64 base] w fun e w' => e = .returned (.bool true) ∧ Mod [] w w' := by
  have HI := Lib.hid (And.intro (i64_of_wf wx) (And.intro (i64_of_wf wy) (i64_of_wf wb)))
  have hwb : wrap64 base = base := by have := HI.out.2.2; unfold wrap64; unfold I64 at this; omega
  obtain ⟨o1, A1, s1⟩ := pair_block w x y
  obtain ⟨W1, hW1⟩ : ∃ V, V = w.alloc (.cells #[.int .i64 x, .int .i64 y] 44) := ⟨_, rfl⟩
  rw [← hW1] at o1 A1 s1
  have G := Lib.hid (And.intro (g.mod A1 (by simp)) A1)
  have hlt : w.heap.size < W1.heap.size := by omega
  have O1 := Lib.hid (And.intro o1.c0 (And.intro o1.c1 hlt))
  clear wx wy wb g o1 A1 s1 hlt
  go_enter Tryz.func5, Tryz.ntmps5
  go_upto_region 1 with fail
  rw [← hW1]
  clear hW1
  go_wp2_with fail
  refine (shown13 W1 G.out.1).mono ?_
  rintro e w1 ⟨rfl, m1⟩
  have M1 := Lib.hid m1
  clear m1
  go_wp2_with fail
  refine (lv_new 1024 M1.out (G.out.1.mod M1.out (by simp)) (by decide) (by decide) (by decide)).mono ?_
  rintro e w2 ⟨a, rfl, h2, _⟩
  have H2 := Lib.hid h2
  clear h2 M1
  by_cases hr : 2 ≤ base ∧ base ≤ 36
  · obtain ⟨l1, l2⟩ := hr
    go_wp2_with fail
    refine (H2.out.stack).mono ?_
    rintro e w3 ⟨rfl, rfl⟩
    go_wp2_with fail
    refine ((H2.out.far (far_alloc _ _)).put 2 (sl_two _ _ _ _) rfl (two_in HI.out.2.2 zero_i64) (by simp)).mono ?_
    rintro e w3 ⟨rfl, h3⟩
    rw [putL_nil [base, 0] (by simp)] at h3
    have H3 := Lib.hid h3
    clear h3 H2
    go_wp2_with fail
    refine (H3.out.ok (R := []) (X := [base, 0]) (n := 74) (by decide) rfl (putbase base HI.out.2.2) (by simp) (by decide)).mono ?_
    rintro e w4 ⟨rfl, h4⟩
    have hb := h4.base
    rw [(muB_in base HI.out.2.2 l1 l2).1, (muB_in base HI.out.2.2 l1 l2).2] at hb
    have HB := Lib.hid hb
    have H4 := Lib.hid (show Lv W1 w4 a [] [] (muB base) from h4)
    clear h4 H3 hb
    go_wp2_with fail
    refine (HB.out).mono ?_
    rintro e w5 ⟨rfl, rfl⟩
    clear HB
    obtain ⟨o5, A5, s5⟩ := pair_block w4 x y
    have m5 := H4.out.mod.far A5
    have c0 := m5.cell (x := ⟨w.heap.size, 0, none⟩) (by simp) O1.out.1
    have c1 := m5.cell (x := ⟨w.heap.size, 1, none⟩) (by simp) O1.out.2.1
    have d0 := H4.out.mod.cell (x := ⟨w.heap.size, 0, none⟩) (by simp) O1.out.1
    have d1 := H4.out.mod.cell (x := ⟨w.heap.size, 1, none⟩) (by simp) O1.out.2.1
    have H5 := Lib.hid (And.intro o5 (And.intro A5 s5))
    clear o5 A5 s5 m5
    by_cases hy : y < 0
    · go_wp2_with fail
      refine (rneg_calls _ x y HI.out.1 HI.out.2.1 _ (Ext.refl _)).mono ?_
      rintro e w6 ⟨rfl, hx6⟩
      have o6 := H5.out.1.ext hx6
      obtain ⟨sx, hsx⟩ : ∃ u, u = lo (-V x y) := ⟨_, rfl⟩
      obtain ⟨sy, hsy⟩ : ∃ u, u = hi (-V x y) := ⟨_, rfl⟩
      rw [← hsx, ← hsy]
      have hp := put2_cells o6 (.int .i64 sx) (.int .i64 sy)
      have hl := H4.out.own (b := w4.heap.size) (Nat.le_refl _) (H5.out.2.1.far (Mod.of_below hx6.1)) (by have := H5.out.2.2; have := (Mod.of_below hx6.1).size; omega) (set2_mod w6 w4.heap.size (.int .i64 sx) (.int .i64 sy))
      obtain ⟨t0, t1, t2, t3, _⟩ := o6
      obtain ⟨V6, hV⟩ : ∃ W, W = (w6.setCell ⟨w4.heap.size, 0, none⟩ (.int .i64 sx)).setCell ⟨w4.heap.size, 1, none⟩ (.int .i64 sy) := ⟨_, rfl⟩
      rw [← hV] at hp hl
      have HL := Lib.hid hl
      have HZ := Lib.hid hp
      have HSX := Lib.hid (And.intro hsx hsy)
      have f0 := hl.mod.cell (x := ⟨w.heap.size, 0, none⟩) (by simp) O1.out.1
      have f1 := hl.mod.cell (x := ⟨w.heap.size, 1, none⟩) (by simp) O1.out.2.1
      clear hl hp hsx hsy H5 hx6 H4
      go_upto_region 2 with fail
      rw [← hV]
      clear hV
      go_cut [] (fun wx => RowKit.Hid (Lv W1 wx a [(w4.heap.size, V6.heap[w4.heap.size]?)] [x, y] (muB base)))
      case first =>
        have mD : Mod [] V6 V6.drew := (Mod.refl [] V6).drew
        have mA : Mod [] V6 (V6.alloc (.cells #[.int .i64 x, .int .i64 y] 37)).drew := (far_alloc _ _).drew
        have HS1 := Lib.hid (HL.out.far mD).stack
        have HS2 := Lib.hid (HL.out.far mA).stack
        have HP := Lib.hid ((HL.out.far mA).put (n := 2) 2 ((sl_two V6 x y 37).mod (Mod.refl [] _).drew (by simp)) rfl (two_in HI.out.1 HI.out.2.1) (by simp))
        rw [putL_nil [x, y] (by simp)] at HP
        have d0 := mD.cell (x := ⟨w.heap.size, 0, none⟩) (by simp) f0
        have d1 := mD.cell (x := ⟨w.heap.size, 1, none⟩) (by simp) f1
        have e0 := mA.cell (x := ⟨w.heap.size, 0, none⟩) (by simp) f0
        have e1 := mA.cell (x := ⟨w.heap.size, 1, none⟩) (by simp) f1
        clear mD mA
        go_wp2_with fail
        go_region_held3 (fun W => W.cell? ⟨w.heap.size, 0, none⟩ = some (.int .i64 x) ∧ W.cell? ⟨w.heap.size, 1, none⟩ = some (.int .i64 y)) (first | with_reducible exact ⟨d0, d1⟩ | with_reducible exact ⟨e0, e1⟩ | with_reducible exact ⟨x0, x1⟩ | fail) (first | ((with_reducible refine (HS1.out).mono ?_); rintro e w7 ⟨rfl, rfl⟩) | ((with_reducible refine (HS2.out).mono ?_); rintro e w7 ⟨rfl, rfl⟩) | ((with_reducible refine (HP.out).mono ?_); rintro e w8 ⟨rfl, h8⟩; have H8 := Lib.hid h8; have x0 := h8.mod.cell (x := ⟨w.heap.size, 0, none⟩) (by simp) O1.out.1; have x1 := h8.mod.cell (x := ⟨w.heap.size, 1, none⟩) (by simp) O1.out.2.1; clear h8) | fail)
        all_goals
          go_wp2_with fail
          go_meet
          exact H8
      case rest =>
        have H7 := Lib.hid hcut.out
        clear hcut HL f0 f1
        go_wp2_with fail
        refine (H7.out.ok (R := []) (X := [x, y]) (n := 93) (by decide) rfl (ddot_uni x y base HI.out.1 HI.out.2.1 HI.out.2.2 l1 l2) (by simp) (by decide)).mono ?_
        rintro e w8 ⟨rfl, h8⟩
        have H8 := Lib.hid h8
        clear h8 H7
        go_wp2_with fail
        refine (H8.out.ok0 (n := 102) (by decide) rfl (begin_uni _) (by simp) (by simp)).mono ?_
        rintro e w9 ⟨rfl, h9⟩
        have H9 := Lib.hid (show Lv W1 w9 a [(w4.heap.size, V6.heap[w4.heap.size]?)] [] (mu1 base x y) from h9)
        clear h9 H8
        have k9 : w9.heap[w4.heap.size]? = V6.heap[w4.heap.size]? := H9.out.kept (List.mem_cons_self ..)
        have z0 := (cell_of_heap (o := 0) k9).trans HZ.out.1
        have z1 := (cell_of_heap (o := 1) k9).trans HZ.out.2
        have f1 := H9.out.mod.cell (x := ⟨w.heap.size, 1, none⟩) (by simp) O1.out.2.1
        have HIS := Lib.hid (show I64 sx ∧ I64 sy by rw [HSX.out.1, HSX.out.2]; exact ⟨lo_i64 _, hi_i64 _⟩)
        go_wp2_with fail
        go_cut [] (fun wx => RowKit.Hid (Lv W1 wx a [(w4.heap.size, V6.heap[w4.heap.size]?)] [y, sx, sy] (mu1 base x y)))
        case first =>
          have mD : Mod [] w9 w9.drew := (Mod.refl [] w9).drew
          have mA : Mod [] w9 (w9.alloc (.cells #[.int .i64 y, .int .i64 sx, .int .i64 sy] 37)).drew := (far_alloc _ _).drew
          have HS1 := Lib.hid (H9.out.far mD).stack
          have HS2 := Lib.hid (H9.out.far mA).stack
          have HP := Lib.hid ((H9.out.far mA).put (n := 3) 3 ((sl_three w9 y sx sy 37).mod (Mod.refl [] _).drew (by simp)) rfl (three_in HI.out.2.1 HIS.out.1 HIS.out.2) (by simp))
          rw [putL_nil [y, sx, sy] (by simp)] at HP
          have d0 := mD.cell (x := ⟨w.heap.size, 1, none⟩) (by simp) f1
          have d1 := mD.cell (x := ⟨w4.heap.size, 0, none⟩) (by simp) z0
          have d2 := mD.cell (x := ⟨w4.heap.size, 1, none⟩) (by simp) z1
          have e0 := mA.cell (x := ⟨w.heap.size, 1, none⟩) (by simp) f1
          have e1 := mA.cell (x := ⟨w4.heap.size, 0, none⟩) (by simp) z0
          have e2 := mA.cell (x := ⟨w4.heap.size, 1, none⟩) (by simp) z1
          clear mD mA
          go_wp2_with fail
          go_region_held3 (fun W => W.cell? ⟨w.heap.size, 1, none⟩ = some (.int .i64 y) ∧ W.cell? ⟨w4.heap.size, 0, none⟩ = some (.int .i64 sx) ∧ W.cell? ⟨w4.heap.size, 1, none⟩ = some (.int .i64 sy)) (first | with_reducible exact ⟨d0, d1, d2⟩ | with_reducible exact ⟨e0, e1, e2⟩ | with_reducible exact ⟨x0, x1, x2⟩ | fail) (first | ((with_reducible refine (HS1.out).mono ?_); rintro e w10 ⟨rfl, rfl⟩) | ((with_reducible refine (HS2.out).mono ?_); rintro e w10 ⟨rfl, rfl⟩) | ((with_reducible refine (HP.out).mono ?_); rintro e w11 ⟨rfl, h11⟩; have H11 := Lib.hid h11; have x0 := h11.mod.cell (x := ⟨w.heap.size, 1, none⟩) (by simp) O1.out.2.1; have x1 := (cell_of_heap (o := 0) (h11.kept (List.mem_cons_self ..))).trans HZ.out.1; have x2 := (cell_of_heap (o := 1) (h11.kept (List.mem_cons_self ..))).trans HZ.out.2; clear h11) | fail)
          all_goals
            go_wp2_with fail
            go_meet
            exact H11
        case rest =>
          have H12 := Lib.hid hcut.out
          clear hcut H9 z0 z1 f1 k9
          obtain ⟨P, hP, hK⟩ : ∃ P : Nat, Go.Proofs.YtegcecpmdgljpaaGreatDoor.W sx sy = (P : Int) ∧ (if y < 0 then 45 :: (text base.toNat P ++ []) else text base.toNat P ++ []) = signed base.toNat (Go.Proofs.YtegcecpmdgljpaaGreatDoor.W x y).toNat (V x y) := by
            obtain ⟨M, hM, hMl⟩ := neg_nat x y HI.out.1 HI.out.2.1 hy
            refine ⟨M, by rw [HSX.out.1, HSX.out.2, hM]; exact W_of M hMl, ?_⟩
            have hv := (V_neg x y HI.out.1 HI.out.2.1).2 hy
            unfold signed
            rw [if_pos hy, if_pos hv, hM, List.append_nil]
            rfl
          have HPK := Lib.hid (And.intro hP (And.intro hK (And.intro l1 l2)))
          obtain ⟨W13, hW13⟩ : ∃ W, W = wc.alloc (.cells #[.int .i64 104, .int .i64 32, .int .i64 106, .int .i64 107, .int .i64 98] 3) := ⟨_, rfl⟩
          have hcs : ∀ j, j < 5 → W13.cell? ⟨wc.heap.size, j, none⟩ = some (.int .i64 (opsN.getD j 0)) := fun j hj => by
            rw [hW13, World.cell?_alloc_new]
            rcases (show j = 0 ∨ j = 1 ∨ j = 2 ∨ j = 3 ∨ j = 4 by omega) with rfl | rfl | rfl | rfl | rfl <;> rfl
          have h13 := H12.out.hold (w' := W13) (b := wc.heap.size) (by rw [hW13]; exact far_alloc _ _) (Nat.le_refl _) (by rw [hW13, size_alloc]; omega)
          have HCS := Lib.hid hcs
          have H13 := Lib.hid (show Lv W1 W13 a [(wc.heap.size, W13.heap[wc.heap.size]?), (w4.heap.size, V6.heap[w4.heap.size]?)] (stN base x y sx sy P 0).1 (stN base x y sx sy P 0).2 from h13)
          clear hP hK h13 hcs H12 HZ HSX hy l1 l2
          go_wp2_with fail
          rw [← hW13]
          clear hW13
          go_loopw [106] (fun i wr => ∃ j : Nat, j ≤ 5 ∧ i = .int .i64 (j : Int) ∧ RowKit.Hid (Lv W1 wr a [(wc.heap.size, W13.heap[wc.heap.size]?), (w4.heap.size, V6.heap[w4.heap.size]?)] (stN base x y sx sy P j).1 (stN base x y sx sy P j).2)) (fun i _ => 5 - (intOf i).toNat)
          case atStart => exact ⟨0, by omega, rfl, H13⟩
          case round =>
            obtain ⟨j, hj, rfl, HJ⟩ := hrel
            clear H13
            by_cases hlt : j < 5
            · have hc := (cell_of_heap (o := j) (HJ.out.kept (List.mem_cons_self ..))).trans (HCS.out j hlt)
              have HD := Lib.hid (num_step base x y sx sy P HI.out.2.1 HIS.out.1 HIS.out.2 HI.out.2.2 HPK.out.2.2.1 HPK.out.2.2.2 HPK.out.1 j hlt HJ.out)
              obtain ⟨op, hop⟩ : ∃ op, op = opsN.getD j 0 := ⟨_, rfl⟩
              rw [← hop] at hc HD
              have h1 : (0 : Int) ≤ (j : Int) := by omega
              have h2 : (j : Int) < 5 := by omega
              clear hop HJ
              go_wp2_with fail
              refine (HD.out).mono ?_
              rintro e wn ⟨rfl, hn⟩
              have HN := Lib.hid hn
              clear hn HD
              go_wp2_with fail
              exact ⟨⟨j + 1, hlt, by simp, HN⟩, by simp [intOf]; omega⟩
            · obtain rfl : j = 5 := by omega
              have d0 := HJ.out.mod.cell (x := ⟨w.heap.size, 0, none⟩) (by simp) O1.out.1
              have d1 := HJ.out.mod.cell (x := ⟨w.heap.size, 1, none⟩) (by simp) O1.out.2.1
              have hW0 := W_bd x y
              have HG := Lib.hid (rsigned_calls wr x y base HI.out.1 HI.out.2.1 (Go.Proofs.YtegcecpmdgljpaaGreatDoor.W x y).toNat base.toNat (by omega) (by have := HPK.out.2.2.1; omega) (by have := HPK.out.2.2.1; omega) (by have := HPK.out.2.2.2; omega) wr (Ext.refl wr))
              have hl := signed_len13 base.toNat x y HI.out.1 HI.out.2.1 (by have := HPK.out.2.2.1; omega)
              have hO := num_out base x y P HI.out.1 HI.out.2.1 HPK.out.2.2.1 HPK.out.2.1
              obtain ⟨S1, hS1⟩ : ∃ S, S = bytes (signed base.toNat (Go.Proofs.YtegcecpmdgljpaaGreatDoor.W x y).toNat (V x y)) := ⟨_, rfl⟩
              have hs1 : S1.size ≤ 129 := by rw [hS1]; show (str _).size ≤ 129; rw [str_size]; exact hl
              rw [← hS1] at HG hO
              have k1 : (⟨#[32]⟩ : ByteArray).size = 1 := rfl
              have hadd1 := fun V' => run_string_add_sum (P := Tryz.prog) V' S1 ⟨#[32]⟩ (by omega)
              have hadd2 := fun V' => run_string_add_sum (P := Tryz.prog) V' (S1 ++ ⟨#[32]⟩) S1 (by rw [ByteArray.size_append]; omega)
              obtain ⟨S2, hS2⟩ : ∃ S : ByteArray, S = S1 ++ ⟨#[32]⟩ := ⟨_, rfl⟩
              rw [← hS2] at hadd1 hadd2 hO
              obtain ⟨S3, hS3⟩ : ∃ S : ByteArray, S = S2 ++ S1 := ⟨_, rfl⟩
              rw [← hS3] at hadd2 hO
              have HOO := Lib.hid hO
              clear hW0 hl hO hS1 hs1 k1 hS2 hS3
              go_wp2_with fail
              refine (HG.out).mono ?_
              rintro e w20 ⟨rfl, hx20⟩
              have H20 := Lib.hid (HJ.out.far (Mod.of_below hx20.1))
              clear hx20 HG HJ
              have HOut := Lib.hid (show Calls Tryz.prog 18 #[Pt a.s] w20 fun e w' => e = .returned (.string S3) ∧ w20 = w' by
                have := H20.out.out
                rw [show str (stN base x y sx sy P 5).2.O = S3 from HOO.out] at this
                exact this)
              go_wp2_with fail
              refine (HOut.out).mono ?_
              rintro e w21 ⟨rfl, rfl⟩
              go_wp2_with fail
              refine (H20.out.stack).mono ?_
              rintro e w21 ⟨rfl, rfl⟩
              go_wp2_with fail
              refine (H20.out.depth).mono ?_
              rintro e w21 ⟨rfl, rfl⟩
              rw [show ((stN base x y sx sy P 5).1.length : Int) = 0 from rfl]
              go_wp2
              go_ret
              exact ⟨rfl, G.out.2.far H20.out.mod⟩
    · obtain ⟨sx, hsx⟩ : ∃ u, u = x := ⟨_, rfl⟩
      obtain ⟨sy, hsy⟩ : ∃ u, u = y := ⟨_, rfl⟩
      obtain ⟨V6, hV⟩ : ∃ W, W = w4.alloc (.cells #[.int .i64 x, .int .i64 y] 44) := ⟨_, rfl⟩
      have h5 := H5.out
      rw [← hV] at h5
      have hl := H4.out.hold (b := w4.heap.size) h5.2.1 (Nat.le_refl _) (by have := h5.2.2; omega)
      have hp : V6.cell? ⟨w4.heap.size, 0, none⟩ = some (.int .i64 sx) ∧ V6.cell? ⟨w4.heap.size, 1, none⟩ = some (.int .i64 sy) := by rw [hsx, hsy]; exact ⟨h5.1.c0, h5.1.c1⟩
      have HL := Lib.hid hl
      have HZ := Lib.hid hp
      have HSX := Lib.hid (And.intro hsx hsy)
      have f0 := hl.mod.cell (x := ⟨w.heap.size, 0, none⟩) (by simp) O1.out.1
      have f1 := hl.mod.cell (x := ⟨w.heap.size, 1, none⟩) (by simp) O1.out.2.1
      clear hl hp hsx hsy H5 h5 H4
      go_wp2_with fail
      rw [← hV]
      clear hV
      go_cut [] (fun wx => RowKit.Hid (Lv W1 wx a [(w4.heap.size, V6.heap[w4.heap.size]?)] [x, y] (muB base)))
      case first =>
        have mD : Mod [] V6 V6.drew := (Mod.refl [] V6).drew
        have mA : Mod [] V6 (V6.alloc (.cells #[.int .i64 x, .int .i64 y] 37)).drew := (far_alloc _ _).drew
        have HS1 := Lib.hid (HL.out.far mD).stack
        have HS2 := Lib.hid (HL.out.far mA).stack
        have HP := Lib.hid ((HL.out.far mA).put (n := 2) 2 ((sl_two V6 x y 37).mod (Mod.refl [] _).drew (by simp)) rfl (two_in HI.out.1 HI.out.2.1) (by simp))
        rw [putL_nil [x, y] (by simp)] at HP
        have d0 := mD.cell (x := ⟨w.heap.size, 0, none⟩) (by simp) f0
        have d1 := mD.cell (x := ⟨w.heap.size, 1, none⟩) (by simp) f1
        have e0 := mA.cell (x := ⟨w.heap.size, 0, none⟩) (by simp) f0
        have e1 := mA.cell (x := ⟨w.heap.size, 1, none⟩) (by simp) f1
        clear mD mA
        go_wp2_with fail
        go_region_held3 (fun W => W.cell? ⟨w.heap.size, 0, none⟩ = some (.int .i64 x) ∧ W.cell? ⟨w.heap.size, 1, none⟩ = some (.int .i64 y)) (first | with_reducible exact ⟨d0, d1⟩ | with_reducible exact ⟨e0, e1⟩ | with_reducible exact ⟨x0, x1⟩ | fail) (first | ((with_reducible refine (HS1.out).mono ?_); rintro e w7 ⟨rfl, rfl⟩) | ((with_reducible refine (HS2.out).mono ?_); rintro e w7 ⟨rfl, rfl⟩) | ((with_reducible refine (HP.out).mono ?_); rintro e w8 ⟨rfl, h8⟩; have H8 := Lib.hid h8; have x0 := h8.mod.cell (x := ⟨w.heap.size, 0, none⟩) (by simp) O1.out.1; have x1 := h8.mod.cell (x := ⟨w.heap.size, 1, none⟩) (by simp) O1.out.2.1; clear h8) | fail)
        all_goals
          go_wp2_with fail
          go_meet
          exact H8
      case rest =>
        have H7 := Lib.hid hcut.out
        clear hcut HL f0 f1
        go_wp2_with fail
        refine (H7.out.ok (R := []) (X := [x, y]) (n := 93) (by decide) rfl (ddot_uni x y base HI.out.1 HI.out.2.1 HI.out.2.2 l1 l2) (by simp) (by decide)).mono ?_
        rintro e w8 ⟨rfl, h8⟩
        have H8 := Lib.hid h8
        clear h8 H7
        go_wp2_with fail
        refine (H8.out.ok0 (n := 102) (by decide) rfl (begin_uni _) (by simp) (by simp)).mono ?_
        rintro e w9 ⟨rfl, h9⟩
        have H9 := Lib.hid (show Lv W1 w9 a [(w4.heap.size, V6.heap[w4.heap.size]?)] [] (mu1 base x y) from h9)
        clear h9 H8
        have k9 : w9.heap[w4.heap.size]? = V6.heap[w4.heap.size]? := H9.out.kept (List.mem_cons_self ..)
        have z0 := (cell_of_heap (o := 0) k9).trans HZ.out.1
        have z1 := (cell_of_heap (o := 1) k9).trans HZ.out.2
        have f1 := H9.out.mod.cell (x := ⟨w.heap.size, 1, none⟩) (by simp) O1.out.2.1
        have HIS := Lib.hid (show I64 sx ∧ I64 sy by rw [HSX.out.1, HSX.out.2]; exact ⟨HI.out.1, HI.out.2.1⟩)
        go_wp2_with fail
        go_cut [] (fun wx => RowKit.Hid (Lv W1 wx a [(w4.heap.size, V6.heap[w4.heap.size]?)] [y, sx, sy] (mu1 base x y)))
        case first =>
          have mD : Mod [] w9 w9.drew := (Mod.refl [] w9).drew
          have mA : Mod [] w9 (w9.alloc (.cells #[.int .i64 y, .int .i64 sx, .int .i64 sy] 37)).drew := (far_alloc _ _).drew
          have HS1 := Lib.hid (H9.out.far mD).stack
          have HS2 := Lib.hid (H9.out.far mA).stack
          have HP := Lib.hid ((H9.out.far mA).put (n := 3) 3 ((sl_three w9 y sx sy 37).mod (Mod.refl [] _).drew (by simp)) rfl (three_in HI.out.2.1 HIS.out.1 HIS.out.2) (by simp))
          rw [putL_nil [y, sx, sy] (by simp)] at HP
          have d0 := mD.cell (x := ⟨w.heap.size, 1, none⟩) (by simp) f1
          have d1 := mD.cell (x := ⟨w4.heap.size, 0, none⟩) (by simp) z0
          have d2 := mD.cell (x := ⟨w4.heap.size, 1, none⟩) (by simp) z1
          have e0 := mA.cell (x := ⟨w.heap.size, 1, none⟩) (by simp) f1
          have e1 := mA.cell (x := ⟨w4.heap.size, 0, none⟩) (by simp) z0
          have e2 := mA.cell (x := ⟨w4.heap.size, 1, none⟩) (by simp) z1
          clear mD mA
          go_wp2_with fail
          go_region_held3 (fun W => W.cell? ⟨w.heap.size, 1, none⟩ = some (.int .i64 y) ∧ W.cell? ⟨w4.heap.size, 0, none⟩ = some (.int .i64 sx) ∧ W.cell? ⟨w4.heap.size, 1, none⟩ = some (.int .i64 sy)) (first | with_reducible exact ⟨d0, d1, d2⟩ | with_reducible exact ⟨e0, e1, e2⟩ | with_reducible exact ⟨x0, x1, x2⟩ | fail) (first | ((with_reducible refine (HS1.out).mono ?_); rintro e w10 ⟨rfl, rfl⟩) | ((with_reducible refine (HS2.out).mono ?_); rintro e w10 ⟨rfl, rfl⟩) | ((with_reducible refine (HP.out).mono ?_); rintro e w11 ⟨rfl, h11⟩; have H11 := Lib.hid h11; have x0 := h11.mod.cell (x := ⟨w.heap.size, 1, none⟩) (by simp) O1.out.2.1; have x1 := (cell_of_heap (o := 0) (h11.kept (List.mem_cons_self ..))).trans HZ.out.1; have x2 := (cell_of_heap (o := 1) (h11.kept (List.mem_cons_self ..))).trans HZ.out.2; clear h11) | fail)
          all_goals
            go_wp2_with fail
            go_meet
            exact H11
        case rest =>
          have H12 := Lib.hid hcut.out
          clear hcut H9 z0 z1 f1 k9
          obtain ⟨P, hP, hK⟩ : ∃ P : Nat, Go.Proofs.YtegcecpmdgljpaaGreatDoor.W sx sy = (P : Int) ∧ (if y < 0 then 45 :: (text base.toNat P ++ []) else text base.toNat P ++ []) = signed base.toNat (Go.Proofs.YtegcecpmdgljpaaGreatDoor.W x y).toNat (V x y) := by
            have hb := W_bd x y
            refine ⟨(Go.Proofs.YtegcecpmdgljpaaGreatDoor.W x y).toNat, by rw [HSX.out.1, HSX.out.2]; omega, ?_⟩
            have hy' : ¬ y < 0 := by omega
            have hv : ¬ V x y < 0 := fun h => hy' ((V_neg x y HI.out.1 HI.out.2.1).1 h)
            unfold signed
            rw [if_neg hy', if_neg hv, List.append_nil]
          have HPK := Lib.hid (And.intro hP (And.intro hK (And.intro l1 l2)))
          obtain ⟨W13, hW13⟩ : ∃ W, W = wc.alloc (.cells #[.int .i64 104, .int .i64 32, .int .i64 106, .int .i64 107, .int .i64 98] 3) := ⟨_, rfl⟩
          have hcs : ∀ j, j < 5 → W13.cell? ⟨wc.heap.size, j, none⟩ = some (.int .i64 (opsN.getD j 0)) := fun j hj => by
            rw [hW13, World.cell?_alloc_new]
            rcases (show j = 0 ∨ j = 1 ∨ j = 2 ∨ j = 3 ∨ j = 4 by omega) with rfl | rfl | rfl | rfl | rfl <;> rfl
          have h13 := H12.out.hold (w' := W13) (b := wc.heap.size) (by rw [hW13]; exact far_alloc _ _) (Nat.le_refl _) (by rw [hW13, size_alloc]; omega)
          have HCS := Lib.hid hcs
          have H13 := Lib.hid (show Lv W1 W13 a [(wc.heap.size, W13.heap[wc.heap.size]?), (w4.heap.size, V6.heap[w4.heap.size]?)] (stN base x y sx sy P 0).1 (stN base x y sx sy P 0).2 from h13)
          clear hP hK h13 hcs H12 HZ HSX hy l1 l2
          go_wp2_with fail
          rw [← hW13]
          clear hW13
          go_loopw [106] (fun i wr => ∃ j : Nat, j ≤ 5 ∧ i = .int .i64 (j : Int) ∧ RowKit.Hid (Lv W1 wr a [(wc.heap.size, W13.heap[wc.heap.size]?), (w4.heap.size, V6.heap[w4.heap.size]?)] (stN base x y sx sy P j).1 (stN base x y sx sy P j).2)) (fun i _ => 5 - (intOf i).toNat)
          case atStart => exact ⟨0, by omega, rfl, H13⟩
          case round =>
            obtain ⟨j, hj, rfl, HJ⟩ := hrel
            clear H13
            by_cases hlt : j < 5
            · have hc := (cell_of_heap (o := j) (HJ.out.kept (List.mem_cons_self ..))).trans (HCS.out j hlt)
              have HD := Lib.hid (num_step base x y sx sy P HI.out.2.1 HIS.out.1 HIS.out.2 HI.out.2.2 HPK.out.2.2.1 HPK.out.2.2.2 HPK.out.1 j hlt HJ.out)
              obtain ⟨op, hop⟩ : ∃ op, op = opsN.getD j 0 := ⟨_, rfl⟩
              rw [← hop] at hc HD
              have h1 : (0 : Int) ≤ (j : Int) := by omega
              have h2 : (j : Int) < 5 := by omega
              clear hop HJ
              go_wp2_with fail
              refine (HD.out).mono ?_
              rintro e wn ⟨rfl, hn⟩
              have HN := Lib.hid hn
              clear hn HD
              go_wp2_with fail
              exact ⟨⟨j + 1, hlt, by simp, HN⟩, by simp [intOf]; omega⟩
            · obtain rfl : j = 5 := by omega
              have d0 := HJ.out.mod.cell (x := ⟨w.heap.size, 0, none⟩) (by simp) O1.out.1
              have d1 := HJ.out.mod.cell (x := ⟨w.heap.size, 1, none⟩) (by simp) O1.out.2.1
              have hW0 := W_bd x y
              have HG := Lib.hid (rsigned_calls wr x y base HI.out.1 HI.out.2.1 (Go.Proofs.YtegcecpmdgljpaaGreatDoor.W x y).toNat base.toNat (by omega) (by have := HPK.out.2.2.1; omega) (by have := HPK.out.2.2.1; omega) (by have := HPK.out.2.2.2; omega) wr (Ext.refl wr))
              have hl := signed_len13 base.toNat x y HI.out.1 HI.out.2.1 (by have := HPK.out.2.2.1; omega)
              have hO := num_out base x y P HI.out.1 HI.out.2.1 HPK.out.2.2.1 HPK.out.2.1
              obtain ⟨S1, hS1⟩ : ∃ S, S = bytes (signed base.toNat (Go.Proofs.YtegcecpmdgljpaaGreatDoor.W x y).toNat (V x y)) := ⟨_, rfl⟩
              have hs1 : S1.size ≤ 129 := by rw [hS1]; show (str _).size ≤ 129; rw [str_size]; exact hl
              rw [← hS1] at HG hO
              have k1 : (⟨#[32]⟩ : ByteArray).size = 1 := rfl
              have hadd1 := fun V' => run_string_add_sum (P := Tryz.prog) V' S1 ⟨#[32]⟩ (by omega)
              have hadd2 := fun V' => run_string_add_sum (P := Tryz.prog) V' (S1 ++ ⟨#[32]⟩) S1 (by rw [ByteArray.size_append]; omega)
              obtain ⟨S2, hS2⟩ : ∃ S : ByteArray, S = S1 ++ ⟨#[32]⟩ := ⟨_, rfl⟩
              rw [← hS2] at hadd1 hadd2 hO
              obtain ⟨S3, hS3⟩ : ∃ S : ByteArray, S = S2 ++ S1 := ⟨_, rfl⟩
              rw [← hS3] at hadd2 hO
              have HOO := Lib.hid hO
              clear hW0 hl hO hS1 hs1 k1 hS2 hS3
              go_wp2_with fail
              refine (HG.out).mono ?_
              rintro e w20 ⟨rfl, hx20⟩
              have H20 := Lib.hid (HJ.out.far (Mod.of_below hx20.1))
              clear hx20 HG HJ
              have HOut := Lib.hid (show Calls Tryz.prog 18 #[Pt a.s] w20 fun e w' => e = .returned (.string S3) ∧ w20 = w' by
                have := H20.out.out
                rw [show str (stN base x y sx sy P 5).2.O = S3 from HOO.out] at this
                exact this)
              go_wp2_with fail
              refine (HOut.out).mono ?_
              rintro e w21 ⟨rfl, rfl⟩
              go_wp2_with fail
              refine (H20.out.stack).mono ?_
              rintro e w21 ⟨rfl, rfl⟩
              go_wp2_with fail
              refine (H20.out.depth).mono ?_
              rintro e w21 ⟨rfl, rfl⟩
              rw [show ((stN base x y sx sy P 5).1.length : Int) = 0 from rfl]
              go_wp2
              go_ret
              exact ⟨rfl, G.out.2.far H20.out.mod⟩
  · have HR := Lib.hid hr
    by_cases l1 : 2 ≤ base
    · have l2 : ¬ base ≤ 36 := fun h => hr ⟨l1, h⟩
      clear hr
      go_wp2_with fail
      refine (H2.out.stack).mono ?_
      rintro e w3 ⟨rfl, rfl⟩
      go_wp2_with fail
      refine ((H2.out.far (far_alloc _ _)).put 2 (sl_two _ _ _ _) rfl (two_in HI.out.2.2 zero_i64) (by simp)).mono ?_
      rintro e w3 ⟨rfl, h3⟩
      rw [putL_nil [base, 0] (by simp)] at h3
      have H3 := Lib.hid h3
      clear h3 H2
      go_wp2_with fail
      refine (H3.out.ok (R := []) (X := [base, 0]) (n := 74) (by decide) rfl (putbase base HI.out.2.2) (by simp) (by decide)).mono ?_
      rintro e w4 ⟨rfl, h4⟩
      have hb := h4.base
      rw [(muB_out base HI.out.2.2 HR.out).1, (muB_out base HI.out.2.2 HR.out).2] at hb
      have HB := Lib.hid hb
      have H4 := Lib.hid (show Lv W1 w4 a [] [] (muB base) from h4)
      clear h4 H3 hb
      go_wp2_with fail
      refine (HB.out).mono ?_
      rintro e w5 ⟨rfl, rfl⟩
      clear HB
      obtain ⟨o5, A5, s5⟩ := pair_block w4 x y
      have m5 := H4.out.mod.far A5
      have c0 := m5.cell (x := ⟨w.heap.size, 0, none⟩) (by simp) O1.out.1
      have c1 := m5.cell (x := ⟨w.heap.size, 1, none⟩) (by simp) O1.out.2.1
      have d0 := H4.out.mod.cell (x := ⟨w.heap.size, 0, none⟩) (by simp) O1.out.1
      have d1 := H4.out.mod.cell (x := ⟨w.heap.size, 1, none⟩) (by simp) O1.out.2.1
      have H5 := Lib.hid (And.intro o5 (And.intro A5 s5))
      clear o5 A5 s5 m5
      by_cases hy : y < 0
      · go_wp2_with fail
        refine (rneg_calls _ x y HI.out.1 HI.out.2.1 _ (Ext.refl _)).mono ?_
        rintro e w6 ⟨rfl, hx6⟩
        have o6 := H5.out.1.ext hx6
        obtain ⟨sx, hsx⟩ : ∃ u, u = lo (-V x y) := ⟨_, rfl⟩
        obtain ⟨sy, hsy⟩ : ∃ u, u = hi (-V x y) := ⟨_, rfl⟩
        rw [← hsx, ← hsy]
        have hp := put2_cells o6 (.int .i64 sx) (.int .i64 sy)
        have hl := H4.out.own (b := w4.heap.size) (Nat.le_refl _) (H5.out.2.1.far (Mod.of_below hx6.1)) (by have := H5.out.2.2; have := (Mod.of_below hx6.1).size; omega) (set2_mod w6 w4.heap.size (.int .i64 sx) (.int .i64 sy))
        obtain ⟨t0, t1, t2, t3, _⟩ := o6
        obtain ⟨V6, hV⟩ : ∃ W, W = (w6.setCell ⟨w4.heap.size, 0, none⟩ (.int .i64 sx)).setCell ⟨w4.heap.size, 1, none⟩ (.int .i64 sy) := ⟨_, rfl⟩
        rw [← hV] at hp hl
        have HL := Lib.hid hl
        have HZ := Lib.hid hp
        have HSX := Lib.hid (And.intro hsx hsy)
        have f0 := hl.mod.cell (x := ⟨w.heap.size, 0, none⟩) (by simp) O1.out.1
        have f1 := hl.mod.cell (x := ⟨w.heap.size, 1, none⟩) (by simp) O1.out.2.1
        clear hl hp hsx hsy H5 hx6 H4
        go_upto_region 2 with fail
        rw [← hV]
        clear hV
        go_cut [] (fun wx => RowKit.Hid (Lv W1 wx a [(w4.heap.size, V6.heap[w4.heap.size]?)] [x, y] (muB base)))
        case first =>
          have mD : Mod [] V6 V6.drew := (Mod.refl [] V6).drew
          have mA : Mod [] V6 (V6.alloc (.cells #[.int .i64 x, .int .i64 y] 37)).drew := (far_alloc _ _).drew
          have HS1 := Lib.hid (HL.out.far mD).stack
          have HS2 := Lib.hid (HL.out.far mA).stack
          have HP := Lib.hid ((HL.out.far mA).put (n := 2) 2 ((sl_two V6 x y 37).mod (Mod.refl [] _).drew (by simp)) rfl (two_in HI.out.1 HI.out.2.1) (by simp))
          rw [putL_nil [x, y] (by simp)] at HP
          have d0 := mD.cell (x := ⟨w.heap.size, 0, none⟩) (by simp) f0
          have d1 := mD.cell (x := ⟨w.heap.size, 1, none⟩) (by simp) f1
          have e0 := mA.cell (x := ⟨w.heap.size, 0, none⟩) (by simp) f0
          have e1 := mA.cell (x := ⟨w.heap.size, 1, none⟩) (by simp) f1
          clear mD mA
          go_wp2_with fail
          go_region_held3 (fun W => W.cell? ⟨w.heap.size, 0, none⟩ = some (.int .i64 x) ∧ W.cell? ⟨w.heap.size, 1, none⟩ = some (.int .i64 y)) (first | with_reducible exact ⟨d0, d1⟩ | with_reducible exact ⟨e0, e1⟩ | with_reducible exact ⟨x0, x1⟩ | fail) (first | ((with_reducible refine (HS1.out).mono ?_); rintro e w7 ⟨rfl, rfl⟩) | ((with_reducible refine (HS2.out).mono ?_); rintro e w7 ⟨rfl, rfl⟩) | ((with_reducible refine (HP.out).mono ?_); rintro e w8 ⟨rfl, h8⟩; have H8 := Lib.hid h8; have x0 := h8.mod.cell (x := ⟨w.heap.size, 0, none⟩) (by simp) O1.out.1; have x1 := h8.mod.cell (x := ⟨w.heap.size, 1, none⟩) (by simp) O1.out.2.1; clear h8) | fail)
          all_goals
            go_wp2_with fail
            go_meet
            exact H8
        case rest =>
          have H7 := Lib.hid hcut.out
          clear hcut HL f0 f1 HZ HSX
          go_wp2_with fail
          refine (H7.out.err (R := []) (X := [x, y]) (n := 93) (by decide) rfl (ddot_no x y base HI.out.2.2 HR.out) (by decide) (by simp) (by decide)).mono ?_
          rintro e w8 ⟨rfl, h8⟩
          have H8 := Lib.hid (show Lv W1 w8 a [(w4.heap.size, V6.heap[w4.heap.size]?)] [x, y] (muB base) from h8)
          clear h8 H7
          go_wp2_with fail
          refine (H8.out.out).mono ?_
          rintro e w9 ⟨rfl, rfl⟩
          rw [show str (muB base).O = ⟨#[]⟩ from rfl]
          go_wp2_with fail
          refine (H8.out.stack).mono ?_
          rintro e w9 ⟨rfl, rfl⟩
          go_wp2_with fail
          refine (H8.out.depth).mono ?_
          rintro e w9 ⟨rfl, rfl⟩
          rw [show (([x, y] : List Int).length : Int) = 2 from rfl]
          go_wp2
          go_ret
          exact ⟨rfl, G.out.2.far H8.out.mod⟩
      · obtain ⟨sx, hsx⟩ : ∃ u, u = x := ⟨_, rfl⟩
        obtain ⟨sy, hsy⟩ : ∃ u, u = y := ⟨_, rfl⟩
        obtain ⟨V6, hV⟩ : ∃ W, W = w4.alloc (.cells #[.int .i64 x, .int .i64 y] 44) := ⟨_, rfl⟩
        have h5 := H5.out
        rw [← hV] at h5
        have hl := H4.out.hold (b := w4.heap.size) h5.2.1 (Nat.le_refl _) (by have := h5.2.2; omega)
        have hp : V6.cell? ⟨w4.heap.size, 0, none⟩ = some (.int .i64 sx) ∧ V6.cell? ⟨w4.heap.size, 1, none⟩ = some (.int .i64 sy) := by rw [hsx, hsy]; exact ⟨h5.1.c0, h5.1.c1⟩
        have HL := Lib.hid hl
        have HZ := Lib.hid hp
        have HSX := Lib.hid (And.intro hsx hsy)
        have f0 := hl.mod.cell (x := ⟨w.heap.size, 0, none⟩) (by simp) O1.out.1
        have f1 := hl.mod.cell (x := ⟨w.heap.size, 1, none⟩) (by simp) O1.out.2.1
        clear hl hp hsx hsy H5 h5 H4
        go_wp2_with fail
        rw [← hV]
        clear hV
        go_cut [] (fun wx => RowKit.Hid (Lv W1 wx a [(w4.heap.size, V6.heap[w4.heap.size]?)] [x, y] (muB base)))
        case first =>
          have mD : Mod [] V6 V6.drew := (Mod.refl [] V6).drew
          have mA : Mod [] V6 (V6.alloc (.cells #[.int .i64 x, .int .i64 y] 37)).drew := (far_alloc _ _).drew
          have HS1 := Lib.hid (HL.out.far mD).stack
          have HS2 := Lib.hid (HL.out.far mA).stack
          have HP := Lib.hid ((HL.out.far mA).put (n := 2) 2 ((sl_two V6 x y 37).mod (Mod.refl [] _).drew (by simp)) rfl (two_in HI.out.1 HI.out.2.1) (by simp))
          rw [putL_nil [x, y] (by simp)] at HP
          have d0 := mD.cell (x := ⟨w.heap.size, 0, none⟩) (by simp) f0
          have d1 := mD.cell (x := ⟨w.heap.size, 1, none⟩) (by simp) f1
          have e0 := mA.cell (x := ⟨w.heap.size, 0, none⟩) (by simp) f0
          have e1 := mA.cell (x := ⟨w.heap.size, 1, none⟩) (by simp) f1
          clear mD mA
          go_wp2_with fail
          go_region_held3 (fun W => W.cell? ⟨w.heap.size, 0, none⟩ = some (.int .i64 x) ∧ W.cell? ⟨w.heap.size, 1, none⟩ = some (.int .i64 y)) (first | with_reducible exact ⟨d0, d1⟩ | with_reducible exact ⟨e0, e1⟩ | with_reducible exact ⟨x0, x1⟩ | fail) (first | ((with_reducible refine (HS1.out).mono ?_); rintro e w7 ⟨rfl, rfl⟩) | ((with_reducible refine (HS2.out).mono ?_); rintro e w7 ⟨rfl, rfl⟩) | ((with_reducible refine (HP.out).mono ?_); rintro e w8 ⟨rfl, h8⟩; have H8 := Lib.hid h8; have x0 := h8.mod.cell (x := ⟨w.heap.size, 0, none⟩) (by simp) O1.out.1; have x1 := h8.mod.cell (x := ⟨w.heap.size, 1, none⟩) (by simp) O1.out.2.1; clear h8) | fail)
          all_goals
            go_wp2_with fail
            go_meet
            exact H8
        case rest =>
          have H7 := Lib.hid hcut.out
          clear hcut HL f0 f1 HZ HSX
          go_wp2_with fail
          refine (H7.out.err (R := []) (X := [x, y]) (n := 93) (by decide) rfl (ddot_no x y base HI.out.2.2 HR.out) (by decide) (by simp) (by decide)).mono ?_
          rintro e w8 ⟨rfl, h8⟩
          have H8 := Lib.hid (show Lv W1 w8 a [(w4.heap.size, V6.heap[w4.heap.size]?)] [x, y] (muB base) from h8)
          clear h8 H7
          go_wp2_with fail
          refine (H8.out.out).mono ?_
          rintro e w9 ⟨rfl, rfl⟩
          rw [show str (muB base).O = ⟨#[]⟩ from rfl]
          go_wp2_with fail
          refine (H8.out.stack).mono ?_
          rintro e w9 ⟨rfl, rfl⟩
          go_wp2_with fail
          refine (H8.out.depth).mono ?_
          rintro e w9 ⟨rfl, rfl⟩
          rw [show (([x, y] : List Int).length : Int) = 2 from rfl]
          go_wp2
          go_ret
          exact ⟨rfl, G.out.2.far H8.out.mod⟩
    · clear hr
      go_wp2_with fail
      refine (H2.out.stack).mono ?_
      rintro e w3 ⟨rfl, rfl⟩
      go_wp2_with fail
      refine ((H2.out.far (far_alloc _ _)).put 2 (sl_two _ _ _ _) rfl (two_in HI.out.2.2 zero_i64) (by simp)).mono ?_
      rintro e w3 ⟨rfl, h3⟩
      rw [putL_nil [base, 0] (by simp)] at h3
      have H3 := Lib.hid h3
      clear h3 H2
      go_wp2_with fail
      refine (H3.out.ok (R := []) (X := [base, 0]) (n := 74) (by decide) rfl (putbase base HI.out.2.2) (by simp) (by decide)).mono ?_
      rintro e w4 ⟨rfl, h4⟩
      have hb := h4.base
      rw [(muB_out base HI.out.2.2 HR.out).1, (muB_out base HI.out.2.2 HR.out).2] at hb
      have HB := Lib.hid hb
      have H4 := Lib.hid (show Lv W1 w4 a [] [] (muB base) from h4)
      clear h4 H3 hb
      go_wp2_with fail
      refine (HB.out).mono ?_
      rintro e w5 ⟨rfl, rfl⟩
      clear HB
      obtain ⟨o5, A5, s5⟩ := pair_block w4 x y
      have m5 := H4.out.mod.far A5
      have c0 := m5.cell (x := ⟨w.heap.size, 0, none⟩) (by simp) O1.out.1
      have c1 := m5.cell (x := ⟨w.heap.size, 1, none⟩) (by simp) O1.out.2.1
      have d0 := H4.out.mod.cell (x := ⟨w.heap.size, 0, none⟩) (by simp) O1.out.1
      have d1 := H4.out.mod.cell (x := ⟨w.heap.size, 1, none⟩) (by simp) O1.out.2.1
      have H5 := Lib.hid (And.intro o5 (And.intro A5 s5))
      clear o5 A5 s5 m5
      by_cases hy : y < 0
      · go_wp2_with fail
        refine (rneg_calls _ x y HI.out.1 HI.out.2.1 _ (Ext.refl _)).mono ?_
        rintro e w6 ⟨rfl, hx6⟩
        have o6 := H5.out.1.ext hx6
        obtain ⟨sx, hsx⟩ : ∃ u, u = lo (-V x y) := ⟨_, rfl⟩
        obtain ⟨sy, hsy⟩ : ∃ u, u = hi (-V x y) := ⟨_, rfl⟩
        rw [← hsx, ← hsy]
        have hp := put2_cells o6 (.int .i64 sx) (.int .i64 sy)
        have hl := H4.out.own (b := w4.heap.size) (Nat.le_refl _) (H5.out.2.1.far (Mod.of_below hx6.1)) (by have := H5.out.2.2; have := (Mod.of_below hx6.1).size; omega) (set2_mod w6 w4.heap.size (.int .i64 sx) (.int .i64 sy))
        obtain ⟨t0, t1, t2, t3, _⟩ := o6
        obtain ⟨V6, hV⟩ : ∃ W, W = (w6.setCell ⟨w4.heap.size, 0, none⟩ (.int .i64 sx)).setCell ⟨w4.heap.size, 1, none⟩ (.int .i64 sy) := ⟨_, rfl⟩
        rw [← hV] at hp hl
        have HL := Lib.hid hl
        have HZ := Lib.hid hp
        have HSX := Lib.hid (And.intro hsx hsy)
        have f0 := hl.mod.cell (x := ⟨w.heap.size, 0, none⟩) (by simp) O1.out.1
        have f1 := hl.mod.cell (x := ⟨w.heap.size, 1, none⟩) (by simp) O1.out.2.1
        clear hl hp hsx hsy H5 hx6 H4
        go_upto_region 2 with fail
        rw [← hV]
        clear hV
        go_cut [] (fun wx => RowKit.Hid (Lv W1 wx a [(w4.heap.size, V6.heap[w4.heap.size]?)] [x, y] (muB base)))
        case first =>
          have mD : Mod [] V6 V6.drew := (Mod.refl [] V6).drew
          have mA : Mod [] V6 (V6.alloc (.cells #[.int .i64 x, .int .i64 y] 37)).drew := (far_alloc _ _).drew
          have HS1 := Lib.hid (HL.out.far mD).stack
          have HS2 := Lib.hid (HL.out.far mA).stack
          have HP := Lib.hid ((HL.out.far mA).put (n := 2) 2 ((sl_two V6 x y 37).mod (Mod.refl [] _).drew (by simp)) rfl (two_in HI.out.1 HI.out.2.1) (by simp))
          rw [putL_nil [x, y] (by simp)] at HP
          have d0 := mD.cell (x := ⟨w.heap.size, 0, none⟩) (by simp) f0
          have d1 := mD.cell (x := ⟨w.heap.size, 1, none⟩) (by simp) f1
          have e0 := mA.cell (x := ⟨w.heap.size, 0, none⟩) (by simp) f0
          have e1 := mA.cell (x := ⟨w.heap.size, 1, none⟩) (by simp) f1
          clear mD mA
          go_wp2_with fail
          go_region_held3 (fun W => W.cell? ⟨w.heap.size, 0, none⟩ = some (.int .i64 x) ∧ W.cell? ⟨w.heap.size, 1, none⟩ = some (.int .i64 y)) (first | with_reducible exact ⟨d0, d1⟩ | with_reducible exact ⟨e0, e1⟩ | with_reducible exact ⟨x0, x1⟩ | fail) (first | ((with_reducible refine (HS1.out).mono ?_); rintro e w7 ⟨rfl, rfl⟩) | ((with_reducible refine (HS2.out).mono ?_); rintro e w7 ⟨rfl, rfl⟩) | ((with_reducible refine (HP.out).mono ?_); rintro e w8 ⟨rfl, h8⟩; have H8 := Lib.hid h8; have x0 := h8.mod.cell (x := ⟨w.heap.size, 0, none⟩) (by simp) O1.out.1; have x1 := h8.mod.cell (x := ⟨w.heap.size, 1, none⟩) (by simp) O1.out.2.1; clear h8) | fail)
          all_goals
            go_wp2_with fail
            go_meet
            exact H8
        case rest =>
          have H7 := Lib.hid hcut.out
          clear hcut HL f0 f1 HZ HSX
          go_wp2_with fail
          refine (H7.out.err (R := []) (X := [x, y]) (n := 93) (by decide) rfl (ddot_no x y base HI.out.2.2 HR.out) (by decide) (by simp) (by decide)).mono ?_
          rintro e w8 ⟨rfl, h8⟩
          have H8 := Lib.hid (show Lv W1 w8 a [(w4.heap.size, V6.heap[w4.heap.size]?)] [x, y] (muB base) from h8)
          clear h8 H7
          go_wp2_with fail
          refine (H8.out.out).mono ?_
          rintro e w9 ⟨rfl, rfl⟩
          rw [show str (muB base).O = ⟨#[]⟩ from rfl]
          go_wp2_with fail
          refine (H8.out.stack).mono ?_
          rintro e w9 ⟨rfl, rfl⟩
          go_wp2_with fail
          refine (H8.out.depth).mono ?_
          rintro e w9 ⟨rfl, rfl⟩
          rw [show (([x, y] : List Int).length : Int) = 2 from rfl]
          go_wp2
          go_ret
          exact ⟨rfl, G.out.2.far H8.out.mod⟩
      · obtain ⟨sx, hsx⟩ : ∃ u, u = x := ⟨_, rfl⟩
        obtain ⟨sy, hsy⟩ : ∃ u, u = y := ⟨_, rfl⟩
        obtain ⟨V6, hV⟩ : ∃ W, W = w4.alloc (.cells #[.int .i64 x, .int .i64 y] 44) := ⟨_, rfl⟩
        have h5 := H5.out
        rw [← hV] at h5
        have hl := H4.out.hold (b := w4.heap.size) h5.2.1 (Nat.le_refl _) (by have := h5.2.2; omega)
        have hp : V6.cell? ⟨w4.heap.size, 0, none⟩ = some (.int .i64 sx) ∧ V6.cell? ⟨w4.heap.size, 1, none⟩ = some (.int .i64 sy) := by rw [hsx, hsy]; exact ⟨h5.1.c0, h5.1.c1⟩
        have HL := Lib.hid hl
        have HZ := Lib.hid hp
        have HSX := Lib.hid (And.intro hsx hsy)
        have f0 := hl.mod.cell (x := ⟨w.heap.size, 0, none⟩) (by simp) O1.out.1
        have f1 := hl.mod.cell (x := ⟨w.heap.size, 1, none⟩) (by simp) O1.out.2.1
        clear hl hp hsx hsy H5 h5 H4
        go_wp2_with fail
        rw [← hV]
        clear hV
        go_cut [] (fun wx => RowKit.Hid (Lv W1 wx a [(w4.heap.size, V6.heap[w4.heap.size]?)] [x, y] (muB base)))
        case first =>
          have mD : Mod [] V6 V6.drew := (Mod.refl [] V6).drew
          have mA : Mod [] V6 (V6.alloc (.cells #[.int .i64 x, .int .i64 y] 37)).drew := (far_alloc _ _).drew
          have HS1 := Lib.hid (HL.out.far mD).stack
          have HS2 := Lib.hid (HL.out.far mA).stack
          have HP := Lib.hid ((HL.out.far mA).put (n := 2) 2 ((sl_two V6 x y 37).mod (Mod.refl [] _).drew (by simp)) rfl (two_in HI.out.1 HI.out.2.1) (by simp))
          rw [putL_nil [x, y] (by simp)] at HP
          have d0 := mD.cell (x := ⟨w.heap.size, 0, none⟩) (by simp) f0
          have d1 := mD.cell (x := ⟨w.heap.size, 1, none⟩) (by simp) f1
          have e0 := mA.cell (x := ⟨w.heap.size, 0, none⟩) (by simp) f0
          have e1 := mA.cell (x := ⟨w.heap.size, 1, none⟩) (by simp) f1
          clear mD mA
          go_wp2_with fail
          go_region_held3 (fun W => W.cell? ⟨w.heap.size, 0, none⟩ = some (.int .i64 x) ∧ W.cell? ⟨w.heap.size, 1, none⟩ = some (.int .i64 y)) (first | with_reducible exact ⟨d0, d1⟩ | with_reducible exact ⟨e0, e1⟩ | with_reducible exact ⟨x0, x1⟩ | fail) (first | ((with_reducible refine (HS1.out).mono ?_); rintro e w7 ⟨rfl, rfl⟩) | ((with_reducible refine (HS2.out).mono ?_); rintro e w7 ⟨rfl, rfl⟩) | ((with_reducible refine (HP.out).mono ?_); rintro e w8 ⟨rfl, h8⟩; have H8 := Lib.hid h8; have x0 := h8.mod.cell (x := ⟨w.heap.size, 0, none⟩) (by simp) O1.out.1; have x1 := h8.mod.cell (x := ⟨w.heap.size, 1, none⟩) (by simp) O1.out.2.1; clear h8) | fail)
          all_goals
            go_wp2_with fail
            go_meet
            exact H8
        case rest =>
          have H7 := Lib.hid hcut.out
          clear hcut HL f0 f1 HZ HSX
          go_wp2_with fail
          refine (H7.out.err (R := []) (X := [x, y]) (n := 93) (by decide) rfl (ddot_no x y base HI.out.2.2 HR.out) (by decide) (by simp) (by decide)).mono ?_
          rintro e w8 ⟨rfl, h8⟩
          have H8 := Lib.hid (show Lv W1 w8 a [(w4.heap.size, V6.heap[w4.heap.size]?)] [x, y] (muB base) from h8)
          clear h8 H7
          go_wp2_with fail
          refine (H8.out.out).mono ?_
          rintro e w9 ⟨rfl, rfl⟩
          rw [show str (muB base).O = ⟨#[]⟩ from rfl]
          go_wp2_with fail
          refine (H8.out.stack).mono ?_
          rintro e w9 ⟨rfl, rfl⟩
          go_wp2_with fail
          refine (H8.out.depth).mono ?_
          rintro e w9 ⟨rfl, rfl⟩
          rw [show (([x, y] : List Int).length : Int) = 2 from rfl]
          go_wp2
          go_ret
          exact ⟨rfl, G.out.2.far H8.out.mod⟩
end Go.Proofs.YtegcecpmdgljpaaGreatDoor
