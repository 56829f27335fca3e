/- Layer 14: FrameRows. No condition. -/
import Derived.Test.YtacmidlhfcnkiaaGY
namespace Go.Proofs.Ytacmidlhfcnkiaa
open Go.RowKit Go.ChangeShapes Go.WideShapes
set_option linter.unusedVariables false

theorem push_few {L : List Fm} (h : L.length < 128) (q : Fm) : pushE L = 0 ∧ pushL L q = L ++ [q] := by
  unfold pushE pushL
  have : ¬ 128 ≤ L.length := by omega
  rw [if_neg this, if_neg this]
  exact ⟨rfl, rfl⟩
theorem pop_take {O : List (Fm × Value)} {i : Nat} (hi : i < O.length) : (topK O[i].1.k ((O.take (i + 1)).map Prod.fst)).getD zF = O[i].1 ∧ errK O[i].1.k (-6) ((O.take (i + 1)).map Prod.fst) = 0 ∧ popL O[i].1.k ((O.take (i + 1)).map Prod.fst) = (O.take i).map Prod.fst := by
  have e : (O.take (i + 1)).map Prod.fst = (O.take i).map Prod.fst ++ [O[i].1] := by
    rw [List.take_add_one, List.getElem?_eq_getElem hi, List.map_append]
    rfl
  unfold popL errK
  rw [e, topK_snoc]
  simp
theorem cut_take {O : List (Fm × Value)} (c M : Nat) (hM : M = min c O.length) : cutL (c : Int) (O.map Prod.fst) = (O.take M).map Prod.fst := by
  unfold cutL
  rw [Int.toNat_natCast, ← List.map_take]
  congr 1
  by_cases h : c ≤ O.length
  · rw [show M = c by omega]
  · rw [List.take_of_length_le (by omega), List.take_of_length_le (by omega)]
theorem Fx.nil (w0 w : World) : Fx w0 w (.slice none 0 0) [] := ⟨World.ownsRow_nil _ _ _ _, (fun g hg => by cases hg), by simp, by simp⟩
set_option maxRecDepth 100000 in
set_option maxHeartbeats 8000000 in
theorem rows_walk (w : World) (A : Option Addr) (len cap : Nat) (R : FramesIn w A len cap) (keep : Int) (hk : (Lit.int .u8 keep).wf = true) :
    Calls Try.prog 8 #[.slice A len cap, .int .u8 keep] w fun e w' => e = .returned (.bool true) ∧ Mod [] w w' := by
  have hk2 := bounds_u8 hk
  obtain ⟨c, rfl⟩ : ∃ c : Nat, keep = (c : Int) := ⟨keep.toNat, by omega⟩
  have HL : (len : Int) ≤ 9223372036854775807 := by have := R.1; have := R.2.1; omega
  have HR := Lib.hid R
  have H0 := Lib.hid (shown_calls w)
  clear R hk
  go_enter Try.func8, Try.ntmps8
  go_wp2_with fail
  refine (H0.out).mono ?_
  rintro e w1 ⟨rfl, hm1⟩
  have H1 := Lib.hid (new_fd hm1)
  clear hm1 H0
  go_wp2_with fail
  refine (H1.out).mono ?_
  rintro e w2 ⟨p, rfl, hF, _⟩
  have HF := Lib.hid (show Fd TP w w2 p (([] : List (Fm × Value)).map Prod.fst) ((Value.slice none 0 0).ownBlock.toList ++ []) from hF)
  clear hF H1
  go_wp2_with fail
  go_loopw [7, 22] (fun v z wr => ∃ (i : Nat) (O : List (Fm × Value)), z = .int .i64 (i : Int) ∧ i ≤ len ∧ RowKit.Hid (O.length = min i 60) ∧ RowKit.Hid (Fd TP w wr p (O.map Prod.fst) (v.ownBlock.toList ++ [])) ∧ RowKit.Hid (Fx w wr v O) ∧ RowKit.Hid (∀ q ∈ O, Ls w q.2 q.1.l ∧ q.1.l.length ≤ 1000)) (fun _ z _ => len - (intOf z).toNat)
  case atStart => exact ⟨0, [], rfl, by omega, Lib.hid (by simp), HF, Lib.hid (Fx.nil w w2), Lib.hid (by simp)⟩
  case round =>
    obtain ⟨i, O, rfl, hi, hN, hF, hX, hO⟩ := hrel
    obtain ⟨A7, c7, rfl, _⟩ := hX.out.slice
    obtain ⟨N, hNN⟩ : ∃ N, N = O.length := ⟨_, rfl⟩
    have HN := Lib.hid hNN
    have hN60 : N ≤ 60 := by have := hN.out; omega
    rw [← hNN] at hF hX ⊢
    clear HF hNN
    by_cases hlt : i < len
    · have hiI : (i : Int) < (len : Int) := by omega
      have hi0 : (0 : Int) ≤ (i : Int) := by omega
      obtain ⟨b, o, q, A5, l5, c5, zs, rfl, hc, hr5⟩ := HR.out.far hF.out.mod hlt
      obtain ⟨k, a, bb, x, y, l⟩ := q
      have r0 : wr.cell? ⟨b, o + i * 6, none⟩ = some (.int .i64 k) := hc 0 (by omega)
      have r1 : wr.cell? ⟨b, o + i * 6 + 1, none⟩ = some (.int .i64 a) := hc 1 (by omega)
      have r2 : wr.cell? ⟨b, o + i * 6 + 2, none⟩ = some (.int .i64 bb) := hc 2 (by omega)
      have r3 : wr.cell? ⟨b, o + i * 6 + 3, none⟩ = some (.int .i64 x) := hc 3 (by omega)
      have r4 : wr.cell? ⟨b, o + i * 6 + 4, none⟩ = some (.int .i64 y) := hc 4 (by omega)
      have r5 : wr.cell? ⟨b, o + i * 6 + 5, none⟩ = some (.slice A5 l5 c5) := hc 5 (by omega)
      obtain ⟨X5, n5, C5⟩ := hr5.came 20
      have hup := C5.h
      have hmin : min (l5 : Int) 20 = (n5 : Int) := by have := C5.e; omega
      have hn5 : (n5 : Int) ≤ 20 := by have := C5.e; omega
      have hl5 : (l5 : Int) ≤ 9223372036854775807 := by have := C5.l; have := C5.m; omega
      have HS5 := Lib.hid (show Ls w (.slice A5 n5 c5) X5 from ⟨A5, c5, by rw [C5.n], C5.a, by rw [C5.n]; exact C5.c, C5.m, C5.s⟩)
      have HX5 := Lib.hid (show X5.length ≤ 1000 by have := C5.n; have := C5.e; omega)
      clear hc hr5 C5
      by_cases h60 : i < 60
      · have h60I : (i : Int) < 60 := by omega
        have HNi := Lib.hid (show N = i by have := hN.out; have := HN.out; omega)
        have m9 := al_mod wr (.cells (cellsF ⟨k, a, bb, x, y, X5⟩ (.slice A5 n5 c5)) TF)
        have b9 := (MapKept.heap_alloc wr (.cells (cellsF ⟨k, a, bb, x, y, X5⟩ (.slice A5 n5 c5)) TF)).1
        obtain ⟨x0, x1, x2, x3, x4, x5, _⟩ := six_at b9
        have HF9 := Lib.hid (hF.out.add m9 (Nat.le_refl _) (by rw [size_allocI]; omega))
        have H10 := Lib.hid (HF9.out.push (q := ⟨k, a, bb, x, y, X5⟩) (HS5.out.far (hF.out.mod.trans m9)) HX5.out)
        have hlen : (O.map Prod.fst).length < 128 := by have := HN.out; simp; omega
        rw [(push_few hlen ⟨k, a, bb, x, y, X5⟩).1, (push_few hlen ⟨k, a, bb, x, y, X5⟩).2] at H10
        have HX9 := Lib.hid (hX.out.kp (Kp.far (D := (Value.slice A7 N c7).ownBlock.toList) m9) (fun g hg => by simp [hg]))
        have HB9 := Lib.hid b9
        obtain ⟨B, hB⟩ : ∃ B, B = wr.heap.size := ⟨_, rfl⟩
        rw [← hB] at H10 HB9
        have HBe := Lib.hid hB
        unfold frV at H10
        dsimp only [cellsF] at H10 HX9 HB9 x0 x1 x2 x3 x4 x5
        clear hB hlen m9 b9 HF9 h60 hX hF
        go_wp2_with fail
        rw [← HBe.out]
        refine (H10.out).mono ?_
        rintro e w10 ⟨rfl, hF10, kp10⟩
        have HX10 := Lib.hid (HX9.out.kp kp10 (fun g hg => by simp [hg]))
        have b10 := box_kept HB9.out kp10 (by simp)
        clear x0 x1 x2 x3 x4 x5
        obtain ⟨x0, x1, x2, x3, x4, x5, _⟩ := six_at b10
        obtain ⟨A8, c8, w8, hrun, hX8, m8, hown8⟩ := HX10.out.app hF10.mod (q := ⟨k, a, bb, x, y, X5⟩) (s := .slice A5 n5 c5) rfl (by have := HN.out; omega) 27
        have hF8 := (hF10.less (D' := (Value.slice A7 N c7).ownBlock.toList ++ []) (by simp; intro b hb; exact Or.inr hb)).grow HX10.out.new m8 hown8 (fun g hg => (World.ownsRow.lt hX8.row g hg).2)
        have HF8 := Lib.hid (show Fd TP w w8 p ((O ++ [((⟨k, a, bb, x, y, X5⟩ : Fm), Value.slice A5 n5 c5)]).map Prod.fst) ((Value.slice A8 (N + 1) c8).ownBlock.toList ++ []) by rw [List.map_append]; exact hF8)
        have HX8 := Lib.hid hX8
        have hO8 : ∀ r ∈ O ++ [((⟨k, a, bb, x, y, X5⟩ : Fm), Value.slice A5 n5 c5)], Ls w r.2 r.1.l ∧ r.1.l.length ≤ 1000 := fun r hr => by
          rcases List.mem_append.1 hr with hr | hr
          · exact hO.out r hr
          · rw [List.mem_singleton.1 hr]
            exact And.intro HS5.out HX5.out
        have HO8 := Lib.hid hO8
        clear hO8
        dsimp only [cellsF] at hrun
        clear hF10 kp10 b10 hX8 m8 hown8 hF8 H10 HX9 HB9 HX10
        go_wp2_with fail
        go_roundw
        case rel => exact ⟨i + 1, O ++ [(⟨k, a, bb, x, y, X5⟩, Value.slice A5 n5 c5)], by go_num, by omega, Lib.hid (by have := HN.out; have := HNi.out; simp; omega), HF8, HX8, HO8⟩
        case measure => simp [intOf]; omega
      · have h60I : ¬ (i : Int) < 60 := by omega
        have m9 := al_mod wr (.cells #[.int .i64 k, .int .i64 a, .int .i64 bb, .int .i64 x, .int .i64 y, .slice A5 l5 c5] TF)
        have HF9 := Lib.hid (hF.out.far m9)
        have HX9 := Lib.hid (hX.out.kp (Kp.far (D := (Value.slice A7 N c7).ownBlock.toList) m9) (fun g hg => by simp [hg]))
        clear m9 hX hF hn5 hmin hup
        go_wp2_with fail
        go_roundw
        case rel => exact ⟨i + 1, O, by go_num, by omega, Lib.hid (by have := hN.out; omega), HF9, HX9, hO⟩
        case measure => simp [intOf]; omega
    · have hiI : ¬ (i : Int) < (len : Int) := by omega
      obtain ⟨M, hM⟩ : ∃ M, M = min c N := ⟨_, rfl⟩
      have hMI : min (c : Int) (N : Int) = (M : Int) := by omega
      have hMn : M ≤ N := by omega
      have H11 := Lib.hid (hF.out.cut (c : Int))
      rw [cut_take c M (by rw [hM, HN.out])] at H11
      clear hM hlt hi hF
      go_wp2_with fail
      refine (H11.out).mono ?_
      rintro e w11 ⟨⟨r11, rfl⟩, hF11, kp11⟩
      have HX11 := Lib.hid (hX.out.kp kp11 (fun g hg => by simp [hg]))
      have HF11 := Lib.hid hF11
      have H12 := Lib.hid (hF11.depth M (by have := HN.out; simp; omega))
      clear hF11 kp11 H11 hX
      go_wp2_with fail
      refine (H12.out).mono ?_
      rintro e w12 ⟨rfl, rfl⟩
      clear H12
      go_wp2_with fail
      go_loopw [11] (fun z wr2 => ∃ m : Nat, z = .int .i64 ((m : Int) - 1) ∧ m ≤ M ∧ RowKit.Hid (Fd TP w wr2 p ((O.take m).map Prod.fst) ((Value.slice A7 N c7).ownBlock.toList ++ [])) ∧ RowKit.Hid (Fx w wr2 (.slice A7 N c7) O)) (fun z _ => (intOf z + 1).toNat)
      case atStart => exact ⟨M, rfl, by omega, HF11, HX11⟩
      case round =>
        obtain ⟨m, rfl, hm, hF, hX⟩ := hrel
        clear HF11 HX11
        by_cases hm0 : 0 < m
        · obtain ⟨j, rfl⟩ : ∃ j, m = j + 1 := ⟨m - 1, by omega⟩
          have hjO : j < O.length := by have := HN.out; omega
          have hjI : ((j + 1 : Nat) : Int) - 1 = (j : Int) := by omega
          rw [hjI]
          have HJ := Lib.hid hjI
          have hj0 : (0 : Int) ≤ (j : Int) := by omega
          have hjN : (j : Int) < (N : Int) := by omega
          obtain ⟨g, cp, e, hcc⟩ := hX.out.at_ hjO
          injection e with e1 e2 e3
          subst e1
          clear e2 e3 cp
          have hpop := pop_take hjO
          obtain ⟨hls, hl1000⟩ := hO.out O[j] (List.getElem_mem hjO)
          obtain ⟨q, hq⟩ : ∃ q : Fm × Value, q = O[j] := ⟨_, rfl⟩
          rw [← hq] at hpop hls hl1000 hcc
          have HQE := Lib.hid hq
          clear hq
          obtain ⟨⟨k, a, bb, x, y, l⟩, s⟩ := q
          dsimp only at hpop hls hl1000
          have r0 : wr.cell? ⟨g, j * 6, none⟩ = some (.int .i64 k) := hcc 0 (by omega)
          have H13 := Lib.hid (hF.out.pop k)
          rw [hpop.1, hpop.2.1, hpop.2.2] at H13
          unfold frV at H13
          dsimp only at H13
          have HCC := Lib.hid hcc
          have HLS := Lib.hid (And.intro hls hl1000)
          clear hpop hls hl1000 hcc hF
          go_wp2_with fail
          refine (H13.out).mono ?_
          rintro e w14 ⟨s14, rfl, hF14, kp14, hl14, hs14⟩
          obtain ⟨A14, c14, e14, _⟩ := hl14.ls
          obtain ⟨ln, hln⟩ : ∃ ln, ln = l.length := ⟨_, rfl⟩
          try dsimp only at e14 hl14 hs14
          rw [← hln] at e14
          subst e14
          obtain ⟨As, cs, es, _⟩ := HLS.out.1
          rw [← hln] at es
          subst es
          have m15 := al_mod w14 (.cells (cellsF ⟨k, a, bb, x, y, l⟩ (.slice A14 ln c14)) TF)
          have b15 := (MapKept.heap_alloc w14 (.cells (cellsF ⟨k, a, bb, x, y, l⟩ (.slice A14 ln c14)) TF)).1
          have hX14 := hX.out.kp kp14 (fun g hg => by simp [hg])
          have HX15 := Lib.hid (hX14.kp (Kp.far (D := (Value.slice (some ⟨g, 0, none⟩) N c7).ownBlock.toList) m15) (fun g hg => by simp [hg]))
          have HF15 := Lib.hid ((hF14.far m15).less (D' := (Value.slice (some ⟨g, 0, none⟩) N c7).ownBlock.toList ++ []) (fun b hb => List.mem_append.2 (Or.inr hb)))
          have HL15 := Lib.hid (hl14.far m15)
          obtain ⟨B, hB⟩ : ∃ B, B = w14.heap.size := ⟨_, rfl⟩
          rw [← hB] at b15
          have HBe := Lib.hid hB
          have HLN := Lib.hid hln
          dsimp only [cellsF] at HX15 HF15 HL15 b15
          clear m15 hF14 kp14 hl14 hs14 hX14 H13 r0 hB hln hX
          go_upto_region 23 with fail
          rw [← HBe.out]
          generalize w14.alloc (.cells #[.int .i64 k, .int .i64 a, .int .i64 bb, .int .i64 x, .int .i64 y, .slice A14 ln c14] TF) = w15 at HX15 HF15 HL15 b15 ⊢
          obtain ⟨x0, x1, x2, x3, x4, x5, _⟩ := six_at b15
          obtain ⟨g', cp, e, hcc⟩ := HX15.out.at_ hjO
          injection e with e1 e2 e3
          injection e1 with e1
          injection e1 with e1
          subst e1
          clear e2 e3 cp
          rw [← HQE.out] at hcc
          have y0 : w15.cell? ⟨g, j * 6, none⟩ = some (.int .i64 k) := hcc 0 (by omega)
          have y1 : w15.cell? ⟨g, j * 6 + 1, none⟩ = some (.int .i64 a) := hcc 1 (by omega)
          have y2 : w15.cell? ⟨g, j * 6 + 2, none⟩ = some (.int .i64 bb) := hcc 2 (by omega)
          have y3 : w15.cell? ⟨g, j * 6 + 3, none⟩ = some (.int .i64 x) := hcc 3 (by omega)
          have y4 : w15.cell? ⟨g, j * 6 + 4, none⟩ = some (.int .i64 y) := hcc 4 (by omega)
          have y5 : w15.cell? ⟨g, j * 6 + 5, none⟩ = some (.slice As ln cs) := hcc 5 (by omega)
          have hlO : ((O.take j).map Prod.fst).length = j := by simp; omega
          have K1 := Lib.hid (fun W (m : Mod [] w15 W) => (show Calls Try.prog 17 #[.agg #[.int .i64 k, .int .i64 a, .int .i64 bb, .int .i64 x, .int .i64 y, .slice A14 ln c14], .agg #[.int .i64 k, .int .i64 a, .int .i64 bb, .int .i64 x, .int .i64 y, .slice As ln cs]] W (fun e w' => e = .returned (.bool true) ∧ Mod [] w15 w') from
            (one_calls (q := ⟨k, a, bb, x, y, l⟩) (HL15.out.ls.far m) (HLS.out.1.far (HF15.out.mod.trans m)) (by have := HLS.out.2; dsimp only; omega)).mono fun e w' ⟨h1, h2⟩ => ⟨h1, m.trans h2⟩))
          have K2 := Lib.hid (fun W (m : Mod [] w15 W) => (show Calls Try.prog 14 #[Pt p] W (fun e w' => e = .returned (.int .i64 (j : Int)) ∧ Mod [] w15 w') from
            ((HF15.out.far m).depth j hlO).mono fun e w' ⟨h1, h2⟩ => ⟨h1, by rw [← h2]; exact m⟩))
          have KS := Lib.hid (fun V (m : Mod [] w15 V) => (show V.cell? ⟨B, 0, none⟩ = some (.int .i64 k) ∧ V.cell? ⟨B, 1, none⟩ = some (.int .i64 a) ∧ V.cell? ⟨B, 2, none⟩ = some (.int .i64 bb) ∧ V.cell? ⟨B, 3, none⟩ = some (.int .i64 x) ∧ V.cell? ⟨B, 4, none⟩ = some (.int .i64 y) ∧ V.cell? ⟨B, 5, none⟩ = some (.slice A14 ln c14) ∧ V.cell? ⟨g, j * 6, none⟩ = some (.int .i64 k) ∧ V.cell? ⟨g, j * 6 + 1, none⟩ = some (.int .i64 a) ∧ V.cell? ⟨g, j * 6 + 2, none⟩ = some (.int .i64 bb) ∧ V.cell? ⟨g, j * 6 + 3, none⟩ = some (.int .i64 x) ∧ V.cell? ⟨g, j * 6 + 4, none⟩ = some (.int .i64 y) ∧ V.cell? ⟨g, j * 6 + 5, none⟩ = some (.slice As ln cs) from
            ⟨m.cell (by simp) x0, m.cell (by simp) x1, m.cell (by simp) x2, m.cell (by simp) x3, m.cell (by simp) x4, m.cell (by simp) x5, m.cell (by simp) y0, m.cell (by simp) y1, m.cell (by simp) y2, m.cell (by simp) y3, m.cell (by simp) y4, m.cell (by simp) y5⟩))
          have hd := (Mod.refl [] w15).drew
          have hKd := Lib.hid hd
          have K1d := Lib.hid (K1.out w15.drew hd)
          clear hcc x0 x1 x2 x3 x4 x5 y0 y1 y2 y3 y4 y5 b15 hd K1
          go_region_held3 (fun V => V.cell? ⟨B, 0, none⟩ = some (.int .i64 k) ∧ V.cell? ⟨B, 1, none⟩ = some (.int .i64 a) ∧ V.cell? ⟨B, 2, none⟩ = some (.int .i64 bb) ∧ V.cell? ⟨B, 3, none⟩ = some (.int .i64 x) ∧ V.cell? ⟨B, 4, none⟩ = some (.int .i64 y) ∧ V.cell? ⟨B, 5, none⟩ = some (.slice A14 ln c14) ∧ V.cell? ⟨g, j * 6, none⟩ = some (.int .i64 k) ∧ V.cell? ⟨g, j * 6 + 1, none⟩ = some (.int .i64 a) ∧ V.cell? ⟨g, j * 6 + 2, none⟩ = some (.int .i64 bb) ∧ V.cell? ⟨g, j * 6 + 3, none⟩ = some (.int .i64 x) ∧ V.cell? ⟨g, j * 6 + 4, none⟩ = some (.int .i64 y) ∧ V.cell? ⟨g, j * 6 + 5, none⟩ = some (.slice As ln cs))
            (first | with_reducible exact KS.out _ hKd.out | with_reducible exact KS.out _ M1.out | with_reducible exact KS.out _ M2.out | fail)
            (first | ((with_reducible refine (K1d.out).mono ?_); rintro e v1 ⟨rfl, m1⟩; have M1 := Lib.hid m1; clear m1; have K2d := Lib.hid (K2.out _ M1.out)) | ((with_reducible refine (K2d.out).mono ?_); rintro e v2 ⟨rfl, m2⟩; have M2 := Lib.hid m2; clear m2) | fail)
          have HX16 := Lib.hid (HX15.out.kp (Kp.far (D := (Value.slice (some ⟨g, 0, none⟩) N c7).ownBlock.toList) M2.out) (fun g hg => by simp [hg]))
          have HF16 := Lib.hid (HF15.out.far M2.out)
          go_wp2_with fail
          go_roundw
          case rel => exact ⟨j, by go_num, by omega, HF16, HX16⟩
          case measure => simp [intOf]
        · have hm00 : m = 0 := by omega
          subst hm00
          have hz : ((0 : Nat) : Int) - 1 = -1 := by omega
          rw [hz]
          have H13 := Lib.hid hF.out.top
          rw [show topV ((O.take 0).map Prod.fst) = zF from rfl, show ((O.take 0).map Prod.fst).getLast?.isSome = false from rfl] at H13
          unfold frV zF at H13
          dsimp only at H13
          clear hF hX hm hm0 hz
          go_wp2_with fail
          refine (H13.out).mono ?_
          rintro e w14 ⟨s14, rfl, hF14, _, hl14, _⟩
          obtain ⟨A14, c14, rfl, _⟩ := hl14.ls
          have HM := Lib.hid (hF14.mod.trans (al_mod w14 (.cells #[.int .i64 0, .int .i64 0, .int .i64 0, .int .i64 0, .int .i64 0, .slice A14 ([] : List Int).length c14] TF)))
          dsimp only [List.length_nil] at HM
          clear hF14 hl14 H13
          go_wp2_with fail
          go_ret
          exact ⟨rfl, HM.out⟩
end Go.Proofs.Ytacmidlhfcnkiaa
