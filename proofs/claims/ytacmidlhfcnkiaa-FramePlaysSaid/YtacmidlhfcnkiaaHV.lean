/- Layer 14: FramePlays. No condition. -/
import Derived.Test.YtacmidlhfcnkiaaHU
namespace Go.Proofs.Ytacmidlhfcnkiaa
open Go.RowKit Go.ChangeShapes Go.WideShapes
set_option linter.unusedVariables false

set_option maxRecDepth 100000 in
set_option maxHeartbeats 16000000 in
theorem plays_of (DC : DoesOK) (w : World) (A : Option Addr) (len cap : Nat) (R : ActsIn w A len cap) :
    Calls Try.prog 3 #[.slice A len cap] w fun e w' => e = .returned (.bool true) ∧ Mod [] w w' := by
  have H0 := Lib.hid (shown_calls w)
  have HR := Lib.hid R
  have HDC := Lib.hid DC
  clear R DC
  go_enter Try.func3, Try.ntmps3
  go_wp2_with fail
  refine (H0.out).mono ?_
  rintro e w1 ⟨rfl, hm1⟩
  have H1 := Lib.hid (new_calls w1)
  have HM1 := Lib.hid hm1
  clear hm1 H0
  go_wp2_with fail
  refine (H1.out).mono ?_
  rintro e w2 ⟨p, rfl, hF, hm2, hp⟩
  have HF := Lib.hid (new_two HM1.out hF hm2 hp)
  have H3 := Lib.hid (few_calls HF.out.mod HR.out)
  clear hF hm2 hp H1
  go_wp2_with fail
  refine (H3.out).mono ?_
  rintro e w4 ⟨v, O, rfl, hX, hm4, hO⟩
  obtain ⟨A7, c7, rfl, _⟩ := hX.slice
  obtain ⟨N, hN⟩ : ∃ N, N = O.length := ⟨_, rfl⟩
  have HN := Lib.hid hN
  have hfew := hX.few
  rw [← hN] at hX hfew ⊢
  have HF4 := Lib.hid (HF.out.own hm4 (v := .slice A7 N c7) (fun g hg => ⟨hX.new g hg, (World.ownsRow.lt hX.row g hg).2⟩))
  have HX := Lib.hid hX
  have HO := Lib.hid hO
  have hN500 : (N : Int) ≤ 500 := by omega
  obtain ⟨q, hq⟩ : ∃ q, q = w2.heap.size := ⟨_, rfl⟩
  rw [← hq] at HF4 ⊢
  have HW3 := Lib.hid hm4
  clear hX hm4 hO H3 hN hq hfew HF
  go_wp2_with fail
  go_loopw [21] (fun z wr => ∃ (i : Nat) (L : List Fm), z = .int .i64 (i : Int) ∧ i ≤ N ∧ RowKit.Hid (Fp w wr p q L L ((Value.slice A7 N c7).ownBlock.toList ++ [])) ∧ RowKit.Hid (Ax (w2.alloc (.cells #[.slice none 0 0] TR)) wr (.slice A7 N c7) O)) (fun z _ => N - (intOf z).toNat)
  case atStart => exact ⟨0, [], rfl, by omega, HF4, HX⟩
  case round =>
    obtain ⟨i, L, rfl, hi, hF, hXr⟩ := hrel
    clear HF4 HX
    by_cases hlt : i < N
    · have hiI : (i : Int) < (N : Int) := by omega
      have hi0 : (0 : Int) ≤ (i : Int) := by omega
      have hiO : i < O.length := HN.out ▸ hlt
      obtain ⟨g, cp, hsl, hc⟩ := hXr.out.at_ hiO
      rw [← HN.out] at hsl
      injection hsl with e1 _ e2
      subst e1 e2
      have hgood := HO.out (O[i]'hiO) (List.getElem_mem hiO)
      obtain ⟨c, hcc⟩ : ∃ c, c = O[i]'hiO := ⟨_, rfl⟩
      rw [← hcc] at hc hgood
      have HG := Lib.hid hgood
      clear hcc hgood
      obtain ⟨u, f, s, n, x⟩ := c
      obtain ⟨A5, c5, hs5, hr5⟩ := HG.out.1
      dsimp only at hs5
      subst hs5
      clear hr5
      obtain ⟨l5, hl5⟩ : ∃ l5, l5 = f.l.length := ⟨_, rfl⟩
      rw [← hl5] at hc HG
      clear hl5
      have r0 : wr.cell? ⟨g, i * 9, none⟩ = some (.int .u8 u) := hc 0 (by omega)
      have r1 : wr.cell? ⟨g, i * 9 + 1, none⟩ = some (.int .i64 f.k) := hc 1 (by omega)
      have r2 : wr.cell? ⟨g, i * 9 + 2, none⟩ = some (.int .i64 f.a) := hc 2 (by omega)
      have r3 : wr.cell? ⟨g, i * 9 + 3, none⟩ = some (.int .i64 f.b) := hc 3 (by omega)
      have r4 : wr.cell? ⟨g, i * 9 + 4, none⟩ = some (.int .i64 f.x) := hc 4 (by omega)
      have r5 : wr.cell? ⟨g, i * 9 + 5, none⟩ = some (.int .i64 f.y) := hc 5 (by omega)
      have r6 : wr.cell? ⟨g, i * 9 + 6, none⟩ = some (.slice A5 l5 c5) := hc 6 (by omega)
      have r7 : wr.cell? ⟨g, i * 9 + 7, none⟩ = some (.int .i64 n) := hc 7 (by omega)
      have r8 : wr.cell? ⟨g, i * 9 + 8, none⟩ = some (.int .i64 x) := hc 8 (by omega)
      have m5 := al_mod wr (.cells (cellsY u f (.slice A5 l5 c5) n x) TA)
      have hsz : (wr.alloc (.cells (cellsY u f (.slice A5 l5 c5) n x) TA)).heap.size = wr.heap.size + 1 := size_allocI wr _
      have hF5 := hF.out.add m5 (b := wr.heap.size) (Nat.le_refl _) (by omega)
      have b5 := (MapKept.heap_alloc wr (.cells (cellsY u f (.slice A5 l5 c5) n x) TA)).1
      have HX5 := Lib.hid (hXr.out.far (m5.trans (Mod.refl [] (wr.alloc (.cells (cellsY u f (.slice A5 l5 c5) n x) TA))).drew))
      obtain ⟨W5, hW5⟩ : ∃ W5, W5 = wr.alloc (.cells (cellsY u f (.slice A5 l5 c5) n x) TA) := ⟨_, rfl⟩
      have HW5 := Lib.hid hW5
      rw [← hW5] at hF5 b5 HX5
      have H5 := Lib.hid (HDC.out _ _ _ _ _ _ (hF5.far (Mod.refl [] W5).drew) ⟨u, f, .slice A5 l5 c5, n, x⟩ HG.out)
      have HB5 := Lib.hid b5
      unfold Done at H5
      dsimp only at H5
      clear hF hXr hc m5 hsz hF5 b5 hW5 HR
      go_upto_region 8 with fail
      have hW5 := HW5.out
      dsimp only [cellsY] at hW5
      rw [← hW5]
      obtain ⟨d0, d1, d2, d3, d4, d5, d6, d7, d8⟩ := nine_at HB5.out
      clear hW5 HW5 r0 r1 r2 r3 r4 r5 r6 r7 r8
      refine wp_region_any (by kernel_rfl) ?_
      try (change wpAny _ _ _ _ _ _ _ (World.drew _))
      refine wpAny_take (i := 0) (v := ?_) rfl (by kernel_rfl) (by kernel_rfl) (by kernel_rfl) (fun _ _ _ h => h) (Or.inl ⟨by rfl, ?_⟩) ?_
      rotate_left 1
      · intro w; go_simp; try with_reducible rfl
      refine wpAny_take (i := 1) (v := ?_) rfl (by kernel_rfl) (by kernel_rfl) (by kernel_rfl) (fun _ _ _ h => h) (Or.inl ⟨by rfl, ?_⟩) ?_
      rotate_left 1
      · intro w; go_simp; try with_reducible rfl
      refine wpAny_ready (rs := [2]) (by kernel_rfl) (by simp) ?_
      refine AllReady.cons rfl (fun K hK => ?_) ?_
      · go_simp
        refine hK _ _ ?_; clear hK K
        refine wpAny_ready (rs := [3]) (by kernel_rfl) (by simp) ?_
        refine AllReady.cons rfl (fun K hK => ?_) ?_
        · go_simp; refine (H5.out).mono ?_; rintro e w6 ⟨rfl, hd6⟩; obtain ⟨L6, hF6, k6⟩ := hd6; obtain ⟨A6, cp6, hc6, hl6⟩ := hF6.cellR; have H7 := Lib.hid (hF6.depth L6.length rfl); have HE := Lib.hid (And.intro hF6 k6); clear hF6 k6; clear d0 d1 d2 d3 d4 d5 d6 d7 d8
          refine hK _ _ ?_; clear hK K
          refine wpAny_take (i := 4) (v := ?_) rfl (by kernel_rfl) (by kernel_rfl) (by kernel_rfl) (fun _ _ _ h => h) (Or.inl ⟨by rfl, ?_⟩) ?_
          rotate_left 1
          · intro w; go_simp; try with_reducible rfl
          refine wpAny_take (i := 5) (v := ?_) rfl (by kernel_rfl) (by kernel_rfl) (by kernel_rfl) (fun _ _ _ h => h) (Or.inl ⟨by rfl, ?_⟩) ?_
          rotate_left 1
          · intro w; go_simp; try with_reducible rfl
          refine wpAny_take (i := 6) (v := ?_) rfl (by kernel_rfl) (by kernel_rfl) (by kernel_rfl) (fun _ _ _ h => h) (Or.inl ⟨by rfl, ?_⟩) ?_
          rotate_left 1
          · intro w; go_simp; try with_reducible rfl
          refine wpAny_take (i := 8) (v := ?_) rfl (by kernel_rfl) (by kernel_rfl) (by kernel_rfl) (fun _ _ _ h => h) (Or.inl ⟨by rfl, ?_⟩) ?_
          rotate_left 1
          · intro w; go_simp; try with_reducible rfl
          refine wpAny_take (i := 9) (v := ?_) rfl (by kernel_rfl) (by kernel_rfl) (by kernel_rfl) (fun _ _ _ h => h) (Or.inl ⟨by rfl, ?_⟩) ?_
          rotate_left 1
          · intro w; go_simp; try with_reducible rfl
          refine wpAny_take (i := 10) (v := ?_) rfl (by kernel_rfl) (by kernel_rfl) (by kernel_rfl) (fun _ _ _ h => h) (Or.inl ⟨by rfl, ?_⟩) ?_
          rotate_left 1
          · intro w; go_simp; try with_reducible rfl
          refine wpAny_ready (rs := [7, 11]) (by kernel_rfl) (by simp) ?_
          refine AllReady.cons rfl (fun K hK => ?_) ?_
          · go_simp; refine (H7.out).mono ?_; rintro e w7 ⟨rfl, rfl⟩
            refine hK _ _ ?_; clear hK K
            refine wpAny_ready (rs := [11]) (by kernel_rfl) (by simp) ?_
            refine AllReady.cons rfl (fun K hK => ?_) ?_
            · go_simp
              refine hK _ _ ?_; clear hK K
              refine wpAny_ready (rs := [12]) (by kernel_rfl) (by simp) ?_
              refine AllReady.cons rfl (fun K hK => ?_) ?_
              · go_simp
                refine hK _ _ ?_; clear hK K
                refine wpAny_take (i := 13) (v := ?_) rfl (by kernel_rfl) (by kernel_rfl) (by kernel_rfl) (fun _ _ _ h => h) (Or.inl ⟨by rfl, ?_⟩) ?_
                rotate_left 1
                · intro w; go_simp; try with_reducible rfl
                refine wpAny_take (i := 14) (v := ?_) rfl (by kernel_rfl) (by kernel_rfl) (by kernel_rfl) (fun _ _ _ h => h) (Or.inl ⟨by rfl, ?_⟩) ?_
                rotate_left 1
                · intro w; go_simp; try with_reducible rfl
                refine wpAny_done (by kernel_rfl) ?_ _
                clear hc6 H7
                go_wp2_with fail
                go_roundw
                case rel => exact ⟨i + 1, L6, by go_num, by omega, Lib.hid (HE.out.1.less (fun b hb => List.mem_cons_of_mem _ hb)), Lib.hid (HX5.out.kp HE.out.2 (fun g hg => by simp [hg]))⟩
                case measure => simp [intOf]; omega
              exact AllReady.nil
            exact AllReady.nil
          refine AllReady.cons rfl (fun K hK => ?_) ?_
          · go_simp
            refine hK _ _ ?_; clear hK K
            refine wpAny_ready (rs := [7, 12]) (by kernel_rfl) (by simp) ?_
            refine AllReady.cons rfl (fun K hK => ?_) ?_
            · go_simp; refine (H7.out).mono ?_; rintro e w7 ⟨rfl, rfl⟩
              refine hK _ _ ?_; clear hK K
              refine wpAny_ready (rs := [12]) (by kernel_rfl) (by simp) ?_
              refine AllReady.cons rfl (fun K hK => ?_) ?_
              · go_simp
                refine hK _ _ ?_; clear hK K
                refine wpAny_take (i := 13) (v := ?_) rfl (by kernel_rfl) (by kernel_rfl) (by kernel_rfl) (fun _ _ _ h => h) (Or.inl ⟨by rfl, ?_⟩) ?_
                rotate_left 1
                · intro w; go_simp; try with_reducible rfl
                refine wpAny_take (i := 14) (v := ?_) rfl (by kernel_rfl) (by kernel_rfl) (by kernel_rfl) (fun _ _ _ h => h) (Or.inl ⟨by rfl, ?_⟩) ?_
                rotate_left 1
                · intro w; go_simp; try with_reducible rfl
                refine wpAny_done (by kernel_rfl) ?_ _
                clear hc6 H7
                go_wp2_with fail
                go_roundw
                case rel => exact ⟨i + 1, L6, by go_num, by omega, Lib.hid (HE.out.1.less (fun b hb => List.mem_cons_of_mem _ hb)), Lib.hid (HX5.out.kp HE.out.2 (fun g hg => by simp [hg]))⟩
                case measure => simp [intOf]; omega
              exact AllReady.nil
            refine AllReady.cons rfl (fun K hK => ?_) ?_
            · go_simp
              refine hK _ _ ?_; clear hK K
              refine wpAny_ready (rs := [7]) (by kernel_rfl) (by simp) ?_
              refine AllReady.cons rfl (fun K hK => ?_) ?_
              · go_simp; refine (H7.out).mono ?_; rintro e w7 ⟨rfl, rfl⟩
                refine hK _ _ ?_; clear hK K
                refine wpAny_take (i := 13) (v := ?_) rfl (by kernel_rfl) (by kernel_rfl) (by kernel_rfl) (fun _ _ _ h => h) (Or.inl ⟨by rfl, ?_⟩) ?_
                rotate_left 1
                · intro w; go_simp; try with_reducible rfl
                refine wpAny_take (i := 14) (v := ?_) rfl (by kernel_rfl) (by kernel_rfl) (by kernel_rfl) (fun _ _ _ h => h) (Or.inl ⟨by rfl, ?_⟩) ?_
                rotate_left 1
                · intro w; go_simp; try with_reducible rfl
                refine wpAny_done (by kernel_rfl) ?_ _
                clear hc6 H7
                go_wp2_with fail
                go_roundw
                case rel => exact ⟨i + 1, L6, by go_num, by omega, Lib.hid (HE.out.1.less (fun b hb => List.mem_cons_of_mem _ hb)), Lib.hid (HX5.out.kp HE.out.2 (fun g hg => by simp [hg]))⟩
                case measure => simp [intOf]; omega
              exact AllReady.nil
            exact AllReady.nil
          exact AllReady.nil
        exact AllReady.nil
      exact AllReady.nil
    · have hiI : ¬ (i : Int) < (N : Int) := by omega
      obtain ⟨A6, cp6, hc6, hl6⟩ := hF.out.cellR
      obtain ⟨M, hM⟩ : ∃ M, M = L.length := ⟨_, rfl⟩
      rw [← hM] at hc6 hl6
      have HL := Lib.hid hM
      have HF6 := Lib.hid (hF.out.less (D' := []) (by simp))
      clear hF hXr hM
      go_wp2_with fail
      clear hc6
      go_loopw [46] (fun z wr => ∃ (j : Nat) (L : List Fm), z = .int .i64 (j : Int) ∧ j ≤ M ∧ RowKit.Hid (L.length = M - j) ∧ RowKit.Hid (Fp w wr p q L L [])) (fun z _ => M - (intOf z).toNat)
      case atStart => exact ⟨0, L, rfl, by omega, Lib.hid (by have := HL.out; omega), HF6⟩
      case round =>
        clear HF6 HL HR HDC
        obtain ⟨j, L2, rfl, hj, hL2, hF2⟩ := hrel
        by_cases hlt2 : j < M
        · have hjI : (j : Int) < (M : Int) := by omega
          obtain ⟨n, hn⟩ : ∃ n, n = M - j - 1 := ⟨_, rfl⟩
          obtain ⟨m, hm⟩ : ∃ m, m = n + 1 := ⟨_, rfl⟩
          have hlen : L2.length = m := by have := hL2.out; omega
          have hw1 : IntKind.i64.wrap ((m : Int) - 1) = (n : Int) := by rw [IntKind.wrap_i64]; omega
          have hw2 : IntKind.i64.wrap (n : Int) = (n : Int) := by rw [IntKind.wrap_i64]; omega
          have hn1 : (m : Int) - 1 = (n : Int) := by omega
          have hsome : L2.getLast?.isSome = true := by
            cases L2 with
            | nil => simp at hlen; omega
            | cons a r => simp
          have H1 := hF2.out.top
          have HPf := fun (W : World) (D2 : List Nat) (hW : Fp w W p q L2 L2 D2) => hW.rtop
          have hsm := topV_small hF2.out.smallP
          simp only [hsome] at H1 HPf
          obtain ⟨t, ht⟩ : ∃ t, t = topV L2 := ⟨_, rfl⟩
          simp only [← ht] at H1 HPf hsm
          obtain ⟨tk, ta, tb, tx, ty, tl⟩ := t
          unfold Told frV at H1 HPf
          dsimp only at H1 HPf hsm
          have HT1 := Lib.hid H1
          have HPP := Lib.hid HPf
          have HS := Lib.hid hsm
          have HLen := Lib.hid (And.intro hlen (And.intro hn hm))
          clear H1 HPf ht hsm hlen hsome hF2 hn hm
          go_wp2_with fail
          refine (HT1.out).mono ?_
          rintro e w3 ⟨s1, rfl, hl1, hF3, _⟩
          obtain ⟨A1, n1, rfl, _⟩ := hl1.ls
          have mB := al_mod w3 (.cells (cellsF ⟨tk, ta, tb, tx, ty, tl⟩ (.slice A1 tl.length n1)) TF)
          have hszB : (w3.alloc (.cells (cellsF ⟨tk, ta, tb, tx, ty, tl⟩ (.slice A1 tl.length n1)) TF)).heap.size = w3.heap.size + 1 := size_allocI w3 _
          have hF4 := hF3.add mB (b := w3.heap.size) (Nat.le_refl _) (by omega)
          have b4 := (MapKept.heap_alloc w3 (.cells (cellsF ⟨tk, ta, tb, tx, ty, tl⟩ (.slice A1 tl.length n1)) TF)).1
          have H2 := Lib.hid (HPP.out _ _ hF4)
          have HE := Lib.hid (And.intro (hl1.far mB) b4)
          clear hF3 hl1 mB hF4 b4 hszB HT1 HPP
          dsimp only [cellsF] at H2 HE
          go_wp2_with fail
          refine (H2.out).mono ?_
          rintro e w5 ⟨s2, rfl, hl2, hF5, hK5⟩
          obtain ⟨A2, n2, rfl, _⟩ := hl2.ls
          have mC := al_mod w5 (.cells (cellsF ⟨tk, ta, tb, tx, ty, tl⟩ (.slice A2 tl.length n2)) TF)
          obtain ⟨g1, b4⟩ := HE.out
          have b5 := box_kept b4 hK5 (by simp)
          have h5 := (Array.getElem?_eq_some_iff.1 b5).1
          have b5' := (mC.block _ h5 (by simp)).trans b5
          have b6 := (MapKept.heap_alloc w5 (.cells (cellsF ⟨tk, ta, tb, tx, ty, tl⟩ (.slice A2 tl.length n2)) TF)).1
          have g1' := (g1.kp hK5 (fun g hg => by rw [List.mem_cons]; exact Or.inr (List.mem_append.2 (Or.inl (by rw [hg]; simp))))).far mC
          have g2' := hl2.far mC
          have H3 := Lib.hid (one_calls (q := ⟨tk, ta, tb, tx, ty, tl⟩) g1'.ls g2'.ls (by have := HS.out; dsimp only; omega))
          obtain ⟨x0, x1, x2, x3, x4, x5, _⟩ := six_at b5'
          obtain ⟨y0, y1, y2, y3, y4, y5, _⟩ := six_at b6
          have hne : w3.heap.size ≠ w5.heap.size := by omega
          have HY := Lib.hid (hF5.far mC)
          clear hF5 hK5 hl2 mC g1 b4 b5 h5 b5' b6 g1' g2' H2 HE
          unfold frV at H3
          dsimp only [cellsF] at x0 x1 x2 x3 x4 x5 y0 y1 y2 y3 y4 y5 H3 HY
          go_wp2_with fail
          refine (H3.out).mono ?_
          rintro e w7 ⟨rfl, hm7⟩
          have HF7 := Lib.hid ((HY.out.far hm7).less (D' := []) (by simp))
          have H8 := Lib.hid (HF7.out.depth m HLen.out.1)
          have H9 := Lib.hid (HF7.out.cut (n : Int))
          clear hm7 H3 HY x0 x1 x2 x3 x4 x5 y0 y1 y2 y3 y4 y5
          go_wp2_with fail
          refine (H8.out).mono ?_
          rintro e w8 ⟨rfl, rfl⟩
          go_wp2_with fail
          refine (H9.out).mono ?_
          rintro e w9 ⟨⟨r9, rfl⟩, hF9, _⟩
          obtain ⟨A8, c8, hc8, _⟩ := hF9.cellR
          rw [HLen.out.1] at hc8
          have H10 := Lib.hid (hF9.rcut (n : Int))
          clear hF9 H8 H9 HF7
          go_wp2_with fail
          refine (H10.out).mono ?_
          rintro e w10 ⟨⟨r10, rfl⟩, hF10, _⟩
          have HF10 := Lib.hid hF10
          clear hF10 hc8 H10
          go_wp2_with fail
          go_roundw
          case rel => exact ⟨j + 1, cutL (n : Int) L2, by go_num, by omega, Lib.hid (by unfold cutL; rw [List.length_take, HLen.out.1]; have := HLen.out.2; omega), HF10⟩
          case measure => simp [intOf]; omega
        · have hjI : ¬ (j : Int) < (M : Int) := by omega
          have H9 := Lib.hid (hF2.out.depth 0 (by have := hL2.out; omega))
          have HMM := Lib.hid hF2.out.mod
          clear hF2 hL2
          go_wp2_with fail
          refine (H9.out).mono ?_
          rintro e w9 ⟨rfl, rfl⟩
          go_wp2_with fail
          go_ret
          exact ⟨rfl, HMM.out⟩
end Go.Proofs.Ytacmidlhfcnkiaa
