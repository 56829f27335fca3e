/- Layer 14: FrameEnds. No condition. -/
import Derived.Test.YtacmidlhfcnkiaaGU
namespace Go.Proofs.Ytacmidlhfcnkiaa
open Go.RowKit Go.ChangeShapes Go.WideShapes
set_option linter.unusedVariables false

theorem Ow.set {w : World} {b c : Nat} {X : List Int} (h : Ow w b X c) (i : Nat) (v : Int) : Ow (w.setCell ⟨b, i, none⟩ (.int .i64 v)) b (X.set i v) c := by
  obtain ⟨cur, h1, h2, h3, h4, h5⟩ := h
  refine ⟨cur.set! i (.int .i64 v), ?_, by simpa using h2, by simpa using h3, h4, ?_⟩
  · have := heap_setCell_same w b i _ _ (.int .i64 v) h1
    rw [this]
    simp
  · simp only [List.length_set, Array.set!_eq_setIfInBounds, Array.toList_setIfInBounds]
    rw [List.take_set, h5]
    simp [cellsI, List.map_set]
theorem Ow.ls {w : World} {b c n : Nat} {X : List Int} (h : Ow w b X c) (hn : n = X.length) : Ls w (.slice (some ⟨b, 0, none⟩) n c) X := by
  subst hn
  exact (show Lc w (.slice (some ⟨b, 0, none⟩) X.length c) X from Or.inr ⟨b, c, rfl, h⟩).ls
/-- n frames alike. -/
abbrev rep (i : Nat) (k : Int) (X : List Int) : List Fm := List.replicate i ⟨k, 0, 0, 0, 0, X⟩
theorem rep_push {i : Nat} (hi : i < 128) (k : Int) (X : List Int) : pushE (rep i k X) = 0 ∧ pushL (rep i k X) ⟨k, 0, 0, 0, 0, X⟩ = rep (i + 1) k X := by
  unfold pushE pushL
  have : ¬ 128 ≤ (rep i k X).length := by simp; omega
  rw [if_neg this, if_neg this]
  exact ⟨rfl, by rw [← List.replicate_succ']⟩
theorem rep_full (k : Int) (X : List Int) (q : Fm) : pushE (rep 128 k X) = -5 ∧ pushL (rep 128 k X) q = rep 128 k X := by
  unfold pushE pushL
  have : 128 ≤ (rep 128 k X).length := by simp
  rw [if_pos this, if_pos this]
  exact ⟨rfl, rfl⟩
theorem rep_snoc (k : Int) (X : List Int) : rep 128 k X = rep 127 k X ++ [⟨k, 0, 0, 0, 0, X⟩] := List.replicate_succ'
theorem rep_top (k : Int) (X : List Int) : topV (rep 128 k X) = ⟨k, 0, 0, 0, 0, X⟩ ∧ (rep 128 k X).getLast?.isSome = true := by
  rw [rep_snoc]
  exact ⟨topV_snoc _ _, by simp⟩
theorem rep_pop (k : Int) (X : List Int) : (topK k (rep 128 k X)).getD zF = ⟨k, 0, 0, 0, 0, X⟩ ∧ errK k (-6) (rep 128 k X) = 0 := by
  unfold errK
  rw [rep_snoc, topK_snoc]
  simp
theorem rep_wrong {k o : Int} (h : k ≠ o) (X : List Int) : (topK o (rep 128 k X)).getD zF = zF ∧ errK o (-6) (rep 128 k X) = -6 ∧ popL o (rep 128 k X) = rep 128 k X := by
  unfold popL errK
  rw [rep_snoc, topK_snoc]
  simp [h]
theorem nil_pop (k : Int) : (topK k []).getD zF = zF ∧ errK k (-6) [] = -6 ∧ popL k [] = [] := ⟨rfl, rfl, rfl⟩
theorem box_kept {D : List Nat} {w w' : World} {b : Nat} {o : Obj} (h : w.heap[b]? = some o) (k : Kp D w w') (hb : b ∈ D) : w'.heap[b]? = some o := (k b hb (Array.getElem?_eq_some_iff.1 h).1).trans h
set_option maxRecDepth 100000 in
set_option maxHeartbeats 8000000 in
theorem ends_walk (w : World) (b0 : Int) (hb0 : (Lit.int .u8 b0).wf = true) (b1 : Int) (hb1 : (Lit.int .u8 b1).wf = true) (A : Option Addr) (len cap : Nat) (zs : List Int) (R : RowIn .i64 w A len cap zs) :
    Calls Try.prog 7 #[.int .u8 b0, .int .u8 b1, .slice A len cap] w fun e w' => e = .returned (.bool true) ∧ Mod [] w w' := by
  have hb02 := bounds_u8 hb0
  have hb12 := bounds_u8 hb1
  obtain ⟨X, n, C⟩ := R.came 20
  have hup := C.h
  have hmin : min (len : Int) 20 = (n : Int) := by have := C.e; omega
  have hn20 : n ≤ 20 := by have := C.e; omega
  have hnI : (n : Int) ≤ 20 := by omega
  have HN := Lib.hid C.n.symm
  have HL : (len : Int) ≤ 9223372036854775807 := by have := C.l; have := C.m; omega
  have HC := Lib.hid C
  have H0 := Lib.hid (shown_calls w)
  clear C R hb0 hb1
  go_enter Try.func7, Try.ntmps7
  go_wp2_with fail
  refine (H0.out).mono ?_
  rintro e w1 ⟨rfl, hm1⟩
  have H1 := Lib.hid (new_fd hm1)
  clear hm1 H0
  go_wp2_with fail
  refine (H1.out).mono ?_
  rintro e w2 ⟨p, rfl, hF, _⟩
  have HF := Lib.hid hF
  have hO := Lib.hid (Ow.new w2 [] (Nat.zero_le _))
  have hS := Lib.hid (HC.out.s.far (hF.mod.trans (al_mod w2 (.cells (cellsI []).toArray 31))))
  have hA := Lib.hid HC.out.a
  have hB := Lib.hid (show ([] : List Int).length + X.length ≤ 1000000000 by have := HN.out; simp; omega)
  clear hF H1
  go_upto_region 6 with fail
  obtain ⟨k, hk⟩ : ∃ k, k = b0 % 7 + 1 := ⟨_, rfl⟩
  obtain ⟨o, ho⟩ : ∃ o, o = b1 % 7 + 1 := ⟨_, rfl⟩
  rw [← hk, ← ho]
  clear hk ho
  go_wp2_with (refine wpList_app rfl (.tmp 39) (.tmp 44) rfl hO.out hS.out rfl HN.out hA.out hB.out rfl rfl ?_)
  intro bx cx w4 k1 k2 k3
  have h2z : w2.heap.size ≤ w4.heap.size := Nat.le_trans (by rw [size_allocI]; omega) k2.size
  have F4 := Lib.hid (HF.out.add (b := bx) ((al_mod w2 _).far1 k2 (Nat.le_refl _)) k3 k1.lt)
  have HX := Lib.hid (show Ow w4 bx X cx from k1)
  have hO2 := Lib.hid (Ow.new w4 [] (Nat.zero_le _))
  have hS2 := Lib.hid (HX.out.sl.far (al_mod w4 (.cells (cellsI []).toArray 31)))
  have hA2 := Lib.hid (show (some (⟨bx, 0, none⟩ : Addr) = none → cx = 0) from fun e => by cases e)
  have hxl := k1.lt
  have HXB := Lib.hid (Nat.le_trans HF.out.mod.size k3)
  clear k1 k2 k3 hO hS hA HF h2z
  go_wp2_with (refine wpList_app rfl (.tmp 46) (.tmp 47) rfl hO2.out hS2.out rfl HN.out hA2.out hB.out rfl rfl ?_)
  intro bw cw w5 k1 k2 k3
  have m45 : Mod [] w4 w5 := (al_mod w4 _).far1 k2 (Nat.le_refl _)
  have F5 := Lib.hid (F4.out.add (b := bw) m45 k3 k1.lt)
  have HX5 := Lib.hid (HX.out.mod m45 (by simp))
  have HW5 := Lib.hid (show Ow w5 bw X cw from k1)
  have hxw : bx ≠ bw := by omega
  clear k1 k2 k3 m45 F4 HX hO2 hS2 hA2 hB hxl
  go_wp2_with fail
  go_loopw [49] (fun z wr => ∃ i : Nat, z = .int .i64 (i : Int) ∧ i ≤ 128 ∧ RowKit.Hid (Fd TP w wr p (rep i k X) [bw, bx]) ∧ RowKit.Hid (Ow wr bx X cx) ∧ RowKit.Hid (Ow wr bw X cw)) (fun z _ => 128 - (intOf z).toNat)
  case atStart => exact ⟨0, rfl, by omega, F5, HX5, HW5⟩
  case round =>
    obtain ⟨i, rfl, hi, hF, hX, hW⟩ := hrel
    by_cases hlt : i < 128
    · have hiI : (i : Int) < 128 := by omega
      have H2 := Lib.hid (hF.out.push (q := ⟨k, 0, 0, 0, 0, X⟩) (hX.out.ls HN.out) (by have := HN.out; simp; omega))
      rw [(rep_push hlt k X).1, (rep_push hlt k X).2] at H2
      clear F5 HX5 HW5
      go_wp2_with fail
      refine (H2.out).mono ?_
      rintro e w6 ⟨rfl, hF6, kp⟩
      have HF6 := Lib.hid hF6
      have HX6 := Lib.hid (hX.out.kp kp (by simp))
      have HW6 := Lib.hid (hW.out.kp kp (by simp))
      clear hF6 kp H2 hF hX hW
      go_wp2_with fail
      go_roundw
      case rel => exact ⟨i + 1, by go_num, by omega, HF6, HX6, HW6⟩
      case measure => simp [intOf]; omega
    · have hiI : ¬ (i : Int) < 128 := by omega
      have hi8 : i = 128 := by omega
      rw [hi8] at hF
      clear hi8 hlt F5 HX5 HW5 hi
      go_wp2_with fail
      go_loopw [60] (fun z wr2 => ∃ (j : Nat) (Y : List Int), z = .int .i64 (j : Int) ∧ j ≤ n ∧ RowKit.Hid (Fd TP w wr2 p (rep 128 k X) [bw, bx]) ∧ RowKit.Hid (Ow wr2 bx Y cx) ∧ RowKit.Hid (Ow wr2 bw X cw) ∧ RowKit.Hid (Y.length = n)) (fun z _ => n - (intOf z).toNat)
      case atStart => exact ⟨0, X, rfl, by omega, hF, hX, hW, Lib.hid HN.out.symm⟩
      case round =>
        obtain ⟨j, Y, rfl, hj, hF2, hX2, hW2, hY⟩ := hrel
        by_cases hlt : j < n
        · have hjI : (j : Int) < (n : Int) := by omega
          have hj0 : (0 : Int) ≤ (j : Int) := by omega
          have hc0 := hX2.out.cell j (by rw [hY.out]; exact hlt)
          obtain ⟨c, hcc⟩ : ∃ c, c = Y[j]'(by rw [hY.out]; exact hlt) := ⟨_, rfl⟩
          rw [← hcc] at hc0
          have hf0 := hX2.out.free j
          have mS := set_mod wr bx j (.int .i64 (wrap64 (c + 1)))
          have HF3 := Lib.hid (hF2.out.store (by simp) HXB.out mS)
          have HX3 := Lib.hid (hX2.out.set j (wrap64 (c + 1)))
          have HW3 := Lib.hid (hW2.out.mod mS (by simp; exact fun e => hxw e.symm))
          clear hcc mS hF hX hW
          go_wp2_with fail
          go_roundw
          case rel => exact ⟨j + 1, Y.set j (wrap64 (c + 1)), by go_num, by omega, HF3, HX3, HW3, Lib.hid (by rw [List.length_set]; exact hY.out)⟩
          case measure => simp [intOf]; omega
        · have hjI : ¬ (j : Int) < (n : Int) := by omega
          have H3 := Lib.hid (hF2.out.push (q := ⟨k, 0, 0, 0, 0, []⟩) (Ls.nil _) (by simp))
          rw [(rep_full k X ⟨k, 0, 0, 0, 0, []⟩).1, (rep_full k X ⟨k, 0, 0, 0, 0, []⟩).2] at H3
          clear hF hX hW hlt hj
          go_wp2_with fail
          refine (H3.out).mono ?_
          rintro e w7 ⟨rfl, hF7, kp7⟩
          have HW7 := Lib.hid (hW2.out.kp kp7 (by simp))
          have HM7 := Lib.hid hF7.mod
          have H4 := Lib.hid hF7.top
          rw [(rep_top k X).1, (rep_top k X).2] at H4
          unfold frV at H4
          dsimp only at H4
          clear hF7 kp7 H3 hF2 hX2 hW2 hY
          go_wp2_with fail
          refine (H4.out).mono ?_
          rintro e w8 ⟨s', rfl, hF8, kp8, hl8, hs8⟩
          obtain ⟨A8, c8, e8, _⟩ := hl8.ls
          rw [← HN.out] at e8
          subst e8
          have HW8 := Lib.hid (HW7.out.kp kp8 (by simp))
          have hg8 : ∀ g, (Value.slice A8 n c8).ownBlock = some g → g ≠ bw ∧ w.heap.size ≤ g ∧ g < w8.heap.size := fun g hg => by
            have h1 := hs8 g hg
            have h2 := HW7.out.lt
            have h3 := hl8.lt g hg
            have h4 := HM7.out.size
            exact ⟨by omega, by omega, h3⟩
          have m9 := al_mod w8 (.cells (cellsF ⟨k, 0, 0, 0, 0, X⟩ (.slice A8 n c8)) TF)
          have b9 := (MapKept.heap_alloc w8 (.cells (cellsF ⟨k, 0, 0, 0, 0, X⟩ (.slice A8 n c8)) TF)).1
          have HF9 := Lib.hid (hF8.add m9 (Nat.le_refl _) (by rw [size_allocI]; omega))
          have HW9 := Lib.hid (HW8.out.mod m9 (by simp))
          have HL9 := Lib.hid (hl8.far m9)
          have HB9 := Lib.hid b9
          obtain ⟨B9, hB9⟩ : ∃ B9, B9 = w8.heap.size := ⟨_, rfl⟩
          have HG := Lib.hid (fun g hg => (by have := hg8 g hg; exact ⟨this.1, this.2.1, by omega⟩ : g ≠ bw ∧ w.heap.size ≤ g ∧ g ≠ B9))
          rw [← hB9] at HB9 HF9
          have HBe := Lib.hid hB9
          obtain ⟨x0, x1, x2, x3, x4, x5, _⟩ := six_at HB9.out
          dsimp only [cellsF] at HF9 HW9 HL9 HB9 x0 x1 x2 x3 x4 x5
          clear hB9 m9 b9 hF8 kp8 hl8 hs8 hg8 HW8 HW7 HM7 H4
          go_upto_region 21 with fail
          rw [← HBe.out]
          generalize w8.alloc (.cells #[.int .i64 k, .int .i64 0, .int .i64 0, .int .i64 0, .int .i64 0, .slice A8 n c8] TF) = w9 at HF9 HW9 HL9 HB9 x0 x1 x2 x3 x4 x5 ⊢
          go_wp2_with fail
          go_loopw [83] (fun z wr3 => ∃ (j : Nat) (Y : List Int), z = .int .i64 (j : Int) ∧ j ≤ n ∧ RowKit.Hid (Fd TP w wr3 p (rep 128 k X) (B9 :: ((Value.slice A8 n c8).ownBlock.toList ++ [bw, bx]))) ∧ RowKit.Hid (Ow wr3 bw X cw) ∧ RowKit.Hid (wr3.heap[B9]? = some (.cells #[.int .i64 k, .int .i64 0, .int .i64 0, .int .i64 0, .int .i64 0, .slice A8 n c8] TF (0, 0))) ∧ RowKit.Hid (Lc wr3 (.slice A8 n c8) Y) ∧ RowKit.Hid (Y.length = n)) (fun z _ => n - (intOf z).toNat)
          case atStart => exact ⟨0, X, rfl, by omega, HF9, HW9, HB9, HL9, Lib.hid HN.out.symm⟩
          case round =>
            obtain ⟨j, Y, rfl, hj, hF2, hW2, hB2, hL2, hY⟩ := hrel
            obtain ⟨y0, y1, y2, y3, y4, y5, _⟩ := six_at hB2.out
            clear x0 x1 x2 x3 x4 x5 HF9 HW9 HB9 HL9
            by_cases hlt : j < n
            · have hjI : (j : Int) < (n : Int) := by omega
              have hj0 : (0 : Int) ≤ (j : Int) := by omega
              obtain ⟨g, hg, ho⟩ : ∃ g, A8 = some ⟨g, 0, none⟩ ∧ Ow wr g Y c8 := by
                rcases hL2.out with ⟨e, h0⟩ | ⟨g, c, e, ho⟩
                · exfalso; have := hY.out; rw [h0] at this; simp at this; omega
                · injection e with e1 e2 e3
                  subst e3
                  exact ⟨g, e1, ho⟩
              subst hg
              have hc0 := ho.cell j (by rw [hY.out]; exact hlt)
              obtain ⟨c, hcc⟩ : ∃ c, c = Y[j]'(by rw [hY.out]; exact hlt) := ⟨_, rfl⟩
              rw [← hcc] at hc0
              have hf0 := ho.free j
              obtain ⟨g1, g2, g3⟩ := HG.out g rfl
              have mS := set_mod wr g j (.int .i64 (wrap64 (c + 1)))
              have HF3 := Lib.hid (hF2.out.store (by simp [Value.ownBlock]) g2 mS)
              have HW3 := Lib.hid (hW2.out.mod mS (by simp; exact fun e => g1 e.symm))
              have HB3 := Lib.hid ((mS.block _ (Array.getElem?_eq_some_iff.1 hB2.out).1 (by simp; exact fun e => g3 e.symm)).trans hB2.out)
              have HL3 := Lib.hid (show Lc (wr.setCell ⟨g, j, none⟩ (.int .i64 (wrap64 (c + 1)))) (.slice (some ⟨g, 0, none⟩) n c8) (Y.set j (wrap64 (c + 1))) from Or.inr ⟨g, c8, by rw [List.length_set, hY.out], ho.set j _⟩)
              have hgB : g ≠ B9 := g3
              clear hcc mS ho hF2 hW2 hB2 hL2 g1 g2 g3
              go_wp2_with fail
              go_roundw
              case rel => exact ⟨j + 1, Y.set j (wrap64 (c + 1)), by go_num, by omega, HF3, HW3, HB3, HL3, Lib.hid (by rw [List.length_set]; exact hY.out)⟩
              case measure => simp [intOf]; omega
            · have hjI : ¬ (j : Int) < (n : Int) := by omega
              have HW10 := hW2
              have HF10 := Lib.hid (hF2.out.less (D' := [bw]) (by simp))
              clear hF2 hB2 hL2 hY hlt hj HG hW2
              by_cases hok : o = k
              · have q1 : (o != k) = false := by simpa using hok
                clear hok
                have H20 := Lib.hid (HF10.out.pop k)
                rw [(rep_pop k X).1, (rep_pop k X).2] at H20
                unfold frV at H20
                dsimp only at H20
                clear HF10
                go_wp2_with fail
                refine (H20.out).mono ?_
                rintro e w20 ⟨s2, rfl, hF20, kp20, hl20, hs20⟩
                obtain ⟨A2, c2, e2, _⟩ := hl20.ls
                rw [← HN.out] at e2
                subst e2
                have b21 := (MapKept.heap_alloc w20 (.cells (cellsF ⟨k, 0, 0, 0, 0, X⟩ (.slice A2 n c2)) TF)).1
                have m21 := al_mod w20 (.cells (cellsF ⟨k, 0, 0, 0, 0, X⟩ (.slice A2 n c2)) TF)
                have HF21 := Lib.hid (hF20.add m21 (Nat.le_refl _) (by rw [size_allocI]; omega))
                have HW21 := Lib.hid ((HW10.out.kp kp20 (by simp)).mod m21 (by simp))
                have HL21 := Lib.hid (hl20.far m21)
                have HB21 := Lib.hid b21
                obtain ⟨B2, hB2⟩ : ∃ B2, B2 = w20.heap.size := ⟨_, rfl⟩
                have H22 := Lib.hid (HF21.out.cut (-1))
                rw [show ∀ L : List Fm, cutL (-1) L = [] from fun L => rfl] at H22
                rw [← hB2] at H22 HB21
                have HBe := Lib.hid hB2
                dsimp only [cellsF] at H22 HB21 HL21 HW21
                clear hB2 hF20 kp20 hl20 hs20 b21 m21 H20 HW10 HF21
                go_wp2_with fail
                rw [← HBe.out]
                refine (H22.out).mono ?_
                rintro e w22 ⟨⟨r22, rfl⟩, hF22, kp22⟩
                have H23 := Lib.hid (hF22.pop k)
                rw [(nil_pop k).1, (nil_pop k).2.1, (nil_pop k).2.2] at H23
                unfold frV zF at H23
                dsimp only at H23
                have HW22 := Lib.hid (HW21.out.kp kp22 (by simp))
                have HL22 := Lib.hid (HL21.out.kp kp22 (fun g hg => by simp [hg]))
                have HB22 := Lib.hid (box_kept HB21.out kp22 (by simp))
                clear hF22 kp22 H22 HW21 HL21 HB21
                go_wp2_with fail
                refine (H23.out).mono ?_
                rintro e w23 ⟨s3, rfl, hF23, kp23, hl23, _⟩
                obtain ⟨A3, c3, rfl, _⟩ := hl23.ls
                have m24 := al_mod w23 (.cells #[.int .i64 0, .int .i64 0, .int .i64 0, .int .i64 0, .int .i64 0, .slice A3 ([] : List Int).length c3] TF)
                have H25 := Lib.hid ((hF23.far m24).step 1)
                rw [show stepEnd 1 [] = false from rfl, show errK 3 (-26) [] = -26 from rfl, show stepL 1 [] = [] from rfl] at H25
                have HW24 := Lib.hid ((HW22.out.kp kp23 (by simp)).mod m24 (by simp))
                have HL24 := Lib.hid ((HL22.out.kp kp23 (fun g hg => by simp [hg])).far m24)
                have HB24 := Lib.hid (box_kept (box_kept HB22.out kp23 (by simp)) (Kp.far (D := [B2]) m24) (by simp))
                dsimp only [List.length_nil] at H25 HW24 HL24 HB24
                clear hF23 kp23 hl23 m24 H23 HW22 HL22 HB22
                go_wp2_with fail
                refine (H25.out).mono ?_
                rintro e w25 ⟨rfl, hF25, kp25⟩
                have H26 := Lib.hid (hF25.index 0)
                rw [show indexL 0 [] = none from rfl] at H26
                have HW25 := Lib.hid (HW24.out.kp kp25 (by simp))
                have HL25 := Lib.hid (HL24.out.kp kp25 (fun g hg => by simp [hg]))
                have HB25 := Lib.hid (box_kept HB24.out kp25 (by simp))
                clear hF25 kp25 H25 HW24 HL24 HB24
                go_wp2_with fail
                refine (H26.out).mono ?_
                rintro e w26 ⟨rfl, hF26, kp26⟩
                have HW26 := HW25.out.kp kp26 (by simp)
                have HL26 := HL25.out.kp kp26 (fun g hg => by simp [hg])
                have HB26 := box_kept HB25.out kp26 (by simp)
                obtain ⟨y0, y1, y2, y3, y4, y5, _⟩ := six_at HB26
                have H27 := Lib.hid (one_calls (q := ⟨k, 0, 0, 0, 0, X⟩) HL26.ls (HW26.ls HN.out) (by have := HN.out; simp; omega))
                unfold frV at H27
                dsimp only at H27
                have HF26 := Lib.hid hF26
                simp only [orE, Option.isSome_none, Bool.false_eq_true, if_false]
                clear hF26 kp26 H26 HW25 HL25 HB25 HW26 HL26 HB26
                go_wp2_with fail
                refine (H27.out).mono ?_
                rintro e w27 ⟨rfl, m27⟩
                have H28 := Lib.hid ((HF26.out.far m27).depth 0 rfl)
                have HM := Lib.hid (HF26.out.mod.trans m27)
                clear m27 H27 HF26
                go_wp2_with fail
                refine (H28.out).mono ?_
                rintro e w28 ⟨rfl, rfl⟩
                go_wp2_with fail
                go_ret
                exact ⟨rfl, HM.out⟩
              · have q1 : (o != k) = true := by simpa using hok
                have HO := Lib.hid (fun e : k = o => hok e.symm)
                clear hok
                have H11 := Lib.hid (HF10.out.pop o)
                rw [(rep_wrong HO.out X).1, (rep_wrong HO.out X).2.1, (rep_wrong HO.out X).2.2] at H11
                unfold frV zF at H11
                dsimp only at H11
                clear HF10
                go_wp2_with fail
                refine (H11.out).mono ?_
                rintro e w11 ⟨s5, rfl, hF11, kp11, hl11, _⟩
                obtain ⟨A5, c5, rfl, _⟩ := hl11.ls
                have m12 := al_mod w11 (.cells #[.int .i64 0, .int .i64 0, .int .i64 0, .int .i64 0, .int .i64 0, .slice A5 ([] : List Int).length c5] TF)
                have HF12 := Lib.hid ((hF11.far m12).less (D' := [bw]) (by simp))
                have HW12 := Lib.hid ((HW10.out.kp kp11 (by simp)).mod m12 (by simp))
                have H13 := Lib.hid (HF12.out.depth 128 (by simp))
                dsimp only [List.length_nil] at HF12 HW12 H13
                clear hF11 kp11 hl11 m12 H11 HW10
                go_wp2_with fail
                refine (H13.out).mono ?_
                rintro e w13 ⟨rfl, rfl⟩
                have HF10 := HF12
                have HW10 := HW12
                clear HF12 HW12 H13
                have H20 := Lib.hid (HF10.out.pop k)
                rw [(rep_pop k X).1, (rep_pop k X).2] at H20
                unfold frV at H20
                dsimp only at H20
                clear HF10
                go_wp2_with fail
                refine (H20.out).mono ?_
                rintro e w20 ⟨s2, rfl, hF20, kp20, hl20, hs20⟩
                obtain ⟨A2, c2, e2, _⟩ := hl20.ls
                rw [← HN.out] at e2
                subst e2
                have b21 := (MapKept.heap_alloc w20 (.cells (cellsF ⟨k, 0, 0, 0, 0, X⟩ (.slice A2 n c2)) TF)).1
                have m21 := al_mod w20 (.cells (cellsF ⟨k, 0, 0, 0, 0, X⟩ (.slice A2 n c2)) TF)
                have HF21 := Lib.hid (hF20.add m21 (Nat.le_refl _) (by rw [size_allocI]; omega))
                have HW21 := Lib.hid ((HW10.out.kp kp20 (by simp)).mod m21 (by simp))
                have HL21 := Lib.hid (hl20.far m21)
                have HB21 := Lib.hid b21
                obtain ⟨B2, hB2⟩ : ∃ B2, B2 = w20.heap.size := ⟨_, rfl⟩
                have H22 := Lib.hid (HF21.out.cut (-1))
                rw [show ∀ L : List Fm, cutL (-1) L = [] from fun L => rfl] at H22
                rw [← hB2] at H22 HB21
                have HBe := Lib.hid hB2
                dsimp only [cellsF] at H22 HB21 HL21 HW21
                clear hB2 hF20 kp20 hl20 hs20 b21 m21 H20 HW10 HF21
                go_wp2_with fail
                rw [← HBe.out]
                refine (H22.out).mono ?_
                rintro e w22 ⟨⟨r22, rfl⟩, hF22, kp22⟩
                have H23 := Lib.hid (hF22.pop k)
                rw [(nil_pop k).1, (nil_pop k).2.1, (nil_pop k).2.2] at H23
                unfold frV zF at H23
                dsimp only at H23
                have HW22 := Lib.hid (HW21.out.kp kp22 (by simp))
                have HL22 := Lib.hid (HL21.out.kp kp22 (fun g hg => by simp [hg]))
                have HB22 := Lib.hid (box_kept HB21.out kp22 (by simp))
                clear hF22 kp22 H22 HW21 HL21 HB21
                go_wp2_with fail
                refine (H23.out).mono ?_
                rintro e w23 ⟨s3, rfl, hF23, kp23, hl23, _⟩
                obtain ⟨A3, c3, rfl, _⟩ := hl23.ls
                have m24 := al_mod w23 (.cells #[.int .i64 0, .int .i64 0, .int .i64 0, .int .i64 0, .int .i64 0, .slice A3 ([] : List Int).length c3] TF)
                have H25 := Lib.hid ((hF23.far m24).step 1)
                rw [show stepEnd 1 [] = false from rfl, show errK 3 (-26) [] = -26 from rfl, show stepL 1 [] = [] from rfl] at H25
                have HW24 := Lib.hid ((HW22.out.kp kp23 (by simp)).mod m24 (by simp))
                have HL24 := Lib.hid ((HL22.out.kp kp23 (fun g hg => by simp [hg])).far m24)
                have HB24 := Lib.hid (box_kept (box_kept HB22.out kp23 (by simp)) (Kp.far (D := [B2]) m24) (by simp))
                dsimp only [List.length_nil] at H25 HW24 HL24 HB24
                clear hF23 kp23 hl23 m24 H23 HW22 HL22 HB22
                go_wp2_with fail
                refine (H25.out).mono ?_
                rintro e w25 ⟨rfl, hF25, kp25⟩
                have H26 := Lib.hid (hF25.index 0)
                rw [show indexL 0 [] = none from rfl] at H26
                have HW25 := Lib.hid (HW24.out.kp kp25 (by simp))
                have HL25 := Lib.hid (HL24.out.kp kp25 (fun g hg => by simp [hg]))
                have HB25 := Lib.hid (box_kept HB24.out kp25 (by simp))
                clear hF25 kp25 H25 HW24 HL24 HB24
                go_wp2_with fail
                refine (H26.out).mono ?_
                rintro e w26 ⟨rfl, hF26, kp26⟩
                have HW26 := HW25.out.kp kp26 (by simp)
                have HL26 := HL25.out.kp kp26 (fun g hg => by simp [hg])
                have HB26 := box_kept HB25.out kp26 (by simp)
                obtain ⟨y0, y1, y2, y3, y4, y5, _⟩ := six_at HB26
                have H27 := Lib.hid (one_calls (q := ⟨k, 0, 0, 0, 0, X⟩) HL26.ls (HW26.ls HN.out) (by have := HN.out; simp; omega))
                unfold frV at H27
                dsimp only at H27
                have HF26 := Lib.hid hF26
                simp only [orE, Option.isSome_none, Bool.false_eq_true, if_false]
                clear hF26 kp26 H26 HW25 HL25 HB25 HW26 HL26 HB26
                go_wp2_with fail
                refine (H27.out).mono ?_
                rintro e w27 ⟨rfl, m27⟩
                have H28 := Lib.hid ((HF26.out.far m27).depth 0 rfl)
                have HM := Lib.hid (HF26.out.mod.trans m27)
                clear m27 H27 HF26
                go_wp2_with fail
                refine (H28.out).mono ?_
                rintro e w28 ⟨rfl, rfl⟩
                go_wp2_with fail
                go_ret
                exact ⟨rfl, HM.out⟩
end Go.Proofs.Ytacmidlhfcnkiaa
