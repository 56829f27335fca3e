/- Layer 14: FrameCatches. No condition. -/
import Derived.Test.YtacmidlhfcnkiaaGU
namespace Go.Proofs.Ytacmidlhfcnkiaa
open Go.RowKit Go.ChangeShapes Go.WideShapes
set_option linter.unusedVariables false

/-- The head of M bytes of a slice that came in. -/
structure CameU (w : World) (A : Option Addr) (len cap M : Nat) (X : List Int) (k : Nat) : Prop where
  s : ∀ j (hj : j < k), ∃ b o, A = some ⟨b, o, none⟩ ∧ w.cell? ⟨b, o + j, none⟩ = some (.int .u8 (X.getD j 0))
  n : X.length = k
  e : k = min len M
  i : ∀ j, 0 ≤ X.getD j 0 ∧ X.getD j 0 ≤ 255
  l : len ≤ cap
  m : cap ≤ 9223372036854775807
  h : ∀ W, (Instr.sliceAt 55 (.slice A len cap) none (some (.int .i64 (k : Int))) none).run Try.prog W = .ok (.slice A k cap) W
theorem RowIn.cameU {w : World} {A : Option Addr} {len cap : Nat} {zs : List Int} (R : RowIn .u8 w A len cap zs) (M : Nat) : ∃ X k, CameU w A len cap M X k := by
  rcases R with ⟨rfl, rfl, rfl, rfl⟩ | ⟨x, rfl, h1, h2, h3, h4, h5⟩
  · exact ⟨[], 0, fun j hj => absurd hj (by omega), rfl, by simp, fun j => by simp, Nat.le_refl _, by omega, fun W => upto_in W _ _ Try.underlying55 Try.sizeByteIn _ _ _ 0 (Nat.le_refl _)⟩
  · refine ⟨zs.take (min len M), min len M, fun j hj => ?_, by simp; omega, rfl, fun j => ?_, h1, by unfold maxLen at h2; omega, fun W => upto_in W _ _ Try.underlying55 Try.sizeByteIn _ _ _ _ (by omega)⟩
    · have hz : j < zs.length := by omega
      have hc := h4 j hz
      have e2 : (zs.take (min len M)).getD j 0 = zs.getD j 0 := by simp only [List.getD_eq_getElem?_getD]; rw [List.getElem?_take_of_lt hj]
      rw [e2]
      have hsp : x.spot = none := by
        have h0 := h4 0 (by omega)
        rw [add_zero_in] at h0
        exact World.cell?_spot h0
      obtain ⟨b, o, sp⟩ := x
      cases sp with
      | none =>
        refine ⟨b, o, rfl, ?_⟩
        have : (⟨b, o, none⟩ : Addr).add j = ⟨b, o + j, none⟩ := by unfold Addr.add; split <;> simp_all
        rw [← this]
        exact hc
      | some s => simp at hsp
    · rw [List.getD_eq_getElem?_getD]
      cases e : (zs.take (min len M))[j]? with
      | none => simp
      | some y => exact bounds_u8 (h5 y (List.mem_of_mem_take (List.mem_of_getElem? e)))
abbrev bf (X : List Int) (i : Nat) : Fm := ⟨X.getD i 0 % 7 + 1, (i : Int), 0, 0, 0, []⟩
abbrev bl (X : List Int) (n : Nat) : List Fm := (List.range n).map (bf X)
theorem bl_succ (X : List Int) (n : Nat) : bl X (n + 1) = bl X n ++ [bf X n] := by
  show (List.range (n + 1)).map (bf X) = (List.range n).map (bf X) ++ [bf X n]
  rw [List.range_succ, List.map_append]
  rfl
abbrev uk (c : Int) : Int := if c % 7 + 1 = 5 then 2 else c % 7 + 1
abbrev uf (X : List Int) (i : Nat) : Fm := ⟨uk (X.getD i 0), 0, 0, 0, 0, []⟩
abbrev ul (X : List Int) (n : Nat) : List Fm := (List.range n).map (uf X)
theorem ul_none (X : List Int) (n : Nat) : ∀ b ∈ ul X n, isCatch b = false := fun b hb => by
  obtain ⟨i, _, rfl⟩ := List.mem_map.1 hb
  unfold isCatch uf uk
  dsimp only
  split
  · decide
  · rename_i h; exact decide_eq_false h
theorem pop_nobody (w : World) (k : Int) : Calls Try.prog 27 #[.pointer none, .int .i64 k] w fun e w' => e = .returned (.tuple #[.agg zC, .int .i64 2]) ∧ Mod [] w w' := by
  have mA := al_mod w (.cells zC TF)
  have hb := box_of (Mod.refl [] (w.alloc (.cells zC TF)))
  obtain ⟨d0, d1, d2, d3, d4, d5, g0, g1, g2, g3, g4, g5⟩ := six_at hb
  have HB := Lib.hid (And.intro hb mA)
  clear mA hb
  go_enter Try.func27, Try.ntmps27
  go_wp2_with fail
  exact bodyPost_ret (res_fr2 Try.results27 rfl HB.out.1) rfl ⟨rfl, HB.out.2⟩
abbrev cfF : Fm := ⟨5, 99, 3, 5, 0, []⟩
theorem push_bl {X : List Int} {i : Nat} (h : i < 50) : pushE (bl X i) = 0 ∧ pushL (bl X i) (bf X i) = bl X (i + 1) := by
  unfold pushE pushL
  have : ¬ 128 ≤ (bl X i).length := by simp; omega
  rw [if_neg this, if_neg this, bl_succ]
  exact ⟨rfl, rfl⟩
theorem push_cf {X : List Int} {n : Nat} (h : n ≤ 50) : pushE (bl X n) = 0 ∧ pushL (bl X n) cfF = bl X n ++ cfF :: ul [] 0 := by
  unfold pushE pushL
  have : ¬ 128 ≤ (bl X n).length := by simp; omega
  rw [if_neg this, if_neg this]
  exact ⟨rfl, rfl⟩
theorem push_ul {X Y : List Int} {n j : Nat} (h : n ≤ 50) (hj : j < 50) : pushE (bl X n ++ cfF :: ul Y j) = 0 ∧ pushL (bl X n ++ cfF :: ul Y j) (uf Y j) = bl X n ++ cfF :: ul Y (j + 1) := by
  unfold pushE pushL
  have : ¬ 128 ≤ (bl X n ++ cfF :: ul Y j).length := by simp; omega
  rw [if_neg this, if_neg this]
  refine ⟨rfl, ?_⟩
  have : ul Y (j + 1) = ul Y j ++ [uf Y j] := by
    show (List.range (j + 1)).map (uf Y) = (List.range j).map (uf Y) ++ [uf Y j]
    rw [List.range_succ, List.map_append]
    rfl
  rw [this]
  simp
theorem pop_bl (X : List Int) (m : Nat) : (topK (X.getD m 0 % 7 + 1) (bl X (m + 1))).getD zF = bf X m ∧ errK (X.getD m 0 % 7 + 1) (-6) (bl X (m + 1)) = 0 ∧ popL (X.getD m 0 % 7 + 1) (bl X (m + 1)) = bl X m := by
  unfold popL errK
  rw [bl_succ, topK_snoc]
  simp
set_option maxRecDepth 100000 in
set_option maxHeartbeats 8000000 in
theorem catches_walk (w : World) (A1 : Option Addr) (len1 cap1 : Nat) (zs1 : List Int) (R1 : RowIn .u8 w A1 len1 cap1 zs1) (A2 : Option Addr) (len2 cap2 : Nat) (zs2 : List Int) (R2 : RowIn .u8 w A2 len2 cap2 zs2) :
    Calls Try.prog 6 #[.slice A1 len1 cap1, .slice A2 len2 cap2] w fun e w' => e = .returned (.bool true) ∧ Mod [] w w' := by
  obtain ⟨X, n, C⟩ := R1.cameU 50
  obtain ⟨Y, m, D⟩ := R2.cameU 50
  have hup := C.h
  have hup2 := D.h
  have hmin : min (len1 : Int) 50 = (n : Int) := by have := C.e; omega
  have hmin2 : min (len2 : Int) 50 = (m : Int) := by have := D.e; omega
  have hn50 : n ≤ 50 := by have := C.e; omega
  have hm50 : m ≤ 50 := by have := D.e; omega
  have hnI : (n : Int) ≤ 50 := by omega
  have hmI : (m : Int) ≤ 50 := by omega
  have hnl : (n : Int) ≤ (len1 : Int) := by have := C.e; omega
  have HL1 : (len1 : Int) ≤ 9223372036854775807 := by have := C.l; have := C.m; omega
  have HL2 : (len2 : Int) ≤ 9223372036854775807 := by have := D.l; have := D.m; omega
  have HAT := Lib.hid (fun W (mm : Mod [] w W) j (hj : j < n) => (by
    obtain ⟨b, o, e, hc⟩ := C.s j hj
    exact ⟨b, o, e, mm.cell (by simp) hc⟩ : ∃ b o, A1 = some ⟨b, o, none⟩ ∧ W.cell? ⟨b, o + j, none⟩ = some (.int .u8 (X.getD j 0))))
  have HBT := Lib.hid (fun W (mm : Mod [] w W) j (hj : j < m) => (by
    obtain ⟨b, o, e, hc⟩ := D.s j hj
    exact ⟨b, o, e, mm.cell (by simp) hc⟩ : ∃ b o, A2 = some ⟨b, o, none⟩ ∧ W.cell? ⟨b, o + j, none⟩ = some (.int .u8 (Y.getD j 0))))
  have HXI := Lib.hid C.i
  have HYI := Lib.hid D.i
  have H0 := Lib.hid (shown_calls w)
  clear C D R1 R2
  go_enter Try.func6, Try.ntmps6
  go_wp2_with fail
  refine (H0.out).mono ?_
  rintro e w1 ⟨rfl, hm1⟩
  have H1 := Lib.hid (new_fd hm1)
  clear hm1 H0
  go_wp2_with fail
  refine (H1.out).mono ?_
  rintro e w2 ⟨p, rfl, hF, _⟩
  have HF := Lib.hid hF
  clear hF H1
  go_wp2_with fail
  go_loopw [36] (fun z wr => ∃ i : Nat, z = .int .i64 (i : Int) ∧ i ≤ n ∧ RowKit.Hid (Fd TP w wr p (bl X i) [])) (fun z _ => n - (intOf z).toNat)
  case atStart => exact ⟨0, rfl, by omega, HF⟩
  case round =>
    obtain ⟨i, rfl, hi, hF⟩ := hrel
    by_cases hlt : i < n
    · have hiI : (i : Int) < (n : Int) := by omega
      have hi0 : (0 : Int) ≤ (i : Int) := by omega
      obtain ⟨b, o, rfl, hc⟩ := HAT.out wr hF.out.mod i hlt
      obtain ⟨hp1, hp2⟩ := push_bl (X := X) (i := i) (by omega)
      have H2 := Lib.hid (hF.out.push (q := bf X i) (Ls.nil wr) (by simp))
      rw [hp1, hp2] at H2
      obtain ⟨c, hcc⟩ : ∃ c, c = X.getD i 0 := ⟨_, rfl⟩
      obtain ⟨c0, c1⟩ := HXI.out i
      unfold frV bf at H2
      dsimp only at H2
      rw [← hcc] at hc H2 c0 c1
      clear hp1 hp2 hcc
      go_wp2_with fail
      refine (H2.out).mono ?_
      rintro e w3 ⟨rfl, hF3, _⟩
      have HF3 := Lib.hid hF3
      clear hF3 H2
      go_wp2_with fail
      go_roundw
      case rel => exact ⟨i + 1, by go_num, by omega, HF3⟩
      case measure => simp [intOf]; omega
    · have hiI : ¬ (i : Int) < (n : Int) := by omega
      have hin : i = n := by omega
      rw [hin] at hF
      have H2 := Lib.hid (hF.out.push (q := cfF) (Ls.nil wr) (by simp))
      rw [(push_cf hn50).1, (push_cf hn50).2] at H2
      unfold frV cfF at H2
      dsimp only at H2
      clear HF hin hi hlt hF
      go_wp2_with fail
      refine (H2.out).mono ?_
      rintro e w3 ⟨rfl, hF3, _⟩
      have HF3 := Lib.hid hF3
      clear hF3 H2
      go_wp2_with fail
      go_loopw [61] (fun z wr2 => ∃ j : Nat, z = .int .i64 (j : Int) ∧ j ≤ m ∧ RowKit.Hid (Fd TP w wr2 p (bl X n ++ cfF :: ul Y j) [])) (fun z _ => m - (intOf z).toNat)
      case atStart => exact ⟨0, rfl, by omega, HF3⟩
      case round =>
        obtain ⟨j, rfl, hj, hF⟩ := hrel
        by_cases hlt : j < m
        · have hjI : (j : Int) < (m : Int) := by omega
          have hj0 : (0 : Int) ≤ (j : Int) := by omega
          obtain ⟨b, o, rfl, hc⟩ := HBT.out wr hF.out.mod j hlt
          obtain ⟨hp1, hp2⟩ := push_ul (X := X) (Y := Y) (n := n) (j := j) hn50 (by omega)
          have H4 := Lib.hid (hF.out.push (q := uf Y j) (Ls.nil wr) (by simp))
          rw [hp1, hp2] at H4
          obtain ⟨c, hcc⟩ : ∃ c, c = Y.getD j 0 := ⟨_, rfl⟩
          obtain ⟨c0, c1⟩ := HYI.out j
          unfold frV uf uk at H4
          dsimp only at H4
          rw [← hcc] at hc H4 c0 c1
          clear hp1 hp2 hcc HF3
          by_cases h5 : c % 7 + 1 = 5
          · have q1 : (c % 7 + 1 == 5) = true := by simpa using h5
            rw [if_pos h5] at H4
            clear h5
            go_wp2_with fail
            refine (H4.out).mono ?_
            rintro e w5 ⟨rfl, hF5, _⟩
            have HF5 := Lib.hid hF5
            clear hF5 H4
            go_wp2_with fail
            go_roundw
            case rel => exact ⟨j + 1, by go_num, by omega, HF5⟩
            case measure => simp [intOf]; omega
          · have q1 : (c % 7 + 1 == 5) = false := by simpa using h5
            rw [if_neg h5] at H4
            clear h5
            go_wp2_with fail
            refine (H4.out).mono ?_
            rintro e w5 ⟨rfl, hF5, _⟩
            have HF5 := Lib.hid hF5
            clear hF5 H4
            go_wp2_with fail
            go_roundw
            case rel => exact ⟨j + 1, by go_num, by omega, HF5⟩
            case measure => simp [intOf]; omega
        · have hjI : ¬ (j : Int) < (m : Int) := by omega
          have H4 := Lib.hid (hF.out.catch_ rfl (ul_none Y j))
          unfold frV at H4
          dsimp only at H4
          clear HF3 hj hlt hF
          go_wp2_with fail
          refine (H4.out).mono ?_
          rintro e w5 ⟨s', rfl, hF5, _, hl5, _⟩
          obtain ⟨A5, c5, rfl, _⟩ := hl5.ls
          have m6 := al_mod w5 (.cells #[.int .i64 5, .int .i64 99, .int .i64 3, .int .i64 5, .int .i64 0, .slice A5 ([] : List Int).length c5] TF)
          have b6 := (MapKept.heap_alloc w5 (.cells #[.int .i64 5, .int .i64 99, .int .i64 3, .int .i64 5, .int .i64 0, .slice A5 ([] : List Int).length c5] TF)).1
          have HF6 := Lib.hid ((hF5.add m6 (Nat.le_refl _) (by rw [size_allocI]; omega)).less (D' := [w5.heap.size]) (by simp))
          have HL6 := Lib.hid (one_calls (q := cfF) (hl5.far m6).ls (Ls.nil _) (by simp))
          obtain ⟨B, hB⟩ : ∃ B, B = w5.heap.size := ⟨_, rfl⟩
          rw [← hB] at b6 HF6
          have HBe := Lib.hid hB
          unfold frV cfF at HL6
          dsimp only [List.length_nil] at HF6 HL6 b6
          clear hB m6 hF5 hl5 H4
          go_upto_region 24 with fail
          rw [← HBe.out]
          try simp only [List.length_nil]
          generalize w5.alloc (.cells #[.int .i64 5, .int .i64 99, .int .i64 3, .int .i64 5, .int .i64 0, .slice A5 0 c5] TF) = w6 at HF6 HL6 b6 ⊢
          obtain ⟨y0, y1, y2, y3, y4, y5, _⟩ := six_at b6
          have HB6 := Lib.hid b6
          clear b6
          go_wp2_with fail
          refine (HL6.out).mono ?_
          rintro e w7 ⟨rfl, m7⟩
          have HF7 := Lib.hid (HF6.out.far m7)
          have HB7 := Lib.hid (box_kept HB6.out (Kp.far (D := [B]) m7) (by simp))
          have H8 := Lib.hid (HF7.out.depth n (by simp))
          clear m7 HF6 HB6 HL6 y0 y1 y2 y3 y4 y5
          go_wp2_with fail
          refine (H8.out).mono ?_
          rintro e w8 ⟨rfl, rfl⟩
          clear H8
          go_wp2_with fail
          go_loopw [15] (fun z wr3 => ∃ k : Nat, z = .int .i64 ((k : Int) - 1) ∧ k ≤ n ∧ RowKit.Hid (Fd TP w wr3 p (bl X k) [B]) ∧ RowKit.Hid (wr3.heap[B]? = some (.cells #[.int .i64 5, .int .i64 99, .int .i64 3, .int .i64 5, .int .i64 0, .slice A5 0 c5] TF (0, 0)))) (fun z _ => (intOf z + 1).toNat)
          case atStart => exact ⟨n, rfl, by omega, HF7, HB7⟩
          case round =>
            obtain ⟨k, rfl, hk, hF, hB⟩ := hrel
            by_cases hk0 : 0 < k
            · obtain ⟨i, rfl⟩ : ∃ i, k = i + 1 := ⟨k - 1, by omega⟩
              have hiI : ((i + 1 : Nat) : Int) - 1 = (i : Int) := by omega
              rw [hiI]
              have hi0 : (0 : Int) ≤ (i : Int) := by omega
              have hil : (i : Int) < (len1 : Int) := by omega
              obtain ⟨b, o, rfl, hc⟩ := HAT.out wr hF.out.mod i (by omega)
              have H9 := Lib.hid (hF.out.pop (X.getD i 0 % 7 + 1))
              rw [(pop_bl X i).1, (pop_bl X i).2.1, (pop_bl X i).2.2] at H9
              obtain ⟨c, hcc⟩ : ∃ c, c = X.getD i 0 := ⟨_, rfl⟩
              obtain ⟨c0, c1⟩ := HXI.out i
              unfold frV bf at H9
              dsimp only at H9
              rw [← hcc] at hc H9 c0 c1
              have HH := Lib.hid hiI
              clear hcc HF7 HB7 hiI
              go_wp2_with fail
              refine (H9.out).mono ?_
              rintro e w10 ⟨s9, rfl, hF10, kp10, hl10, _⟩
              obtain ⟨A9, c9, rfl, _⟩ := hl10.ls
              have m11 := al_mod w10 (.cells #[.int .i64 (c % 7 + 1), .int .i64 (i : Int), .int .i64 0, .int .i64 0, .int .i64 0, .slice A9 ([] : List Int).length c9] TF)
              have HF11 := Lib.hid ((hF10.far m11).less (D' := [B]) (by simp))
              have HB11 := Lib.hid (box_kept (box_kept hB.out kp10 (by simp)) (Kp.far (D := [B]) m11) (by simp))
              dsimp only [List.length_nil] at HF11 HB11
              clear hF10 kp10 hl10 m11 H9
              go_wp2_with fail
              go_roundw
              case rel => exact ⟨i, by go_num, by omega, HF11, HB11⟩
              case measure => simp [intOf]
            · have hk00 : k = 0 := by omega
              subst hk00
              have H9 := Lib.hid (hF.out.catchNo (by simp))
              have hz : ((0 : Nat) : Int) - 1 = -1 := by omega
              rw [hz]
              clear HF7 HB7 hk hk0 hz hF
              go_wp2_with fail
              refine (H9.out).mono ?_
              rintro e w10 ⟨rfl, hF10, kp10⟩
              have m11 := al_mod w10 (.cells zC TF)
              have HM11 := Lib.hid (hF10.mod.trans m11)
              have HB11 := Lib.hid (box_kept (box_kept hB.out kp10 (by simp)) (Kp.far (D := [B]) m11) (by simp))
              have H12 := Lib.hid (pop_nobody (w10.alloc (.cells zC TF)) 1)
              dsimp only [zC] at H12 HM11 HB11
              clear hF10 kp10 m11 H9 hB
              go_wp2_with fail
              refine (H12.out).mono ?_
              rintro e w12 ⟨rfl, m12⟩
              have m13 := m12.trans (al_mod w12 (.cells zC TF))
              have HM13 := Lib.hid (HM11.out.trans m13)
              have HB13 := Lib.hid (box_kept HB11.out (Kp.far (D := [B]) m13) (by simp))
              have H14 := Lib.hid (top_none (w12.alloc (.cells zC TF)))
              dsimp only [zC] at H14 HM13 HB13
              clear m12 m13 H12 HM11 HB11
              go_wp2_with fail
              refine (H14.out).mono ?_
              rintro e w14 ⟨rfl, m14⟩
              have m15 := m14.trans (al_mod w14 (.cells zC TF))
              have HM15 := Lib.hid (HM13.out.trans m15)
              have HB15 := box_kept HB13.out (Kp.far (D := [B]) m15) (by simp)
              dsimp only [zC] at HM15 HB15
              obtain ⟨y0, y1, y2, y3, y4, y5, _⟩ := six_at HB15
              have H16 := Lib.hid (push_none (w14.alloc (.cells zC TF)) cfF (.slice A5 0 c5))
              unfold frV cfF at H16
              dsimp only [zC] at H16
              clear m14 m15 H14 HM13 HB13 HB15
              go_wp2_with fail
              refine (H16.out).mono ?_
              rintro e w16 ⟨rfl, m16⟩
              have H17 := Lib.hid (depth_none w16)
              have HM16 := Lib.hid (HM15.out.trans m16)
              clear m16 H16 HM15
              go_wp2_with fail
              refine (H17.out).mono ?_
              rintro e w17 ⟨rfl, rfl⟩
              go_wp2_with fail
              go_ret
              exact ⟨rfl, HM16.out⟩
end Go.Proofs.Ytacmidlhfcnkiaa
