/- Layer 6: StackPicks's walk. Condition: the arguments are a slice of cells and a number of its kind. -/
import Derived.Test.YtjmbmhjhnoiclaaS6W
namespace Go.Proofs.Ytjmbmhjhnoiclaa
open Go.RowKit
set_option linter.unusedVariables false

theorem pick_far {X : List Int} {t : Nat} (h : X.length ≤ t) : doL 40 (X ++ [(t : Int)]) = (-4, X ++ [(t : Int)]) ∧ doL 41 (X ++ [(t : Int)]) = (-4, X ++ [(t : Int)]) := by
  have e : chosenAt (X ++ [(t : Int)]) = none := by
    rcases chosen_cases (X ++ [(t : Int)]) with ⟨e, _⟩ | ⟨A, x, B, h1, _⟩
    · exact e
    · exfalso
      have h2 : X ++ [(t : Int)] = (A ++ x :: B) ++ [(B.length : Int)] := by rw [h1]; simp
      have h3 := List.append_inj' h2 rfl
      injection h3.2 with h4
      have : X.length = A.length + B.length + 1 := by rw [h3.1]; simp; omega
      omega
  constructor
  · show pickL _ = _
    unfold pickL
    rw [e]
  · show rollL _ = _
    unfold rollL
    rw [e]
theorem pick_near {X : List Int} {t : Nat} (h : t < X.length) : ∃ A x B, X = A ++ x :: B ∧ B.length = t ∧ doL 40 (X ++ [(t : Int)]) = (0, X ++ [x]) ∧ doL 41 (X ++ [(t : Int)]) = (0, (A ++ B) ++ [x]) := by
  refine ⟨X.take (X.length - 1 - t), X[X.length - 1 - t], X.drop (X.length - 1 - t + 1), ?_, by simp; omega, ?_, ?_⟩
  · rw [← List.drop_eq_getElem_cons (by omega), List.take_append_drop]
  all_goals
    have e1 : X = X.take (X.length - 1 - t) ++ X[X.length - 1 - t] :: X.drop (X.length - 1 - t + 1) := by rw [← List.drop_eq_getElem_cons (by omega), List.take_append_drop]
    have e2 : (X.drop (X.length - 1 - t + 1)).length = t := by simp; omega
    generalize X[X.length - 1 - t] = x at e1
    generalize X.take (X.length - 1 - t) = A at e1
    generalize X.drop (X.length - 1 - t + 1) = B at e1 e2
    subst e1 e2
  · show pickL _ = _
    have := pickL_some A x B
    simpa using this
  · show rollL _ = _
    have := rollL_some A x B
    simpa using this
set_option maxHeartbeats 8000000 in
set_option maxRecDepth 100000 in
theorem picks_walk (w : World) (A : Option Addr) (len cap : Nat) (zs : List Int) (at_ : Int) (R : Row .i64 w A len cap zs) (hb : (Lit.int .u8 at_).wf = true) :
    Calls Try.prog 7 #[.slice A len cap, .int .u8 at_] w fun e w' => e = .returned (.bool true) ∧ Mod [] w w' := by
  obtain ⟨X, k, C⟩ := R.came 60
  have hu := bounds_u8 hb
  obtain ⟨t, rfl⟩ : ∃ t : Nat, at_ = (t : Int) := ⟨at_.toNat, by omega⟩
  have hm1 : (if (60 : Int) < (len : Int) then (60 : Int) else (len : Int)) = (k : Int) := by rw [C.e]; split <;> omega
  have hs1 := C.h
  have hk : k ≤ 60 := by rw [C.e]; exact Nat.min_le_right _ _
  have HX := Lib.hid (show X.length = k from C.n)
  have D := Lib.hid C
  have ht : t ≤ 255 := by omega
  clear C R hb hu
  go_enter Try.func7, Try.ntmps7
  go_wp2_with fail
  refine (shown_calls w).mono ?_
  rintro e w1 ⟨rfl, m1⟩
  have M1 := Lib.hid m1
  clear m1
  go_wp2_with fail
  refine (new_calls _).mono ?_
  rintro e w2 ⟨p, rfl, s2, m2, l2⟩
  have H2 := Lib.hid (And.intro s2 (And.intro (M1.out.far m2) (Nat.le_trans M1.out.size l2)))
  clear s2 m2 l2 M1
  go_wp2_with fail
  refine (new_calls _).mono ?_
  rintro e w3 ⟨q, rfl, s3, m3, l3⟩
  have P3 := Lib.hid (fresh2 H2.out.1 H2.out.2.1 H2.out.2.2 s3 m3 l3)
  clear s3 m3 l3 H2
  go_wp2_with fail
  refine (P3.out.put1 cap (D.out.s.far P3.out.m) D.out.n.symm D.out.i (by have := D.out.c; have := D.out.m; omega)).mono ?_
  rintro e w4 ⟨rfl, h4⟩
  rw [putL_nil X (by rw [HX.out]; omega)] at h4 ⊢
  have P4 := Lib.hid h4
  clear h4 P3
  go_wp2_with fail
  refine (P4.out.put2 cap (D.out.s.far P4.out.m) D.out.n.symm D.out.i (by have := D.out.c; have := D.out.m; omega)).mono ?_
  rintro e w5 ⟨rfl, h5⟩
  rw [putL_nil X (by rw [HX.out]; omega)] at h5 ⊢
  have P5 := Lib.hid h5
  clear h5 P4
  go_wp2_with fail
  refine (P5.out.push1 (t : Int) (by unfold I64; omega)).mono ?_
  rintro e w6 ⟨rfl, h6⟩
  have e6 : putL [(t : Int)] X = (0, X ++ [(t : Int)]) := putL_ok (by rw [HX.out]; simp; omega)
  rw [e6] at h6 ⊢
  have P6 := Lib.hid h6
  clear h6 P5
  have E6 := Lib.hid e6
  clear e6
  go_wp2_with fail
  refine (P6.out.push2 (t : Int) (by unfold I64; omega)).mono ?_
  rintro e w7 ⟨rfl, h7⟩
  rw [E6.out] at h7 ⊢
  have P7 := Lib.hid h7
  clear h7 P6 E6
  by_cases hkt : k ≤ t
  · have hf := pick_far (X := X) (t := t) (by rw [HX.out]; exact hkt)
    have HF := Lib.hid hf
    have HD := Lib.hid (show (X ++ [(t : Int)]).length = k + 1 by rw [List.length_append, HX.out]; rfl)
    clear hf
    go_wp2_with fail
    refine (P7.out.do1 40).mono ?_
    rintro e w8 ⟨rfl, h8⟩
    rw [HF.out.1] at h8 ⊢
    have P8 := Lib.hid h8
    clear h8 P7
    go_wp2_with fail
    refine (P8.out.do2 41).mono ?_
    rintro e w9 ⟨rfl, h9⟩
    rw [HF.out.2] at h9 ⊢
    have P9 := Lib.hid h9
    clear h9 P8
    go_wp2_with fail
    refine (depth_calls P9.out.s).mono ?_
    rintro e w10 ⟨rfl, rfl⟩
    rw [HD.out]
    go_wp2
    go_ret
    exact ⟨by simp, P9.out.m⟩
  · obtain ⟨A0, x, B, hXe, hBt, f1, f2⟩ := pick_near (X := X) (t := t) (by rw [HX.out]; omega)
    have HF := Lib.hid (And.intro hXe (And.intro hBt (And.intro f1 f2)))
    have hkt2 : ¬ k ≤ t := hkt
    clear hXe hBt f1 f2
    go_wp2_with fail
    refine (P7.out.do1 40).mono ?_
    rintro e w8 ⟨rfl, h8⟩
    rw [HF.out.2.2.1] at h8 ⊢
    have P8 := Lib.hid h8
    clear h8 P7
    go_wp2_with fail
    refine (P8.out.do2 41).mono ?_
    rintro e w9 ⟨rfl, h9⟩
    rw [HF.out.2.2.2] at h9 ⊢
    have P9 := Lib.hid h9
    clear h9 P8
    obtain ⟨kk, hkk⟩ : ∃ kk, kk = k - 1 - t := ⟨_, rfl⟩
    have hk1 : (k : Int) - 1 - (t : Int) = (kk : Int) := by omega
    have hkb : kk < k := by omega
    have hsl1 := fun W => cells_upto W A k cap kk (by have := D.out.c; omega)
    have hsl2 := fun W => cells_from_on W A k cap (kk + 1) hkb D.out.c
    have hA0l : A0.length = kk := by have h := HF.out; have h2 : X.length = A0.length + (B.length + 1) := by rw [h.1]; simp
                                     have := HX.out; omega
    have hst := D.out.s.take kk
    have hsd := D.out.s.drop (kk + 1) cap (by rw [HX.out]; exact D.out.c)
    rw [HF.out.1, ← hA0l, List.take_left] at hst
    rw [HF.out.1, ← hA0l, show A0 ++ x :: B = (A0 ++ [x]) ++ B by simp, List.drop_left' (by simp), hA0l] at hsd
    rw [show ((kk + 1 : Nat) : Int) = (kk : Int) + 1 from rfl] at hsl2
    have hfn := fromA_none (a := kk + 1) D.out.a
    obtain ⟨m1, hm1e⟩ : ∃ m1, m1 = k - (kk + 1) := ⟨_, rfl⟩
    obtain ⟨c2, hc2e⟩ : ∃ c2, c2 = cap - (kk + 1) := ⟨_, rfl⟩
    rw [← hm1e, ← hc2e] at hsl2
    rw [← hc2e] at hfn
    generalize fromA A (kk + 1) cap = Af at hsl2 hsd hfn
    obtain ⟨bb, off, hA, hcx⟩ := D.out.s kk (by rw [HX.out]; exact hkb)
    have ex : X[kk]'(by rw [HX.out]; exact hkb) = x := by
      have h := HF.out.1
      subst h
      simp [← hA0l]
    rw [ex] at hcx
    subst hA
    have HST := Lib.hid hst
    have HSD := Lib.hid hsd
    have HFN := Lib.hid hfn
    have HL := Lib.hid (show A0.length = kk ∧ B.length = m1 ∧ kk + m1 + 1 = k by have := HF.out.2.1; omega)
    have HCX := Lib.hid hcx
    have hbase := P9.out.s.lp
    have hbase2 := P9.out.t.lp
    have hbase3 := P9.out.m.size
    clear hst hsd hfn hA0l ex hcx hm1e hc2e hkk hkt
    have ro0 : Ro w9 w9.heap.size none 0 [] := Or.inl ⟨rfl, rfl, rfl⟩
    have R0 := Lib.hid ro0
    clear ro0
    go_wp2_with (refine wpList_appN rfl (.tmp 85) (.tmp 88) rfl R0.out (Nat.le_refl _) (HST.out.far P9.out.m) rfl HL.out.1.symm (by simp) (by rw [HL.out.1]; simp; omega) rfl rfl ?_)
    intro R1 c1 W1 r1 bl1
    have P10 := Lib.hid (P9.out.below bl1 hbase hbase2 hbase3)
    have RO1 := Lib.hid r1
    have BL1 := Lib.hid bl1
    clear r1 bl1 R0
    go_wp2_with (refine wpList_appN rfl (.tmp 90) (.tmp 94) rfl RO1.out BL1.out.size (HSD.out.far P10.out.m) (by simp [HL.out.1]) HL.out.2.1.symm HFN.out (by have := HL.out; simp; omega) rfl rfl ?_)
    intro R2 c3 W2 r2 bl2
    have P11 := Lib.hid (P10.out.below bl2 hbase hbase2 hbase3)
    have RO2 := Lib.hid (show Ro W2 w9.heap.size R2 c3 (A0 ++ B) from r2)
    have HSZ := Lib.hid (Nat.le_trans BL1.out.size bl2.size)
    clear r2 bl2 RO1 BL1 P9 P10
    -- LAST REGION
    have mA0 := Lib.hid (show Mod [] W2 (W2.drew) from (Mod.refl [] W2).drew)
    have mA1 := Lib.hid (show Mod [] W2 ((W2.alloc (.cells #[] 31)).drew) from ((Mod.refl [] W2).alloc (.cells #[] 31)).drew)
    have mA2 := Lib.hid (show Mod [] W2 (((W2.alloc (.cells #[] 31)).alloc (.cells #[.int .i64 x] 31)).drew) from (((Mod.refl [] W2).alloc (.cells #[] 31)).alloc (.cells #[.int .i64 x] 31)).drew)
    have mA3 := Lib.hid (show Mod [] W2 (((W2.alloc (.cells #[.int .i64 x] 31)).alloc (.cells #[] 31)).drew) from (((Mod.refl [] W2).alloc (.cells #[.int .i64 x] 31)).alloc (.cells #[] 31)).drew)
    have mA4 := Lib.hid (show Mod [] W2 ((W2.alloc (.cells #[.int .i64 x] 31)).drew) from ((Mod.refl [] W2).alloc (.cells #[.int .i64 x] 31)).drew)
    have n0 : ∀ W, Ow (World.alloc W (.cells #[] 31)) W.heap.size [] 0 := fun W => Ow.new W [] (Nat.zero_le _)
    have n1 : ∀ W, Ow (World.alloc W (.cells #[.int .i64 x] 31)) W.heap.size [x] 1 := fun W => Ow.new W [x] (by unfold maxLen; simp)
    have n0' : ∀ W o, Ow (World.alloc (World.alloc W o) (.cells #[] 31)) (W.heap.size + 1) [] 0 := fun W o => by rw [← size_alloc' W o]; exact Ow.new _ [] (Nat.zero_le _)
    have n1' : ∀ W o, Ow (World.alloc (World.alloc W o) (.cells #[.int .i64 x] 31)) (W.heap.size + 1) [x] 1 := fun W o => by rw [← size_alloc' W o]; exact Ow.new _ [x] (by unfold maxLen; simp)
    have N0 := Lib.hid n0
    have N1 := Lib.hid n1
    have N0' := Lib.hid n0'
    have N1' := Lib.hid n1'
    have DR := Lib.hid (fun (W : World) => (Mod.refl [] W).drew)
    have AL := Lib.hid (fun (W : World) (o : Obj) => (Mod.refl [] W).alloc o)
    have HLk := Lib.hid (show (X ++ [x]).length = k + 1 by rw [List.length_append, HX.out]; rfl)
    have HLm := Lib.hid (show (A0 ++ B ++ [x]).length = k by have := HL.out; simp; omega)
    have hcw := P11.out.m.cell (by simp) HCX.out
    have hcd := mA0.out.cell (by simp) hcw
    have HCW := Lib.hid hcw
    have g1 : (0 : Int) ≤ (kk : Int) := by omega
    have g2 : (kk : Int) < (k : Int) := by omega
    have HB0 := Lib.hid (And.intro hbase (And.intro hbase2 hbase3))
    clear n0 n1 n0' n1' hsl1 hsl2 hs1 hm1 hk1
    go_wp2_with fail
    go_region_held3 (fun V => V.cell? ⟨bb, off + kk, none⟩ = some (.int .i64 x)) (first | assumption | go_keep) (first
      | ((with_reducible refine (Pr.all1 (P11.out.far mA0.out)).mono ?_); rintro e wA ⟨bA, cA, rfl, hoA, hlA, hmA, hPA⟩; rw [HLk.out]; have OA := Lib.hid hoA; have MW := Lib.hid (mA0.out.trans hmA); have hcA := MW.out.cell (by simp) HCW.out; have LA := Lib.hid (Nat.le_trans mA0.out.size hlA); clear hoA hlA hmA hPA)
      | ((with_reducible refine (Pr.all1 (P11.out.far mA1.out)).mono ?_); rintro e wA ⟨bA, cA, rfl, hoA, hlA, hmA, hPA⟩; rw [HLk.out]; have OA := Lib.hid hoA; have MW := Lib.hid (mA1.out.trans hmA); have hcA := MW.out.cell (by simp) HCW.out; have LA := Lib.hid (Nat.le_trans mA1.out.size hlA); have oo0 : Ow ((W2.alloc (.cells #[] 31)).drew) W2.heap.size [] 0 := (N0.out W2).mod (DR.out _) (by simp); have OB0 := Lib.hid (show Ow wA W2.heap.size [] 0 from oo0.mod hmA (by simp)); have NE0 := Lib.hid (show W2.heap.size ≠ bA by have := oo0.lt; omega); clear oo0; clear hoA hlA hmA hPA)
      | ((with_reducible refine (Pr.all1 (P11.out.far mA2.out)).mono ?_); rintro e wA ⟨bA, cA, rfl, hoA, hlA, hmA, hPA⟩; rw [HLk.out]; have OA := Lib.hid hoA; have MW := Lib.hid (mA2.out.trans hmA); have hcA := MW.out.cell (by simp) HCW.out; have LA := Lib.hid (Nat.le_trans mA2.out.size hlA); have oo0 : Ow (((W2.alloc (.cells #[] 31)).alloc (.cells #[.int .i64 x] 31)).drew) W2.heap.size [] 0 := ((N0.out W2).mod (AL.out _ _) (by simp)).mod (DR.out _) (by simp); have OB0 := Lib.hid (show Ow wA W2.heap.size [] 0 from oo0.mod hmA (by simp)); have NE0 := Lib.hid (show W2.heap.size ≠ bA by have := oo0.lt; omega); clear oo0; have oo1 : Ow (((W2.alloc (.cells #[] 31)).alloc (.cells #[.int .i64 x] 31)).drew) (W2.heap.size + 1) [x] 1 := (N1'.out W2 _).mod (DR.out _) (by simp); have OB1 := Lib.hid (show Ow wA (W2.heap.size + 1) [x] 1 from oo1.mod hmA (by simp)); clear oo1; clear hoA hlA hmA hPA)
      | ((with_reducible refine (Pr.all1 (P11.out.far mA3.out)).mono ?_); rintro e wA ⟨bA, cA, rfl, hoA, hlA, hmA, hPA⟩; rw [HLk.out]; have OA := Lib.hid hoA; have MW := Lib.hid (mA3.out.trans hmA); have hcA := MW.out.cell (by simp) HCW.out; have LA := Lib.hid (Nat.le_trans mA3.out.size hlA); have oo0 : Ow (((W2.alloc (.cells #[.int .i64 x] 31)).alloc (.cells #[] 31)).drew) (W2.heap.size + 1) [] 0 := (N0'.out W2 _).mod (DR.out _) (by simp); have OB0 := Lib.hid (show Ow wA (W2.heap.size + 1) [] 0 from oo0.mod hmA (by simp)); have NE0 := Lib.hid (show (W2.heap.size + 1) ≠ bA by have := oo0.lt; omega); clear oo0; have oo1 : Ow (((W2.alloc (.cells #[.int .i64 x] 31)).alloc (.cells #[] 31)).drew) W2.heap.size [x] 1 := ((N1.out W2).mod (AL.out _ _) (by simp)).mod (DR.out _) (by simp); have OB1 := Lib.hid (show Ow wA W2.heap.size [x] 1 from oo1.mod hmA (by simp)); clear oo1; clear hoA hlA hmA hPA)
      | ((with_reducible refine (Pr.all1 (P11.out.far mA4.out)).mono ?_); rintro e wA ⟨bA, cA, rfl, hoA, hlA, hmA, hPA⟩; rw [HLk.out]; have OA := Lib.hid hoA; have MW := Lib.hid (mA4.out.trans hmA); have hcA := MW.out.cell (by simp) HCW.out; have LA := Lib.hid (Nat.le_trans mA4.out.size hlA); have oo1 : Ow ((W2.alloc (.cells #[.int .i64 x] 31)).drew) W2.heap.size [x] 1 := (N1.out W2).mod (DR.out _) (by simp); have OB1 := Lib.hid (show Ow wA W2.heap.size [x] 1 from oo1.mod hmA (by simp)); clear oo1; clear hoA hlA hmA hPA)
      | (refine step_appP (by rfl) (.tmp 108) (.tmp 109) (by rfl) (Or.inr ⟨W2.heap.size, rfl, Nat.zero_le _, OB0.out⟩) (D.out.s.far (P11.out.m.far MW.out)) (by rfl) HX.out.symm (by simp) (by rw [HX.out]; simp; omega) (by rfl) (by rfl) ?_; intro R3 cr3 w1x r3 s3 l3; have MW1 := Lib.hid (s3.new MW.out (fun y hy => by injection hy with hy; subst hy; have h := MW.out.size; show W2.heap.size ≤ W2.heap.size; omega)); have O1A := Lib.hid (s3.ow OA.out (fun y hy => by injection hy with hy; subst hy; exact NE0.out)); have RO3 := Lib.hid r3; have NR3 := Lib.hid (show ∀ y, R3 = some y → W2.heap.size ≤ y.block ∧ y.block ≠ bA from fun y hy => by (rcases l3 y hy with h | h); (injection h with h; subst h; exact ⟨by have h := MW.out.size; show W2.heap.size ≤ W2.heap.size; omega, NE0.out⟩); (rw [h]; exact ⟨(MW.out).size, Ne.symm (Nat.ne_of_lt (OA.out).lt)⟩)); have hc1x := MW1.out.cell (by simp) HCW.out; have O1B := Lib.hid (s3.ow OB1.out (fun y hy => by injection hy with hy; subst hy; exact (by simp))); clear r3 s3 l3)
      | (refine step_appP (by rfl) (.tmp 108) (.tmp 109) (by rfl) (Or.inr ⟨(W2.heap.size + 1), rfl, Nat.zero_le _, OB0.out⟩) (D.out.s.far (P11.out.m.far MW.out)) (by rfl) HX.out.symm (by simp) (by rw [HX.out]; simp; omega) (by rfl) (by rfl) ?_; intro R3 cr3 w1x r3 s3 l3; have MW1 := Lib.hid (s3.new MW.out (fun y hy => by injection hy with hy; subst hy; have h := MW.out.size; show W2.heap.size ≤ (W2.heap.size + 1); omega)); have O1A := Lib.hid (s3.ow OA.out (fun y hy => by injection hy with hy; subst hy; exact NE0.out)); have RO3 := Lib.hid r3; have NR3 := Lib.hid (show ∀ y, R3 = some y → W2.heap.size ≤ y.block ∧ y.block ≠ bA from fun y hy => by (rcases l3 y hy with h | h); (injection h with h; subst h; exact ⟨by have h := MW.out.size; show W2.heap.size ≤ (W2.heap.size + 1); omega, NE0.out⟩); (rw [h]; exact ⟨(MW.out).size, Ne.symm (Nat.ne_of_lt (OA.out).lt)⟩)); have hc1x := MW1.out.cell (by simp) HCW.out; have O1B := Lib.hid (s3.ow OB1.out (fun y hy => by injection hy with hy; subst hy; exact (by simp))); clear r3 s3 l3)
      | (refine step_appP (by rfl) (.tmp 108) (.tmp 109) (by rfl) (Or.inr ⟨W2.heap.size, rfl, Nat.zero_le _, OB0.out⟩) (D.out.s.far (P11.out.m.far MW.out)) (by rfl) HX.out.symm (by simp) (by rw [HX.out]; simp; omega) (by rfl) (by rfl) ?_; intro R3 cr3 w1x r3 s3 l3; have MW1 := Lib.hid (s3.new MW.out (fun y hy => by injection hy with hy; subst hy; have h := MW.out.size; show W2.heap.size ≤ W2.heap.size; omega)); have O1A := Lib.hid (s3.ow OA.out (fun y hy => by injection hy with hy; subst hy; exact NE0.out)); have RO3 := Lib.hid r3; have NR3 := Lib.hid (show ∀ y, R3 = some y → W2.heap.size ≤ y.block ∧ y.block ≠ bA from fun y hy => by (rcases l3 y hy with h | h); (injection h with h; subst h; exact ⟨by have h := MW.out.size; show W2.heap.size ≤ W2.heap.size; omega, NE0.out⟩); (rw [h]; exact ⟨(MW.out).size, Ne.symm (Nat.ne_of_lt (OA.out).lt)⟩)); have hc1x := MW1.out.cell (by simp) HCW.out; clear r3 s3 l3)
      | (refine step_appP (by rfl) (.tmp 108) (.tmp 109) (by rfl) (Or.inr ⟨W2.heap.size, rfl, Nat.zero_le _, (OB0.out.mod (AL.out _ (.cells #[.int .i64 x] 31)) (by simp))⟩) (D.out.s.far (P11.out.m.far (MW.out.far (AL.out _ (.cells #[.int .i64 x] 31))))) (by rfl) HX.out.symm (by simp) (by rw [HX.out]; simp; omega) (by rfl) (by rfl) ?_; intro R3 cr3 w1x r3 s3 l3; have MW1 := Lib.hid (s3.new (MW.out.far (AL.out _ (.cells #[.int .i64 x] 31))) (fun y hy => by injection hy with hy; subst hy; have h := MW.out.size; show W2.heap.size ≤ W2.heap.size; omega)); have O1A := Lib.hid (s3.ow (OA.out.mod (AL.out _ (.cells #[.int .i64 x] 31)) (by simp)) (fun y hy => by injection hy with hy; subst hy; exact NE0.out)); have RO3 := Lib.hid r3; have NR3 := Lib.hid (show ∀ y, R3 = some y → W2.heap.size ≤ y.block ∧ y.block ≠ bA from fun y hy => by (rcases l3 y hy with h | h); (injection h with h; subst h; exact ⟨by have h := MW.out.size; show W2.heap.size ≤ W2.heap.size; omega, NE0.out⟩); (rw [h]; exact ⟨((MW.out.far (AL.out _ (.cells #[.int .i64 x] 31)))).size, Ne.symm (Nat.ne_of_lt ((OA.out.mod (AL.out _ (.cells #[.int .i64 x] 31)) (by simp))).lt)⟩)); have hc1x := MW1.out.cell (by simp) HCW.out; have O1B := Lib.hid (s3.ow (N1.out wA) (fun y hy => by injection hy with hy; subst hy; exact (by have := OB0.out.lt; simp; omega))); clear r3 s3 l3)
      | (refine step_appP (by rfl) (.tmp 108) (.tmp 109) (by rfl) (Or.inr ⟨wA.heap.size, rfl, Nat.zero_le _, (N0.out wA)⟩) (D.out.s.far (P11.out.m.far (MW.out.far (AL.out _ (.cells #[] 31))))) (by rfl) HX.out.symm (by simp) (by rw [HX.out]; simp; omega) (by rfl) (by rfl) ?_; intro R3 cr3 w1x r3 s3 l3; have MW1 := Lib.hid (s3.new (MW.out.far (AL.out _ (.cells #[] 31))) (fun y hy => by injection hy with hy; subst hy; have h := MW.out.size; show W2.heap.size ≤ wA.heap.size; omega)); have O1A := Lib.hid (s3.ow (OA.out.mod (AL.out _ (.cells #[] 31)) (by simp)) (fun y hy => by injection hy with hy; subst hy; exact (by have := OA.out.lt; simp; omega))); have RO3 := Lib.hid r3; have NR3 := Lib.hid (show ∀ y, R3 = some y → W2.heap.size ≤ y.block ∧ y.block ≠ bA from fun y hy => by (rcases l3 y hy with h | h); (injection h with h; subst h; exact ⟨by have h := MW.out.size; show W2.heap.size ≤ wA.heap.size; omega, (by have := OA.out.lt; simp; omega)⟩); (rw [h]; exact ⟨((MW.out.far (AL.out _ (.cells #[] 31)))).size, Ne.symm (Nat.ne_of_lt ((OA.out.mod (AL.out _ (.cells #[] 31)) (by simp))).lt)⟩)); have hc1x := MW1.out.cell (by simp) HCW.out; have O1B := Lib.hid (s3.ow (OB1.out.mod (AL.out _ (.cells #[] 31)) (by simp)) (fun y hy => by injection hy with hy; subst hy; exact (by have := OB1.out.lt; simp; omega))); clear r3 s3 l3)
      | (refine step_appP (by rfl) (.tmp 108) (.tmp 109) (by rfl) (Or.inr ⟨wA.heap.size, rfl, Nat.zero_le _, (N0.out wA)⟩) (D.out.s.far (P11.out.m.far (MW.out.far (AL.out _ (.cells #[] 31))))) (by rfl) HX.out.symm (by simp) (by rw [HX.out]; simp; omega) (by rfl) (by rfl) ?_; intro R3 cr3 w1x r3 s3 l3; have MW1 := Lib.hid (s3.new (MW.out.far (AL.out _ (.cells #[] 31))) (fun y hy => by injection hy with hy; subst hy; have h := MW.out.size; show W2.heap.size ≤ wA.heap.size; omega)); have O1A := Lib.hid (s3.ow (OA.out.mod (AL.out _ (.cells #[] 31)) (by simp)) (fun y hy => by injection hy with hy; subst hy; exact (by have := OA.out.lt; simp; omega))); have RO3 := Lib.hid r3; have NR3 := Lib.hid (show ∀ y, R3 = some y → W2.heap.size ≤ y.block ∧ y.block ≠ bA from fun y hy => by (rcases l3 y hy with h | h); (injection h with h; subst h; exact ⟨by have h := MW.out.size; show W2.heap.size ≤ wA.heap.size; omega, (by have := OA.out.lt; simp; omega)⟩); (rw [h]; exact ⟨((MW.out.far (AL.out _ (.cells #[] 31)))).size, Ne.symm (Nat.ne_of_lt ((OA.out.mod (AL.out _ (.cells #[] 31)) (by simp))).lt)⟩)); have hc1x := MW1.out.cell (by simp) HCW.out; clear r3 s3 l3)
      | (refine step_appP (by rfl) (.tmp 108) (.tmp 109) (by rfl) (Or.inr ⟨wA.heap.size, rfl, Nat.zero_le _, ((N0.out wA).mod (AL.out _ (.cells #[.int .i64 x] 31)) (by simp))⟩) (D.out.s.far (P11.out.m.far ((MW.out.far (AL.out _ (.cells #[] 31))).far (AL.out _ (.cells #[.int .i64 x] 31))))) (by rfl) HX.out.symm (by simp) (by rw [HX.out]; simp; omega) (by rfl) (by rfl) ?_; intro R3 cr3 w1x r3 s3 l3; have MW1 := Lib.hid (s3.new ((MW.out.far (AL.out _ (.cells #[] 31))).far (AL.out _ (.cells #[.int .i64 x] 31))) (fun y hy => by injection hy with hy; subst hy; have h := MW.out.size; show W2.heap.size ≤ wA.heap.size; omega)); have O1A := Lib.hid (s3.ow ((OA.out.mod (AL.out _ (.cells #[] 31)) (by simp)).mod (AL.out _ (.cells #[.int .i64 x] 31)) (by simp)) (fun y hy => by injection hy with hy; subst hy; exact (by have := OA.out.lt; simp; omega))); have RO3 := Lib.hid r3; have NR3 := Lib.hid (show ∀ y, R3 = some y → W2.heap.size ≤ y.block ∧ y.block ≠ bA from fun y hy => by (rcases l3 y hy with h | h); (injection h with h; subst h; exact ⟨by have h := MW.out.size; show W2.heap.size ≤ wA.heap.size; omega, (by have := OA.out.lt; simp; omega)⟩); (rw [h]; exact ⟨(((MW.out.far (AL.out _ (.cells #[] 31))).far (AL.out _ (.cells #[.int .i64 x] 31)))).size, Ne.symm (Nat.ne_of_lt (((OA.out.mod (AL.out _ (.cells #[] 31)) (by simp)).mod (AL.out _ (.cells #[.int .i64 x] 31)) (by simp))).lt)⟩)); have hc1x := MW1.out.cell (by simp) HCW.out; have O1B := Lib.hid (s3.ow (N1'.out wA _) (fun y hy => by injection hy with hy; subst hy; exact (by simp))); clear r3 s3 l3)
      | (refine step_appP (by rfl) (.tmp 108) (.tmp 109) (by rfl) (Or.inr ⟨(wA.heap.size + 1), rfl, Nat.zero_le _, (N0'.out wA _)⟩) (D.out.s.far (P11.out.m.far ((MW.out.far (AL.out _ (.cells #[.int .i64 x] 31))).far (AL.out _ (.cells #[] 31))))) (by rfl) HX.out.symm (by simp) (by rw [HX.out]; simp; omega) (by rfl) (by rfl) ?_; intro R3 cr3 w1x r3 s3 l3; have MW1 := Lib.hid (s3.new ((MW.out.far (AL.out _ (.cells #[.int .i64 x] 31))).far (AL.out _ (.cells #[] 31))) (fun y hy => by injection hy with hy; subst hy; have h := MW.out.size; show W2.heap.size ≤ (wA.heap.size + 1); omega)); have O1A := Lib.hid (s3.ow ((OA.out.mod (AL.out _ (.cells #[.int .i64 x] 31)) (by simp)).mod (AL.out _ (.cells #[] 31)) (by simp)) (fun y hy => by injection hy with hy; subst hy; exact (by have := OA.out.lt; simp; omega))); have RO3 := Lib.hid r3; have NR3 := Lib.hid (show ∀ y, R3 = some y → W2.heap.size ≤ y.block ∧ y.block ≠ bA from fun y hy => by (rcases l3 y hy with h | h); (injection h with h; subst h; exact ⟨by have h := MW.out.size; show W2.heap.size ≤ (wA.heap.size + 1); omega, (by have := OA.out.lt; simp; omega)⟩); (rw [h]; exact ⟨(((MW.out.far (AL.out _ (.cells #[.int .i64 x] 31))).far (AL.out _ (.cells #[] 31)))).size, Ne.symm (Nat.ne_of_lt (((OA.out.mod (AL.out _ (.cells #[.int .i64 x] 31)) (by simp)).mod (AL.out _ (.cells #[] 31)) (by simp))).lt)⟩)); have hc1x := MW1.out.cell (by simp) HCW.out; have O1B := Lib.hid (s3.ow ((N1.out wA).mod (AL.out _ (.cells #[] 31)) (by simp)) (fun y hy => by injection hy with hy; subst hy; exact (by simp))); clear r3 s3 l3)
      | (refine step_appP (n0 := k) (by rfl) (.tmp 110) (.tmp 115) (by rfl) RO3.out O1B.out.sl (by have := HX.out; simp; omega) (by rfl) (by simp) (by have := HX.out; simp; omega) (by rfl) (by rfl) ?_; intro R4 cr4 w2x r4 s4 l4; have MW2 := Lib.hid (s4.new MW1.out (fun y hy => (NR3.out y hy).1)); have O2A := Lib.hid (s4.ow O1A.out (fun y hy => (NR3.out y hy).2)); have RO4 := Lib.hid (show Ro w2x 0 R4 cr4 (X ++ [x]) from r4); have hc2x := MW2.out.cell (by simp) HCW.out; clear r4 s4 l4)
      | (refine step_appP (n0 := 0 + k) (by rfl) (.tmp 110) (.tmp 115) (by rfl) RO3.out O1B.out.sl (by have := HX.out; simp; omega) (by rfl) (by simp) (by have := HX.out; simp; omega) (by rfl) (by rfl) ?_; intro R4 cr4 w2x r4 s4 l4; have MW2 := Lib.hid (s4.new MW1.out (fun y hy => (NR3.out y hy).1)); have O2A := Lib.hid (s4.ow O1A.out (fun y hy => (NR3.out y hy).2)); have RO4 := Lib.hid (show Ro w2x 0 R4 cr4 (X ++ [x]) from r4); have hc2x := MW2.out.cell (by simp) HCW.out; clear r4 s4 l4)
      | (refine step_appP (n0 := k) (by rfl) (.tmp 110) (.tmp 115) (by rfl) (RO3.out.far (AL.out _ (.cells #[.int .i64 x] 31))) (N1.out w1x).sl (by have := HX.out; simp; omega) (by rfl) (by simp) (by have := HX.out; simp; omega) (by rfl) (by rfl) ?_; intro R4 cr4 w2x r4 s4 l4; have MW2 := Lib.hid (s4.new (MW1.out.far (AL.out _ (.cells #[.int .i64 x] 31))) (fun y hy => (NR3.out y hy).1)); have O2A := Lib.hid (s4.ow (O1A.out.mod (AL.out _ (.cells #[.int .i64 x] 31)) (by simp)) (fun y hy => (NR3.out y hy).2)); have RO4 := Lib.hid (show Ro w2x 0 R4 cr4 (X ++ [x]) from r4); have hc2x := MW2.out.cell (by simp) HCW.out; clear r4 s4 l4)
      | (refine step_appP (n0 := 0 + k) (by rfl) (.tmp 110) (.tmp 115) (by rfl) (RO3.out.far (AL.out _ (.cells #[.int .i64 x] 31))) (N1.out w1x).sl (by have := HX.out; simp; omega) (by rfl) (by simp) (by have := HX.out; simp; omega) (by rfl) (by rfl) ?_; intro R4 cr4 w2x r4 s4 l4; have MW2 := Lib.hid (s4.new (MW1.out.far (AL.out _ (.cells #[.int .i64 x] 31))) (fun y hy => (NR3.out y hy).1)); have O2A := Lib.hid (s4.ow (O1A.out.mod (AL.out _ (.cells #[.int .i64 x] 31)) (by simp)) (fun y hy => (NR3.out y hy).2)); have RO4 := Lib.hid (show Ro w2x 0 R4 cr4 (X ++ [x]) from r4); have hc2x := MW2.out.cell (by simp) HCW.out; clear r4 s4 l4)
      | ((with_reducible refine (same_true O2A.out.sl RO4.out.sl HLk.out.symm (by have := HX.out; simp; omega) rfl (by rw [HLk.out]; omega)).mono ?_); rintro e w3x ⟨rfl, m3⟩; have MW3 := Lib.hid (MW2.out.far m3); have hc3x := MW3.out.cell (by simp) HCW.out; clear m3)
      | ((with_reducible refine (Pr.all2 (P11.out.far (show Mod [] W2 w3x from MW3.out))).mono ?_); rintro e wB ⟨bB, cB, rfl, hoB, hlB, hmB, hPB⟩; rw [HLm.out]; have OB := Lib.hid hoB; have MWB := Lib.hid (show Mod [] W2 wB from (MW3.out).far hmB); have hcB := MWB.out.cell (by simp) HCW.out; have LB := Lib.hid (show W2.heap.size ≤ bB from Nat.le_trans (MW3.out).size hlB); clear hoB hlB hmB hPB)
      | ((with_reducible refine (Pr.all2 (P11.out.far (show Mod [] W2 (w3x.alloc (.cells #[.int .i64 x] 31)) from (MW3.out.far (AL.out _ (.cells #[.int .i64 x] 31)))))).mono ?_); rintro e wB ⟨bB, cB, rfl, hoB, hlB, hmB, hPB⟩; rw [HLm.out]; have OB := Lib.hid hoB; have MWB := Lib.hid (show Mod [] W2 wB from ((MW3.out.far (AL.out _ (.cells #[.int .i64 x] 31)))).far hmB); have hcB := MWB.out.cell (by simp) HCW.out; have LB := Lib.hid (show W2.heap.size ≤ bB from Nat.le_trans ((MW3.out.far (AL.out _ (.cells #[.int .i64 x] 31)))).size hlB); have OB3 := Lib.hid (show Ow wB w3x.heap.size [x] 1 from (N1.out w3x).mod hmB (by simp)); clear hoB hlB hmB hPB)
      | (refine step_appP (n0 := kk + m1) (by rfl) (.tmp 122) (.tmp 127) (by rfl) (RO2.out.zero.far MWB.out) OB3.out.sl (by have := HL.out; simp; omega) (by rfl) (by simp) (by have := HL.out; simp; omega) (by rfl) (by rfl) ?_; intro R5 cr5 w5x r5 s5 l5; have MW5 := Lib.hid (s5.new (P11.out.m.far MWB.out) (fun y hy => by have h := RO2.out.base y hy; have h2 := HB0.out; omega)); have hc5x := MW5.out.cell (by simp) HCX.out; have O5B := Lib.hid (s5.ow OB.out (fun y hy => by have h := RO2.out.lt y hy; have h2 := LB.out; omega)); have RO5 := Lib.hid (show Ro w5x 0 R5 cr5 (A0 ++ B ++ [x]) from r5); clear r5 s5 l5)
      | (refine step_appP (n0 := kk + m1) (by rfl) (.tmp 122) (.tmp 127) (by rfl) (RO2.out.zero.far (MWB.out.far (AL.out _ (.cells #[.int .i64 x] 31)))) (N1.out wB).sl (by have := HL.out; simp; omega) (by rfl) (by simp) (by have := HL.out; simp; omega) (by rfl) (by rfl) ?_; intro R5 cr5 w5x r5 s5 l5; have MW5 := Lib.hid (s5.new (P11.out.m.far (MWB.out.far (AL.out _ (.cells #[.int .i64 x] 31)))) (fun y hy => by have h := RO2.out.base y hy; have h2 := HB0.out; omega)); have hc5x := MW5.out.cell (by simp) HCX.out; have O5B := Lib.hid (s5.ow (OB.out.mod (AL.out _ (.cells #[.int .i64 x] 31)) (by simp)) (fun y hy => by have h := RO2.out.lt y hy; have h2 := LB.out; omega)); have RO5 := Lib.hid (show Ro w5x 0 R5 cr5 (A0 ++ B ++ [x]) from r5); clear r5 s5 l5)
      | ((with_reducible refine (same_true O5B.out.sl RO5.out.sl HLm.out.symm (by have := HL.out; simp; omega) rfl (by rw [HLm.out]; omega)).mono ?_); rintro e w6x ⟨rfl, m6⟩; have MEND := Lib.hid (MW5.out.far m6); have hc6x := MEND.out.cell (by simp) HCX.out; clear m6)
      | fail)
    all_goals
      go_wp2
      go_ret
      exact ⟨by simp, MEND.out⟩
end Go.Proofs.Ytjmbmhjhnoiclaa
