/- Layer 13: PrimMemory's walk. Condition: the arguments are two cells and two bytes; the listed variables hold what they hold. -/
import Derived.Test.YtegcecpmdgljpaaGreatDoorVN
import Derived.Test.YtegcecpmdgljpaaGreatDoorLawKit
namespace Go.Proofs.YtegcecpmdgljpaaGreatDoor
open Go.RowKit
set_option linter.unusedVariables false

/-- One use of the closure, the two rows laid just before it. -/
theorem Lb.run2 {w0 w : World} {a : Ad} {bb : Nat} {C : List Int} {μ : Mu} (h : Lb w0 w a bb C μ) (X ops : List Int) (n m : Nat) (hn : n = X.length) (hm : m = ops.length) (hX : ∀ x ∈ X, I64 x) (hX8 : X.length ≤ 8) (hm8 : ops.length ≤ 8) {C' : List Int} {μ' : Mu} (hr : Does13 ops X μ C' μ') (t1 t2 : TypeId) :
    Calls Tryz.prog 25 #[.slice (some ⟨w.heap.size, 0, none⟩) n n, .slice (some ⟨w.heap.size + 1, 0, none⟩) m m, Pt bb] ((w.alloc (.cells (cellsI X).toArray t1)).alloc (.cells (cellsI ops).toArray t2)) fun e w' => ∃ b c, e = .returned (.slice (some ⟨b, 0, none⟩) C'.length c) ∧ Ow w' b C' c ∧ Lb w0 w' a bb C' μ' := by
  have i2 := ints_new (w.alloc (.cells (cellsI X).toArray t1)) ops t2
  rw [size_alloc] at i2
  exact h.run X ops n m hn hm hX hX8 hm8 (fun K => hr _ _ K) _ _ _ ((far_alloc _ _).far (far_alloc _ _)) (by rw [size_alloc, size_alloc]; omega) (by rw [size_alloc, size_alloc]; omega) (Nat.le_refl _) (by omega) ((ints_new w X t1).mod (far_alloc _ _)) i2
set_option maxHeartbeats 4000000 in
set_option maxRecDepth 100000 in
theorem memory_walk {w : World} (g : Good w) (x : Int) (wx : (Lit.int .i64 x).wf = true) (y : Int) (wy : (Lit.int .i64 y).wf = true) (t : Int) (wt : (Lit.int .u8 t).wf = true) (c : Int) (wc : (Lit.int .u8 c).wf = true) :
    Calls Tryz.prog 6 #[.int .i64 x, .int .i64 y, .int .u8 t, .int .u8 c] w fun e w' => e = .returned (.bool true) ∧ Mod [] w w' := by
  have HI := Lib.hid (And.intro (i64_of_wf wx) (i64_of_wf wy))
  have G := Lib.hid g
  obtain ⟨cc, hcc⟩ : ∃ cc : UInt8, c = (cc.toNat : Int) := ⟨UInt8.ofNat c.toNat, (u8_in wc).symm⟩
  subst hcc
  have ht := bounds_u8 wt
  obtain ⟨o, ho, o8, h480⟩ : ∃ o : Nat, wrap64 (wrap64 (wrap64 (t.tmod 60) * 8) + 8) = (o : Int) ∧ o % 8 = 0 ∧ o ≤ 480 := by
    rw [Int.tmod_eq_emod_of_nonneg ht.1]
    refine ⟨((t % 60) * 8 + 8).toNat, ?_, by omega, by omega⟩
    unfold wrap64; omega
  have hcn := cc.toNat_lt
  have hc1 : wrap64 (cc.toNat : Int) = (cc.toNat : Int) := by unfold wrap64; omega
  have hc2 : wrap64 ((cc.toNat : Int) + 256) = (cc.toNat : Int) + 256 := by unfold wrap64; omega
  have HO := Lib.hid (And.intro o8 h480)
  have HOI := Lib.hid (show I64 (o : Int) by unfold I64; omega)
  obtain ⟨μ1, O1, D1⟩ := use_put (o := o) (x := x) (show Ok13 (mu0 1024) 8 from ⟨mu0_len, rfl⟩) (i64_of_wf wx) (by omega) o8
  obtain ⟨μ2, O2, c2, D2⟩ := use_two (o := o) (x := x) (y := y) O1 (i64_of_wf wx) (i64_of_wf wy) (by omega) o8
  obtain ⟨μ3, O3, D3⟩ := use_add (o := o) (x := x) O2 c2 (by omega) o8
  obtain ⟨μ4, O4, b4, D4⟩ := use_byte (o := o) O3 cc (by omega)
  have D5 := use_count O4 cc b4 (by omega)
  obtain ⟨μ6, O6, D6⟩ := use_comma O4 (i64_of_wf wx)
  obtain ⟨μ7, O7, D7⟩ := use_fill (o := o) O6 cc (by omega) o8
  have D8 := use_al (μ := μ7) (i64_of_wf wx)
  have ho1 : wrap64 ((o : Int) + 1) = ((o + 1 : Nat) : Int) := by unfold wrap64; omega
  have HD := Lib.hid (And.intro D1 (And.intro D2 (And.intro D3 (And.intro D4 (And.intro D5 (And.intro D6 (And.intro D7 D8)))))))
  have HAL := Lib.hid (al8_facts x (i64_of_wf wx))
  have HCI := Lib.hid (byte_i64 cc)
  have HC2 := Lib.hid (show I64 ((cc.toNat : Int) + 256) by unfold I64; omega)
  have HP1 := Lib.hid (show I64 ((o + 1 : Nat) : Int) by unfold I64; omega)
  clear D1 O1 D2 O2 c2 D3 O3 D4 O4 b4 D5 D6 O6 D7 O7 D8
  clear g wx wy wc wt ht hcn o8 h480
  go_enter Tryz.func6, Tryz.ntmps6
  go_wp2_with fail
  refine (shown13 w G.out).mono ?_
  rintro e w1 ⟨rfl, m1⟩
  have M1 := Lib.hid m1
  clear m1
  go_wp2_with fail
  refine (lv_new 1024 M1.out (G.out.mod M1.out (by simp)) (by decide) (by decide) (by decide)).mono ?_
  rintro e w2 ⟨a, rfl, h2, _⟩
  have H2 := Lib.hid h2
  clear h2 M1
  go_wp2_with fail
  rw [ho]
  obtain ⟨bb, hbb⟩ : ∃ b, b = w2.heap.size := ⟨_, rfl⟩
  have hbox : (w2.alloc (.cells #[.pointer (some ⟨a.s, 0, none⟩)] 24)).cell? ⟨bb, 0, none⟩ = some (Pt a.s) := by rw [hbb]; exact cell_new w2 _ _
  have hb0 : Lv w (w2.alloc (.cells #[.pointer (some ⟨a.s, 0, none⟩)] 24)) a [(bb, (w2.alloc (.cells #[.pointer (some ⟨a.s, 0, none⟩)] 24)).heap[bb]?)] [] (mu0 1024) := H2.out.hold (far_alloc _ _) (Nat.le_of_eq hbb.symm) (by rw [size_alloc, hbb]; omega)
  have hsz : (w2.alloc (.cells #[.pointer (some ⟨a.s, 0, none⟩)] 24)).heap.size = bb + 1 := by rw [size_alloc, hbb]
  obtain ⟨W1, hW1⟩ : ∃ W, W = w2.alloc (.cells #[.pointer (some ⟨a.s, 0, none⟩)] 24) := ⟨_, rfl⟩
  rw [← hW1] at hbox hb0 hsz
  rw [← hbb, ← hW1, ← hsz]
  have HB := Lib.hid (show Lb w W1 a bb [] (mu0 1024) from ⟨hb0, hbox⟩)
  clear hbox hb0 hsz hW1 hbb H2
  refine (HB.out.run2 [(o : Int), x, (o : Int)] [74, 73] 3 2 rfl rfl (three_in HOI.out HI.out.1 HOI.out) (by simp) (by simp) HD.out.1 _ _).mono ?_
  rintro e v1 ⟨b1, d1, rfl, r1, h1⟩
  clear HB
  have HS := Lib.hid (And.intro r1 h1)
  clear r1 h1
  go_wp2_with fail
  refine (same_self (X := [x]) (HS.out.1.sl.mod (far_alloc _ _) (by simp)) (sl_one _ _ _ ) rfl rfl (by simp)).mono ?_
  rintro e u1 ⟨rfl, m1⟩
  have HB := Lib.hid ((HS.out.2.far (far_alloc _ _)).far m1)
  clear m1 HS
  go_wp2_with fail
  refine (HB.out.run2 [(o : Int), x, y, (o : Int)] [79, 78] 4 2 rfl rfl (by simp only [List.mem_cons, List.not_mem_nil, or_false, forall_eq_or_imp, forall_eq]; exact ⟨HOI.out, HI.out.1, HI.out.2, HOI.out⟩) (by simp) (by simp) HD.out.2.1 _ _).mono ?_
  rintro e v2 ⟨b2, d2, rfl, r2, h2⟩
  clear HB
  have HS := Lib.hid (And.intro r2 h2)
  clear r2 h2
  go_wp2_with fail
  refine (same_self (X := [x, y]) (HS.out.1.sl.mod (far_alloc _ _) (by simp)) (sl_two _ _ _ _ ) rfl rfl (by simp)).mono ?_
  rintro e u2 ⟨rfl, m2⟩
  have HB := Lib.hid ((HS.out.2.far (far_alloc _ _)).far m2)
  clear m2 HS
  go_wp2_with fail
  refine (HB.out.run2 [(o : Int), x, (o : Int)] [77, 73] 3 2 rfl rfl (three_in HOI.out HI.out.1 HOI.out) (by simp) (by simp) HD.out.2.2.1 _ _).mono ?_
  rintro e v3 ⟨b3, d3, rfl, r3, h3⟩
  clear HB
  have HS := Lib.hid (And.intro r3 h3)
  clear r3 h3
  go_wp2_with fail
  refine (same_self (X := [wrap64 (x + y)]) (HS.out.1.sl.mod (far_alloc _ _) (by simp)) (sl_one _ _ _ ) rfl rfl (by simp)).mono ?_
  rintro e u3 ⟨rfl, m3⟩
  have HB := Lib.hid ((HS.out.2.far (far_alloc _ _)).far m3)
  clear m3 HS
  go_wp2_with fail
  refine (HB.out.run2 [(o : Int), (cc.toNat : Int) + 256, (o : Int)] [76, 75] 3 2 rfl rfl (three_in HOI.out HC2.out HOI.out) (by simp) (by simp) HD.out.2.2.2.1 _ _).mono ?_
  rintro e v4 ⟨b4, d4, rfl, r4, h4⟩
  clear HB
  have HS := Lib.hid (And.intro r4 h4)
  clear r4 h4
  go_wp2_with fail
  refine (same_self (X := [(cc.toNat : Int)]) (HS.out.1.sl.mod (far_alloc _ _) (by simp)) (sl_one _ _ _ ) rfl rfl (by simp)).mono ?_
  rintro e u4 ⟨rfl, m4⟩
  have HB := Lib.hid ((HS.out.2.far (far_alloc _ _)).far m4)
  clear m4 HS
  go_wp2_with fail
  refine (HB.out.run2 [(o : Int)] [89] 1 1 rfl rfl (one_in HOI.out) (by simp) (by simp) HD.out.2.2.2.2.1 _ _).mono ?_
  rintro e v5 ⟨b5, d5, rfl, r5, h5⟩
  clear HB
  have HS := Lib.hid (And.intro r5 h5)
  clear r5 h5
  go_wp2_with fail
  refine (same_self (X := [((o + 1 : Nat) : Int), (cc.toNat : Int)]) (HS.out.1.sl.mod (far_alloc _ _) (by simp)) (sl_two _ _ _ _ ) rfl rfl (by simp)).mono ?_
  rintro e u5 ⟨rfl, m5⟩
  have HB := Lib.hid ((HS.out.2.far (far_alloc _ _)).far m5)
  clear m5 HS
  go_wp2_with fail
  refine (HB.out.run2 [x] [84, 82] 1 2 rfl rfl (one_in HI.out.1) (by simp) (by simp) HD.out.2.2.2.2.2.1 _ _).mono ?_
  rintro e v6 ⟨b6, d6, rfl, r6, h6⟩
  clear HB
  have HS := Lib.hid (And.intro r6 h6)
  clear r6 h6
  go_wp2_with fail
  refine (same_self (X := [16]) (HS.out.1.sl.mod (far_alloc _ _) (by simp)) (sl_one _ _ _ ) rfl rfl (by simp)).mono ?_
  rintro e u6 ⟨rfl, m6⟩
  have HB := Lib.hid ((HS.out.2.far (far_alloc _ _)).far m6)
  clear m6 HS
  go_wp2_with fail
  refine (HB.out.run2 [(o : Int), (o : Int), 8, (cc.toNat : Int)] [80, 73] 4 2 rfl rfl (by simp only [List.mem_cons, List.not_mem_nil, or_false, forall_eq_or_imp, forall_eq]; exact ⟨HOI.out, HOI.out, by unfold I64; omega, HCI.out⟩) (by simp) (by simp) HD.out.2.2.2.2.2.2.1 _ _).mono ?_
  rintro e v7 ⟨b7, d7, rfl, r7, h7⟩
  clear HB
  have HS := Lib.hid (And.intro r7 h7)
  clear r7 h7
  go_wp2_with fail
  refine (same_self (X := [wrap64 ((cc.toNat : Int) * 72340172838076673)]) (HS.out.1.sl.mod (far_alloc _ _) (by simp)) (sl_one _ _ _ ) rfl rfl (by simp)).mono ?_
  rintro e u7 ⟨rfl, m7⟩
  have HB := Lib.hid ((HS.out.2.far (far_alloc _ _)).far m7)
  clear m7 HS
  go_wp2_with fail
  refine (HB.out.run2 [x] [87, 28, 87] 1 3 rfl rfl (one_in HI.out.1) (by simp) (by simp) HD.out.2.2.2.2.2.2.2 _ _).mono ?_
  rintro e v8 ⟨b8, d8, rfl, r8, h8⟩
  clear HB
  have HS := Lib.hid (And.intro r8 h8)
  clear r8 h8
  have g0 := HS.out.1.cell 0 (by simp)
  have g1 := HS.out.1.cell 1 (by simp)
  have hm := HS.out.2.1.mod
  have HM := Lib.hid hm
  obtain ⟨f1, _, f3, f4, f5⟩ := HAL.out
  obtain ⟨u, hu⟩ : ∃ u, u = al8 x := ⟨_, rfl⟩
  obtain ⟨z, hz⟩ : ∃ z, z = wrap64 (al8 x - x) := ⟨_, rfl⟩
  rw [← hz] at f4 f5
  rw [← hu] at hz f3
  have g0 : v8.cell? ⟨b8, 0, none⟩ = some (.int .i64 u) := by rw [hu]; exact g0
  have g1 : v8.cell? ⟨b8, 1, none⟩ = some (.int .i64 u) := by rw [hu]; exact g1
  have hz1 := hz.symm
  clear hz
  have hz2 : IntKind.i64.wrap (u - x) = z := by rw [IntWalk.i64_left]; exact hz1
  have q1 : (z < 0) = False := eq_false (by omega)
  have q2 : (z < 8) = True := eq_true f5
  have q3 : (0 ≤ z) = True := eq_true f4
  have mD : Mod [] v8 v8.drew := (Mod.refl [] v8).drew
  have d0 := mD.cell (x := ⟨b8, 0, none⟩) (by simp) g0
  have d1 := mD.cell (x := ⟨b8, 1, none⟩) (by simp) g1
  clear hu HAL HS hm HD g0 g1 mD
  go_wp2_with fail
  go_region_held3 (fun W => W.cell? ⟨b8, 0, none⟩ = some (.int .i64 u) ∧ W.cell? ⟨b8, 1, none⟩ = some (.int .i64 u)) (exact ⟨d0, d1⟩) (fail)
  all_goals
    go_wp2
    go_ret
    exact ⟨rfl, HM.out.far (Mod.refl [] v8).drew⟩
end Go.Proofs.YtegcecpmdgljpaaGreatDoor
