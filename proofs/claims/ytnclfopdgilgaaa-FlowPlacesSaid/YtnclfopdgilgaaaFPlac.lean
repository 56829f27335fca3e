/- Layer 11: each kind of part lays its instructions to the places that are said (FlowPlaces' walk). No condition. -/
import Derived.Test.YtnclfopdgilgaaaFMayB
import Derived.Deep.RegionHeld3
import Derived.IntWalk
namespace Go.Proofs.Ytnclfopdgilgaaa
open Go.RowKit
set_option linter.unusedVariables false
set_option linter.unusedSimpArgs false

/-- A literal row of numbers lies at block R. -/
def RowI (w : World) (R : Nat) (l : List Int) : Prop := ∀ i x, l[i]? = some x → w.cell? ⟨R, i, none⟩ = some (.int .i64 x)
theorem RowI.far {w w' : World} {R : Nat} {l : List Int} (h : RowI w R l) (m : Mod [] w w') : RowI w' R l := fun i x hx => m.cell (by simp) (h i x hx)
theorem ins_one (w : World) (x : Xi) (hx : WellX x) (t : TypeId) : InsAt (w.alloc (.cells #[.int .u8 (x.op : Int), .int .i64 x.a, .int .i64 x.w] t)) (some ⟨w.heap.size, 0, none⟩) [x] := fun i hi => by
  have hi : i = 0 := by simp at hi; omega
  subst hi
  refine ⟨w.heap.size, 0, rfl, ⟨?_, ?_, ?_⟩, hx⟩
  all_goals
    rw [World.cell?_alloc_new]
    rfl
def numL (z : Int) : List UInt8 := (joinX [⟨4, z, 0⟩]).drop 5
theorem join_one (x : Xi) : joinX [x] = textX x := by simp [joinX, Lib.join, List.intercalate]
theorem one_len (x : Xi) : (joinX [x]).length ≤ 137 := by
  have := join_len [x] 1 (Nat.le_refl _)
  simpa using this
theorem zero_len (z : Int) : 5 ≤ (joinX [⟨4, z, 0⟩]).length := by
  rw [join_one]
  unfold textX
  have h : (if isOpX 4 then nameX 4 else [63]).length = 4 := by decide +kernel
  rw [List.length_append, List.length_append, h]
  simp
set_option maxHeartbeats 4000000 in
theorem num_calls {w : World} (z : Int) (hz : I64 z) : Calls Try.prog 25 #[.int .i64 z] w fun e w' => e = .returned (.string (str (numL z))) ∧ Mod [] w w' := by
  have k := rtexts_calls (cap := 1) (ins_one w ⟨4, z, 0⟩ ⟨show 4 < 256 by decide, hz, by unfold I64; simp⟩ 35) (n := 1) rfl (by decide)
  have hm := (Mod.refl [] w).alloc (.cells #[.int .u8 ((⟨4, z, 0⟩ : Xi).op : Int), .int .i64 z, .int .i64 0] 35)
  obtain ⟨S, hS⟩ : ∃ S, S = str (joinX [⟨4, z, 0⟩]) := ⟨_, rfl⟩
  rw [← hS] at k
  have hn : S.size = (joinX [⟨4, z, 0⟩]).length := by rw [hS, str_size]
  have h5 := zero_len z
  have h6 := one_len ⟨4, z, 0⟩
  have hext : S.extract 5 S.size = str (numL z) := by
    rw [hn, hS, str_extract, List.take_of_length_le (by simp)]
    rfl
  have hS5 : (5 : Int) ≤ (S.size : Int) := by omega
  have hS6 : (S.size : Int) ≤ 137 := by omega
  have K := Lib.hid k
  have HM := Lib.hid hm
  have HE := Lib.hid hext
  clear hS hn h5 h6 k hm hext
  go_enter Try.func25, Try.ntmps25
  go_wp2_with fail
  refine (K.out).mono ?_
  rintro e w3 ⟨rfl, hm3⟩
  have HM3 := Lib.hid (HM.out.trans hm3)
  have hext := HE.out
  clear hm3 K
  go_wp2_with fail
  go_ret
  exact ⟨by first | rfl | (rw [hext]) | simp [hext], HM3.out⟩
/-- What is laid by a row of parts, with k drops behind each. -/
def dropB : Nat → Bd → Bd
  | 0, B => B
  | k + 1, B => (putB ⟨11, 0, 0⟩ (dropB k B)).2
def runM (k : Nat) (parts : List Int) (B : Bd) : Bd := parts.foldl (fun B n => dropB k (doB n B).2) B
theorem runM_snoc (k : Nat) (l : List Int) (n : Int) (B : Bd) : runM k (l ++ [n]) B = dropB k (doB n (runM k l B)).2 := by simp [runM]
/-- Is the instruction told? -/
def toldM (k : Nat) (last : Int) (nn i : Nat) (x : Xi) : Bool := decide (x.op ≠ 11) || (decide ((i : Int) = (nn : Int) - 2 - (k : Int)) && decide (last = 17))
def textM (k : Nat) (last : Int) (nn : Nat) : Nat → List Xi → List UInt8 → List UInt8
  | _, [], S => S
  | i, x :: r, S => textM k last nn (i + 1) r (if toldM k last nn i x then S ++ (joinX [x] ++ [32]) else S)
theorem textM_snoc (k : Nat) (last : Int) (nn : Nat) (i : Nat) (L : List Xi) (x : Xi) (S : List UInt8) : textM k last nn i (L ++ [x]) S = (if toldM k last nn (i + L.length) x then textM k last nn i L S ++ (joinX [x] ++ [32]) else textM k last nn i L S) := by
  induction L generalizing i S with
  | nil => simp [textM]
  | cons y r ih =>
    simp only [List.cons_append, textM, ih, List.length_cons]
    rw [show i + 1 + r.length = i + (r.length + 1) by omega]
theorem textM_len (k : Nat) (last : Int) (nn : Nat) (L : List Xi) : (textM k last nn 0 L []).length ≤ 138 * L.length := by
  induction L using snocRec with
  | nil => simp [textM]
  | snoc C x ih =>
    rw [textM_snoc]
    have := one_len x
    split
    · simp only [List.length_append, List.length_singleton]; omega
    · simp only [List.length_append, List.length_singleton]; omega
def madeL (k : Nat) (parts : List Int) (last : Int) : List UInt8 := textM k last ((runM k parts ⟨[], []⟩).L.length + 1) 0 ((runM k parts ⟨[], []⟩).L ++ [⟨15, 0, 0⟩]) []
theorem nil_eta {B : Bd} (h : B.P = []) : B = ⟨B.L, []⟩ := by cases B; simp_all
theorem dropB_len (k : Nat) (B : Bd) : (dropB k B).L.length ≤ B.L.length + k := by
  induction k with
  | zero => exact Nat.le_refl _
  | succ k ih => have := put_len ⟨11, 0, 0⟩ (dropB k B); show (putB ⟨11, 0, 0⟩ (dropB k B)).2.L.length ≤ _; omega
theorem runM_len (k : Nat) (l : List Int) : (runM k l ⟨[], []⟩).L.length ≤ l.length * (k + 1) := by
  induction l using snocRec with
  | nil => simp [runM]
  | snoc C q ih =>
    rw [runM_snoc, List.length_append, List.length_singleton, Nat.succ_mul]
    have h1 := dropB_len k (doB q (runM k C ⟨[], []⟩)).2
    have h2 := do_len q (runM k C ⟨[], []⟩)
    omega
set_option maxHeartbeats 8000000 in
set_option maxRecDepth 100000 in
theorem made_calls {w : World} {Rk r k n : Nat} {parts : List Int} {last : Int} (hk : w.cell? ⟨Rk, 0, none⟩ = some (.int .i64 (k : Int))) (hk6 : k < 6) (hr : RowI w r parts) (hn : n = parts.length) (hn4 : n ≤ 4) (hn0 : 0 < n) (hlast : parts[n - 1]? = some last) (hP : (runM k parts ⟨[], []⟩).P = []) :
    Calls Try.prog 23 #[.slice (some ⟨r, 0, none⟩) n n, .pointer (some ⟨Rk, 0, none⟩)] w fun e w' => e = .returned (.string (str (madeL k parts last))) ∧ Mod [] w w' := by
  have H2 := Lib.hid (mb_new (Mod.refl [] w))
  have HW := Lib.hid (And.intro hk (And.intro hr (And.intro hn (And.intro hlast hP))))
  have hnI : (n : Int) ≤ 4 := by omega
  have hkI : (k : Int) < 6 := by omega
  clear hk hr hn hlast hP
  go_enter Try.func23, Try.ntmps23
  go_wp2_with fail
  refine (H2.out).mono ?_
  rintro e w2 ⟨b, rfl, hb⟩
  have h0 := Lib.hid hb
  clear hb H2
  go_wp2_with fail
  go_loopg [15] n (fun g z wr => ∃ i : Nat, z = .int .i64 (i : Int) ∧ i + g = n ∧ RowKit.Hid (Mb w wr b (runM k (parts.take i) ⟨[], []⟩)))
  case atStart => exact ⟨0, rfl, by omega, Lib.hid h0.out⟩
  case round =>
    clear h0
    obtain ⟨i, rfl, hig, hi⟩ := hrel
    by_cases hlt : i < n
    · have hltI : (i : Int) < (n : Int) := by omega
      obtain ⟨x, hx⟩ : ∃ x, parts[i]? = some x := ⟨_, List.getElem?_eq_getElem (by have := HW.out.2.2.1; omega)⟩
      have hcx := hi.out.m.cell (by simp) (HW.out.2.1 i x hx)
      have K1 := Lib.hid (mb_do hi.out x)
      have HX := Lib.hid (And.intro hx hig)
      obtain ⟨gO, hgO⟩ : ∃ gO, gO = gk := ⟨_, rfl⟩
      have HGO := Lib.hid hgO
      clear hgO hx hig hlt hi
      go_wp2_with fail
      refine (K1.out).mono ?_
      rintro e w3 ⟨rfl, hb3⟩
      have hck := hb3.m.cell (by simp) HW.out.1
      have h0 := Lib.hid hb3
      clear hb3 K1 hcx
      go_wp2_with fail
      clear hck
      go_loopg [23] k (fun g z wx => ∃ j : Nat, z = .int .i64 (j : Int) ∧ j + g = k ∧ RowKit.Hid (Mb w wx b (dropB j (doB x (runM k (parts.take i) ⟨[], []⟩)).2)))
      case atStart => exact ⟨0, rfl, by omega, Lib.hid h0.out⟩
      case round =>
        clear h0
        obtain ⟨j, rfl, hjg, hj⟩ := hrel
        by_cases hlt : j < k
        · have hltI : (j : Int) < (k : Int) := by omega
          have K1 := Lib.hid (mb_put hj.out ⟨11, 0, 0⟩ (well_op 11 (by decide)))
          have HJ := Lib.hid hjg
          clear hj hjg hlt
          go_wp2_with fail
          refine (K1.out).mono ?_
          rintro e w4 ⟨rfl, hb4⟩
          have HB4 := Lib.hid hb4
          clear hb4 K1
          go_wp2_with fail
          go_roundg (gk - 1)
          case measure => have := HJ.out; omega
          case rel => exact ⟨j + 1, by go_num, by have := HJ.out; omega, Lib.hid HB4.out⟩
        · have hltI : ¬ (j : Int) < (k : Int) := by omega
          obtain rfl : j = k := by omega
          have HJ := Lib.hid hj.out
          clear hj hjg hlt
          go_wp2_with fail
          go_roundg (gO - 1)
          case measure => have := HX.out.2; have := HGO.out; omega
          case rel =>
            obtain ⟨hxl, hxe⟩ := List.getElem?_eq_some_iff.1 HX.out.1
            exact ⟨i + 1, by go_num, by have := HX.out.2; have := HGO.out; omega, Lib.hid (by rw [List.take_succ_eq_append_getElem hxl, hxe, runM_snoc]; exact HJ.out)⟩
    · have hltI : ¬ (i : Int) < (n : Int) := by omega
      obtain rfl : i = n := by omega
      have hb := hi.out
      rw [List.take_of_length_le (by have := HW.out.2.2.1; omega)] at hb
      obtain ⟨L, hL⟩ : ∃ L, L = (runM k parts ⟨[], []⟩).L := ⟨_, rfl⟩
      have hB : runM k parts ⟨[], []⟩ = ⟨L, []⟩ := by rw [hL]; exact nil_eta HW.out.2.2.2.2
      have hLl : L.length ≤ 24 := by
        have := runM_len k parts
        rw [← hL, ← HW.out.2.2.1] at this
        have : i * (k + 1) ≤ 4 * 6 := Nat.mul_le_mul hn4 (by omega)
        omega
      rw [hB] at hb
      have HE := Lib.hid (mb_end hb)
      have HL := Lib.hid (And.intro hL hLl)
      clear hi hb hB hLl hL hig hlt
      go_wp2_with fail
      refine (HE.out).mono ?_
      rintro e w5 ⟨A, cp, rfl, hme⟩
      obtain ⟨nn, hnn⟩ : ∃ nn, nn = (L ++ [(⟨15, 0, 0⟩ : Xi)]).length := ⟨_, rfl⟩
      rw [← hnn]
      have mA := (Mod.refl [] w5).alloc (.cells #[.slice A nn cp] 41)
      have hdc : (w5.alloc (.cells #[.slice A nn cp] 41)).cell? ⟨w5.heap.size, 0, none⟩ = some (.slice A nn cp) := by rw [World.cell?_alloc_new]; rfl
      have hnnI : (nn : Int) ≤ 25 := by have := HL.out.2; rw [hnn, List.length_append, List.length_singleton]; omega
      have HME := Lib.hid (And.intro (hme.ins.far mA) (And.intro (hme.m.trans mA) (And.intro hnn hdc)))
      clear hme mA hnn HE
      go_wp2_with fail
      clear hdc
      obtain ⟨RD, hRD⟩ : ∃ RD, RD = w5.heap.size := ⟨_, rfl⟩
      obtain ⟨W5, hW5⟩ : ∃ W5, W5 = w5.alloc (.cells #[.slice A nn cp] 41) := ⟨_, rfl⟩
      rw [← hW5, ← hRD]
      have hme := HME.out
      rw [← hW5, ← hRD] at hme
      have HM5 := Lib.hid hme
      clear hme hW5 hRD HME
      go_loopg [9, 40] nn (fun g u z wr => ∃ (j : Nat) (S : List UInt8), u = .string (str S) ∧ z = .int .i64 (j : Int) ∧ j + g = nn ∧ RowKit.Hid (Mod [] W5 wr ∧ S = textM k last nn 0 ((L ++ [(⟨15, 0, 0⟩ : Xi)]).take j) []))
      case atStart => exact ⟨0, [], rfl, rfl, by omega, Lib.hid ⟨Mod.refl [] _, rfl⟩⟩
      case round =>
        obtain ⟨j, S, rfl, rfl, hjg, hj⟩ := hrel
        by_cases hlt : j < nn
        · have hltI : (j : Int) < (nn : Int) := by omega
          obtain ⟨x, hx⟩ : ∃ x, (L ++ [(⟨15, 0, 0⟩ : Xi)])[j]? = some x := ⟨_, List.getElem?_eq_getElem (by have := HM5.out.2.2.1; omega)⟩
          obtain ⟨bA, oA, rfl, hat, hwx⟩ := (HM5.out.1.far hj.out.1).get hx
          have hc0 := hat.c0
          have hc1 := hat.c1
          have hc2 := hat.c2
          have hck := (HM5.out.2.1.trans hj.out.1).cell (by simp) HW.out.1
          have hdc := hj.out.1.cell (by simp) HM5.out.2.2.2
          obtain ⟨m, hm⟩ : ∃ m, m = i - 1 := ⟨_, rfl⟩
          have him : (i : Int) - 1 = (m : Int) := by omega
          have hmI : (m : Int) < (i : Int) := by omega
          have hcl := (HM5.out.2.1.trans hj.out.1).cell (by simp) (HW.out.2.1 m last (by rw [hm]; exact HW.out.2.2.2.1))
          have hSl : S.length ≤ 3450 := by
            have h := textM_len k last nn ((L ++ [(⟨15, 0, 0⟩ : Xi)]).take j)
            rw [← hj.out.2, List.length_take] at h
            have := HM5.out.2.2.1
            omega
          have HJ := Lib.hid (And.intro hjg (And.intro hj.out.1 hj.out.2))
          have hxj : j < (L ++ [(⟨15, 0, 0⟩ : Xi)]).length := (List.getElem?_eq_some_iff.1 hx).1
          clear hat hj hjg hlt hm
          have hcase : (x.op ≠ 11 ∧ toldM k last nn j x = true) ∨ (x.op = 11 ∧ (j : Int) = (nn : Int) - 2 - (k : Int) ∧ last = 17 ∧ toldM k last nn j x = true) ∨ (x.op = 11 ∧ (j : Int) = (nn : Int) - 2 - (k : Int) ∧ last ≠ 17 ∧ toldM k last nn j x = false) ∨ (x.op = 11 ∧ (j : Int) ≠ (nn : Int) - 2 - (k : Int) ∧ toldM k last nn j x = false) := by
            unfold toldM
            by_cases c1 : x.op = 11
            · by_cases c2 : (j : Int) = (nn : Int) - 2 - (k : Int)
              · by_cases c3 : last = 17
                · exact Or.inr (Or.inl ⟨c1, c2, c3, by rw [decide_eq_true c2, decide_eq_true c3]; simp⟩)
                · exact Or.inr (Or.inr (Or.inl ⟨c1, c2, c3, by simp [c1, c3]⟩))
              · exact Or.inr (Or.inr (Or.inr ⟨c1, c2, by rw [decide_eq_false c2]; simp [c1]⟩))
            · exact Or.inl ⟨c1, by simp [c1]⟩
          rcases hcase with ⟨c1, htold⟩ | ⟨c1, c2, c3, htold⟩ | ⟨c1, c2, c3, htold⟩ | ⟨c1, c2, htold⟩
          · have HFACT : ((x.op : Int) != 11) = true := by rw [bne_iff_ne]; omega
            have T1l : (joinX [x]).length ≤ 137 := one_len x
            obtain ⟨T, hT⟩ : ∃ T, T = joinX [x] := ⟨_, rfl⟩
            rw [← hT] at T1l
            obtain ⟨T1, hT1⟩ : ∃ T1, T1 = T ++ [32] := ⟨_, rfl⟩
            obtain ⟨S1, hS1⟩ : ∃ S1, S1 = S ++ T1 := ⟨_, rfl⟩
            have e1 : ∀ W, (Op.stringOp .add (str T) ⟨#[32]⟩).run Try.prog W = .ok (.string (str T1)) W := fun W => by rw [hT1]; exact add_str _ [32] (by omega) (by simp) W
            have e2 : ∀ W, (Op.stringOp .add (str S) (str T1)).run Try.prog W = .ok (.string (str S1)) W := fun W => by rw [hS1]; exact add_str _ _ (by omega) (by rw [hT1, List.length_append, List.length_singleton]; omega) W
            have k1 := rtexts_calls (cap := 1) (ins_one (wr.alloc (.cells #[.int .u8 (x.op : Int), .int .i64 x.a, .int .i64 x.w] 35)) x hwx 35) (n := 1) rfl (by decide)
            rw [size_allocI, ← hT] at k1
            have hm1 := ((Mod.refl [] wr).alloc (.cells #[.int .u8 (x.op : Int), .int .i64 x.a, .int .i64 x.w] 35)).alloc (.cells #[.int .u8 (x.op : Int), .int .i64 x.a, .int .i64 x.w] 35)
            have HS1 := Lib.hid (show S1 = textM k last nn 0 ((L ++ [(⟨15, 0, 0⟩ : Xi)]).take (j + 1)) [] by
              obtain ⟨hxl, hxe⟩ := List.getElem?_eq_some_iff.1 hx
              rw [List.take_succ_eq_append_getElem hxl, hxe, textM_snoc, if_pos (by rw [List.length_take, Nat.min_eq_left (by omega), Nat.zero_add]; exact htold), ← HJ.out.2.2, hS1, hT1, hT])
            have K1 := Lib.hid k1
            have HM1 := Lib.hid (HJ.out.2.1.trans hm1)
            obtain ⟨op, oa, ow⟩ := x
            simp only at hc0 hc1 hc2 K1 HM1 HFACT
            clear hT hT1 hS1 k1 hm1 htold hx hwx
            have q1 := HFACT
            clear c1 HFACT
            go_wp2_with fail
            refine (K1.out).mono ?_
            rintro e w7 ⟨rfl, hm7⟩
            have HM7 := Lib.hid (HM1.out.trans hm7)
            clear hm7 K1
            go_wp2_with fail
            go_roundg (gk - 1)
            case measure => have := HJ.out.1; omega
            case rel => exact ⟨j + 1, S1, by first | rfl | simp, by go_num, by have := HJ.out.1; omega, Lib.hid ⟨HM7.out, HS1.out⟩⟩
          · have HFACT : x.op = 11 := c1
            have q2 : ((j : Int) == (nn : Int) - 2 - (k : Int)) = true := by rw [beq_iff_eq]; exact c2
            have q3 : (last == 17) = true := by rw [beq_iff_eq]; exact c3
            have T1l : (joinX [x]).length ≤ 137 := one_len x
            obtain ⟨T, hT⟩ : ∃ T, T = joinX [x] := ⟨_, rfl⟩
            rw [← hT] at T1l
            obtain ⟨T1, hT1⟩ : ∃ T1, T1 = T ++ [32] := ⟨_, rfl⟩
            obtain ⟨S1, hS1⟩ : ∃ S1, S1 = S ++ T1 := ⟨_, rfl⟩
            have e1 : ∀ W, (Op.stringOp .add (str T) ⟨#[32]⟩).run Try.prog W = .ok (.string (str T1)) W := fun W => by rw [hT1]; exact add_str _ [32] (by omega) (by simp) W
            have e2 : ∀ W, (Op.stringOp .add (str S) (str T1)).run Try.prog W = .ok (.string (str S1)) W := fun W => by rw [hS1]; exact add_str _ _ (by omega) (by rw [hT1, List.length_append, List.length_singleton]; omega) W
            have k1 := rtexts_calls (cap := 1) (ins_one (wr.alloc (.cells #[.int .u8 (x.op : Int), .int .i64 x.a, .int .i64 x.w] 35)) x hwx 35) (n := 1) rfl (by decide)
            rw [size_allocI, ← hT] at k1
            have hm1 := ((Mod.refl [] wr).alloc (.cells #[.int .u8 (x.op : Int), .int .i64 x.a, .int .i64 x.w] 35)).alloc (.cells #[.int .u8 (x.op : Int), .int .i64 x.a, .int .i64 x.w] 35)
            have HS1 := Lib.hid (show S1 = textM k last nn 0 ((L ++ [(⟨15, 0, 0⟩ : Xi)]).take (j + 1)) [] by
              obtain ⟨hxl, hxe⟩ := List.getElem?_eq_some_iff.1 hx
              rw [List.take_succ_eq_append_getElem hxl, hxe, textM_snoc, if_pos (by rw [List.length_take, Nat.min_eq_left (by omega), Nat.zero_add]; exact htold), ← HJ.out.2.2, hS1, hT1, hT])
            have K1 := Lib.hid k1
            have HM1 := Lib.hid (HJ.out.2.1.trans hm1)
            obtain ⟨op, oa, ow⟩ := x
            simp only at hc0 hc1 hc2 K1 HM1 HFACT
            clear hT hT1 hS1 k1 hm1 htold hx hwx
            subst HFACT
            clear c1 c2 c3
            have mX := (Mod.refl [] wr).alloc (.cells #[.int .u8 11, .int .i64 oa, .int .i64 ow] 35)
            replace hck := mX.cell (by simp) hck
            replace hdc := mX.cell (by simp) hdc
            replace hcl := mX.cell (by simp) hcl
            clear mX
            go_wp2_with fail
            refine (K1.out).mono ?_
            rintro e w7 ⟨rfl, hm7⟩
            have HM7 := Lib.hid (HM1.out.trans hm7)
            clear hm7 K1
            go_wp2_with fail
            go_roundg (gk - 1)
            case measure => have := HJ.out.1; omega
            case rel => exact ⟨j + 1, S1, by first | rfl | simp, by go_num, by have := HJ.out.1; omega, Lib.hid ⟨HM7.out, HS1.out⟩⟩
          · have q2 : ((j : Int) == (nn : Int) - 2 - (k : Int)) = true := by rw [beq_iff_eq]; exact c2
            have q3 : (last == 17) = false := by simp [c3]
            have HS1 := Lib.hid (show S = textM k last nn 0 ((L ++ [(⟨15, 0, 0⟩ : Xi)]).take (j + 1)) [] by
              obtain ⟨hxl, hxe⟩ := List.getElem?_eq_some_iff.1 hx
              rw [List.take_succ_eq_append_getElem hxl, hxe, textM_snoc, if_neg (by rw [List.length_take, Nat.min_eq_left (by omega), Nat.zero_add, htold]; simp), ← HJ.out.2.2])
            have HM1 := Lib.hid (HJ.out.2.1.trans ((Mod.refl [] wr).alloc (.cells #[.int .u8 (x.op : Int), .int .i64 x.a, .int .i64 x.w] 35)))
            obtain ⟨op, oa, ow⟩ := x
            simp only at hc0 hc1 hc2 c1 HM1
            subst c1
            clear c2 c3 htold hx hwx
            have mX := (Mod.refl [] wr).alloc (.cells #[.int .u8 11, .int .i64 oa, .int .i64 ow] 35)
            replace hck := mX.cell (by simp) hck
            replace hdc := mX.cell (by simp) hdc
            replace hcl := mX.cell (by simp) hcl
            clear mX
            go_wp2_with fail
            go_roundg (gk - 1)
            case measure => have := HJ.out.1; omega
            case rel => exact ⟨j + 1, S, by first | rfl | simp, by go_num, by have := HJ.out.1; omega, Lib.hid ⟨HM1.out, HS1.out⟩⟩
          · have q2 : ((j : Int) == (nn : Int) - 2 - (k : Int)) = false := by rw [beq_eq_false_iff_ne]; exact c2
            have HS1 := Lib.hid (show S = textM k last nn 0 ((L ++ [(⟨15, 0, 0⟩ : Xi)]).take (j + 1)) [] by
              obtain ⟨hxl, hxe⟩ := List.getElem?_eq_some_iff.1 hx
              rw [List.take_succ_eq_append_getElem hxl, hxe, textM_snoc, if_neg (by rw [List.length_take, Nat.min_eq_left (by omega), Nat.zero_add, htold]; simp), ← HJ.out.2.2])
            have HM1 := Lib.hid (HJ.out.2.1.trans ((Mod.refl [] wr).alloc (.cells #[.int .u8 (x.op : Int), .int .i64 x.a, .int .i64 x.w] 35)))
            obtain ⟨op, oa, ow⟩ := x
            simp only at hc0 hc1 hc2 c1 HM1
            subst c1
            clear c2 htold hx hwx
            have mX := (Mod.refl [] wr).alloc (.cells #[.int .u8 11, .int .i64 oa, .int .i64 ow] 35)
            replace hck := mX.cell (by simp) hck
            replace hdc := mX.cell (by simp) hdc
            replace hcl := mX.cell (by simp) hcl
            clear mX
            go_wp2_with fail
            go_roundg (gk - 1)
            case measure => have := HJ.out.1; omega
            case rel => exact ⟨j + 1, S, by first | rfl | simp, by go_num, by have := HJ.out.1; omega, Lib.hid ⟨HM1.out, HS1.out⟩⟩
        · have hltI : ¬ (j : Int) < (nn : Int) := by omega
          obtain rfl : j = nn := by omega
          have HS := Lib.hid (show S = madeL k parts last by
            rw [hj.out.2, List.take_of_length_le (by have := HM5.out.2.2.1; omega)]
            unfold madeL
            rw [← HL.out.1]
            congr 1
            rw [HM5.out.2.2.1]; simp)
          have HMj := Lib.hid (HM5.out.2.1.trans hj.out.1)
          clear hj hjg hlt
          go_wp2_with fail
          go_ret
          exact ⟨by first | (rw [HS.out]; done) | (have h := HS.out; rw [h]; rfl) | simp [HS.out], HMj.out⟩

theorem pl_M1 {k : Nat} (h : k < 6) : madeL k [1, 2, 3] 3 = [122, 101, 114, 111, 32] ++ numL (2 + (k : Int)) ++ [32, 106, 117, 109, 112, 32] ++ numL (2 + 2 * (k : Int)) ++ [32, 101, 120, 105, 116, 32, 48, 32] := by
  have hc : k = 0 ∨ k = 1 ∨ k = 2 ∨ k = 3 ∨ k = 4 ∨ k = 5 := by omega
  rcases hc with rfl | rfl | rfl | rfl | rfl | rfl <;> decide +kernel
theorem pp_M1 {k : Nat} (h : k < 6) : (runM k [1, 2, 3] ⟨[], []⟩).P = [] := by
  have hc : k = 0 ∨ k = 1 ∨ k = 2 ∨ k = 3 ∨ k = 4 ∨ k = 5 := by omega
  refine List.eq_nil_of_length_eq_zero ?_
  rcases hc with rfl | rfl | rfl | rfl | rfl | rfl <;> decide +kernel
theorem pl_M2 {k : Nat} (h : k < 6) : madeL k [4, 5, 6] 6 = [122, 101, 114, 111, 32] ++ numL (2 + 2 * (k : Int)) ++ [32, 106, 117, 109, 112, 32, 48, 32, 101, 120, 105, 116, 32, 48, 32] := by
  have hc : k = 0 ∨ k = 1 ∨ k = 2 ∨ k = 3 ∨ k = 4 ∨ k = 5 := by omega
  rcases hc with rfl | rfl | rfl | rfl | rfl | rfl <;> decide +kernel
theorem pp_M2 {k : Nat} (h : k < 6) : (runM k [4, 5, 6] ⟨[], []⟩).P = [] := by
  have hc : k = 0 ∨ k = 1 ∨ k = 2 ∨ k = 3 ∨ k = 4 ∨ k = 5 := by omega
  refine List.eq_nil_of_length_eq_zero ?_
  rcases hc with rfl | rfl | rfl | rfl | rfl | rfl <;> decide +kernel
theorem pl_M3 {k : Nat} (h : k < 6) : madeL k [4, 7] 7 = [122, 101, 114, 111, 32, 48, 32, 101, 120, 105, 116, 32, 48, 32] := by
  have hc : k = 0 ∨ k = 1 ∨ k = 2 ∨ k = 3 ∨ k = 4 ∨ k = 5 := by omega
  rcases hc with rfl | rfl | rfl | rfl | rfl | rfl <;> decide +kernel
theorem pp_M3 {k : Nat} (h : k < 6) : (runM k [4, 7] ⟨[], []⟩).P = [] := by
  have hc : k = 0 ∨ k = 1 ∨ k = 2 ∨ k = 3 ∨ k = 4 ∨ k = 5 := by omega
  refine List.eq_nil_of_length_eq_zero ?_
  rcases hc with rfl | rfl | rfl | rfl | rfl | rfl <;> decide +kernel
theorem pl_M4 {k : Nat} (h : k < 6) : madeL k [10, 13, 12] 12 = [113, 100, 111, 32] ++ numL (3 + 2 * (k : Int)) ++ [32, 108, 101, 97, 118, 101, 32] ++ numL (3 + 2 * (k : Int)) ++ [32, 112, 108, 117, 115, 32, 49, 32, 101, 120, 105, 116, 32, 48, 32] := by
  have hc : k = 0 ∨ k = 1 ∨ k = 2 ∨ k = 3 ∨ k = 4 ∨ k = 5 := by omega
  rcases hc with rfl | rfl | rfl | rfl | rfl | rfl <;> decide +kernel
theorem pp_M4 {k : Nat} (h : k < 6) : (runM k [10, 13, 12] ⟨[], []⟩).P = [] := by
  have hc : k = 0 ∨ k = 1 ∨ k = 2 ∨ k = 3 ∨ k = 4 ∨ k = 5 := by omega
  refine List.eq_nil_of_length_eq_zero ?_
  rcases hc with rfl | rfl | rfl | rfl | rfl | rfl <;> decide +kernel
theorem pl_M5 {k : Nat} (h : k < 6) : madeL k [14, 15, 16, 17] 17 = [111, 102, 32] ++ numL (2 + 2 * (k : Int)) ++ [32, 106, 117, 109, 112, 32] ++ numL (3 + 3 * (k : Int)) ++ [32, 100, 114, 111, 112, 32, 48, 32, 101, 120, 105, 116, 32, 48, 32] := by
  have hc : k = 0 ∨ k = 1 ∨ k = 2 ∨ k = 3 ∨ k = 4 ∨ k = 5 := by omega
  rcases hc with rfl | rfl | rfl | rfl | rfl | rfl <;> decide +kernel
theorem pp_M5 {k : Nat} (h : k < 6) : (runM k [14, 15, 16, 17] ⟨[], []⟩).P = [] := by
  have hc : k = 0 ∨ k = 1 ∨ k = 2 ∨ k = 3 ∨ k = 4 ∨ k = 5 := by omega
  refine List.eq_nil_of_length_eq_zero ?_
  rcases hc with rfl | rfl | rfl | rfl | rfl | rfl <;> decide +kernel
theorem num_len (z : Int) : (numL z).length ≤ 137 := by
  unfold numL
  have := one_len ⟨4, z, 0⟩
  rw [List.length_drop]
  omega
theorem row_new (w : World) (l : List Int) (t : TypeId) : RowI (w.alloc (.cells (l.map (Value.int .i64)).toArray t)) w.heap.size l := fun i x h => by
  rw [World.cell?_alloc_new]
  simpa using h
set_option maxHeartbeats 16000000 in
set_option maxRecDepth 100000 in
theorem plac_walk (w : World) (many : Int) (wmany : (Lit.int .u8 many).wf = true) :
    Calls Try.prog 7 #[.int .u8 many] w fun e w' => e = .returned (.bool true) ∧ Mod [] w w' := by
  have hmany := (show 0 ≤ many ∧ many ≤ 255 by simpa [Lit.wf, IntKind.min, IntKind.max, IntKind.signed, IntKind.bits] using wmany)
  obtain ⟨k, hk⟩ := Int.eq_ofNat_of_zero_le (show 0 ≤ many % 6 by omega)
  have hk2 : many.tmod 6 = (k : Int) := by rw [Int.tmod_eq_emod_of_nonneg (by omega)]; exact hk
  have hkb : (k : Int) < 6 := by omega
  have hk6 : k < 6 := by omega
  have hkw : IntKind.u8.wrap (k : Int) = (k : Int) := by rw [IntKind.wrap_u8]; omega
  have hkw2 : IntKind.i64.wrap (k : Int) = (k : Int) := by rw [IntKind.wrap_i64]; omega
  obtain ⟨N2, hN2⟩ : ∃ N2, N2 = numL (2 + (k : Int)) := ⟨_, rfl⟩
  have lN2 : N2.length ≤ 137 := by rw [hN2]; exact num_len _
  have KN2 := Lib.hid (fun W => num_calls (w := W) (2 + (k : Int)) (by unfold I64; omega))
  rw [← hN2] at KN2
  obtain ⟨N22, hN22⟩ : ∃ N22, N22 = numL (2 + 2 * (k : Int)) := ⟨_, rfl⟩
  have lN22 : N22.length ≤ 137 := by rw [hN22]; exact num_len _
  have KN22 := Lib.hid (fun W => num_calls (w := W) (2 + 2 * (k : Int)) (by unfold I64; omega))
  rw [← hN22] at KN22
  obtain ⟨N32, hN32⟩ : ∃ N32, N32 = numL (3 + 2 * (k : Int)) := ⟨_, rfl⟩
  have lN32 : N32.length ≤ 137 := by rw [hN32]; exact num_len _
  have KN32 := Lib.hid (fun W => num_calls (w := W) (3 + 2 * (k : Int)) (by unfold I64; omega))
  rw [← hN32] at KN32
  obtain ⟨N33, hN33⟩ : ∃ N33, N33 = numL (3 + 3 * (k : Int)) := ⟨_, rfl⟩
  have lN33 : N33.length ≤ 137 := by rw [hN33]; exact num_len _
  have KN33 := Lib.hid (fun W => num_calls (w := W) (3 + 3 * (k : Int)) (by unfold I64; omega))
  rw [← hN33] at KN33
  have qM1 := pl_M1 hk6
  have qM2 := pl_M2 hk6
  have qM3 := pl_M3 hk6
  have qM4 := pl_M4 hk6
  have qM5 := pl_M5 hk6
  try rw [← hN2] at qM1
  try rw [← hN2] at qM2
  try rw [← hN2] at qM3
  try rw [← hN2] at qM4
  try rw [← hN2] at qM5
  try rw [← hN22] at qM1
  try rw [← hN22] at qM2
  try rw [← hN22] at qM3
  try rw [← hN22] at qM4
  try rw [← hN22] at qM5
  try rw [← hN32] at qM1
  try rw [← hN32] at qM2
  try rw [← hN32] at qM3
  try rw [← hN32] at qM4
  try rw [← hN32] at qM5
  try rw [← hN33] at qM1
  try rw [← hN33] at qM2
  try rw [← hN33] at qM3
  try rw [← hN33] at qM4
  try rw [← hN33] at qM5
  obtain ⟨M1, hM1⟩ : ∃ M1, M1 = madeL k [1, 2, 3] 3 := ⟨_, rfl⟩
  rw [← hM1] at qM1
  have KM1 := Lib.hid (fun (R : Nat) (W : World) (hc : W.cell? ⟨R, 0, none⟩ = some (.int .i64 (k : Int))) (r : Nat) (hr : W.heap.size = r) => made_calls (w := (W.alloc (.cells #[.int .i64 1, .int .i64 2, .int .i64 3] 3)).drew) (Rk := R) (r := r) (k := k) (n := 3) (parts := [1, 2, 3]) (last := 3) (((Mod.refl [] W).alloc (.cells #[.int .i64 1, .int .i64 2, .int .i64 3] 3)).drew.cell (by simp) hc) hk6 (by rw [← hr]; exact (row_new W [1, 2, 3] 3).far (Mod.refl [] _).drew) rfl (by decide) (by decide) rfl (pp_M1 hk6))
  rw [← hM1] at KM1
  obtain ⟨M2, hM2⟩ : ∃ M2, M2 = madeL k [4, 5, 6] 6 := ⟨_, rfl⟩
  rw [← hM2] at qM2
  have KM2 := Lib.hid (fun (R : Nat) (W : World) (hc : W.cell? ⟨R, 0, none⟩ = some (.int .i64 (k : Int))) (r : Nat) (hr : W.heap.size = r) => made_calls (w := W.alloc (.cells #[.int .i64 4, .int .i64 5, .int .i64 6] 3)) (Rk := R) (r := r) (k := k) (n := 3) (parts := [4, 5, 6]) (last := 6) (((Mod.refl [] W).alloc (.cells #[.int .i64 4, .int .i64 5, .int .i64 6] 3)).cell (by simp) hc) hk6 (by rw [← hr]; exact row_new W [4, 5, 6] 3) rfl (by decide) (by decide) rfl (pp_M2 hk6))
  rw [← hM2] at KM2
  obtain ⟨M3, hM3⟩ : ∃ M3, M3 = madeL k [4, 7] 7 := ⟨_, rfl⟩
  rw [← hM3] at qM3
  have KM3 := Lib.hid (fun (R : Nat) (W : World) (hc : W.cell? ⟨R, 0, none⟩ = some (.int .i64 (k : Int))) (r : Nat) (hr : W.heap.size = r) => made_calls (w := W.alloc (.cells #[.int .i64 4, .int .i64 7] 3)) (Rk := R) (r := r) (k := k) (n := 2) (parts := [4, 7]) (last := 7) (((Mod.refl [] W).alloc (.cells #[.int .i64 4, .int .i64 7] 3)).cell (by simp) hc) hk6 (by rw [← hr]; exact row_new W [4, 7] 3) rfl (by decide) (by decide) rfl (pp_M3 hk6))
  rw [← hM3] at KM3
  obtain ⟨M4, hM4⟩ : ∃ M4, M4 = madeL k [10, 13, 12] 12 := ⟨_, rfl⟩
  rw [← hM4] at qM4
  have KM4 := Lib.hid (fun (R : Nat) (W : World) (hc : W.cell? ⟨R, 0, none⟩ = some (.int .i64 (k : Int))) (r : Nat) (hr : W.heap.size = r) => made_calls (w := W.alloc (.cells #[.int .i64 10, .int .i64 13, .int .i64 12] 3)) (Rk := R) (r := r) (k := k) (n := 3) (parts := [10, 13, 12]) (last := 12) (((Mod.refl [] W).alloc (.cells #[.int .i64 10, .int .i64 13, .int .i64 12] 3)).cell (by simp) hc) hk6 (by rw [← hr]; exact row_new W [10, 13, 12] 3) rfl (by decide) (by decide) rfl (pp_M4 hk6))
  rw [← hM4] at KM4
  obtain ⟨M5, hM5⟩ : ∃ M5, M5 = madeL k [14, 15, 16, 17] 17 := ⟨_, rfl⟩
  rw [← hM5] at qM5
  have KM5 := Lib.hid (fun (R : Nat) (W : World) (hc : W.cell? ⟨R, 0, none⟩ = some (.int .i64 (k : Int))) (r : Nat) (hr : W.heap.size = r) => made_calls (w := W.alloc (.cells #[.int .i64 14, .int .i64 15, .int .i64 16, .int .i64 17] 3)) (Rk := R) (r := r) (k := k) (n := 4) (parts := [14, 15, 16, 17]) (last := 17) (((Mod.refl [] W).alloc (.cells #[.int .i64 14, .int .i64 15, .int .i64 16, .int .i64 17] 3)).cell (by simp) hc) hk6 (by rw [← hr]; exact row_new W [14, 15, 16, 17] 3) rfl (by decide) (by decide) rfl (pp_M5 hk6))
  rw [← hM5] at KM5
  obtain ⟨b1, hb1⟩ : ∃ b1, b1 = [122, 101, 114, 111, 32] ++ N2 := ⟨_, rfl⟩
  have lb1 : b1.length ≤ 180 := by rw [hb1]; simp only [List.length_append, List.length_cons, List.length_nil]; omega
  have e1 : ∀ W, (Op.stringOp .add ⟨#[122, 101, 114, 111, 32]⟩ (str N2)).run Try.prog W = .ok (.string (str b1)) W := fun W => by
    rw [hb1]
    exact add_str _ N2 (by simp) (by omega) W
  obtain ⟨b2, hb2⟩ : ∃ b2, b2 = b1 ++ [32, 106, 117, 109, 112, 32] := ⟨_, rfl⟩
  have lb2 : b2.length ≤ 320 := by rw [hb2]; simp only [List.length_append, List.length_cons, List.length_nil]; omega
  have e2 : ∀ W, (Op.stringOp .add (str b1) ⟨#[32, 106, 117, 109, 112, 32]⟩).run Try.prog W = .ok (.string (str b2)) W := fun W => by
    rw [hb2]
    exact add_str _ [32, 106, 117, 109, 112, 32] (by omega) (by simp) W
  obtain ⟨b3, hb3⟩ : ∃ b3, b3 = b2 ++ N22 := ⟨_, rfl⟩
  have lb3 : b3.length ≤ 460 := by rw [hb3]; simp only [List.length_append, List.length_cons, List.length_nil]; omega
  have e3 : ∀ W, (Op.stringOp .add (str b2) (str N22)).run Try.prog W = .ok (.string (str b3)) W := fun W => by
    rw [hb3]
    exact add_str _ N22 (by omega) (by omega) W
  have qM1f : M1 = b3 ++ [32, 101, 120, 105, 116, 32, 48, 32] := by rw [qM1]; simp only [hb1, hb2, hb3]
  have e4 : ∀ W, (Op.stringOp .add (str b3) ⟨#[32, 101, 120, 105, 116, 32, 48, 32]⟩).run Try.prog W = .ok (.string (str M1)) W := fun W => by
    have h := add_str b3 [32, 101, 120, 105, 116, 32, 48, 32] (by omega) (by simp) W
    rw [← qM1f] at h
    exact h
  obtain ⟨b5, hb5⟩ : ∃ b5, b5 = [122, 101, 114, 111, 32] ++ N22 := ⟨_, rfl⟩
  have lb5 : b5.length ≤ 180 := by rw [hb5]; simp only [List.length_append, List.length_cons, List.length_nil]; omega
  have e5 : ∀ W, (Op.stringOp .add ⟨#[122, 101, 114, 111, 32]⟩ (str N22)).run Try.prog W = .ok (.string (str b5)) W := fun W => by
    rw [hb5]
    exact add_str _ N22 (by simp) (by omega) W
  have qM2f : M2 = b5 ++ [32, 106, 117, 109, 112, 32, 48, 32, 101, 120, 105, 116, 32, 48, 32] := by rw [qM2]; simp only [hb5]
  have e6 : ∀ W, (Op.stringOp .add (str b5) ⟨#[32, 106, 117, 109, 112, 32, 48, 32, 101, 120, 105, 116, 32, 48, 32]⟩).run Try.prog W = .ok (.string (str M2)) W := fun W => by
    have h := add_str b5 [32, 106, 117, 109, 112, 32, 48, 32, 101, 120, 105, 116, 32, 48, 32] (by omega) (by simp) W
    rw [← qM2f] at h
    exact h
  obtain ⟨b7, hb7⟩ : ∃ b7, b7 = [113, 100, 111, 32] ++ N32 := ⟨_, rfl⟩
  have lb7 : b7.length ≤ 180 := by rw [hb7]; simp only [List.length_append, List.length_cons, List.length_nil]; omega
  have e7 : ∀ W, (Op.stringOp .add ⟨#[113, 100, 111, 32]⟩ (str N32)).run Try.prog W = .ok (.string (str b7)) W := fun W => by
    rw [hb7]
    exact add_str _ N32 (by simp) (by omega) W
  obtain ⟨b8, hb8⟩ : ∃ b8, b8 = b7 ++ [32, 108, 101, 97, 118, 101, 32] := ⟨_, rfl⟩
  have lb8 : b8.length ≤ 320 := by rw [hb8]; simp only [List.length_append, List.length_cons, List.length_nil]; omega
  have e8 : ∀ W, (Op.stringOp .add (str b7) ⟨#[32, 108, 101, 97, 118, 101, 32]⟩).run Try.prog W = .ok (.string (str b8)) W := fun W => by
    rw [hb8]
    exact add_str _ [32, 108, 101, 97, 118, 101, 32] (by omega) (by simp) W
  obtain ⟨b9, hb9⟩ : ∃ b9, b9 = b8 ++ N32 := ⟨_, rfl⟩
  have lb9 : b9.length ≤ 460 := by rw [hb9]; simp only [List.length_append, List.length_cons, List.length_nil]; omega
  have e9 : ∀ W, (Op.stringOp .add (str b8) (str N32)).run Try.prog W = .ok (.string (str b9)) W := fun W => by
    rw [hb9]
    exact add_str _ N32 (by omega) (by omega) W
  have qM4f : M4 = b9 ++ [32, 112, 108, 117, 115, 32, 49, 32, 101, 120, 105, 116, 32, 48, 32] := by rw [qM4]; simp only [hb7, hb8, hb9]
  have e10 : ∀ W, (Op.stringOp .add (str b9) ⟨#[32, 112, 108, 117, 115, 32, 49, 32, 101, 120, 105, 116, 32, 48, 32]⟩).run Try.prog W = .ok (.string (str M4)) W := fun W => by
    have h := add_str b9 [32, 112, 108, 117, 115, 32, 49, 32, 101, 120, 105, 116, 32, 48, 32] (by omega) (by simp) W
    rw [← qM4f] at h
    exact h
  obtain ⟨b11, hb11⟩ : ∃ b11, b11 = [111, 102, 32] ++ N22 := ⟨_, rfl⟩
  have lb11 : b11.length ≤ 180 := by rw [hb11]; simp only [List.length_append, List.length_cons, List.length_nil]; omega
  have e11 : ∀ W, (Op.stringOp .add ⟨#[111, 102, 32]⟩ (str N22)).run Try.prog W = .ok (.string (str b11)) W := fun W => by
    rw [hb11]
    exact add_str _ N22 (by simp) (by omega) W
  obtain ⟨b12, hb12⟩ : ∃ b12, b12 = b11 ++ [32, 106, 117, 109, 112, 32] := ⟨_, rfl⟩
  have lb12 : b12.length ≤ 320 := by rw [hb12]; simp only [List.length_append, List.length_cons, List.length_nil]; omega
  have e12 : ∀ W, (Op.stringOp .add (str b11) ⟨#[32, 106, 117, 109, 112, 32]⟩).run Try.prog W = .ok (.string (str b12)) W := fun W => by
    rw [hb12]
    exact add_str _ [32, 106, 117, 109, 112, 32] (by omega) (by simp) W
  obtain ⟨b13, hb13⟩ : ∃ b13, b13 = b12 ++ N33 := ⟨_, rfl⟩
  have lb13 : b13.length ≤ 460 := by rw [hb13]; simp only [List.length_append, List.length_cons, List.length_nil]; omega
  have e13 : ∀ W, (Op.stringOp .add (str b12) (str N33)).run Try.prog W = .ok (.string (str b13)) W := fun W => by
    rw [hb13]
    exact add_str _ N33 (by omega) (by omega) W
  have qM5f : M5 = b13 ++ [32, 100, 114, 111, 112, 32, 48, 32, 101, 120, 105, 116, 32, 48, 32] := by rw [qM5]; simp only [hb11, hb12, hb13]
  have e14 : ∀ W, (Op.stringOp .add (str b13) ⟨#[32, 100, 114, 111, 112, 32, 48, 32, 101, 120, 105, 116, 32, 48, 32]⟩).run Try.prog W = .ok (.string (str M5)) W := fun W => by
    have h := add_str b13 [32, 100, 114, 111, 112, 32, 48, 32, 101, 120, 105, 116, 32, 48, 32] (by omega) (by simp) W
    rw [← qM5f] at h
    exact h
  have qM3s : str M3 = ⟨#[122, 101, 114, 111, 32, 48, 32, 101, 120, 105, 116, 32, 48, 32]⟩ := by rw [qM3]; rfl
  rw [qM3s] at KM3
  have H1 := Lib.hid (shown_calls w)
  clear lN2 lN22 lN32 lN33 hN2 hN22 hN32 hN33 hM1 hM2 hM3 hM4 hM5 qM1 qM2 qM3 qM4 qM5 qM1f qM2f qM4f qM5f qM3s hb1 hb2 hb3 hb5 hb7 hb8 hb9 hb11 hb12 hb13 lb1 lb2 lb3 lb5 lb7 lb8 lb9 lb11 lb12 lb13 wmany hk6
  go_enter Try.func7, Try.ntmps7
  try simp only [List.append]
  go_wp2_with fail
  refine (H1.out).mono ?_
  rintro e w1 ⟨rfl, hm1⟩
  have hc1 : (w1.alloc (.cells #[.int .i64 (k : Int)] 3)).cell? ⟨w1.heap.size, 0, none⟩ = some (.int .i64 (k : Int)) := by rw [World.cell?_alloc_new]; rfl
  have mA := hm1.alloc (.cells #[.int .i64 (k : Int)] 3)
  obtain ⟨W1, hW1⟩ : ∃ W1, W1 = w1.alloc (.cells #[.int .i64 (k : Int)] 3) := ⟨_, rfl⟩
  obtain ⟨R, hR⟩ : ∃ R, R = w1.heap.size := ⟨_, rfl⟩
  rw [← hW1, ← hR] at hc1
  rw [← hW1] at mA
  have HC := Lib.hid (And.intro hc1 mA)
  have HW := Lib.hid (And.intro hW1 hR)
  clear mA hm1 hc1 hW1 hR H1
  go_upto_region 3 with fail
  rw [← HW.out.1, ← HW.out.2]
  go_upto_region 5 with fail
  have HM := Lib.hid HC.out.2
  have hck := HC.out.1
  have z0 : IntKind.i64.wrap (2 + (k : Int)) = 2 + (k : Int) := by rw [IntKind.wrap_i64]; omega
  have z1 : IntKind.i64.wrap (2 * (k : Int)) = 2 * (k : Int) := by rw [IntKind.wrap_i64]; omega
  have z2 : IntKind.i64.wrap (2 + 2 * (k : Int)) = 2 + 2 * (k : Int) := by rw [IntKind.wrap_i64]; omega
  have z3 : IntKind.i64.wrap (3 + 2 * (k : Int)) = 3 + 2 * (k : Int) := by rw [IntKind.wrap_i64]; omega
  have z4 : IntKind.i64.wrap (3 * (k : Int)) = 3 * (k : Int) := by rw [IntKind.wrap_i64]; omega
  have z5 : IntKind.i64.wrap (3 + 3 * (k : Int)) = 3 + 3 * (k : Int) := by rw [IntKind.wrap_i64]; omega
  go_region_held3 (fun V => V.cell? ⟨R, 0, none⟩ = some (.int .i64 (k : Int))) (first | exact hck | exact ((Mod.refl [] _).alloc _).cell (by simp) hck | fail) (first
    | (go_at_call 23; (with_reducible refine (KM1.out R _ hck _ ?_).mono ?_); (first | rfl | simp); rintro e v ⟨rfl, hm⟩; have hx := ((Mod.refl [] _).alloc _).drew.trans hm; have HM := Lib.hid (HM.out.trans hx); have hck := hx.cell (by simp) hck; clear hm hx)
    | (go_at_call 23; (with_reducible refine (KM2.out R _ hck _ ?_).mono ?_); (first | rfl | simp); rintro e v ⟨rfl, hm⟩; have hx := ((Mod.refl [] _).alloc _).trans hm; have HM := Lib.hid (HM.out.trans hx); have hck := hx.cell (by simp) hck; clear hm hx)
    | (go_at_call 23; (with_reducible refine (KM3.out R _ hck _ ?_).mono ?_); (first | rfl | simp); rintro e v ⟨rfl, hm⟩; have hx := ((Mod.refl [] _).alloc _).trans hm; have HM := Lib.hid (HM.out.trans hx); have hck := hx.cell (by simp) hck; clear hm hx)
    | (go_at_call 23; (with_reducible refine (KM4.out R _ hck _ ?_).mono ?_); (first | rfl | simp); rintro e v ⟨rfl, hm⟩; have hx := ((Mod.refl [] _).alloc _).trans hm; have HM := Lib.hid (HM.out.trans hx); have hck := hx.cell (by simp) hck; clear hm hx)
    | (go_at_call 23; (with_reducible refine (KM5.out R _ hck _ ?_).mono ?_); (first | rfl | simp); rintro e v ⟨rfl, hm⟩; have hx := ((Mod.refl [] _).alloc _).trans hm; have HM := Lib.hid (HM.out.trans hx); have hck := hx.cell (by simp) hck; clear hm hx)
    | (go_at_call 25; (with_reducible refine (KN2.out _).mono ?_); rintro e v ⟨rfl, hm⟩; have HM := Lib.hid (HM.out.trans hm); have hck := hm.cell (by simp) hck; clear hm)
    | (go_at_call 25; (with_reducible refine (KN22.out _).mono ?_); rintro e v ⟨rfl, hm⟩; have HM := Lib.hid (HM.out.trans hm); have hck := hm.cell (by simp) hck; clear hm)
    | (go_at_call 25; (with_reducible refine (KN32.out _).mono ?_); rintro e v ⟨rfl, hm⟩; have HM := Lib.hid (HM.out.trans hm); have hck := hm.cell (by simp) hck; clear hm)
    | (go_at_call 25; (with_reducible refine (KN33.out _).mono ?_); rintro e v ⟨rfl, hm⟩; have HM := Lib.hid (HM.out.trans hm); have hck := hm.cell (by simp) hck; clear hm)
    | fail)
  go_wp2_with fail
  go_ret
  exact ⟨by simp, HM.out⟩
end Go.Proofs.Ytnclfopdgilgaaa
