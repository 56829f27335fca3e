/- DigitNone: for all arguments given, the call returns true and the arguments read as before. No condition. -/
import Derived.Test.YtoaijcahjmkkpaaRows
import Derived.Test.YtoaijcahjmkkpaaC3Num
import Derived.Test.YtoaijcahjmkkpaaLawKit
import Derived.Deep.DeepCutAuto
import Derived.Deep.CutBlock
import Derived.Deep.RegionWith
import Derived.IntWalk
import Derived.WalkKit
import Derived.ProofKit
import Derived.OpenShut
import Derived.ChangeMaps5
namespace Go.Proofs.Ytoaijcahjmkkpaa.digitNone
open Go.ChangeShapes Go.WideShapes Go.ChangeAt Go.RowKit Go.ChangeMaps
set_option linter.unusedVariables false

theorem own : ownKnob Try.prog.godebug = none := by kernel_rfl

theorem add_str (x y : ByteArray) (h : x.size + y.size ≤ 1000000000) (W : World) : (Op.stringOp .add x y).run Try.prog W = .ok (.string (x ++ y)) W := by
  rw [run_string_add_sum W _ _ (by omega)]
theorem conv_one (u : UInt8) (W : World) (b : Nat) (h : W.cell? ⟨b, 0, none⟩ = some (.int .u8 (u.toNat : Int))) : (convert 43 9 (.slice (some ⟨b, 0, none⟩) 1 1)).run Try.prog W = .ok (.string (bytes [u])) W := by
  refine run_convert_bytes_back (P := Try.prog) _ 43 9 5 ⟨b, 0, none⟩ 1 [u] Try.underlying43 Try.underlying5 Try.underlying9 ?_
  intro j hj
  have hj0 : j = 0 := by simpa using hj
  subst hj0
  have ha : (⟨b, 0, none⟩ : Addr).add 0 = ⟨b, 0, none⟩ := by simp [Addr.add]
  rw [ha, h]
  rfl
/-- A letter that is no digit, put into a number's text. -/
theorem num_put (B n k : Nat) (c : UInt8) (h2 : 2 ≤ B) (h36 : B ≤ 36) (hn : n < two128) (hk : k ≤ (text B n).length) (hv : valueOf c B = none) (h0 : k = 0 → c ≠ 45 ∧ c ≠ 35 ∧ c ≠ 36 ∧ c ≠ 37) (hl : k = (text B n).length → c ≠ 46) :
    (numOf B ((text B n).take k ++ c :: (text B n).drop k)).2.2 = 0 := by
  obtain ⟨t, ht⟩ : ∃ t, t = text B n := ⟨_, rfl⟩
  have hd := text_digit B n h2 h36 hn
  rw [← ht] at hd hk hl ⊢
  obtain ⟨a, r, hr⟩ := text_cons B n
  rw [← ht] at hr
  have hpm : pre B (t.take k ++ c :: t.drop k) = (B, 0) ∧ minus (t.take k ++ c :: t.drop k) 0 = false := by
    cases k with
    | zero =>
      obtain ⟨c1, c2, c3, c4⟩ := h0 rfl
      rw [List.take_zero, List.nil_append]
      constructor
      · unfold pre
        rw [if_neg (by simpa using c2), if_neg (by simpa using c3), if_neg (by simpa using c4)]
      · unfold minus
        rw [List.getElem?_cons_zero, beq_eq_false_iff_ne]
        exact fun e => c1 (Option.some.inj e)
    | succ k =>
      have hda := hd a (by rw [hr]; simp)
      rw [hr, List.take_succ_cons, List.cons_append]
      exact ⟨pre_digit B a _ hda, minus_digit B a _ hda⟩
  rw [num_is, hpm.1]
  simp only [hpm.2, Bool.toNat_false, Nat.add_zero, List.drop_zero]
  have ht0 : (acc B 0 (t.take k)).2 = 0 := (acc_whole B _ 0).2 (fun x hx => hd x (List.mem_of_mem_take hx))
  rw [acc_append, if_pos ht0, acc_none hv]
  obtain ⟨x, hx⟩ : ∃ x, x = (acc B 0 (t.take k)).1 := ⟨_, rfl⟩
  rw [← hx]
  have hlen : (t.take k ++ c :: t.drop k).length = k + ((t.drop k).length + 1) := by rw [List.length_append, List.length_cons, List.length_take]; omega
  have hdrop : (t.take k ++ c :: t.drop k).drop ((t.take k ++ c :: t.drop k).length - ((t.drop k).length + 1)) = c :: t.drop k := by
    rw [hlen, Nat.add_sub_cancel]
    have e : (t.take k).length = k := by rw [List.length_take]; omega
    conv => lhs; rw [← e]
    rw [e, List.drop_append_of_le_length (by omega), List.drop_of_length_le (by omega), List.nil_append]
  unfold numEnd
  simp only
  rw [hdrop]
  have h46 : (c :: t.drop k != [46]) = true := by
    rw [bne_iff_ne]
    intro e
    injection e with e1 e2
    refine hl ?_ e1
    have := congrArg List.length e2
    rw [List.length_drop] at this
    simp at this
    omega
  rw [h46]
  simp
def signBase : Nat → Nat
  | 0 => 10
  | 1 => 16
  | _ => 2
def signText (k : Nat) : ByteArray := (⟨#[35, 36, 37]⟩ : ByteArray).extract k (k + 1)
theorem num_sign (B n k : Nat) (hk : k < 3) (hn : n < two128) (t : ByteArray) (ht : t.data.toList = text (signBase k) n) : numOf B (signText k ++ t).data.toList = (lo (n : Int), 0, 1) := by
  have hb : 2 ≤ signBase k ∧ signBase k ≤ 36 := by
    rcases k with _ | _ | _ | k <;> simp [signBase]
  have key : ∀ (s : ByteArray) (u : UInt8), s.data.toList = [u] → pre B (u :: text (signBase k) n) = (signBase k, 1) → numOf B (s ++ t).data.toList = (lo (n : Int), 0, 1) := by
    intro s u hs hp
    have hl : (s ++ t).data.toList = u :: text (signBase k) n := by rw [Joins.data_append, hs, ht]; rfl
    rw [hl, num_is, hp]
    obtain ⟨c, r, hc⟩ := text_cons (signBase k) n
    have hv := text_digit (signBase k) n hb.1 hb.2 hn c (by rw [hc]; simp)
    have hm : minus (u :: text (signBase k) n) 1 = false := by
      unfold minus
      rw [List.getElem?_cons_succ]
      have := minus_digit (signBase k) c r hv
      unfold minus at this
      rw [hc]
      exact this
    simp only [hm, Bool.toNat_false, Nat.add_zero, List.drop_succ_cons, List.drop_zero]
    have h1 := num_text (signBase k) n hb.1 hb.2 hn
    rw [num_is, hc, pre_digit _ c r hv] at h1
    simp only [minus_digit _ c r hv, Bool.toNat_false, Nat.add_zero, List.drop_zero] at h1
    rw [← hc] at h1
    exact h1
  rcases k with _ | _ | _ | k
  · exact key _ 35 (by decide) (by simp [pre, signBase])
  · exact key _ 36 (by decide) (by simp [pre, signBase])
  · exact key _ 37 (by decide) (by simp [pre, signBase])
  · omega
structure Three (w : World) (b : Nat) : Prop where
  at_ : ∀ j, j < 3 → w.cell? ⟨b, j, none⟩ = some (.int .i64 (signBase j : Int))
  lt : b < w.heap.size
theorem Three.ext {w w' : World} {b : Nat} (h : Three w b) (k : Ext w w') : Three w' b := ⟨fun j hj => ext_keeps k (h.at_ j hj), Nat.lt_of_lt_of_le h.lt k.1.size⟩
theorem slice_last (X : World) : Three (X.alloc (.cells #[.int .i64 10, .int .i64 16, .int .i64 2] 3)) X.heap.size := by
  have hb : (X.alloc (.cells #[.int .i64 10, .int .i64 16, .int .i64 2] 3)).heap[X.heap.size]? = some (.cells #[.int .i64 10, .int .i64 16, .int .i64 2] 3) := (MapKept.heap_alloc X _).1
  refine ⟨?_, by show X.heap.size < (X.heap.push _).size; simp⟩
  intro j hj
  simp only [World.cell?, hb]
  rcases j with _ | _ | _ | j
  · rfl
  · rfl
  · rfl
  · omega
theorem Three.other {w : World} {b b' : Nat} (h : Three w b) (hb : b' ≠ b) (u v : Value) : Three ((w.setCell ⟨b', 0, none⟩ u).setCell ⟨b', 1, none⟩ v) b := by
  have hne : ∀ i j, (⟨b', i, none⟩ : Addr) ≠ ⟨b, j, none⟩ := fun i j e => hb (by injection e)
  refine ⟨fun j hj => ?_, ?_⟩
  · rw [World.cell?_setCell_other (h := hne _ _), World.cell?_setCell_other (h := hne _ _)]; exact h.at_ j hj
  · simpa [World.setCell] using h.lt
def Got (w : World) (a : Int) (b3 : Nat) (u v : Value) (wx : World) : Prop := ∃ b : Nat, u = .pointer (some ⟨b, 0, none⟩) ∧ v = .int .i64 1 ∧ Own wx b (.int .i64 a) (.int .i64 0) ∧ Three wx b3 ∧ Ext w wx
def mayB (v : Bool) (k n c : Nat) : Bool := v || (decide (k = 0) && (c == 45 || c == 35 || c == 36 || c == 37)) || (decide (k = n) && c == 46)
set_option maxHeartbeats 8000000 in
set_option maxRecDepth 100000 in
theorem walk (a0 : Int) (w0 : (Lit.int .i64 a0).wf = true) (a1 : Int) (w1 : (Lit.int .u8 a1).wf = true) (a2 : Int) (w2 : (Lit.int .u8 a2).wf = true) (a3 : Int) (w3 : (Lit.int .u8 a3).wf = true) (w : World) :
    Calls Try.prog 8 #[.int .i64 a0, .int .u8 a1, .int .u8 a2, .int .u8 a3] w fun e w' => e = .returned (.bool true) ∧ Grown w w' := by
  suffices hsuf : Calls Try.prog 8 #[.int .i64 a0, .int .u8 a1, .int .u8 a2, .int .u8 a3] w fun e w' => e = .returned (.bool true) ∧ Ext w w' from hsuf.mono fun e w' ⟨he, hx⟩ => ⟨he, hx.grown⟩
  obtain ⟨c, rfl⟩ := u8_of_wf w1
  obtain ⟨at_, rfl⟩ := u8_of_wf w2
  obtain ⟨bs, rfl⟩ := u8_of_wf w3
  obtain ⟨B, hB, h2, h36⟩ := byte_base bs
  have ha := i64_of_wf w0
  have z0 : I64 0 := by unfold I64; omega
  obtain ⟨P, hP⟩ := W_nat' a0 0
  obtain ⟨e1, e2, hl⟩ := W_at a0 0 ha z0 P hP
  have cT := fun W => text_calls a0 0 (B : Int) ha z0 P B hP rfl h2 h36 W
  have hlen := text_length B P h2 hl
  have hzs := bytes_size (text B P)
  obtain ⟨S, hS⟩ : ∃ S, S = bytes (text B P) := ⟨_, rfl⟩
  rw [← hS] at cT hzs
  have hSl : S.data.toList = text B P := by rw [hS, bytes_list]
  obtain ⟨k, hk⟩ : ∃ k, k = at_.toNat % (S.size + 1) := ⟨_, rfl⟩
  have hkl : k ≤ S.size := by rw [hk]; have := Nat.mod_lt at_.toNat (show 0 < S.size + 1 by omega); omega
  have hk1 : (at_.toNat : Int) % ((S.size : Int) + 1) = (k : Int) := by rw [hk, Int.natCast_emod]; rfl
  obtain ⟨X, hX0⟩ : ∃ X, X = S.extract 0 k := ⟨_, rfl⟩
  obtain ⟨Y, hY0⟩ : ∃ Y, Y = S.extract k S.size := ⟨_, rfl⟩
  have hXl : X.data.toList = (text B P).take k := by rw [hX0, ← hSl, Lib.extract_data]; simp
  have hYl : Y.data.toList = (text B P).drop k := by rw [hY0, ← hSl, extract_list]
  have hXs : X.size ≤ 128 := by
    have e := congrArg List.length hXl
    have e3 : X.data.toList.length = X.size := rfl
    rw [e3, List.length_take] at e
    omega
  have hYs : Y.size ≤ 128 := by
    have e := congrArg List.length hYl
    have e3 : Y.data.toList.length = Y.size := rfl
    rw [e3, List.length_drop] at e
    omega
  have hb1 : (bytes [c]).size = 1 := rfl
  have hsz1 : (X ++ bytes [c]).size = X.size + (bytes [c]).size := ByteArray.size_append
  have hsz2 : (X ++ bytes [c] ++ Y).size = (X ++ bytes [c]).size + Y.size := ByteArray.size_append
  have had1 := add_str X (bytes [c]) (by omega)
  have had2 := add_str (X ++ bytes [c]) Y (by omega)
  obtain ⟨X1, hX1⟩ : ∃ x, x = X ++ bytes [c] := ⟨_, rfl⟩
  rw [← hX1] at had1 had2 hsz1 hsz2
  obtain ⟨Z, hZ⟩ : ∃ x, x = X1 ++ Y := ⟨_, rfl⟩
  rw [← hZ] at had2 hsz2
  have hZl : Z.data.toList = (text B P).take k ++ c :: (text B P).drop k := by
    rw [hZ, hX1, Joins.data_append, Joins.data_append, hXl, hYl, bytes_list, List.append_assoc]
    rfl
  have cN := fun W => number_calls Z (by omega) B h2 h36 W
  rw [hZl] at cN
  have hput := num_put B P k c h2 h36 hl (by omega)
  obtain ⟨r, hr⟩ : ∃ r, r = numOf B ((text B P).take k ++ c :: (text B P).drop k) := ⟨_, rfl⟩
  rw [← hr] at cN hput
  have cV := value_calls c (B : Int)
  rw [Int.toNat_natCast] at cV
  obtain ⟨d, hd⟩ : ∃ d, d = vN c B := ⟨_, rfl⟩
  obtain ⟨v, hv⟩ : ∃ d, d = vB c B := ⟨_, rfl⟩
  rw [← hd, ← hv] at cV
  have hkey : mayB v k S.size c.toNat = false → r.2.2 = 0 := by
    intro h
    unfold mayB at h
    simp only [Bool.or_eq_false_iff, Bool.and_eq_false_iff, decide_eq_false_iff_not, beq_eq_false_iff_ne] at h
    have ne : ∀ n : Nat, n < 256 → c.toNat ≠ n → c ≠ n.toUInt8 := by
      intro n hn h e
      refine h ?_
      rw [e, Nat.toUInt8_eq, UInt8.toNat_ofNat', Nat.mod_eq_of_lt hn]
    refine hput (value_none (by rw [← hv]; exact h.1.1)) ?_ ?_
    · intro h0
      rcases h.1.2 with h1 | h1
      · exact absurd h0 h1
      · exact ⟨ne 45 (by decide) h1.1.1.1, ne 35 (by decide) h1.1.1.2, ne 36 (by decide) h1.1.2, ne 37 (by decide) h1.2⟩
    · intro h0
      rcases h.2 with h1 | h1
      · exact absurd (by omega) h1
      · exact ne 46 (by decide) h1
  have cN0 := fun W => number_calls ⟨#[]⟩ (by decide) B h2 h36 W
  rw [show (⟨#[]⟩ : ByteArray).data.toList = [] from rfl, num_nil] at cN0
  have hround : ∀ j : Nat, j < 3 → ∃ (T U : ByteArray), (∀ W, Calls Try.prog 15 #[.agg #[.int .i64 a0, .int .i64 0], .int .i64 (signBase j : Int)] W fun e w' => e = .returned (.string T) ∧ Ext W w') ∧ (∀ W, (Op.stringOp .add (signText j) T).run Try.prog W = .ok (.string U) W) ∧ (∀ W, Calls Try.prog 24 #[.string U, .int .i64 (B : Int)] W fun e w' => e = .returned (.tuple #[.agg #[.int .i64 a0, .int .i64 0], .int .i64 1]) ∧ Ext W w') := by
    intro j hj
    have hb : 2 ≤ signBase j ∧ signBase j ≤ 36 := by rcases j with _ | _ | _ | j <;> simp [signBase]
    have hsg : (signText j).size = 1 := by
      rcases j with _ | _ | _ | j
      · rfl
      · rfl
      · rfl
      · omega
    have hlj := text_length (signBase j) P hb.1 hl
    have hbz := bytes_size (text (signBase j) P)
    refine ⟨bytes (text (signBase j) P), signText j ++ bytes (text (signBase j) P), fun W => text_calls a0 0 (signBase j : Int) ha z0 P (signBase j) hP rfl hb.1 hb.2 W, add_str _ _ (by omega), ?_⟩
    intro W
    have hsz : (signText j ++ bytes (text (signBase j) P)).size = (signText j).size + (bytes (text (signBase j) P)).size := ByteArray.size_append
    have hc := number_calls (signText j ++ bytes (text (signBase j) P)) (by omega) B h2 h36 W
    rw [num_sign B P j hj hl _ (bytes_list _), ← e1] at hc
    exact hc
  have hat : at_.toNat < 256 := at_.toNat_lt
  have hbt : bs.toNat < 256 := bs.toNat_lt
  have hct : c.toNat < 256 := c.toNat_lt
  have CT := Lib.hid cT
  have CN := Lib.hid cN
  have CV := Lib.hid cV
  have CN0 := Lib.hid cN0
  have HK := Lib.hid hkey
  have HR := Lib.hid hround
  have hs1 : (0 : Int) ≤ (S.size : Int) := by omega
  have hs2 : (S.size : Int) ≤ 128 := by omega
  have hs4 : (1 : Int) ≤ (S.size : Int) := by omega
  clear cT cN cV cN0 hkey hround hput hlen hzs hS hSl hk hXl hYl hXs hYs hb1 hsz1 hsz2 hZl hZ hX1 hr hd hv h2 h36 ha z0 e1 e2 hP hl w0 w1 w2 w3
  rw [eq_comm] at hX0 hY0
  have hc0 : (0 : Int) ≤ (at_.toNat : Int) := by omega
  have hc1 : (at_.toNat : Int) ≤ 255 := by omega
  have hc2 : (0 : Int) ≤ (bs.toNat : Int) := by omega
  have hc3 : (bs.toNat : Int) ≤ 255 := by omega
  have hk0 : (k : Int) ≤ (S.size : Int) := by omega
  go_enter Try.func8, Try.ntmps8
  try simp only [List.append]
  go_wp2_with fail
  refine (shown3_calls _).mono ?_
  rintro e y0 ⟨rfl, hX⟩
  go_wp2_with fail
  refine (CT.out _).mono ?_
  rintro e y1 ⟨rfl, hx⟩
  replace hX := hX.trans hx
  clear hx
  go_wp2_with fail
  rw [hk1]
  have HK1 := Lib.hid hk1
  clear hk1
  have hcv := conv_one c
  have hsz := hX.1.size
  go_cut [14] (fun u wx => u = .int .i64 r.2.2 ∧ Ext w wx)
  case first =>
    go_region_with (first | (go_at_call 24; refine (CN.out _).mono ?_; rintro e y2 ⟨rfl, hx⟩; first | (have q := ((Own.last (x := Value.int .i64 0) (y := Value.int .i64 0) (t := 24)).ext (Ext.drew (Ext.refl _))).ext hx; rw [size_alloc] at q; have q0 := q.c0; have q1 := q.c1; have q2 := q.f0; have q3 := q.f1; have q4 := q.lt) | (have q := ((Own.last (x := Value.int .i64 0) (y := Value.int .i64 0) (t := 24)).ext (Ext.drew (Ext.refl _))).ext hx; have q0 := q.c0; have q1 := q.c1; have q2 := q.f0; have q3 := q.f1; have q4 := q.lt) | (have q := (((Own.last (x := Value.int .i64 0) (y := Value.int .i64 0) (t := 24)).alloc _ _).ext (Ext.drew (Ext.refl _))).ext hx; have q0 := q.c0; have q1 := q.c1; have q2 := q.f0; have q3 := q.f1; have q4 := q.lt) | skip))
    all_goals
      go_wp2_with fail
      go_meet
      first
      | exact ⟨rfl, ((hX.cells _ _).drew.trans hx).cells _ _⟩
      | exact ⟨rfl, (((hX.cells _ _).cells _ _).drew.trans hx).set2 (by omega) _ _⟩
  case rest =>
    obtain ⟨rfl, hX1⟩ := hcut
    clear hX hcv hX0 hY0 had1 had2 CN
    obtain ⟨z, hz⟩ : ∃ z, z = r.2.2 := ⟨_, rfl⟩
    rw [← hz]
    have HZ := Lib.hid hz
    clear hz
    go_wp2_with fail
    refine (CV.out _).mono ?_
    rintro e y3 ⟨rfl, hx⟩
    rw [hx] at hX1
    clear hx
    go_upto_region 7 with fail
    go_cut [17] (fun u wx => u = .bool (mayB v k S.size c.toNat) ∧ Ext w wx)
    case first =>
      have hn0 : ¬ S.size = 0 := by omega
      cases v
      · by_cases k0 : k = 0
        · have kz : ((k : Int) == 0) = true := by rw [beq_iff_eq]; omega
          have kn : ((k : Int) == (S.size : Int)) = false := by rw [beq_eq_false_iff_ne]; omega
          have kn2 : ¬ 0 = S.size := by omega
          by_cases c45 : c.toNat = 45
          · have d45 : ((c.toNat : Int) == 45) = true := by rw [beq_iff_eq]; omega
            have hm : mayB false k S.size c.toNat = true := by simp [mayB, k0, c45]
            have HM := Lib.hid hm
            clear hm k0 c45
            go_wp2_with fail
            go_meet
            exact ⟨by rw [HM.out], hX1⟩
          · have d45 : ((c.toNat : Int) == 45) = false := by rw [beq_eq_false_iff_ne]; omega
            by_cases c35 : c.toNat = 35
            · have d35 : ((c.toNat : Int) == 35) = true := by rw [beq_iff_eq]; omega
              have hm : mayB false k S.size c.toNat = true := by simp [mayB, k0, c35]
              have HM := Lib.hid hm
              clear hm k0 c45 c35
              go_wp2_with fail
              go_meet
              exact ⟨by rw [HM.out], hX1⟩
            · have d35 : ((c.toNat : Int) == 35) = false := by rw [beq_eq_false_iff_ne]; omega
              by_cases c36 : c.toNat = 36
              · have d36 : ((c.toNat : Int) == 36) = true := by rw [beq_iff_eq]; omega
                have hm : mayB false k S.size c.toNat = true := by simp [mayB, k0, c36]
                have HM := Lib.hid hm
                clear hm k0 c45 c35 c36
                go_wp2_with fail
                go_meet
                exact ⟨by rw [HM.out], hX1⟩
              · have d36 : ((c.toNat : Int) == 36) = false := by rw [beq_eq_false_iff_ne]; omega
                by_cases c37 : c.toNat = 37
                · have d37 : ((c.toNat : Int) == 37) = true := by rw [beq_iff_eq]; omega
                  have hm : mayB false k S.size c.toNat = true := by simp [mayB, k0, c37]
                  have HM := Lib.hid hm
                  clear hm k0 c45 c35 c36 c37
                  go_wp2_with fail
                  go_meet
                  exact ⟨by rw [HM.out], hX1⟩
                · have d37 : ((c.toNat : Int) == 37) = false := by rw [beq_eq_false_iff_ne]; omega
                  have hm : mayB false k S.size c.toNat = false := by simp [mayB, k0, kn2, c45, c35, c36, c37]
                  have HM := Lib.hid hm
                  clear hm k0 c45 c35 c36 c37
                  go_wp2_with fail
                  go_meet
                  exact ⟨by rw [HM.out], hX1⟩
        · have kz : ((k : Int) == 0) = false := by rw [beq_eq_false_iff_ne]; omega
          by_cases kn : k = S.size
          · have kz2 : ((k : Int) == (S.size : Int)) = true := by rw [beq_iff_eq]; omega
            by_cases c46 : c.toNat = 46
            · have d46 : ((c.toNat : Int) == 46) = true := by rw [beq_iff_eq]; omega
              have hm : mayB false k S.size c.toNat = true := by simp [mayB, kn, c46]
              have HM := Lib.hid hm
              clear hm k0 kn c46
              go_wp2_with fail
              go_meet
              exact ⟨by rw [HM.out], hX1⟩
            · have d46 : ((c.toNat : Int) == 46) = false := by rw [beq_eq_false_iff_ne]; omega
              have hm : mayB false k S.size c.toNat = false := by simp [mayB, k0, c46]
              have HM := Lib.hid hm
              clear hm k0 kn c46
              go_wp2_with fail
              go_meet
              exact ⟨by rw [HM.out], hX1⟩
          · have kz2 : ((k : Int) == (S.size : Int)) = false := by rw [beq_eq_false_iff_ne]; omega
            have hm : mayB false k S.size c.toNat = false := by simp [mayB, k0, kn]
            have HM := Lib.hid hm
            clear hm k0 kn
            go_wp2_with fail
            go_meet
            exact ⟨by rw [HM.out], hX1⟩
      · have hm : mayB true k S.size c.toNat = true := by simp [mayB]
        have HM := Lib.hid hm
        clear hm
        go_wp2_with fail
        go_meet
        exact ⟨by rw [HM.out], hX1⟩
    case rest =>
      obtain ⟨rfl, hX2⟩ := hcut
      obtain ⟨m, hm⟩ : ∃ m, m = mayB v k S.size c.toNat := ⟨_, rfl⟩
      rw [← hm]
      have hm2 : m = false → z = 0 := fun h => by rw [HZ.out]; exact HK.out (by rw [← hm]; exact h)
      have HM2 := Lib.hid hm2
      clear hm hm2 HK HZ hX1 CV
      go_upto_region 8 with fail
      go_cut [97] (fun u wx => u = .bool false ∧ Ext w wx)
      case first =>
        cases m
        · obtain rfl : z = 0 := HM2.out rfl
          go_wp2_with fail
          go_meet
          exact ⟨rfl, hX2⟩
        · go_wp2_with fail
          go_meet
          exact ⟨rfl, hX2⟩
      case rest =>
        obtain ⟨rfl, hX3⟩ := hcut
        clear hX2 HM2
        go_wp2_with fail
        refine (CN0.out _).mono ?_
        rintro e y4 ⟨rfl, hx⟩
        have hX4 := ((hX3.trans hx).cells #[.int .i64 0, .int .i64 0] 24).cells #[.int .i64 10, .int .i64 16, .int .i64 2] 3
        have hsl := slice_last (y4.alloc (.cells #[.int .i64 0, .int .i64 0] 24))
        rw [size_alloc] at hsl
        clear hx hX3
        go_wp2_with fail
        go_loopw [105] (fun i wr => ∃ k : Nat, k ≤ 3 ∧ i = .int .i64 (k : Int) ∧ Three wr (y4.heap.size + 1) ∧ Ext w wr) (fun i _ => 3 - (intOf i).toNat)
        case atStart => exact ⟨0, by omega, rfl, hsl, hX4⟩
        case round =>
          obtain ⟨j, hj, rfl, h3, hE⟩ := hrel
          clear hsl hX4
          by_cases hlt : j < 3
          · obtain ⟨T, U, t1, t2, t3⟩ := HR.out j hlt
            have T1 := Lib.hid t1
            have T3 := Lib.hid t3
            unfold signText at t2
            clear t1 t3
            have hc := h3.at_ j hlt
            have hlt2 : (j : Int) < 3 := by omega
            have hsz2 := hE.1.size
            have h3l := h3.lt
            go_wp2_with fail
            go_cut [22, 23] (fun u v wx => Got w a0 (y4.heap.size + 1) u v wx)
            case first =>
              have hb0 := hE.1.size
              have e1 : IntKind.i64.wrap ((j : Int) + 1) = (j : Int) + 1 := IntWalk.i64_in _ (by omega)
              have e2 : 0 ≤ (j : Int) + 1 := by omega
              have e3 : ((j : Int) + 1).toNat = j + 1 := by omega
              have e4 : (j : Int) ≤ (j : Int) + 1 := by omega
              have e5 : (j : Int) + 1 ≤ 3 := by omega
              go_region_with (first | (go_at_call 15; refine (T1.out _).mono ?_; rintro e y6 ⟨rfl, hx1⟩) | (go_at_call 24; refine (T3.out _).mono ?_; rintro e y7 ⟨rfl, hx2⟩; first | (have q := (((Own.last (x := Value.int .i64 0) (y := Value.int .i64 0) (t := 24)).ext (Ext.drew (Ext.refl _))).ext hx1).ext hx2; have q0 := q.c0; have q1 := q.c1; have q2 := q.f0; have q3 := q.f1; have q4 := q.lt) | (have q := (Own.last (x := Value.int .i64 0) (y := Value.int .i64 0) (t := 24)).ext hx2; have q0 := q.c0; have q1 := q.c1; have q2 := q.f0; have q3 := q.f1; have q4 := q.lt) | skip))
              all_goals
                clear e1 e2 e3 e4 e5
                go_wp2_with fail
                go_meet
                first
                | exact ⟨_, rfl, rfl, Own.last, ((h3.ext (Ext.drew (Ext.refl _))).ext (hx1.trans hx2)).ext ((Ext.refl _).cells _ _), ((hE.drew.trans hx1).trans hx2).cells _ _⟩
                | exact ⟨_, rfl, rfl, q.set _ _, ((h3.ext (((Ext.refl _).cells _ _).drew)).ext (hx1.trans hx2)).other (by omega) _ _, (((hE.cells _ _).drew.trans hx1).trans hx2).set2 (by omega) _ _⟩
                | exact ⟨_, rfl, rfl, q.set _ _, (((h3.ext (Ext.drew (Ext.refl _))).ext hx1).ext (((Ext.refl _).cells _ _).trans hx2)).other (Nat.ne_of_gt (Nat.lt_of_lt_of_le h3l hx1.1.size)) _ _, (((hE.drew.trans hx1).cells _ _).trans hx2).set2 (Nat.le_trans hb0 hx1.1.size) _ _⟩
                | trace_state
            case rest =>
              obtain ⟨b, rfl, rfl, o, h3', hE'⟩ := hcut
              clear h3 hE hc
              have c0 := o.c0
              have c1 := o.c1
              go_wp2_with fail
              go_roundw
              case rel => exact ⟨j + 1, by omega, by go_num, h3', hE'⟩
              case measure => simp [intOf]; omega
          · obtain rfl : j = 3 := by omega
            go_wp2_with fail
            go_ret
            exact ⟨rfl, hE⟩

set_option maxRecDepth 100000 in
theorem lifted (os : Os) (started : os.Started) (H : Type) (enc : TypeId × Value → H) :
    ReturnsInHanded {} Try.checked os 8 .any (Rows.digitNoneSpec.pre6 enc Try.prog Try.f8 Rows.digitNoneRow.domain false) (Rows.digitNoneSpec.post enc Try.prog Try.f8 false true false false) := by
  refine returnsInHanded_of_change (C := Try.checked) own started (by kernel_rfl) Try.func8
    (ChangeSpec.witness6 (enc := enc) (C := Try.checked) false ⟨#[], #[.int .i64 0, .int .u8 0, .int .u8 0, .int .u8 0], []⟩ 8 (by kernel_rfl) (by kernel_rfl) (by kernel_rfl) (by kernel_rfl)) ?_
  intro W base args ds gs before hval0 hW hcnd _
  have hval : ∀ (j : Nat) t v, Try.f8.params[j]? = some t → args[j]? = some v → Value.okWide Try.prog W .any base t v := hval0
  have hW' := hW
  obtain ⟨p, q, hA0, hV, rfl, hfz, hnd⟩ := hW
  have hA : DataW.TrodAll enc Try.prog W 0 (fun _ => true) true Try.f8.params.toList args.toList ds p := hA0
  rw [Try.params8] at hA hval
  obtain ⟨v0, vs0, d0, ds0, p0, q0, hargs, rfl, rfl, h0, r0⟩ := trodAll_cons hA
  obtain ⟨v1, vs1, d1, ds1, p1, q1, rfl, rfl, rfl, h1, r1⟩ := trodAll_cons r0
  obtain ⟨v2, vs2, d2, ds2, p2, q2, rfl, rfl, rfl, h2, r2⟩ := trodAll_cons r1
  obtain ⟨v3, vs3, d3, ds3, p3, q3, rfl, rfl, rfl, h3, r3⟩ := trodAll_cons r2
  obtain ⟨rfl, rfl, rfl⟩ := trodAll_nil r3
  obtain rfl : args = #[v0, v1, v2, v3] := by cases args; simp_all
  obtain ⟨rfl, rfl⟩ := trodVars_none hV
  obtain ⟨a0, rfl, rfl, rfl, w0⟩ := open_int Try.underlying22 (hval 0 22 v0 rfl rfl) h0
  obtain ⟨a1, rfl, rfl, rfl, w1⟩ := open_int Try.underlying5 (hval 1 5 v1 rfl rfl) h1
  obtain ⟨a2, rfl, rfl, rfl, w2⟩ := open_int Try.underlying5 (hval 2 5 v2 rfl rfl) h2
  obtain ⟨a3, rfl, rfl, rfl, w3⟩ := open_int Try.underlying5 (hval 3 5 v3 rfl rfl) h3
  clear hA0 hval0
  simp only [List.append_nil] at hW'
  refine (walk a0 w0 a1 w1 a2 w2 a3 w3 W).mono fun e W' ⟨he, hg⟩ => ?_
  subst he
  exact ⟨_, rfl, post_of_same (pa := []) (pv := []) hW' (fun _ _ _ => (trodAll_cons_mk (shut_bool Try.underlying4 _) trodAll_mk0)) (fun sp _ => (trodAll_cons_mk (shut_int Try.underlying22 w0) (trodAll_cons_mk (shut_int Try.underlying5 w1) (trodAll_cons_mk (shut_int Try.underlying5 w2) (trodAll_cons_mk (shut_int Try.underlying5 w3) trodAll_mk0))))) (fun _ _ => rfl) rfl
    (hg.frame _) hg.2.1 (ok_one (by kernel_rfl) rfl (okWide_bool_mk Try.underlying4 _))⟩

theorem over : Rows.digitNoneRow.holds Try.pinned (OpenSpec.ofChange Rows.digitNoneSpec) :=
  OpenClaim.holds_of_wide 8 Try.f8 rfl rfl rfl rfl rfl rfl rfl ⟨rfl, rfl, rfl, rfl, rfl⟩ rfl rfl rfl rfl rfl (by kernel_rfl) Try.func8 (by kernel_rfl)
    (of_decide_eq_true (by kernel_rfl)) (by unfold Func.isWrapper; first | (rw [if_pos (by decide +kernel)]; kernel_rfl) | (rw [if_neg (by decide +kernel)]; exact ⟨rfl, rfl⟩))
    (fun os started H enc _ => lifted os started H enc)

/-- THE STATEMENT -/
theorem proved : Rows.DigitNoneSaid :=
  over
#print axioms proved
end Go.Proofs.Ytoaijcahjmkkpaa.digitNone
