/- Layer 6: rows of operations; StackPairs's walk. Condition: the argument is a slice of cells. -/
import Derived.Test.YtjmbmhjhnoiclaaS6Q
namespace Go.Proofs.Ytjmbmhjhnoiclaa
open Go.RowKit
set_option linter.unusedVariables false

/-- What a row of operations leaves, if each can be done; one below 0 pushes a number. -/
def runOps : List Int → List Int → Option (List Int)
  | [], L => some L
  | op :: r, L => if op < 0 then runOps r (putL [-op - 1] L).2 else if (doL op L).1 = 0 then runOps r (doL op L).2 else none
theorem runOps_push {op : Int} {r L Z : List Int} (h : runOps (op :: r) L = some Z) (ho : op < 0) : runOps r (putL [-op - 1] L).2 = some Z := by
  unfold runOps at h
  rwa [if_pos ho] at h
theorem runOps_do {op : Int} {r L Z : List Int} (h : runOps (op :: r) L = some Z) (ho : ¬ op < 0) : (doL op L).1 = 0 ∧ runOps r (doL op L).2 = some Z := by
  unfold runOps at h
  rw [if_neg ho] at h
  split at h
  · exact ⟨‹_›, h⟩
  · cases h
theorem drop_cons {l : List Int} {k : Nat} (h : k < l.length) : l.drop k = l[k] :: l.drop (k + 1) := List.drop_eq_getElem_cons h
set_option maxHeartbeats 4000000 in
set_option maxRecDepth 100000 in
theorem same_op {w0 w : World} (hw : Mod [] w0 w) {A : Option Addr} {len cap : Nat} {X : List Int} {k : Nat} (C : Came w0 A len cap 60 X k) {bx : Nat} (hbx : w.cell? ⟨bx, 0, none⟩ = some (.slice A k cap)) (hb0 : bx < w.heap.size)
    (a : Int) (ops Z : List Int) {Bo : Option Addr} {co : Nat} (hs : Sl w Bo ops) (hi : ∀ y ∈ ops, -1000 ≤ y ∧ y ≤ 1000) (hl : ops.length ≤ 10) (n : Nat) (hn : n = ops.length) (h1 : doL a X = (0, Z)) (h2 : runOps ops X = some Z) :
    Calls Try.prog 24 #[.int .i64 a, .slice Bo n co, .pointer (some ⟨bx, 0, none⟩)] w fun e w' => e = .returned (.bool true) ∧ Mod [] w w' := by
  have D := Lib.hid C
  have HW := Lib.hid hw
  have HS := Lib.hid hs
  have HI := Lib.hid hi
  have HN := Lib.hid hn
  have H1 := Lib.hid h1
  have H2 := Lib.hid h2
  have HX := Lib.hid (show X.length ≤ 60 by rw [C.n, C.e]; exact Nat.min_le_right _ _)
  have hn10 : n ≤ 10 := by omega
  have HBX := Lib.hid hbx
  clear C hw hs hi hn h1 h2 hl
  go_enter Try.func24, Try.ntmps24
  go_wp2_with fail
  refine (new_calls _).mono ?_
  rintro e w1 ⟨p, rfl, s1, m1, l1⟩
  have K1 := Lib.hid (And.intro s1 (And.intro m1 l1))
  clear s1 m1 l1
  go_wp2_with fail
  refine (new_calls _).mono ?_
  rintro e w2 ⟨q, rfl, s2, m2, l2⟩
  have P2 := Lib.hid (fresh2 K1.out.1 K1.out.2.1 K1.out.2.2 s2 m2 l2)
  clear s2 m2 l2 K1
  have hbx2 := P2.out.m.cell (by simp) HBX.out
  go_wp2_with fail
  refine (P2.out.put1 cap (D.out.s.far (HW.out.trans P2.out.m)) D.out.n.symm D.out.i (by have := D.out.c; have := D.out.m; omega)).mono ?_
  rintro e w3 ⟨rfl, h3⟩
  rw [putL_nil X (by have := HX.out; omega)] at h3
  have P3 := Lib.hid h3
  have hbx3 := h3.m.cell (by simp) HBX.out
  clear h3 P2 hbx2
  go_wp2_with fail
  refine (P3.out.put2 cap (D.out.s.far (HW.out.trans P3.out.m)) D.out.n.symm D.out.i (by have := D.out.c; have := D.out.m; omega)).mono ?_
  rintro e w4 ⟨rfl, h4⟩
  rw [putL_nil X (by have := HX.out; omega)] at h4
  have P4 := Lib.hid h4
  clear h4 P3 hbx3 hbx
  go_wp2_with fail
  refine (P4.out.do1 a).mono ?_
  rintro e w5 ⟨rfl, h5⟩
  rw [H1.out] at h5 ⊢
  have P5 := Lib.hid h5
  clear h5 P4
  go_wp2_with fail
  go_loopw [24] (fun i wr => ∃ (j : Nat) (L : List Int), j ≤ n ∧ i = .int .i64 (j : Int) ∧ RowKit.Hid (runOps (ops.drop j) L = some Z) ∧ RowKit.Hid (Pr w wr p q Z L)) (fun i _ => n - (intOf i).toNat)
  case atStart => exact ⟨0, X, by omega, rfl, Lib.hid (by rw [List.drop_zero]; exact H2.out), P5⟩
  case round =>
    clear P5
    obtain ⟨j, L, hj, rfl, HR, HP⟩ := hrel
    by_cases hlt : j < n
    · have hjo : j < ops.length := by rw [← HN.out]; exact hlt
      obtain ⟨b, off, hBo, hc⟩ := (HS.out.far HP.out.m) j hjo
      have hr := HR.out
      rw [drop_cons hjo] at hr
      have hib := HI.out _ (List.getElem_mem hjo)
      obtain ⟨o, hoe⟩ : ∃ o, o = ops[j] := ⟨_, rfl⟩
      rw [← hoe] at hc hr hib
      subst hBo
      have h1 : (0 : Int) ≤ (j : Int) := by omega
      have h2 : (j : Int) < (n : Int) := by omega
      clear hoe HR
      by_cases ho : o < 0
      · have HR2 := Lib.hid (runOps_push hr ho)
        have h3 : o ≤ -1 := by omega
        have h4 : -1000 ≤ o := hib.1
        clear hr ho hib
        go_wp2_with fail
        refine (HP.out.push2 (-o - 1) (by unfold I64; omega)).mono ?_
        rintro e w6 ⟨rfl, h6⟩
        have HP6 := Lib.hid h6
        clear h6 HP
        go_wp2_with fail
        go_roundw
        case rel => exact ⟨j + 1, _, by omega, by go_num, HR2, HP6⟩
        case measure => simp [intOf]; omega
      · obtain ⟨e0, hr2⟩ := runOps_do hr ho
        have HR2 := Lib.hid hr2
        have E0 := Lib.hid e0
        have h3 : 0 ≤ o := by omega
        clear hr ho hib hr2 e0
        go_wp2_with fail
        refine (HP.out.do2 o).mono ?_
        rintro e w6 ⟨rfl, h6⟩
        rw [E0.out]
        have HP6 := Lib.hid h6
        clear h6 HP
        go_wp2_with fail
        go_roundw
        case rel => exact ⟨j + 1, _, by omega, by go_num, HR2, HP6⟩
        case measure => simp [intOf]; omega
    · have hjn : j = n := by omega
      subst hjn
      have hr := HR.out
      rw [HN.out, List.drop_length] at hr
      have hLZ : L = Z := by injection hr
      subst hLZ
      clear hr hj hlt HR
      go_wp2_with fail
      refine (HP.out.all1).mono ?_
      rintro e w7 ⟨b1, c1, rfl, ho1, hl1, hm1, h7⟩
      have O1 := Lib.hid ho1
      have P7 := Lib.hid h7
      clear ho1 hl1 hm1 h7 HP
      go_wp2_with fail
      refine (P7.out.all2).mono ?_
      rintro e w8 ⟨b2, c2, rfl, ho2, hl2, hm2, h8⟩
      have O2 := Lib.hid (And.intro (O1.out.mod hm2 (by simp)) ho2)
      have P8 := Lib.hid h8
      clear ho2 hl2 hm2 h8 P7 O1
      have HL := Lib.hid P8.out.s.n
      go_wp2_with fail
      refine (same_row O2.out.1 O2.out.2.sl rfl (by have := HL.out; omega) (by have := HL.out; omega)).mono ?_
      rintro e w9 ⟨rfl, m9⟩
      rw [decide_eq_true rfl]
      have P9 := Lib.hid (P8.out.far m9)
      clear m9 P8
      go_wp2
      go_ret
      exact ⟨rfl, P9.out.m⟩
end Go.Proofs.Ytjmbmhjhnoiclaa
