/- Layer 6: the document's stack made n cells deep. Condition: block q is such a stack (Rf), apart from block p. -/
import Derived.Test.YtjmbmhjhnoiclaaS6J
namespace Go.Proofs.Ytjmbmhjhnoiclaa
open Go.RowKit
set_option linter.unusedVariables false

def lenAt (w : World) (q : Nat) : Nat := match w.cell? ⟨q, 0, none⟩ with | some (.slice _ n _) => n | _ => 0
theorem lenAt_of {w : World} {q n c : Nat} {A : Option Addr} (h : w.cell? ⟨q, 0, none⟩ = some (.slice A n c)) : lenAt w q = n := by unfold lenAt; rw [h]
/-- The row X, cut to k cells: k, or all of them, are left. -/
def CutR (w : World) (p q : Nat) (X : List Int) (t : Nat) (wr : World) (k : Nat) : Prop := (∃ A cap, Rf wr p q (X.take k) A cap) ∧ k ≤ X.length ∧ min t X.length ≤ k ∧ Mod [q] w wr
/-- The row cut to t cells, with j zeros. -/
def FillR (w : World) (p q : Nat) (X : List Int) (t : Nat) (wr : World) (j : Nat) : Prop := (∃ A cap, Rf wr p q (X.take t ++ List.replicate j 0) A cap) ∧ (X.take t).length + j ≤ t ∧ Mod [q] w wr
theorem CutR.fill {w : World} {p q : Nat} {X : List Int} {t : Nat} {wr : World} {k : Nat} (h : CutR w p q X t wr k) (hk : k ≤ t) : FillR w p q X t wr 0 := by
  obtain ⟨h1, h2, h3, h4⟩ := h
  have e : X.take k = X.take t := by
    by_cases hx : X.length ≤ t
    · rw [List.take_of_length_le hx, List.take_of_length_le (by omega)]
    · rw [show k = t by omega]
  refine ⟨?_, by simp; omega, h4⟩
  rw [List.replicate_zero, List.append_nil, ← e]
  exact h1
theorem FillR.done {w : World} {p q : Nat} {X : List Int} {t : Nat} {wr : World} {j : Nat} (h : FillR w p q X t wr j) (hj : t ≤ (X.take t).length + j) : (∃ A cap, Rf wr p q (cutL t X) A cap) ∧ Mod [q] w wr := by
  obtain ⟨h1, h2, h3⟩ := h
  refine ⟨?_, h3⟩
  unfold cutL
  rw [show t - X.length = j by simp at hj h2; omega]
  exact h1
set_option maxHeartbeats 2000000 in
set_option maxRecDepth 10000 in
theorem rcut_calls {w : World} {p q : Nat} {X : List Int} {A : Option Addr} {cap : Nat} (h : Rf w p q X A cap) (hp : p < w.heap.size) (n : Int) (hn : I64 n) :
    Calls Try.prog 29 #[Pt q, .int .i64 n] w (RTurns p q w (.tuple #[]) (cutL (clamp n) X)) := by
  obtain ⟨t, ht⟩ : ∃ t, t = clamp n := ⟨_, rfl⟩
  have ht1 : t ≤ 128 := by unfold clamp at ht; omega
  rw [← ht]
  have HT := Lib.hid ht
  have H0 := Lib.hid (show CutR w p q X t w X.length from ⟨⟨A, cap, by rw [List.take_length]; exact h⟩, Nat.le_refl _, Nat.min_le_right _ _, Mod.refl _ _⟩)
  have HP := Lib.hid hp
  clear h ht hp
  go_enter Try.func29, Try.ntmps29
  go_upto_region 0 with fail
  go_cut [1] (fun u wx => u = .int .i64 (t : Int) ∧ w = wx)
  case first =>
    go_wp2_with fail
    all_goals
      go_meet
      have := HT.out
      unfold clamp at this
      exact ⟨congrArg (Value.int .i64) (by omega), rfl⟩
  case rest =>
    obtain ⟨rfl, rfl⟩ := hcut
    go_wp2_with fail
    go_loopw [7] (fun _ wr => ∃ k : Nat, RowKit.Hid (CutR w p q X t wr k)) (fun _ wr => lenAt wr q)
    case atStart => exact ⟨_, H0⟩
    case round =>
      clear H0
      obtain ⟨k, HK⟩ := hrel
      obtain ⟨⟨A', cap', hr⟩, hk1, hk2, hm⟩ := HK.out
      have hc := hr.c
      have hkl : (X.take k).length = k := by simp; omega
      rw [hkl] at hc
      have hk128 : k ≤ 128 := by have := hr.n; rw [hkl] at this; exact this
      have hcap := hr.m
      rw [hkl] at hcap
      by_cases hlt : t < k
      · have hrd := hr.far (Mod.refl [] wr).drew
        have hu := hrd.upto (k - 1) (by rw [hkl]; omega)
        rw [List.take_take, Nat.min_eq_left (by omega)] at hu
        have hf := hr.f
        have hsl := fun W => cells_upto W A' k cap' (k - 1) (by omega)
        have HR := Lib.hid (show CutR w p q X t (wr.drew.setCell ⟨q, 0, none⟩ (.slice A' (k - 1) cap')) (k - 1) from ⟨⟨_, _, hu⟩, by omega, by omega, hm.drew.one (by simp) 0 _⟩)
        have hl1 := Lib.hid (lenAt_of hc)
        have hl2 := Lib.hid (lenAt_of (World.cell?_setCell_same wr.drew ⟨q, 0, none⟩ (.slice A' (k - 1) cap') (h := hrd.c)))
        obtain ⟨k1, hk1e⟩ : ∃ k1, k1 = k - 1 := ⟨_, rfl⟩
        rw [← hk1e] at hsl HR hl2
        have hkw : (k : Int) - 1 = (k1 : Int) := by omega
        have HLT := Lib.hid (show k1 < k by omega)
        clear hr hrd hu hm hkl hk1e hcap hk1 hk2 HK
        go_wp2_with fail
        go_region
        go_wp2
        go_roundw
        case rel => exact ⟨k1, HR⟩
        case measure =>
          rw [hl1.out]
          exact Nat.lt_of_le_of_lt (Nat.le_of_eq hl2.out) HLT.out
      · have HR := Lib.hid (HK.out.fill (by omega))
        have hlt2 : ¬ t < k := hlt
        clear hr hm hkl hcap hk1 hk2 HK
        go_wp2_with fail
        go_loopw [28] (fun _ wr => ∃ j : Nat, RowKit.Hid (FillR w p q X t wr j)) (fun _ wr => t - lenAt wr q)
        case atStart => exact ⟨_, HR⟩
        case round => 
          clear HR hc hk128 hlt hlt2
          obtain ⟨j, HJ⟩ := hrel
          obtain ⟨⟨A2, cap2, hr⟩, hj1, hm⟩ := HJ.out
          have hc := hr.c
          have hyl : (X.take t ++ List.replicate j 0).length = (X.take t).length + j := by simp
          rw [hyl] at hc
          obtain ⟨d, hd⟩ : ∃ d, d = (X.take t).length + j := ⟨_, rfl⟩
          rw [← hd] at hc
          have hd128 : d ≤ 128 := by omega
          obtain ⟨Y, hY⟩ : ∃ Y, Y = X.take t ++ List.replicate j 0 := ⟨_, rfl⟩
          rw [← hY] at hr hyl
          have HY := Lib.hid hY
          clear hY
          by_cases hdt : d < t
          · have k1 := Wk.start hr (Nat.lt_of_lt_of_le HP.out hm.size)
            have hc1 := k1.r.c
            rw [hyl, ← hd] at hc1
            have K1 := Lib.hid k1
            have HN := Lib.hid (hd.trans hyl.symm)
            have HI := Lib.hid (all_app hr.i (show ∀ y ∈ [(0 : Int)], I64 y by simp [I64]))
            have HM := Lib.hid hm
            have HL := Lib.hid (lenAt_of hc)
            have HJ1 := Lib.hid (show (X.take t).length + (j + 1) ≤ t by omega)
            have HDT := Lib.hid hdt
            clear hr k1 hyl hd HJ hj1 hm
            go_wp2_with (refine wpList_app rfl (.tmp 36) (.tmp 40) rfl K1.out.o K1.out.r.s rfl HN.out K1.out.r.a (by have := K1.out.r.n; simp at this ⊢; omega) rfl rfl ?_)
            intro b2 c2 W2 o2 m2 l2
            have k2 := K1.out.app o2 m2 l2
            obtain ⟨k3, s3⟩ := k2.one 0
            have hc3 := k3.r.c
            have hf3 := k3.r.f
            rw [← HN.out] at hc3
            have K3 := Lib.hid k3
            have S3 := Lib.hid s3
            clear K1 o2 m2 l2 k2 k3 s3
            go_wp2_with (refine wpList_app rfl (.tmp 41) (.tmp 42) rfl K3.out.o S3.out HN.out rfl (by simp) (by have := K3.out.r.n; simp at this ⊢; omega) rfl rfl ?_)
            intro b4 c4 W4 o4 m4 l4
            have k4 := K3.out.app o4 m4 l4
            have hc4 := k4.r.c
            have hf4 := k4.r.f
            rw [← HN.out] at hc4
            have HF := Lib.hid (k4.fin (by have := HN.out; simp; omega) HI.out (m := d + 1) (by simp [HN.out]))
            clear K3 S3 o4 m4 l4 k4
            go_wp2
            go_roundw
            case rel =>
              obtain ⟨⟨A5, cap5, q1⟩, q2⟩ := HF.out
              refine ⟨j + 1, Lib.hid ⟨⟨A5, cap5, ?_⟩, HJ1.out, HM.out.trans q2⟩⟩
              rw [List.replicate_succ', ← List.append_assoc, ← HY.out]
              exact q1
            case measure =>
              have e := lenAt_of (World.cell?_setCell_same W4 ⟨q, 0, none⟩ (.slice (some ⟨b4, 0, none⟩) (d + 1) c4) (h := hc4))
              have := HDT.out
              rw [HL.out]
              exact Nat.lt_of_le_of_lt (Nat.le_of_eq (congrArg (t - ·) e)) (by show t - (d + 1) < t - d; omega)
          · have HD := Lib.hid (HJ.out.done (by omega))
            clear hr hyl hd HJ hj1 hm
            have hdt2 : ¬ d < t := hdt
            go_wp2
            exact bodyPost_end (v := .tuple #[]) (results_none rfl _ _ _) rfl ⟨rfl, HD.out⟩
end Go.Proofs.Ytjmbmhjhnoiclaa
