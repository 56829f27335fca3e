/- Layer 9: the walk of slices.DeleteFunc over the order. Condition: the block is such a dictionary (PdV). -/
import Derived.Test.YtldnpppbnakcoaaBF
namespace Go.Proofs.Ytldnpppbnakcoaa
open Go.RowKit
set_option linter.unusedVariables false

set_option maxHeartbeats 2000000 in
theorem delete_calls {w : World} {p : Nat} {v : Value} {b : Nat} {A : Option Addr} {n cap : Nat} {Z : List (Nat × We)} {D : Di} (h : PdV w p v b (.slice A n cap) Z D) (hn : n = D.O.length) :
    Calls Try.prog 56 #[.slice A n cap, .func (.func 45) #[PtD p] #[]] w fun e w' => ∃ m, e = .returned (.slice A m cap) ∧ w'.ownsRow 0 3 1 (.slice A m cap) m (intsV (D.O.filter (inK (D.k : Int)))) ∧ Mod (Value.slice A n cap).ownBlock.toList w w' := by
  have hn8 : n ≤ 8 := by have := h.do_; omega
  have hru := h.body.ru
  rw [← hn] at hru
  have hI : IntsAt w A D.O := by
    obtain ⟨A', cap', e, hI, hA, hle⟩ := Ir.opened (w := w) (base := 0) (Y := D.O) (v := .slice A n cap) h.body.ru
    injection e with e1 e2 e3
    subst e1
    exact hI
  have K1 := Lib.hid (idx_calls ⟨v, b, _, Z, h, rfl⟩ hI hn (by omega) (cap := cap))
  obtain ⟨r, hr⟩ : ∃ r, r = lackI D D.O := ⟨_, rfl⟩
  rw [← hr] at K1
  have hrl := lackI_le D D.O
  rw [← hr] at hrl
  by_cases h1 : r = -1
  · subst h1
    have HR := Lib.hid (And.intro (lackI_filter_no hr.symm) hru)
    have hM := Mod.refl (Value.slice A n cap).ownBlock.toList w
    clear h hn hru hI hr hrl
    go_enter Try.func56, Try.ntmps56
    go_wp2_with fail
    refine (K1.out).mono ?_
    rintro e u1 ⟨rfl, rfl⟩
    go_wp2_with fail
    go_ret
    exact ⟨n, rfl, by rw [HR.out.1]; exact HR.out.2, hM⟩
  · obtain ⟨i, rfl⟩ : ∃ i : Nat, r = (i : Int) := ⟨r.toNat, by omega⟩
    obtain ⟨hil, hfl⟩ := lackI_filter_at hr.symm
    obtain ⟨g, rfl⟩ : ∃ g, A = some ⟨g, 0, none⟩ := by
      rcases hru.2 with ⟨e, h0⟩ | ⟨g, cp, cur, e, _⟩
      · omega
      · injection e with e1; exact ⟨g, e1⟩
    have hpg : p ≠ g := fun e => by
      have := (List.nodup_cons.1 h.nd).1
      exact this (mem_tailP.2 (Or.inr (Or.inr (Or.inl (by rw [e]; rfl)))))
    have hncap : n ≤ cap := by
      rcases hru.2 with ⟨e, h0⟩ | ⟨g', cp, cur, e, _, _, h3, _⟩
      · cases e
      · injection e with e1 e2 e3; omega
    have hc2 := h.c2
    have HN := Lib.hid hn
    have H0 : RowKit.Hid (DelAt w (inK (D.k : Int)) g n cap D.O i (i + 1) w D.O) := Lib.hid ⟨by omega, by omega, hru, Mod.refl _ _, hfl.symm, rfl, hn.symm⟩
    have h1b : ((i : Int) == -1) = false := beq_eq_false_iff_ne.2 h1
    have hiI : (i : Int) + 1 ≤ 8 := by omega
    clear h hn hru hI hr hrl h1 hil hfl
    obtain ⟨k, hk⟩ : ∃ k, k = D.k := ⟨_, rfl⟩
    rw [← hk] at hc2 H0 ⊢
    obtain ⟨Y, hY⟩ : ∃ Y, Y = D.O := ⟨_, rfl⟩
    rw [← hY] at HN H0 ⊢
    clear hk hY
    go_enter Try.func56, Try.ntmps56
    go_wp2_with fail
    refine (K1.out).mono ?_
    rintro e u1 ⟨rfl, rfl⟩
    clear K1
    go_wp2_with fail
    go_loopw [5, 6] (fun x z wr => ∃ (i j : Nat) (X : List Int), x = .int .i64 (i : Int) ∧ z = .int .i64 (j : Int) ∧ RowKit.Hid (DelAt w (inK (k : Int)) g n cap Y i j wr X)) (fun _ z _ => n - (intOf z).toNat)
    case atStart => exact ⟨i, i + 1, Y, rfl, by go_num, H0⟩
    case round =>
      obtain ⟨i, j, X, rfl, rfl, HD⟩ := hrel
      have hlt := HD.out.lt
      have hle := HD.out.le
      by_cases hjn : j < n
      · have hjI : (j : Int) < (n : Int) := by omega
        have hi2 : (i : Int) < (n : Int) := by omega
        have hYl : j < Y.length := by have := HN.out; omega
        have hc := HD.out.get HN.out.symm hjn
        have c2 := HD.out.m.cell (x := ⟨p, 2, none⟩) (by simpa using hpg) hc2
        have K2 := Lib.hid (lackc_calls c2 Y[j])
        have hxi : i < X.length := by have := HD.out.lx; omega
        have hci : wr.cell? ⟨g, i, none⟩ = some (.int .i64 X[i]) := by
          have := HD.out.lx
          rw [HD.out.row.cellAt i (by omega)]
          simp [intsV, hxi]
        have hfi := HD.out.fz i
        obtain ⟨xi, hxi9⟩ : ∃ xi, xi = X[i] := ⟨_, rfl⟩
        rw [← hxi9] at hci
        clear hxi9
        cases hq : inK (k : Int) Y[j] with
        | true =>
          have HD2 := Lib.hid (HD.out.keep HN.out.symm hjn hq)
          rw [hq] at K2
          obtain ⟨y, hy⟩ : ∃ y, y = Y[j] := ⟨_, rfl⟩
          rw [← hy] at hc K2 HD2
          clear hq hy c2
          go_wp2_with fail
          refine (K2.out).mono ?_
          rintro e u1 ⟨rfl, rfl⟩
          go_wp2_with fail
          go_roundw
          case rel => exact ⟨i + 1, j + 1, _, by go_num, by go_num, HD2⟩
          case measure => simp [intOf]; omega
        | false =>
          have HD2 := Lib.hid (HD.out.drop HN.out.symm hjn hq)
          rw [hq] at K2
          obtain ⟨y, hy⟩ : ∃ y, y = Y[j] := ⟨_, rfl⟩
          rw [← hy] at hc K2
          clear hq hy c2
          go_wp2_with fail
          refine (K2.out).mono ?_
          rintro e u1 ⟨rfl, rfl⟩
          go_wp2_with fail
          go_roundw
          case rel => exact ⟨i, j + 1, X, rfl, by go_num, HD2⟩
          case measure => simp [intOf]; omega
      · have hjI : ¬ (j : Int) < (n : Int) := by omega
        obtain rfl : j = n := by omega
        obtain ⟨W3, hcl, hr3, hm3⟩ := clearI_at HD.out.row hlt
        have hf := ints_from g j cap i hlt hncap
        have hu := ints_upto (some ⟨g, 0, none⟩) j cap i (by omega)
        have HE := Lib.hid (And.intro hr3 (And.intro (HD.out.m.trans hm3) (HD.out.tk.trans (by rw [List.take_of_length_le (by have := HN.out; omega)]))))
        clear hr3 hm3
        go_wp2_with fail
        go_ret
        exact ⟨i, rfl, by rw [← HE.out.2.2]; exact HE.out.1, HE.out.2.1⟩
end Go.Proofs.Ytldnpppbnakcoaa
