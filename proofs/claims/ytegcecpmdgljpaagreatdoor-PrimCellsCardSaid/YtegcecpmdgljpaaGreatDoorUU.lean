/- Layer 13: one digit, all digits, the end of a number as text. Condition: cells are cells. -/
import Derived.Test.YtegcecpmdgljpaaGreatDoorUT
namespace Go.Proofs.YtegcecpmdgljpaaGreatDoor
open Go.RowKit
set_option linter.unusedVariables false

section
variable {W : World} {a : Ad} {T : List Nat} {R : List Int} {μ : Mu}
/-- A pair in a block of one's own is stored. -/
theorem pair_block (w : World) (x y : Int) : Own (w.alloc (.cells #[.int .i64 x, .int .i64 y] 44)) w.heap.size (.int .i64 x) (.int .i64 y) ∧ Mod [] w (w.alloc (.cells #[.int .i64 x, .int .i64 y] 44)) ∧ (w.alloc (.cells #[.int .i64 x, .int .i64 y] 44)).heap.size = w.heap.size + 1 := ⟨Own.last, far_alloc _ _, size_alloc _ _⟩
set_option maxRecDepth 100000 in
theorem convone_err {x y x1 y1 er : Int} {μ1 : Mu} (he : er ≠ 0) (H : ∀ W T, Stt W a T R μ → Calls Tryz.prog 215 #[Pt a.s, .agg #[.int .i64 x, .int .i64 y]] W (MethP a T W x1 y1 er R μ1)) (h : Stt W a T R μ) :
    Calls Tryz.prog 175 #[Pt a.s, .agg #[.int .i64 x, .int .i64 y]] W (Acted a T W ⟨[], er, R, μ1⟩) := by
  obtain ⟨q1, q2⟩ := q_ne he
  obtain ⟨o1, A1, s1⟩ := pair_block W x y
  obtain ⟨W1, hW1⟩ : ∃ V, V = W.alloc (.cells #[.int .i64 x, .int .i64 y] 44) := ⟨_, rfl⟩
  rw [← hW1] at o1 A1 s1
  have HC := Lib.hid (H W1 T (h.far A1))
  obtain ⟨g0, g1, _, _, _⟩ := o1
  have HA := Lib.hid A1
  clear h H A1 s1 he
  go_enter Tryz.func175, Tryz.ntmps175
  go_upto_region 1 with fail
  rw [← hW1]
  clear hW1
  go_wp2_with fail
  refine (HC.out).mono ?_
  rintro e' w2 ⟨rfl, tn, h2⟩
  have A2 := far_alloc w2 (.cells #[.int .i64 x1, .int .i64 y1] 44)
  have HH := Lib.hid (And.intro tn (And.intro h2 A2))
  clear tn h2 A2 g0 g1 HC
  go_wp2
  go_ret2
  exact ⟨none, 0, 0, T, rfl, rfl, Sl.nil _ _, ((Tn.far HA.out).trans HH.out.1).trans (Tn.far HH.out.2.2), HH.out.2.1.far HH.out.2.2⟩
set_option maxRecDepth 100000 in
theorem convone_ok {x y x1 y1 : Int} {μ1 : Mu} (H : ∀ W T, Stt W a T R μ → Calls Tryz.prog 215 #[Pt a.s, .agg #[.int .i64 x, .int .i64 y]] W (MethP a T W x1 y1 0 R μ1)) (h : Stt W a T R μ) :
    Calls Tryz.prog 175 #[Pt a.s, .agg #[.int .i64 x, .int .i64 y]] W (Acted a T W ⟨[x1, y1], 0, R, μ1⟩) := by
  obtain ⟨o1, A1, s1⟩ := pair_block W x y
  obtain ⟨W1, hW1⟩ : ∃ V, V = W.alloc (.cells #[.int .i64 x, .int .i64 y] 44) := ⟨_, rfl⟩
  rw [← hW1] at o1 A1 s1
  have HC := Lib.hid (H W1 T (h.far A1))
  obtain ⟨g0, g1, _, _, _⟩ := o1
  have HA := Lib.hid A1
  clear h H A1 s1
  go_enter Tryz.func175, Tryz.ntmps175
  go_upto_region 1 with fail
  rw [← hW1]
  clear hW1
  go_wp2_with fail
  refine (HC.out).mono ?_
  rintro e' w2 ⟨rfl, tn, h2⟩
  obtain ⟨o2, A2, s2⟩ := pair_block w2 x1 y1
  obtain ⟨W2, hW2⟩ : ∃ V, V = w2.alloc (.cells #[.int .i64 x1, .int .i64 y1] 44) := ⟨_, rfl⟩
  rw [← hW2] at o2 A2
  obtain ⟨k0, k1, _, _, _⟩ := o2
  have HH := Lib.hid (And.intro tn (And.intro h2 A2))
  clear tn h2 A2 g0 g1 HC s2
  go_upto_region 2 with fail
  rw [← hW2]
  clear hW2
  go_wp2_with fail
  refine (cells_calls _ _ _).mono ?_
  rintro e' w3 ⟨A, m, cap, rfl, hmx, hsl, hm3⟩
  go_wp2
  go_ret2
  exact ⟨_, _, _, T, rfl, rfl, hsl, (((Tn.far HA.out).trans HH.out.1).trans (Tn.far HH.out.2.2)).trans (Tn.far hm3), (HH.out.2.1.far HH.out.2.2).far hm3⟩
/-- Where all digits go. -/
def allE (B P : Nat) (K : List UInt8) : Int := if 200 < (text B P ++ K).length then -17 else 0
def allK (B P : Nat) (K : List UInt8) : List UInt8 := if 200 < (text B P ++ K).length then K else text B P ++ K
set_option maxRecDepth 100000 in
theorem convall_base {x y : Int} (hb : baseE μ ≠ 0) (h : Stt W a T R μ) :
    Calls Tryz.prog 177 #[Pt a.s, .agg #[.int .i64 x, .int .i64 y]] W (Acted a T W ⟨[], baseE μ, R, μ⟩) := by
  obtain ⟨q1, q2⟩ := q_ne hb
  obtain ⟨o1, A1, s1⟩ := pair_block W x y
  obtain ⟨W1, hW1⟩ : ∃ V, V = W.alloc (.cells #[.int .i64 x, .int .i64 y] 44) := ⟨_, rfl⟩
  rw [← hW1] at o1 A1 s1
  have h1 := h.far A1
  have c3 := h1.c3
  have HC := Lib.hid (holddigit_err (x := x) (y := y) hb h1)
  obtain ⟨er, he⟩ : ∃ e, e = baseE μ := ⟨_, rfl⟩
  rw [← he] at HC q1 q2 ⊢
  obtain ⟨g0, g1, _, _, _⟩ := o1
  have HA := Lib.hid A1
  clear h h1 A1 s1 hb he
  go_enter Tryz.func177, Tryz.ntmps177
  go_upto_region 1 with fail
  rw [← hW1]
  clear hW1
  go_wp2_with fail
  refine wp_loop_rounds 1 ?_
  rw [rounds_succ]
  go_wp2_with fail
  refine (HC.out).mono ?_
  rintro e' w2 ⟨rfl, tn, h2⟩
  obtain ⟨o2, A2, s2⟩ := pair_block w2 0 0
  obtain ⟨W2, hW2⟩ : ∃ V, V = w2.alloc (.cells #[.int .i64 0, .int .i64 0] 44) := ⟨_, rfl⟩
  rw [← hW2] at A2
  have h3 := h2.far A2
  have f3 := h3.f 3
  have k3 := h3.c3
  have h4 := h3.conv μ.K h3.lK
  have hm : Mod [a.s] W2 (W2.setCell ⟨a.s, 3, none⟩ (.string (str μ.K))) := (Mod.refl [a.s] W2).set (x := ⟨a.s, 3, none⟩) (by simp) _
  have HH := Lib.hid (And.intro tn (And.intro A2 (And.intro h4 (Tn.of_mod hm (T := T) (by simp; exact h3.ts.1)))))
  obtain ⟨K1, hK1⟩ : ∃ S, S = str μ.K := ⟨_, rfl⟩
  rw [← hK1] at HH k3 c3 ⊢
  clear tn h2 A2 h3 h4 hm g0 g1 HC o2 s2 hK1
  go_upto_region 3 with fail
  rw [← hW2]
  clear hW2
  go_wp2
  go_ret2
  exact ⟨none, 0, 0, T, rfl, rfl, Sl.nil _ _, (((Tn.far HA.out).trans HH.out.1).trans (Tn.far HH.out.2.1)).trans HH.out.2.2.2, HH.out.2.2.1⟩
/-- The pair in a block. -/
def pairN (w : World) (b : Nat) : Nat := match w.cell? ⟨b, 0, none⟩, w.cell? ⟨b, 1, none⟩ with
  | some (.int _ l), some (.int _ h) => (Go.Proofs.YtegcecpmdgljpaaGreatDoor.W l h).toNat
  | _, _ => 0
theorem pairN_of {w : World} {b : Nat} {N : Nat} (hN : N < two128) (o : Own w b (.int .i64 (lo (N : Int))) (.int .i64 (hi (N : Int)))) : pairN w b = N := by
  unfold pairN
  rw [o.c0, o.c1]
  show (Go.Proofs.YtegcecpmdgljpaaGreatDoor.W (lo (N : Int)) (hi (N : Int))).toNat = N
  rw [W_of N hN, Int.toNat_natCast]
def allR (B P : Nat) (R : List Int) (μ : Mu) : Res := if 200 < (text B P ++ μ.K).length then ⟨[], -17, R, μ⟩ else ⟨[0, 0], 0, R, { μ with K := text B P ++ μ.K }⟩
set_option maxHeartbeats 8000000 in
set_option maxRecDepth 100000 in
theorem convall_ok {x y : Int} (hx : I64 x) (hy : I64 y) (B P : Nat) (hP : Go.Proofs.YtegcecpmdgljpaaGreatDoor.W x y = (P : Int)) (hB : baseC μ = (B : Int)) (h2 : 2 ≤ B) (h36 : B ≤ 36) (h : Stt W a T R μ) :
    Calls Tryz.prog 177 #[Pt a.s, .agg #[.int .i64 x, .int .i64 y]] W (Acted a T W (allR B P R μ)) := by
  obtain ⟨ex, ey, hPl⟩ := W_at x y hx hy P hP
  obtain ⟨o1, A1, s1⟩ := pair_block W x y
  obtain ⟨W1, hW1⟩ : ∃ V, V = W.alloc (.cells #[.int .i64 x, .int .i64 y] 44) := ⟨_, rfl⟩
  rw [← hW1] at o1 A1 s1
  have h1 := h.far A1
  have c3 := h1.c3
  have hbT : W.heap.size ∉ T := fun hx => by have := h.tl _ hx; omega
  have hsz := h.good.big
  have hhi := h.hi
  rw [ex, ey] at o1
  have start : Tn T T W W1 ∧ Stt W1 a T R μ := ⟨Tn.far A1, h1⟩
  have HS := Lib.hid start
  have HB := Lib.hid (And.intro hB (And.intro h2 h36))
  have HP := Lib.hid hPl
  have HK := Lib.hid h.lK
  obtain ⟨S0, hS0⟩ : ∃ S, S = str μ.K := ⟨_, rfl⟩
  rw [← hS0] at c3
  have HS0 := Lib.hid hS0
  have HJ := Lib.hid (And.intro hbT (And.intro hsz hhi))
  clear h h1 A1 s1 hx hy hP hB h2 h36 ex ey hPl start hS0 hbT hsz hhi
  go_enter Tryz.func177, Tryz.ntmps177
  go_upto_region 1 with fail
  rw [← hW1]
  clear hW1
  go_wp2_with fail
  go_loopw [8] (fun _ wr => ∃ (N : Nat) (K1 : List UInt8), N < two128 ∧ RowKit.Hid (text B P ++ μ.K = text B N ++ K1) ∧ Own wr W.heap.size (.int .i64 (lo (N : Int))) (.int .i64 (hi (N : Int))) ∧ RowKit.Hid (Tn T T W wr ∧ Stt wr a T R { μ with K := K1 })) (fun _ wr => pairN wr W.heap.size)
  case atStart => exact ⟨P, μ.K, HP.out, Lib.hid rfl, o1, HS⟩
  case round =>
    obtain ⟨N, K1, hN, ht, o, hs⟩ := hrel
    clear o1 HS c3
    have g0 := o.c0
    have g1 := o.c1
    have HC := Lib.hid (holddigit_ok (lo_i64 _) (hi_i64 _) B N (W_of N hN) (show baseC { μ with K := K1 } = (B : Int) from HB.out.1) HB.out.2.1 HB.out.2.2 hs.out.2)
    obtain ⟨M, hM⟩ : ∃ m, m = N / B := ⟨_, rfl⟩
    obtain ⟨u, hu⟩ : ∃ m, m = letter (N % B) := ⟨_, rfl⟩
    rw [← hM, ← hu] at HC
    have hMl : M < two128 := by rw [hM]; exact Nat.lt_of_le_of_lt (Nat.div_le_self _ _) hN
    have hzp := zero_pair M hMl
    have hstep := text_step B N HB.out.2.1 hN
    rw [← hM, ← hu] at hstep
    obtain ⟨m0, hm0⟩ : ∃ m, m = lo (M : Int) := ⟨_, rfl⟩
    obtain ⟨m1, hm1⟩ : ∃ m, m = hi (M : Int) := ⟨_, rfl⟩
    rw [← hm0, ← hm1] at HC hzp
    have HM := Lib.hid (And.intro hm0 (And.intro hm1 (And.intro hM (And.intro hMl (And.intro hstep hN)))))
    have HO := Lib.hid o
    clear hm0 hm1 hM hMl hstep o
    by_cases hfull : 200 ≤ K1.length
    · have e1 : holdE { μ with K := K1 } = -17 := if_pos hfull
      have e2 : holdM { μ with K := K1 } u = { μ with K := K1 } := if_pos hfull
      rw [e1, e2] at HC
      have HF := Lib.hid hfull
      clear hfull e1 e2 hzp hN
      go_wp2_with fail
      refine (HC.out).mono ?_
      rintro e' w2 ⟨rfl, tn, h3⟩
      obtain ⟨o2, A2, s2⟩ := pair_block w2 m0 m1
      obtain ⟨W2, hW2⟩ : ∃ V, V = w2.alloc (.cells #[.int .i64 m0, .int .i64 m1] 44) := ⟨_, rfl⟩
      rw [← hW2] at A2
      have h4 := h3.far A2
      have f3 := h4.f 3
      have k3 := h4.c3
      have h5 := h4.conv μ.K HK.out
      have hm : Mod [a.s] W2 (W2.setCell ⟨a.s, 3, none⟩ (.string (str μ.K))) := (Mod.refl [a.s] W2).set (x := ⟨a.s, 3, none⟩) (by simp) _
      rw [← HS0.out] at h5 hm
      have HH := Lib.hid (And.intro tn (And.intro A2 (And.intro h5 (Tn.of_mod hm (T := T) (by simp; exact h4.ts.1)))))
      clear tn h3 A2 h4 h5 hm g0 g1 HC o2 s2
      go_upto_region 3 with fail
      rw [← hW2]
      clear hW2
      go_wp2
      go_ret2
      have e3 : allR B P R μ = ⟨[], -17, R, μ⟩ := by
        unfold allR
        rw [if_pos]
        rw [ht.out, List.length_append]
        have := (text_length B N HB.out.2.1 HM.out.2.2.2.2.2).1
        have := HF.out
        omega
      rw [e3]
      exact ⟨none, 0, 0, T, rfl, rfl, Sl.nil _ _, ((hs.out.1.trans HH.out.1).trans (Tn.far HH.out.2.1)).trans HH.out.2.2.2, HH.out.2.2.1⟩
    · have e1 : holdE { μ with K := K1 } = 0 := if_neg hfull
      have e2 : holdM { μ with K := K1 } u = { μ with K := u :: K1 } := if_neg hfull
      rw [e1, e2] at HC
      have HF := Lib.hid hfull
      have HN := Lib.hid hN
      clear hfull e1 e2 hN
      go_wp2_with fail
      refine (HC.out).mono ?_
      rintro e' w2 ⟨rfl, tn, h3⟩
      obtain ⟨o2, A2, s2⟩ := pair_block w2 m0 m1
      obtain ⟨W2, hW2⟩ : ∃ V, V = w2.alloc (.cells #[.int .i64 m0, .int .i64 m1] 44) := ⟨_, rfl⟩
      rw [← hW2] at o2 A2
      have hbw : W.heap.size ≠ w2.heap.size := by
        have h4 := HO.out.lt
        have := tn.m.size
        omega
      have o3 := (HO.out.mod tn.m HJ.out.1).mod A2 (by simp)
      obtain ⟨k0, k1, _, _, _⟩ := o2
      have HH := Lib.hid (And.intro tn (And.intro A2 (And.intro h3 hbw)))
      clear tn h3 A2 g0 g1 HC s2 hbw
      by_cases hz : M = 0
      · rw [decide_eq_true hz] at hzp
        have HZ := Lib.hid hz
        clear hz o3
        go_upto_region 3 with fail
        rw [← hW2]
        clear hW2
        go_wp2_with fail
        refine (cells_calls _ _ _).mono ?_
        rintro e' w3 ⟨A, m, cap, rfl, hmx, hsl, hm3⟩
        go_wp2
        go_ret2
        obtain ⟨hm0, hm1, hM, hMl, hstep, hN⟩ := HM.out
        have z0 : m0 = 0 := by rw [hm0, HZ.out]; decide +kernel
        have z1 : m1 = 0 := by rw [hm1, HZ.out]; decide +kernel
        rw [if_pos HZ.out] at hstep
        have ek : text B P ++ μ.K = u :: K1 := by rw [ht.out, hstep]; rfl
        have e3 : allR B P R μ = ⟨[0, 0], 0, R, { μ with K := u :: K1 }⟩ := by
          unfold allR
          rw [ek, if_neg]
          have := HF.out
          simp; omega
        rw [e3]
        rw [z0, z1] at hsl
        exact ⟨A, _, cap, T, rfl, rfl, hsl, ((hs.out.1.trans HH.out.1).trans (Tn.far HH.out.2.1)).trans (Tn.far hm3), (HH.out.2.2.1.far HH.out.2.1).far hm3⟩
      · rw [decide_eq_false hz] at hzp
        have HZ := Lib.hid hz
        clear hz
        have o4 := o3.set (.int .i64 m0) (.int .i64 m1)
        obtain ⟨t0, t1, t2, t3, _⟩ := o3
        go_upto_region 3 with fail
        rw [← hW2]
        clear hW2
        go_wp2_with fail
        go_roundw
        case rel =>
          obtain ⟨hm0, hm1, hM, hMl, hstep, hN⟩ := HM.out
          refine ⟨M, u :: K1, hMl, Lib.hid ?_, ?_, Lib.hid ⟨?_, ?_⟩⟩
          · rw [if_neg HZ.out] at hstep
            rw [ht.out, hstep, List.append_assoc]
            rfl
          · rw [← hm0, ← hm1]
            exact o4
          · have k := (hs.out.1.trans HH.out.1).trans (Tn.far HH.out.2.1)
            exact ⟨k.m.then (set2_mod _ _ _ _) (by simp), k.up, k.new⟩
          · exact (HH.out.2.2.1.far HH.out.2.1).other (set2_mod _ _ _ _) (by simpa using HJ.out.1) (by simp; right; exact HJ.out.2.2) (by simp; exact HJ.out.2.1)
        case measure =>
          obtain ⟨hm0, hm1, hM, hMl, hstep, hN⟩ := HM.out
          rw [pairN_of hN HO.out]
          rw [hm0, hm1] at o4
          rw [hm0, hm1]
          rw [pairN_of hMl o4, hM]
          have hN0 : 0 < N := by
            have := HZ.out
            rcases Nat.eq_zero_or_pos N with e | e
            · rw [hM, e] at this; simp at this
            · exact e
          exact Nat.div_lt_self hN0 (by have := HB.out.2.1; omega)
end
end Go.Proofs.YtegcecpmdgljpaaGreatDoor
