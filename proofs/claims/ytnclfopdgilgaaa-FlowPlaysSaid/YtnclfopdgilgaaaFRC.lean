/- Layer 11: the document's Do, part by part (1 to 8). Condition: at most 499 instructions and 32 parts. Layer 11: the document's Do, part by part (9 to 17). Condition: at most 499 instructions and 32 parts. Layer 11: the document's Do, whatever the part; the program's builder and the document's side by side. Condition: each block is a builder, with the same parts. -/
import Derived.Test.YtnclfopdgilgaaaFRB
namespace Go.Proofs.Ytnclfopdgilgaaa
open Go.RowKit
set_option linter.unusedVariables false
set_option linter.unusedSimpArgs false

variable {w : World} {p : Nat} {T : List Nat}
set_option maxHeartbeats 8000000 in
set_option maxRecDepth 100000 in
theorem ract_1 {B : Bd} (h : Rdd w p T B nilV []) (ok : OkR B) (ha : asksR 1 B.P = true) (hf : fullR 1 B = false) :
    Calls Try.prog 16 #[Pt p, .int .i64 1] w (DoP p T w (0, actR 1 B.L.length (layB ⟨4, 0, 0⟩ B))) := by
  have hlen : B.L.length ≤ 499 := ok.len
  have hdep : B.P.length ≤ 32 := ok.dep
  obtain ⟨f1, f2⟩ := full_no hf
  have k := asks_rh h (show B.P.length ≤ 1000 by omega) (n := 1) (by decide) (by decide)
  rw [show asksR 1 (B : Bd).P = true from ha] at k
  have K := Lib.hid k
  have KL := Lib.hid (lays_lit (w := w) (n := 1) (by decide) (by decide) 4 rfl)
  have KO := Lib.hid (opens_lit (w := w) (n := 1) (by decide) (by decide) true rfl)
  obtain ⟨A0, c0, A1, c1, k0, k1⟩ := h.rows
  obtain ⟨t, ht⟩ : ∃ t, t = B.L.length := ⟨_, rfl⟩
  obtain ⟨m, hm⟩ : ∃ m, m = B.P.length := ⟨_, rfl⟩
  rw [show (B : Bd).L.length = t from ht.symm] at k0
  rw [show (B : Bd).P.length = m from hm.symm] at k1
  have tI : (t : Int) ≤ 499 := by omega
  have e2 : ¬ (499 : Int) ≤ (t : Int) := by have : B.L.length < 499 := f1 (by decide); omega
  have e3 : ¬ (32 : Int) ≤ (m : Int) := by have : B.P.length < 32 := f2 (by decide); omega
  have KP := Lib.hid (put_rh h (f1 (by decide)) ⟨4, 0, 0⟩)
  have HH := Lib.hid (And.intro hlen (And.intro hdep (And.intro ht (And.intro hm trivial))))
  have HR1 := Lib.hid h
  clear h ok ha hf k f1 f2 hlen hdep ht hm
  go_enter Try.func16, Try.ntmps16
  go_wp2_with fail
  refine (K.out).mono ?_
  rintro e w1 ⟨rfl, rfl⟩
  go_wp2_with fail
  refine (KL.out).mono ?_
  rintro e w1 ⟨rfl, rfl⟩
  go_wp2_with fail
  refine (KO.out).mono ?_
  rintro e w1 ⟨rfl, rfl⟩
  go_wp2_with fail
  refine (KP.out).mono ?_
  rintro e w1 ⟨rfl, T1, r1, t1⟩
  clear HR1
  have HR1 := Lib.hid r1
  have HT1 := Lib.hid t1
  clear r1 t1 KP e2
  clear K KL KO k1 e3
  have K2 := Lib.hid (push_lit HR1.out (by have := (HH.out.2.1); simp [layB] at this ⊢; omega) 0 t 0 (t : Int) rfl (by first | rfl | (push_cast; rfl)))
  go_wp2_with fail
  clear k0
  refine (K2.out).mono ?_
  rintro e w2 ⟨⟨r2, rfl⟩, T2, r2, t2⟩
  have HR2 := Lib.hid r2
  have HT2 := Lib.hid (HT1.out.trans t2)
  clear r2 t2 K2 HT1 HR1
  go_wp2_with fail
  go_ret
  refine ⟨rfl, _, Rdd.as HR2.out.drop ?_, HT2.out⟩
  have ht := (HH.out.2.2.1)
  subst ht
  simp [actR, layB, topB, setA_len]
set_option maxHeartbeats 8000000 in
set_option maxRecDepth 100000 in
theorem ract_2 {L : List Xi} {C : List Pk} {q : Pk} (h : Rdd w p T ⟨L, C ++ [q]⟩ nilV []) (ok : OkR ⟨L, C ++ [q]⟩) (ha : asksR 2 (C ++ [q]) = true) (hq : q.k = 0) (hf : fullR 2 ⟨L, C ++ [q]⟩ = false) :
    Calls Try.prog 16 #[Pt p, .int .i64 2] w (DoP p T w (0, actR 2 L.length (layB ⟨3, 0, 0⟩ ⟨L, C ++ [q]⟩))) := by
  have hlen : L.length ≤ 499 := ok.len
  have hdep : (C ++ [q]).length ≤ 32 := ok.dep
  obtain ⟨f1, f2⟩ := full_no hf
  have k := asks_rh h (show (C ++ [q]).length ≤ 1000 by omega) (n := 2) (by decide) (by decide)
  rw [show asksR 2 (⟨L, C ++ [q]⟩ : Bd).P = true from ha] at k
  have K := Lib.hid k
  have KL := Lib.hid (lays_lit (w := w) (n := 2) (by decide) (by decide) 3 rfl)
  have KO := Lib.hid (opens_lit (w := w) (n := 2) (by decide) (by decide) false rfl)
  obtain ⟨A0, c0, A1, c1, k0, k1⟩ := h.rows
  obtain ⟨t, ht⟩ : ∃ t, t = L.length := ⟨_, rfl⟩
  obtain ⟨m, hm⟩ : ∃ m, m = (C ++ [q]).length := ⟨_, rfl⟩
  rw [show (⟨L, C ++ [q]⟩ : Bd).L.length = t from ht.symm] at k0
  rw [show (⟨L, C ++ [q]⟩ : Bd).P.length = m from hm.symm] at k1
  have tI : (t : Int) ≤ 499 := by omega
  have e2 : ¬ (499 : Int) ≤ (t : Int) := by have : L.length < 499 := f1 (by decide); omega
  have KP := Lib.hid (put_rh h (f1 (by decide)) ⟨3, 0, 0⟩)
  have okq := ok.part q (by simp)
  obtain ⟨gl, hgl⟩ : ∃ gl, gl = q.g.length := ⟨_, rfl⟩
  have HH := Lib.hid (And.intro hlen (And.intro hdep (And.intro ht (And.intro hm (And.intro okq (And.intro hgl (And.intro hq trivial)))))))
  have HR1 := Lib.hid h
  clear h ok ha hf k f1 f2 hlen hdep ht hm okq hgl hq
  go_enter Try.func16, Try.ntmps16
  go_wp2_with fail
  refine (K.out).mono ?_
  rintro e w1 ⟨rfl, rfl⟩
  go_wp2_with fail
  refine (KL.out).mono ?_
  rintro e w1 ⟨rfl, rfl⟩
  go_wp2_with fail
  refine (KO.out).mono ?_
  rintro e w1 ⟨rfl, rfl⟩
  go_wp2_with fail
  refine (KP.out).mono ?_
  rintro e w1 ⟨rfl, T1, r1, t1⟩
  clear HR1
  have HR1 := Lib.hid r1
  have HT1 := Lib.hid t1
  clear r1 t1 KP e2
  clear K KL KO k1
  have K2 := Lib.hid (pop_rh (L := L ++ [(⟨3, 0, 0⟩ : Xi)]) (C := C) (q := q) HR1.out (by have := (HH.out.2.1); simp at this ⊢; omega))
  rw [← (HH.out.2.2.2.2.2.1)] at K2
  go_wp2_with fail
  clear k0
  refine (K2.out).mono ?_
  rintro e w2 ⟨A2, c2, rfl, r2, t2⟩
  have HT2 := Lib.hid (HT1.out.trans t2)
  have HR2 := Lib.hid r2
  clear K2 HT1 HR1 r2 t2
  go_upto_region 17 with fail
  have HKq := Lib.hid (Kpt.new HR2.out.lt (q.k : Int) (q.s : Int) (.slice A2 gl c2))
  have mX : Mod [] w2 (w2.alloc (.cells #[.int .i64 (q.k : Int), .int .i64 (q.s : Int), .slice A2 gl c2] TRP)) := (Mod.refl [] _).alloc _
  replace HR2 := Lib.hid (HR2.out.far mX)
  replace HT2 := Lib.hid (HT2.out.far mX)
  clear mX
  obtain ⟨bq, hbq⟩ : ∃ b, b = w2.heap.size := ⟨_, rfl⟩
  rw [← hbq] at HKq ⊢
  clear hbq
  generalize w2.alloc (.cells #[.int .i64 (q.k : Int), .int .i64 (q.s : Int), .slice A2 gl c2] TRP) = x2 at *
  have kq1 := HKq.out.c1
  have hg := gr_one x2 q.s
  have mX : Mod [] x2 (x2.alloc (.cells #[.int .i64 (q.s : Int)] 3)) := (Mod.refl [] _).alloc _
  replace HR2 := Lib.hid (HR2.out.far mX)
  replace HT2 := Lib.hid (HT2.out.far mX)
  replace HKq := Lib.hid (HKq.out.far mX)
  have K3 := Lib.hid (closes_rh HR2.out (by have := (HH.out.1); simp [layB, setA_len, closeL_len] at this ⊢; omega) _ _ hg (fun i hi => by
    have e : i = q.s := by simpa using hi
    have := (HH.out.2.2.2.2.1).2.2.1 (by first | exact Or.inl (HH.out.2.2.2.2.2.2.1) | exact Or.inr (HH.out.2.2.2.2.2.2.1))
    simp [layB, setA_len, closeL_len] at this ⊢
    omega) (by simp))
  go_wp2_with fail
  refine (K3.out).mono ?_
  rintro e w3 ⟨⟨r3, rfl⟩, T3, r3, t3⟩
  replace HKq := Lib.hid (HKq.out.turn t3)
  have HR3 := Lib.hid r3
  have HT3 := Lib.hid (HT2.out.trans t3)
  clear r3 t3 K3 HT2 HR2
  clear hg mX
  clear kq1
  have K4 := Lib.hid (push_lit HR3.out (by have := (HH.out.2.1); simp [layB] at this ⊢; omega) 0 t 0 (t : Int) rfl (by first | rfl | (push_cast; rfl)))
  go_wp2_with fail
  refine (K4.out).mono ?_
  rintro e w4 ⟨⟨r4, rfl⟩, T4, r4, t4⟩
  replace HKq := Lib.hid (HKq.out.turn t4)
  have HR4 := Lib.hid r4
  have HT4 := Lib.hid (HT3.out.trans t4)
  clear r4 t4 K4 HT3 HR3
  go_wp2_with fail
  go_ret
  refine ⟨rfl, _, Rdd.as HR4.out.drop ?_, HT4.out⟩
  have ht := (HH.out.2.2.1)
  subst ht
  simp [actR, layB, topB, setA_len]
set_option maxHeartbeats 8000000 in
set_option maxRecDepth 100000 in
theorem ract_3 {L : List Xi} {C : List Pk} {q : Pk} (h : Rdd w p T ⟨L, C ++ [q]⟩ nilV []) (ok : OkR ⟨L, C ++ [q]⟩) (ha : asksR 3 (C ++ [q]) = true) (hq : q.k = 0) (hf : fullR 3 ⟨L, C ++ [q]⟩ = false) :
    Calls Try.prog 16 #[Pt p, .int .i64 3] w (DoP p T w (0, actR 3 L.length (⟨L, C ++ [q]⟩))) := by
  have hlen : L.length ≤ 499 := ok.len
  have hdep : (C ++ [q]).length ≤ 32 := ok.dep
  obtain ⟨f1, f2⟩ := full_no hf
  have k := asks_rh h (show (C ++ [q]).length ≤ 1000 by omega) (n := 3) (by decide) (by decide)
  rw [show asksR 3 (⟨L, C ++ [q]⟩ : Bd).P = true from ha] at k
  have K := Lib.hid k
  have KL := Lib.hid (lays_lit (w := w) (n := 3) (by decide) (by decide) 0 rfl)
  have KO := Lib.hid (opens_lit (w := w) (n := 3) (by decide) (by decide) false rfl)
  obtain ⟨A0, c0, A1, c1, k0, k1⟩ := h.rows
  obtain ⟨t, ht⟩ : ∃ t, t = L.length := ⟨_, rfl⟩
  obtain ⟨m, hm⟩ : ∃ m, m = (C ++ [q]).length := ⟨_, rfl⟩
  rw [show (⟨L, C ++ [q]⟩ : Bd).L.length = t from ht.symm] at k0
  rw [show (⟨L, C ++ [q]⟩ : Bd).P.length = m from hm.symm] at k1
  have tI : (t : Int) ≤ 499 := by omega
  have okq := ok.part q (by simp)
  obtain ⟨gl, hgl⟩ : ∃ gl, gl = q.g.length := ⟨_, rfl⟩
  have HH := Lib.hid (And.intro hlen (And.intro hdep (And.intro ht (And.intro hm (And.intro okq (And.intro hgl (And.intro hq trivial)))))))
  have HR1 := Lib.hid h
  clear h ok ha hf k f1 f2 hlen hdep ht hm okq hgl hq
  go_enter Try.func16, Try.ntmps16
  go_wp2_with fail
  refine (K.out).mono ?_
  rintro e w1 ⟨rfl, rfl⟩
  go_wp2_with fail
  refine (KL.out).mono ?_
  rintro e w1 ⟨rfl, rfl⟩
  go_wp2_with fail
  refine (KO.out).mono ?_
  rintro e w1 ⟨rfl, rfl⟩
  have HT1 := Lib.hid (Turn.refl T w)
  clear K KL KO
  have K2 := Lib.hid (pop_rh (L := L) (C := C) (q := q) HR1.out (by have := (HH.out.2.1); simp at this ⊢; omega))
  rw [← (HH.out.2.2.2.2.2.1)] at K2
  go_wp2_with fail
  clear k0 k1
  refine (K2.out).mono ?_
  rintro e w2 ⟨A2, c2, rfl, r2, t2⟩
  have HT2 := Lib.hid (HT1.out.trans t2)
  have HR2 := Lib.hid r2
  clear K2 HT1 HR1 r2 t2
  go_upto_region 21 with fail
  have HKq := Lib.hid (Kpt.new HR2.out.lt (q.k : Int) (q.s : Int) (.slice A2 gl c2))
  have mX : Mod [] w2 (w2.alloc (.cells #[.int .i64 (q.k : Int), .int .i64 (q.s : Int), .slice A2 gl c2] TRP)) := (Mod.refl [] _).alloc _
  replace HR2 := Lib.hid (HR2.out.far mX)
  replace HT2 := Lib.hid (HT2.out.far mX)
  clear mX
  obtain ⟨bq, hbq⟩ : ∃ b, b = w2.heap.size := ⟨_, rfl⟩
  rw [← hbq] at HKq ⊢
  clear hbq
  generalize w2.alloc (.cells #[.int .i64 (q.k : Int), .int .i64 (q.s : Int), .slice A2 gl c2] TRP) = x2 at *
  have kq1 := HKq.out.c1
  have hg := gr_one x2 q.s
  have mX : Mod [] x2 (x2.alloc (.cells #[.int .i64 (q.s : Int)] 3)) := (Mod.refl [] _).alloc _
  replace HR2 := Lib.hid (HR2.out.far mX)
  replace HT2 := Lib.hid (HT2.out.far mX)
  replace HKq := Lib.hid (HKq.out.far mX)
  have K3 := Lib.hid (closes_rh HR2.out (by have := (HH.out.1); simp [layB, setA_len, closeL_len] at this ⊢; omega) _ _ hg (fun i hi => by
    have e : i = q.s := by simpa using hi
    have := (HH.out.2.2.2.2.1).2.2.1 (by first | exact Or.inl (HH.out.2.2.2.2.2.2.1) | exact Or.inr (HH.out.2.2.2.2.2.2.1))
    simp [layB, setA_len, closeL_len] at this ⊢
    omega) (by simp))
  go_wp2_with fail
  refine (K3.out).mono ?_
  rintro e w3 ⟨⟨r3, rfl⟩, T3, r3, t3⟩
  replace HKq := Lib.hid (HKq.out.turn t3)
  have HR3 := Lib.hid r3
  have HT3 := Lib.hid (HT2.out.trans t3)
  clear r3 t3 K3 HT2 HR2
  clear hg mX
  clear kq1
  go_wp2_with fail
  go_ret
  refine ⟨rfl, _, Rdd.as HR3.out.drop ?_, HT3.out⟩
  have ht := (HH.out.2.2.1)
  subst ht
  simp [actR, layB, topB, setA_len]
set_option maxHeartbeats 8000000 in
set_option maxRecDepth 100000 in
theorem ract_4 {B : Bd} (h : Rdd w p T B nilV []) (ok : OkR B) (ha : asksR 4 B.P = true) (hf : fullR 4 B = false) :
    Calls Try.prog 16 #[Pt p, .int .i64 4] w (DoP p T w (0, actR 4 B.L.length B)) := by
  have hlen : B.L.length ≤ 499 := ok.len
  have hdep : B.P.length ≤ 32 := ok.dep
  obtain ⟨f1, f2⟩ := full_no hf
  have k := asks_rh h (show B.P.length ≤ 1000 by omega) (n := 4) (by decide) (by decide)
  rw [show asksR 4 (B : Bd).P = true from ha] at k
  have K := Lib.hid k
  have KL := Lib.hid (lays_lit (w := w) (n := 4) (by decide) (by decide) 0 rfl)
  have KO := Lib.hid (opens_lit (w := w) (n := 4) (by decide) (by decide) true rfl)
  obtain ⟨A0, c0, A1, c1, k0, k1⟩ := h.rows
  obtain ⟨t, ht⟩ : ∃ t, t = B.L.length := ⟨_, rfl⟩
  obtain ⟨m, hm⟩ : ∃ m, m = B.P.length := ⟨_, rfl⟩
  rw [show (B : Bd).L.length = t from ht.symm] at k0
  rw [show (B : Bd).P.length = m from hm.symm] at k1
  have tI : (t : Int) ≤ 499 := by omega
  have e3 : ¬ (32 : Int) ≤ (m : Int) := by have : B.P.length < 32 := f2 (by decide); omega
  have HH := Lib.hid (And.intro hlen (And.intro hdep (And.intro ht (And.intro hm trivial))))
  have HR1 := Lib.hid h
  clear h ok ha hf k f1 f2 hlen hdep ht hm
  go_enter Try.func16, Try.ntmps16
  go_wp2_with fail
  refine (K.out).mono ?_
  rintro e w1 ⟨rfl, rfl⟩
  go_wp2_with fail
  refine (KL.out).mono ?_
  rintro e w1 ⟨rfl, rfl⟩
  go_wp2_with fail
  refine (KO.out).mono ?_
  rintro e w1 ⟨rfl, rfl⟩
  have HT1 := Lib.hid (Turn.refl T w)
  clear K KL KO
  have K2 := Lib.hid (push_lit HR1.out (by have := (HH.out.2.1); simp [layB] at this ⊢; omega) 1 t 1 (t : Int) rfl (by first | rfl | (push_cast; rfl)))
  go_wp2_with fail
  clear k0 k1 e3
  refine (K2.out).mono ?_
  rintro e w2 ⟨⟨r2, rfl⟩, T2, r2, t2⟩
  have HR2 := Lib.hid r2
  have HT2 := Lib.hid (HT1.out.trans t2)
  clear r2 t2 K2 HT1 HR1
  go_wp2_with fail
  go_ret
  refine ⟨rfl, _, Rdd.as HR2.out.drop ?_, HT2.out⟩
  have ht := (HH.out.2.2.1)
  subst ht
  simp [actR, layB, topB, setA_len]
set_option maxHeartbeats 8000000 in
set_option maxRecDepth 100000 in
theorem ract_5 {L : List Xi} {C : List Pk} {q : Pk} (h : Rdd w p T ⟨L, C ++ [q]⟩ nilV []) (ok : OkR ⟨L, C ++ [q]⟩) (ha : asksR 5 (C ++ [q]) = true) (hq : q.k = 1) (hf : fullR 5 ⟨L, C ++ [q]⟩ = false) :
    Calls Try.prog 16 #[Pt p, .int .i64 5] w (DoP p T w (0, actR 5 L.length (layB ⟨4, 0, 0⟩ ⟨L, C ++ [q]⟩))) := by
  have hlen : L.length ≤ 499 := ok.len
  have hdep : (C ++ [q]).length ≤ 32 := ok.dep
  obtain ⟨f1, f2⟩ := full_no hf
  have k := asks_rh h (show (C ++ [q]).length ≤ 1000 by omega) (n := 5) (by decide) (by decide)
  rw [show asksR 5 (⟨L, C ++ [q]⟩ : Bd).P = true from ha] at k
  have K := Lib.hid k
  have KL := Lib.hid (lays_lit (w := w) (n := 5) (by decide) (by decide) 4 rfl)
  have KO := Lib.hid (opens_lit (w := w) (n := 5) (by decide) (by decide) true rfl)
  obtain ⟨A0, c0, A1, c1, k0, k1⟩ := h.rows
  obtain ⟨t, ht⟩ : ∃ t, t = L.length := ⟨_, rfl⟩
  obtain ⟨m, hm⟩ : ∃ m, m = (C ++ [q]).length := ⟨_, rfl⟩
  rw [show (⟨L, C ++ [q]⟩ : Bd).L.length = t from ht.symm] at k0
  rw [show (⟨L, C ++ [q]⟩ : Bd).P.length = m from hm.symm] at k1
  have tI : (t : Int) ≤ 499 := by omega
  have e2 : ¬ (499 : Int) ≤ (t : Int) := by have : L.length < 499 := f1 (by decide); omega
  have e3 : ¬ (32 : Int) ≤ (m : Int) := by have : (C ++ [q]).length < 32 := f2 (by decide); omega
  have KP := Lib.hid (put_rh h (f1 (by decide)) ⟨4, 0, 0⟩)
  have okq := ok.part q (by simp)
  obtain ⟨gl, hgl⟩ : ∃ gl, gl = q.g.length := ⟨_, rfl⟩
  have HH := Lib.hid (And.intro hlen (And.intro hdep (And.intro ht (And.intro hm (And.intro okq (And.intro hgl (And.intro hq trivial)))))))
  have HR1 := Lib.hid h
  clear h ok ha hf k f1 f2 hlen hdep ht hm okq hgl hq
  go_enter Try.func16, Try.ntmps16
  go_wp2_with fail
  refine (K.out).mono ?_
  rintro e w1 ⟨rfl, rfl⟩
  go_wp2_with fail
  refine (KL.out).mono ?_
  rintro e w1 ⟨rfl, rfl⟩
  go_wp2_with fail
  refine (KO.out).mono ?_
  rintro e w1 ⟨rfl, rfl⟩
  go_wp2_with fail
  refine (KP.out).mono ?_
  rintro e w1 ⟨rfl, T1, r1, t1⟩
  clear HR1
  have HR1 := Lib.hid r1
  have HT1 := Lib.hid t1
  clear r1 t1 KP e2
  clear K KL KO k1 e3
  have K2 := Lib.hid (pop_rh (L := L ++ [(⟨4, 0, 0⟩ : Xi)]) (C := C) (q := q) HR1.out (by have := (HH.out.2.1); simp at this ⊢; omega))
  rw [← (HH.out.2.2.2.2.2.1)] at K2
  go_wp2_with fail
  clear k0
  refine (K2.out).mono ?_
  rintro e w2 ⟨A2, c2, rfl, r2, t2⟩
  have HT2 := Lib.hid (HT1.out.trans t2)
  have HR2 := Lib.hid r2
  clear K2 HT1 HR1 r2 t2
  go_upto_region 26 with fail
  have HKq := Lib.hid (Kpt.new HR2.out.lt (q.k : Int) (q.s : Int) (.slice A2 gl c2))
  have mX : Mod [] w2 (w2.alloc (.cells #[.int .i64 (q.k : Int), .int .i64 (q.s : Int), .slice A2 gl c2] TRP)) := (Mod.refl [] _).alloc _
  replace HR2 := Lib.hid (HR2.out.far mX)
  replace HT2 := Lib.hid (HT2.out.far mX)
  clear mX
  obtain ⟨bq, hbq⟩ : ∃ b, b = w2.heap.size := ⟨_, rfl⟩
  rw [← hbq] at HKq ⊢
  clear hbq
  generalize w2.alloc (.cells #[.int .i64 (q.k : Int), .int .i64 (q.s : Int), .slice A2 gl c2] TRP) = x2 at *
  have K3 := Lib.hid (push_lit HR2.out (by have := (HH.out.2.1); simp [layB] at this ⊢; omega) 0 t 0 (t : Int) rfl (by first | rfl | (push_cast; rfl)))
  go_wp2_with fail
  refine (K3.out).mono ?_
  rintro e w3 ⟨⟨r3, rfl⟩, T3, r3, t3⟩
  replace HKq := Lib.hid (HKq.out.turn t3)
  have HR3 := Lib.hid r3
  have HT3 := Lib.hid (HT2.out.trans t3)
  clear r3 t3 K3 HT2 HR2
  have kq0 := HKq.out.c0
  have kq1 := HKq.out.c1
  have kq2 := HKq.out.c2
  have K4 := Lib.hid (back_rh HR3.out (by have := (HH.out.2.1); simp [layB] at this ⊢; omega) q rfl)
  go_wp2_with fail
  refine (K4.out).mono ?_
  rintro e w4 ⟨⟨r4, rfl⟩, T4, r4, t4⟩
  replace HKq := Lib.hid (HKq.out.turn t4)
  have HR4 := Lib.hid r4
  have HT4 := Lib.hid (HT3.out.trans t4)
  clear r4 t4 K4 HT3 HR3
  clear kq0 kq1 kq2
  go_wp2_with fail
  go_ret
  refine ⟨rfl, _, Rdd.as HR4.out.drop ?_, HT4.out⟩
  have ht := (HH.out.2.2.1)
  subst ht
  simp [actR, layB, topB, setA_len]
set_option maxHeartbeats 8000000 in
set_option maxRecDepth 100000 in
theorem ract_6 {L : List Xi} {C : List Pk} {r q : Pk} (h : Rdd w p T ⟨L, C ++ [r] ++ [q]⟩ nilV []) (ok : OkR ⟨L, C ++ [r] ++ [q]⟩) (ha : asksR 6 (C ++ [r] ++ [q]) = true) (hr : r.k = 0) (hq : q.k = 1) (hf : fullR 6 ⟨L, C ++ [r] ++ [q]⟩ = false) :
    Calls Try.prog 16 #[Pt p, .int .i64 6] w (DoP p T w (0, actR 6 L.length (layB ⟨3, 0, 0⟩ ⟨L, C ++ [r] ++ [q]⟩))) := by
  have hlen : L.length ≤ 499 := ok.len
  have hdep : (C ++ [r] ++ [q]).length ≤ 32 := ok.dep
  obtain ⟨f1, f2⟩ := full_no hf
  have k := asks_rh h (show (C ++ [r] ++ [q]).length ≤ 1000 by omega) (n := 6) (by decide) (by decide)
  rw [show asksR 6 (⟨L, C ++ [r] ++ [q]⟩ : Bd).P = true from ha] at k
  have K := Lib.hid k
  have KL := Lib.hid (lays_lit (w := w) (n := 6) (by decide) (by decide) 3 rfl)
  have KO := Lib.hid (opens_lit (w := w) (n := 6) (by decide) (by decide) false rfl)
  obtain ⟨A0, c0, A1, c1, k0, k1⟩ := h.rows
  obtain ⟨t, ht⟩ : ∃ t, t = L.length := ⟨_, rfl⟩
  obtain ⟨m, hm⟩ : ∃ m, m = (C ++ [r] ++ [q]).length := ⟨_, rfl⟩
  rw [show (⟨L, C ++ [r] ++ [q]⟩ : Bd).L.length = t from ht.symm] at k0
  rw [show (⟨L, C ++ [r] ++ [q]⟩ : Bd).P.length = m from hm.symm] at k1
  have tI : (t : Int) ≤ 499 := by omega
  have e2 : ¬ (499 : Int) ≤ (t : Int) := by have : L.length < 499 := f1 (by decide); omega
  have KP := Lib.hid (put_rh h (f1 (by decide)) ⟨3, 0, 0⟩)
  have okq := ok.part q (by simp)
  obtain ⟨gl, hgl⟩ : ∃ gl, gl = q.g.length := ⟨_, rfl⟩
  have okr := ok.part r (by simp)
  obtain ⟨hl, hhl⟩ : ∃ hl, hl = r.g.length := ⟨_, rfl⟩
  have HH := Lib.hid (And.intro hlen (And.intro hdep (And.intro ht (And.intro hm (And.intro okq (And.intro hgl (And.intro hq (And.intro okr (And.intro hhl (And.intro hr trivial))))))))))
  have HR1 := Lib.hid h
  clear h ok ha hf k f1 f2 hlen hdep ht hm okq hgl hq okr hhl hr
  go_enter Try.func16, Try.ntmps16
  go_wp2_with fail
  refine (K.out).mono ?_
  rintro e w1 ⟨rfl, rfl⟩
  go_wp2_with fail
  refine (KL.out).mono ?_
  rintro e w1 ⟨rfl, rfl⟩
  go_wp2_with fail
  refine (KO.out).mono ?_
  rintro e w1 ⟨rfl, rfl⟩
  go_wp2_with fail
  refine (KP.out).mono ?_
  rintro e w1 ⟨rfl, T1, r1, t1⟩
  clear HR1
  have HR1 := Lib.hid r1
  have HT1 := Lib.hid t1
  clear r1 t1 KP e2
  clear K KL KO k1
  have K2 := Lib.hid (pop_rh (L := L ++ [(⟨3, 0, 0⟩ : Xi)]) (C := C ++ [r]) (q := q) HR1.out (by have := (HH.out.2.1); simp at this ⊢; omega))
  rw [← (HH.out.2.2.2.2.2.1)] at K2
  go_wp2_with fail
  clear k0
  refine (K2.out).mono ?_
  rintro e w2 ⟨A2, c2, rfl, r2, t2⟩
  have HT2 := Lib.hid (HT1.out.trans t2)
  have HR2 := Lib.hid r2
  clear K2 HT1 HR1 r2 t2
  go_upto_region 30 with fail
  have HKq := Lib.hid (Kpt.new HR2.out.lt (q.k : Int) (q.s : Int) (.slice A2 gl c2))
  have mX : Mod [] w2 (w2.alloc (.cells #[.int .i64 (q.k : Int), .int .i64 (q.s : Int), .slice A2 gl c2] TRP)) := (Mod.refl [] _).alloc _
  replace HR2 := Lib.hid (HR2.out.far mX)
  replace HT2 := Lib.hid (HT2.out.far mX)
  clear mX
  obtain ⟨bq, hbq⟩ : ∃ b, b = w2.heap.size := ⟨_, rfl⟩
  rw [← hbq] at HKq ⊢
  clear hbq
  generalize w2.alloc (.cells #[.int .i64 (q.k : Int), .int .i64 (q.s : Int), .slice A2 gl c2] TRP) = x2 at *
  have K3 := Lib.hid (pop_rh (L := L ++ [(⟨3, 0, 0⟩ : Xi)]) (C := C) (q := r) HR2.out (by have := (HH.out.2.1); simp at this ⊢; omega))
  rw [← (HH.out.2.2.2.2.2.2.2.2.1)] at K3
  go_wp2_with fail
  refine (K3.out).mono ?_
  rintro e w3 ⟨A3, c3, rfl, r3, t3⟩
  replace HKq := Lib.hid (HKq.out.turn t3)
  have HT3 := Lib.hid (HT2.out.trans t3)
  have HR3 := Lib.hid r3
  clear K3 HT2 HR2 r3 t3
  go_upto_region 31 with fail
  have HKr := Lib.hid (Kpt.new HR3.out.lt (r.k : Int) (r.s : Int) (.slice A3 hl c3))
  have mX : Mod [] w3 (w3.alloc (.cells #[.int .i64 (r.k : Int), .int .i64 (r.s : Int), .slice A3 hl c3] TRP)) := (Mod.refl [] _).alloc _
  replace HR3 := Lib.hid (HR3.out.far mX)
  replace HT3 := Lib.hid (HT3.out.far mX)
  replace HKq := Lib.hid (HKq.out.far mX)
  clear mX
  obtain ⟨br, hbr⟩ : ∃ b, b = w3.heap.size := ⟨_, rfl⟩
  rw [← hbr] at HKr ⊢
  clear hbr
  generalize w3.alloc (.cells #[.int .i64 (r.k : Int), .int .i64 (r.s : Int), .slice A3 hl c3] TRP) = x3 at *
  have kq1 := HKq.out.c1
  obtain ⟨gc, cap, y, kl, ky, kf, KS⟩ := HR3.out.ins (i := t) (by have := (HH.out.2.2.1); simp [layB]; omega)
  obtain ⟨n, hn⟩ : ∃ n, n = (L ++ [(⟨3, 0, 0⟩ : Xi)]).length := ⟨_, rfl⟩
  rw [show _ = n from hn.symm] at kl
  have hnI : (t : Int) < (n : Int) := by have := (HH.out.2.2.1); simp at hn; omega
  have HS := Lib.hid (KS q.s)
  clear KS hn
  go_region
  clear kl ky kf hnI
  clear kq1
  have t9 := HS.out.2.1.far (Mod.refl [] _).drew
  replace HKq := Lib.hid (HKq.out.turn t9)
  replace HKr := Lib.hid (HKr.out.turn t9)
  replace HR3 := Lib.hid (HS.out.1.far (Mod.refl [] _).drew)
  replace HT3 := Lib.hid (HT3.out.trans t9)
  clear HS t9
  generalize (x3.setCell ⟨gc, t * 3 + 1, none⟩ (.int .i64 (q.s : Int))).drew = y3 at *
  have kr1 := HKr.out.c1
  have hg := gr_one y3 r.s
  have mX : Mod [] y3 (y3.alloc (.cells #[.int .i64 (r.s : Int)] 3)) := (Mod.refl [] _).alloc _
  replace HR3 := Lib.hid (HR3.out.far mX)
  replace HT3 := Lib.hid (HT3.out.far mX)
  replace HKq := Lib.hid (HKq.out.far mX)
  replace HKr := Lib.hid (HKr.out.far mX)
  have K4 := Lib.hid (closes_rh HR3.out (by have := (HH.out.1); simp [layB, setA_len, closeL_len] at this ⊢; omega) _ _ hg (fun i hi => by
    have e : i = r.s := by simpa using hi
    have := (HH.out.2.2.2.2.2.2.2.1).2.2.1 (by first | exact Or.inl (HH.out.2.2.2.2.2.2.2.2.2.1) | exact Or.inr (HH.out.2.2.2.2.2.2.2.2.2.1))
    simp [layB, setA_len, closeL_len] at this ⊢
    omega) (by simp))
  go_wp2_with fail
  refine (K4.out).mono ?_
  rintro e w4 ⟨⟨r4, rfl⟩, T4, r4, t4⟩
  replace HKq := Lib.hid (HKq.out.turn t4)
  replace HKr := Lib.hid (HKr.out.turn t4)
  have HR4 := Lib.hid r4
  have HT4 := Lib.hid (HT3.out.trans t4)
  clear r4 t4 K4 HT3 HR3
  clear hg mX
  clear kr1
  go_wp2_with fail
  go_ret
  refine ⟨rfl, _, Rdd.as HR4.out.drop ?_, HT4.out⟩
  have ht := (HH.out.2.2.1)
  subst ht
  simp [actR, layB, topB, setA_len]
set_option maxHeartbeats 8000000 in
set_option maxRecDepth 100000 in
theorem ract_7 {L : List Xi} {C : List Pk} {q : Pk} (h : Rdd w p T ⟨L, C ++ [q]⟩ nilV []) (ok : OkR ⟨L, C ++ [q]⟩) (ha : asksR 7 (C ++ [q]) = true) (hq : q.k = 1) (hf : fullR 7 ⟨L, C ++ [q]⟩ = false) :
    Calls Try.prog 16 #[Pt p, .int .i64 7] w (DoP p T w (0, actR 7 L.length (layB ⟨4, 0, 0⟩ ⟨L, C ++ [q]⟩))) := by
  have hlen : L.length ≤ 499 := ok.len
  have hdep : (C ++ [q]).length ≤ 32 := ok.dep
  obtain ⟨f1, f2⟩ := full_no hf
  have k := asks_rh h (show (C ++ [q]).length ≤ 1000 by omega) (n := 7) (by decide) (by decide)
  rw [show asksR 7 (⟨L, C ++ [q]⟩ : Bd).P = true from ha] at k
  have K := Lib.hid k
  have KL := Lib.hid (lays_lit (w := w) (n := 7) (by decide) (by decide) 4 rfl)
  have KO := Lib.hid (opens_lit (w := w) (n := 7) (by decide) (by decide) false rfl)
  obtain ⟨A0, c0, A1, c1, k0, k1⟩ := h.rows
  obtain ⟨t, ht⟩ : ∃ t, t = L.length := ⟨_, rfl⟩
  obtain ⟨m, hm⟩ : ∃ m, m = (C ++ [q]).length := ⟨_, rfl⟩
  rw [show (⟨L, C ++ [q]⟩ : Bd).L.length = t from ht.symm] at k0
  rw [show (⟨L, C ++ [q]⟩ : Bd).P.length = m from hm.symm] at k1
  have tI : (t : Int) ≤ 499 := by omega
  have e2 : ¬ (499 : Int) ≤ (t : Int) := by have : L.length < 499 := f1 (by decide); omega
  have KP := Lib.hid (put_rh h (f1 (by decide)) ⟨4, 0, 0⟩)
  have okq := ok.part q (by simp)
  obtain ⟨gl, hgl⟩ : ∃ gl, gl = q.g.length := ⟨_, rfl⟩
  have HH := Lib.hid (And.intro hlen (And.intro hdep (And.intro ht (And.intro hm (And.intro okq (And.intro hgl (And.intro hq trivial)))))))
  have HR1 := Lib.hid h
  clear h ok ha hf k f1 f2 hlen hdep ht hm okq hgl hq
  go_enter Try.func16, Try.ntmps16
  go_wp2_with fail
  refine (K.out).mono ?_
  rintro e w1 ⟨rfl, rfl⟩
  go_wp2_with fail
  refine (KL.out).mono ?_
  rintro e w1 ⟨rfl, rfl⟩
  go_wp2_with fail
  refine (KO.out).mono ?_
  rintro e w1 ⟨rfl, rfl⟩
  go_wp2_with fail
  refine (KP.out).mono ?_
  rintro e w1 ⟨rfl, T1, r1, t1⟩
  clear HR1
  have HR1 := Lib.hid r1
  have HT1 := Lib.hid t1
  clear r1 t1 KP e2
  clear K KL KO k1
  have K2 := Lib.hid (pop_rh (L := L ++ [(⟨4, 0, 0⟩ : Xi)]) (C := C) (q := q) HR1.out (by have := (HH.out.2.1); simp at this ⊢; omega))
  rw [← (HH.out.2.2.2.2.2.1)] at K2
  go_wp2_with fail
  clear k0
  refine (K2.out).mono ?_
  rintro e w2 ⟨A2, c2, rfl, r2, t2⟩
  have HT2 := Lib.hid (HT1.out.trans t2)
  have HR2 := Lib.hid r2
  clear K2 HT1 HR1 r2 t2
  go_upto_region 36 with fail
  have HKq := Lib.hid (Kpt.new HR2.out.lt (q.k : Int) (q.s : Int) (.slice A2 gl c2))
  have mX : Mod [] w2 (w2.alloc (.cells #[.int .i64 (q.k : Int), .int .i64 (q.s : Int), .slice A2 gl c2] TRP)) := (Mod.refl [] _).alloc _
  replace HR2 := Lib.hid (HR2.out.far mX)
  replace HT2 := Lib.hid (HT2.out.far mX)
  clear mX
  obtain ⟨bq, hbq⟩ : ∃ b, b = w2.heap.size := ⟨_, rfl⟩
  rw [← hbq] at HKq ⊢
  clear hbq
  generalize w2.alloc (.cells #[.int .i64 (q.k : Int), .int .i64 (q.s : Int), .slice A2 gl c2] TRP) = x2 at *
  have kq1 := HKq.out.c1
  obtain ⟨gc, cap, y, kl, ky, kf, KS⟩ := HR2.out.ins (i := t) (by have := (HH.out.2.2.1); simp [layB]; omega)
  obtain ⟨n, hn⟩ : ∃ n, n = (L ++ [(⟨4, 0, 0⟩ : Xi)]).length := ⟨_, rfl⟩
  rw [show _ = n from hn.symm] at kl
  have hnI : (t : Int) < (n : Int) := by have := (HH.out.2.2.1); simp at hn; omega
  have HS := Lib.hid (KS q.s)
  clear KS hn
  go_region
  clear kl ky kf hnI
  clear kq1
  have t9 := HS.out.2.1.far (Mod.refl [] _).drew
  replace HKq := Lib.hid (HKq.out.turn t9)
  replace HR2 := Lib.hid (HS.out.1.far (Mod.refl [] _).drew)
  replace HT2 := Lib.hid (HT2.out.trans t9)
  clear HS t9
  generalize (x2.setCell ⟨gc, t * 3 + 1, none⟩ (.int .i64 (q.s : Int))).drew = y2 at *
  go_wp2_with fail
  go_ret
  refine ⟨rfl, _, Rdd.as HR2.out.drop ?_, HT2.out⟩
  have ht := (HH.out.2.2.1)
  subst ht
  simp [actR, layB, topB, setA_len]
set_option maxHeartbeats 8000000 in
set_option maxRecDepth 100000 in
theorem ract_8 {L : List Xi} {C : List Pk} {q : Pk} (h : Rdd w p T ⟨L, C ++ [q]⟩ nilV []) (ok : OkR ⟨L, C ++ [q]⟩) (ha : asksR 8 (C ++ [q]) = true) (hq : q.k = 1) (hf : fullR 8 ⟨L, C ++ [q]⟩ = false) :
    Calls Try.prog 16 #[Pt p, .int .i64 8] w (DoP p T w (0, actR 8 L.length (layB ⟨3, 0, 0⟩ ⟨L, C ++ [q]⟩))) := by
  have hlen : L.length ≤ 499 := ok.len
  have hdep : (C ++ [q]).length ≤ 32 := ok.dep
  obtain ⟨f1, f2⟩ := full_no hf
  have k := asks_rh h (show (C ++ [q]).length ≤ 1000 by omega) (n := 8) (by decide) (by decide)
  rw [show asksR 8 (⟨L, C ++ [q]⟩ : Bd).P = true from ha] at k
  have K := Lib.hid k
  have KL := Lib.hid (lays_lit (w := w) (n := 8) (by decide) (by decide) 3 rfl)
  have KO := Lib.hid (opens_lit (w := w) (n := 8) (by decide) (by decide) false rfl)
  obtain ⟨A0, c0, A1, c1, k0, k1⟩ := h.rows
  obtain ⟨t, ht⟩ : ∃ t, t = L.length := ⟨_, rfl⟩
  obtain ⟨m, hm⟩ : ∃ m, m = (C ++ [q]).length := ⟨_, rfl⟩
  rw [show (⟨L, C ++ [q]⟩ : Bd).L.length = t from ht.symm] at k0
  rw [show (⟨L, C ++ [q]⟩ : Bd).P.length = m from hm.symm] at k1
  have tI : (t : Int) ≤ 499 := by omega
  have e2 : ¬ (499 : Int) ≤ (t : Int) := by have : L.length < 499 := f1 (by decide); omega
  have KP := Lib.hid (put_rh h (f1 (by decide)) ⟨3, 0, 0⟩)
  have okq := ok.part q (by simp)
  obtain ⟨gl, hgl⟩ : ∃ gl, gl = q.g.length := ⟨_, rfl⟩
  have HH := Lib.hid (And.intro hlen (And.intro hdep (And.intro ht (And.intro hm (And.intro okq (And.intro hgl (And.intro hq trivial)))))))
  have HR1 := Lib.hid h
  clear h ok ha hf k f1 f2 hlen hdep ht hm okq hgl hq
  go_enter Try.func16, Try.ntmps16
  go_wp2_with fail
  refine (K.out).mono ?_
  rintro e w1 ⟨rfl, rfl⟩
  go_wp2_with fail
  refine (KL.out).mono ?_
  rintro e w1 ⟨rfl, rfl⟩
  go_wp2_with fail
  refine (KO.out).mono ?_
  rintro e w1 ⟨rfl, rfl⟩
  go_wp2_with fail
  refine (KP.out).mono ?_
  rintro e w1 ⟨rfl, T1, r1, t1⟩
  clear HR1
  have HR1 := Lib.hid r1
  have HT1 := Lib.hid t1
  clear r1 t1 KP e2
  clear K KL KO k1
  have K2 := Lib.hid (pop_rh (L := L ++ [(⟨3, 0, 0⟩ : Xi)]) (C := C) (q := q) HR1.out (by have := (HH.out.2.1); simp at this ⊢; omega))
  rw [← (HH.out.2.2.2.2.2.1)] at K2
  go_wp2_with fail
  clear k0
  refine (K2.out).mono ?_
  rintro e w2 ⟨A2, c2, rfl, r2, t2⟩
  have HT2 := Lib.hid (HT1.out.trans t2)
  have HR2 := Lib.hid r2
  clear K2 HT1 HR1 r2 t2
  go_upto_region 36 with fail
  have HKq := Lib.hid (Kpt.new HR2.out.lt (q.k : Int) (q.s : Int) (.slice A2 gl c2))
  have mX : Mod [] w2 (w2.alloc (.cells #[.int .i64 (q.k : Int), .int .i64 (q.s : Int), .slice A2 gl c2] TRP)) := (Mod.refl [] _).alloc _
  replace HR2 := Lib.hid (HR2.out.far mX)
  replace HT2 := Lib.hid (HT2.out.far mX)
  clear mX
  obtain ⟨bq, hbq⟩ : ∃ b, b = w2.heap.size := ⟨_, rfl⟩
  rw [← hbq] at HKq ⊢
  clear hbq
  generalize w2.alloc (.cells #[.int .i64 (q.k : Int), .int .i64 (q.s : Int), .slice A2 gl c2] TRP) = x2 at *
  have kq1 := HKq.out.c1
  obtain ⟨gc, cap, y, kl, ky, kf, KS⟩ := HR2.out.ins (i := t) (by have := (HH.out.2.2.1); simp [layB]; omega)
  obtain ⟨n, hn⟩ : ∃ n, n = (L ++ [(⟨3, 0, 0⟩ : Xi)]).length := ⟨_, rfl⟩
  rw [show _ = n from hn.symm] at kl
  have hnI : (t : Int) < (n : Int) := by have := (HH.out.2.2.1); simp at hn; omega
  have HS := Lib.hid (KS q.s)
  clear KS hn
  go_region
  clear kl ky kf hnI
  clear kq1
  have t9 := HS.out.2.1.far (Mod.refl [] _).drew
  replace HKq := Lib.hid (HKq.out.turn t9)
  replace HR2 := Lib.hid (HS.out.1.far (Mod.refl [] _).drew)
  replace HT2 := Lib.hid (HT2.out.trans t9)
  clear HS t9
  generalize (x2.setCell ⟨gc, t * 3 + 1, none⟩ (.int .i64 (q.s : Int))).drew = y2 at *
  go_wp2_with fail
  go_ret
  refine ⟨rfl, _, Rdd.as HR2.out.drop ?_, HT2.out⟩
  have ht := (HH.out.2.2.1)
  subst ht
  simp [actR, layB, topB, setA_len]
end Go.Proofs.Ytnclfopdgilgaaa

namespace Go.Proofs.Ytnclfopdgilgaaa
open Go.RowKit
set_option linter.unusedVariables false
set_option linter.unusedSimpArgs false

variable {w : World} {p : Nat} {T : List Nat}
set_option maxHeartbeats 8000000 in
set_option maxRecDepth 100000 in
theorem ract_9 {B : Bd} (h : Rdd w p T B nilV []) (ok : OkR B) (ha : asksR 9 B.P = true) (hf : fullR 9 B = false) :
    Calls Try.prog 16 #[Pt p, .int .i64 9] w (DoP p T w (0, actR 9 B.L.length (layB ⟨5, 0, 0⟩ B))) := by
  have hlen : B.L.length ≤ 499 := ok.len
  have hdep : B.P.length ≤ 32 := ok.dep
  obtain ⟨f1, f2⟩ := full_no hf
  have k := asks_rh h (show B.P.length ≤ 1000 by omega) (n := 9) (by decide) (by decide)
  rw [show asksR 9 (B : Bd).P = true from ha] at k
  have K := Lib.hid k
  have KL := Lib.hid (lays_lit (w := w) (n := 9) (by decide) (by decide) 5 rfl)
  have KO := Lib.hid (opens_lit (w := w) (n := 9) (by decide) (by decide) true rfl)
  obtain ⟨A0, c0, A1, c1, k0, k1⟩ := h.rows
  obtain ⟨t, ht⟩ : ∃ t, t = B.L.length := ⟨_, rfl⟩
  obtain ⟨m, hm⟩ : ∃ m, m = B.P.length := ⟨_, rfl⟩
  rw [show (B : Bd).L.length = t from ht.symm] at k0
  rw [show (B : Bd).P.length = m from hm.symm] at k1
  have tI : (t : Int) ≤ 499 := by omega
  have e2 : ¬ (499 : Int) ≤ (t : Int) := by have : B.L.length < 499 := f1 (by decide); omega
  have e3 : ¬ (32 : Int) ≤ (m : Int) := by have : B.P.length < 32 := f2 (by decide); omega
  have KP := Lib.hid (put_rh h (f1 (by decide)) ⟨5, 0, 0⟩)
  have HH := Lib.hid (And.intro hlen (And.intro hdep (And.intro ht (And.intro hm trivial))))
  have HR1 := Lib.hid h
  clear h ok ha hf k f1 f2 hlen hdep ht hm
  go_enter Try.func16, Try.ntmps16
  go_wp2_with fail
  refine (K.out).mono ?_
  rintro e w1 ⟨rfl, rfl⟩
  go_wp2_with fail
  refine (KL.out).mono ?_
  rintro e w1 ⟨rfl, rfl⟩
  go_wp2_with fail
  refine (KO.out).mono ?_
  rintro e w1 ⟨rfl, rfl⟩
  go_wp2_with fail
  refine (KP.out).mono ?_
  rintro e w1 ⟨rfl, T1, r1, t1⟩
  clear HR1
  have HR1 := Lib.hid r1
  have HT1 := Lib.hid t1
  clear r1 t1 KP e2
  clear K KL KO k1 e3
  have K2 := Lib.hid (push_lit HR1.out (by have := (HH.out.2.1); simp [layB] at this ⊢; omega) 2 (t + 1) 2 ((t : Int) + 1) rfl (by first | rfl | (push_cast; rfl)))
  go_wp2_with fail
  clear k0
  refine (K2.out).mono ?_
  rintro e w2 ⟨⟨r2, rfl⟩, T2, r2, t2⟩
  have HR2 := Lib.hid r2
  have HT2 := Lib.hid (HT1.out.trans t2)
  clear r2 t2 K2 HT1 HR1
  go_wp2_with fail
  go_ret
  refine ⟨rfl, _, Rdd.as HR2.out.drop ?_, HT2.out⟩
  have ht := (HH.out.2.2.1)
  subst ht
  simp [actR, layB, topB, setA_len]
set_option maxHeartbeats 8000000 in
set_option maxRecDepth 100000 in
theorem ract_10 {B : Bd} (h : Rdd w p T B nilV []) (ok : OkR B) (ha : asksR 10 B.P = true) (hf : fullR 10 B = false) :
    Calls Try.prog 16 #[Pt p, .int .i64 10] w (DoP p T w (0, actR 10 B.L.length (layB ⟨6, 0, 0⟩ B))) := by
  have hlen : B.L.length ≤ 499 := ok.len
  have hdep : B.P.length ≤ 32 := ok.dep
  obtain ⟨f1, f2⟩ := full_no hf
  have k := asks_rh h (show B.P.length ≤ 1000 by omega) (n := 10) (by decide) (by decide)
  rw [show asksR 10 (B : Bd).P = true from ha] at k
  have K := Lib.hid k
  have KL := Lib.hid (lays_lit (w := w) (n := 10) (by decide) (by decide) 6 rfl)
  have KO := Lib.hid (opens_lit (w := w) (n := 10) (by decide) (by decide) true rfl)
  obtain ⟨A0, c0, A1, c1, k0, k1⟩ := h.rows
  obtain ⟨t, ht⟩ : ∃ t, t = B.L.length := ⟨_, rfl⟩
  obtain ⟨m, hm⟩ : ∃ m, m = B.P.length := ⟨_, rfl⟩
  rw [show (B : Bd).L.length = t from ht.symm] at k0
  rw [show (B : Bd).P.length = m from hm.symm] at k1
  have tI : (t : Int) ≤ 499 := by omega
  have e2 : ¬ (499 : Int) ≤ (t : Int) := by have : B.L.length < 499 := f1 (by decide); omega
  have e3 : ¬ (32 : Int) ≤ (m : Int) := by have : B.P.length < 32 := f2 (by decide); omega
  have KP := Lib.hid (put_rh h (f1 (by decide)) ⟨6, 0, 0⟩)
  have HH := Lib.hid (And.intro hlen (And.intro hdep (And.intro ht (And.intro hm trivial))))
  have HR1 := Lib.hid h
  clear h ok ha hf k f1 f2 hlen hdep ht hm
  go_enter Try.func16, Try.ntmps16
  go_wp2_with fail
  refine (K.out).mono ?_
  rintro e w1 ⟨rfl, rfl⟩
  go_wp2_with fail
  refine (KL.out).mono ?_
  rintro e w1 ⟨rfl, rfl⟩
  go_wp2_with fail
  refine (KO.out).mono ?_
  rintro e w1 ⟨rfl, rfl⟩
  go_wp2_with fail
  refine (KP.out).mono ?_
  rintro e w1 ⟨rfl, T1, r1, t1⟩
  clear HR1
  have HR1 := Lib.hid r1
  have HT1 := Lib.hid t1
  clear r1 t1 KP e2
  clear K KL KO k1 e3
  obtain ⟨T9, HR9, t9⟩ := HR1.out.hold ((Mod.refl [] _).alloc (.cells #[.int .i64 (t : Int)] 3)) (gr_one w1 t) (fun b hb => by
    have : w1.heap.size = b := by simpa [Value.ownBlock] using hb
    omega)
  replace HT1 := Lib.hid (HT1.out.trans t9)
  replace HR1 := Lib.hid HR9
  clear HR9 t9
  have K2 := Lib.hid (held_lit HR1.out (by have := (HH.out.2.1); simp [layB] at this ⊢; omega) 2 (t + 1) 2 ((t : Int) + 1) rfl (by push_cast; rfl))
  go_wp2_with fail
  clear k0
  refine (K2.out).mono ?_
  rintro e w2 ⟨⟨r2, rfl⟩, T2, r2, t2⟩
  have HR2 := Lib.hid r2
  have HT2 := Lib.hid (HT1.out.trans t2)
  clear r2 t2 K2 HT1 HR1
  go_wp2_with fail
  go_ret
  refine ⟨rfl, _, Rdd.as HR2.out.drop ?_, HT2.out⟩
  have ht := (HH.out.2.2.1)
  subst ht
  simp [actR, layB, topB, setA_len]
set_option maxHeartbeats 8000000 in
set_option maxRecDepth 100000 in
theorem ract_11 {L : List Xi} {C : List Pk} {q : Pk} (h : Rdd w p T ⟨L, C ++ [q]⟩ nilV []) (ok : OkR ⟨L, C ++ [q]⟩) (ha : asksR 11 (C ++ [q]) = true) (hq : q.k = 2) (hf : fullR 11 ⟨L, C ++ [q]⟩ = false) :
    Calls Try.prog 16 #[Pt p, .int .i64 11] w (DoP p T w (0, actR 11 L.length (layB ⟨7, 0, 0⟩ ⟨L, C ++ [q]⟩))) := by
  have hlen : L.length ≤ 499 := ok.len
  have hdep : (C ++ [q]).length ≤ 32 := ok.dep
  obtain ⟨f1, f2⟩ := full_no hf
  have k := asks_rh h (show (C ++ [q]).length ≤ 1000 by omega) (n := 11) (by decide) (by decide)
  rw [show asksR 11 (⟨L, C ++ [q]⟩ : Bd).P = true from ha] at k
  have K := Lib.hid k
  have KL := Lib.hid (lays_lit (w := w) (n := 11) (by decide) (by decide) 7 rfl)
  have KO := Lib.hid (opens_lit (w := w) (n := 11) (by decide) (by decide) false rfl)
  obtain ⟨A0, c0, A1, c1, k0, k1⟩ := h.rows
  obtain ⟨t, ht⟩ : ∃ t, t = L.length := ⟨_, rfl⟩
  obtain ⟨m, hm⟩ : ∃ m, m = (C ++ [q]).length := ⟨_, rfl⟩
  rw [show (⟨L, C ++ [q]⟩ : Bd).L.length = t from ht.symm] at k0
  rw [show (⟨L, C ++ [q]⟩ : Bd).P.length = m from hm.symm] at k1
  have tI : (t : Int) ≤ 499 := by omega
  have e2 : ¬ (499 : Int) ≤ (t : Int) := by have : L.length < 499 := f1 (by decide); omega
  have KP := Lib.hid (put_rh h (f1 (by decide)) ⟨7, 0, 0⟩)
  have okq := ok.part q (by simp)
  obtain ⟨gl, hgl⟩ : ∃ gl, gl = q.g.length := ⟨_, rfl⟩
  have HH := Lib.hid (And.intro hlen (And.intro hdep (And.intro ht (And.intro hm (And.intro okq (And.intro hgl (And.intro hq trivial)))))))
  have HR1 := Lib.hid h
  clear h ok ha hf k f1 f2 hlen hdep ht hm okq hgl hq
  go_enter Try.func16, Try.ntmps16
  go_wp2_with fail
  refine (K.out).mono ?_
  rintro e w1 ⟨rfl, rfl⟩
  go_wp2_with fail
  refine (KL.out).mono ?_
  rintro e w1 ⟨rfl, rfl⟩
  go_wp2_with fail
  refine (KO.out).mono ?_
  rintro e w1 ⟨rfl, rfl⟩
  go_wp2_with fail
  refine (KP.out).mono ?_
  rintro e w1 ⟨rfl, T1, r1, t1⟩
  clear HR1
  have HR1 := Lib.hid r1
  have HT1 := Lib.hid t1
  clear r1 t1 KP e2
  clear K KL KO k1
  have K2 := Lib.hid (pop_rh (L := L ++ [(⟨7, 0, 0⟩ : Xi)]) (C := C) (q := q) HR1.out (by have := (HH.out.2.1); simp at this ⊢; omega))
  rw [← (HH.out.2.2.2.2.2.1)] at K2
  go_wp2_with fail
  clear k0
  refine (K2.out).mono ?_
  rintro e w2 ⟨A2, c2, rfl, r2, t2⟩
  have HT2 := Lib.hid (HT1.out.trans t2)
  have HR2 := Lib.hid r2
  clear K2 HT1 HR1 r2 t2
  go_upto_region 44 with fail
  have HKq := Lib.hid (Kpt.new HR2.out.lt (q.k : Int) (q.s : Int) (.slice A2 gl c2))
  have mX : Mod [] w2 (w2.alloc (.cells #[.int .i64 (q.k : Int), .int .i64 (q.s : Int), .slice A2 gl c2] TRP)) := (Mod.refl [] _).alloc _
  replace HR2 := Lib.hid (HR2.out.far mX)
  replace HT2 := Lib.hid (HT2.out.far mX)
  clear mX
  obtain ⟨bq, hbq⟩ : ∃ b, b = w2.heap.size := ⟨_, rfl⟩
  rw [← hbq] at HKq ⊢
  clear hbq
  generalize w2.alloc (.cells #[.int .i64 (q.k : Int), .int .i64 (q.s : Int), .slice A2 gl c2] TRP) = x2 at *
  have kq1 := HKq.out.c1
  obtain ⟨gc, cap, y, kl, ky, kf, KS⟩ := HR2.out.ins (i := t) (by have := (HH.out.2.2.1); simp [layB]; omega)
  obtain ⟨n, hn⟩ : ∃ n, n = (L ++ [(⟨7, 0, 0⟩ : Xi)]).length := ⟨_, rfl⟩
  rw [show _ = n from hn.symm] at kl
  have hnI : (t : Int) < (n : Int) := by have := (HH.out.2.2.1); simp at hn; omega
  have HS := Lib.hid (KS q.s)
  clear KS hn
  go_region
  clear kl ky kf hnI
  clear kq1
  have t9 := HS.out.2.1.far (Mod.refl [] _).drew
  replace HKq := Lib.hid (HKq.out.turn t9)
  replace HR2 := Lib.hid (HS.out.1.far (Mod.refl [] _).drew)
  replace HT2 := Lib.hid (HT2.out.trans t9)
  clear HS t9
  generalize (x2.setCell ⟨gc, t * 3 + 1, none⟩ (.int .i64 (q.s : Int))).drew = y2 at *
  have kq2 := HKq.out.c2
  have K3 := Lib.hid (closes_rh HR2.out (by have := (HH.out.1); simp [layB, setA_len, closeL_len] at this ⊢; omega) _ _ HR2.out.gr (fun i hi => by have := (HH.out.2.2.2.2.1).2.1 i hi; simp [layB, setA_len, closeL_len] at this ⊢; omega) (by have := (HH.out.2.2.2.2.1).1; have := (HH.out.1); simp at *; omega))
  go_wp2_with fail
  refine (K3.out).mono ?_
  rintro e w3 ⟨⟨r3, rfl⟩, T3, r3, t3⟩
  replace HKq := Lib.hid (HKq.out.turn t3)
  have HR3 := Lib.hid r3
  have HT3 := Lib.hid (HT2.out.trans t3)
  clear r3 t3 K3 HT2 HR2
  clear kq2
  go_wp2_with fail
  go_ret
  refine ⟨rfl, _, Rdd.as HR3.out.drop ?_, HT3.out⟩
  have ht := (HH.out.2.2.1)
  subst ht
  simp [actR, layB, topB, setA_len]
set_option maxHeartbeats 8000000 in
set_option maxRecDepth 100000 in
theorem ract_12 {L : List Xi} {C : List Pk} {q : Pk} (h : Rdd w p T ⟨L, C ++ [q]⟩ nilV []) (ok : OkR ⟨L, C ++ [q]⟩) (ha : asksR 12 (C ++ [q]) = true) (hq : q.k = 2) (hf : fullR 12 ⟨L, C ++ [q]⟩ = false) :
    Calls Try.prog 16 #[Pt p, .int .i64 12] w (DoP p T w (0, actR 12 L.length (layB ⟨8, 0, 0⟩ ⟨L, C ++ [q]⟩))) := by
  have hlen : L.length ≤ 499 := ok.len
  have hdep : (C ++ [q]).length ≤ 32 := ok.dep
  obtain ⟨f1, f2⟩ := full_no hf
  have k := asks_rh h (show (C ++ [q]).length ≤ 1000 by omega) (n := 12) (by decide) (by decide)
  rw [show asksR 12 (⟨L, C ++ [q]⟩ : Bd).P = true from ha] at k
  have K := Lib.hid k
  have KL := Lib.hid (lays_lit (w := w) (n := 12) (by decide) (by decide) 8 rfl)
  have KO := Lib.hid (opens_lit (w := w) (n := 12) (by decide) (by decide) false rfl)
  obtain ⟨A0, c0, A1, c1, k0, k1⟩ := h.rows
  obtain ⟨t, ht⟩ : ∃ t, t = L.length := ⟨_, rfl⟩
  obtain ⟨m, hm⟩ : ∃ m, m = (C ++ [q]).length := ⟨_, rfl⟩
  rw [show (⟨L, C ++ [q]⟩ : Bd).L.length = t from ht.symm] at k0
  rw [show (⟨L, C ++ [q]⟩ : Bd).P.length = m from hm.symm] at k1
  have tI : (t : Int) ≤ 499 := by omega
  have e2 : ¬ (499 : Int) ≤ (t : Int) := by have : L.length < 499 := f1 (by decide); omega
  have KP := Lib.hid (put_rh h (f1 (by decide)) ⟨8, 0, 0⟩)
  have okq := ok.part q (by simp)
  obtain ⟨gl, hgl⟩ : ∃ gl, gl = q.g.length := ⟨_, rfl⟩
  have HH := Lib.hid (And.intro hlen (And.intro hdep (And.intro ht (And.intro hm (And.intro okq (And.intro hgl (And.intro hq trivial)))))))
  have HR1 := Lib.hid h
  clear h ok ha hf k f1 f2 hlen hdep ht hm okq hgl hq
  go_enter Try.func16, Try.ntmps16
  go_wp2_with fail
  refine (K.out).mono ?_
  rintro e w1 ⟨rfl, rfl⟩
  go_wp2_with fail
  refine (KL.out).mono ?_
  rintro e w1 ⟨rfl, rfl⟩
  go_wp2_with fail
  refine (KO.out).mono ?_
  rintro e w1 ⟨rfl, rfl⟩
  go_wp2_with fail
  refine (KP.out).mono ?_
  rintro e w1 ⟨rfl, T1, r1, t1⟩
  clear HR1
  have HR1 := Lib.hid r1
  have HT1 := Lib.hid t1
  clear r1 t1 KP e2
  clear K KL KO k1
  have K2 := Lib.hid (pop_rh (L := L ++ [(⟨8, 0, 0⟩ : Xi)]) (C := C) (q := q) HR1.out (by have := (HH.out.2.1); simp at this ⊢; omega))
  rw [← (HH.out.2.2.2.2.2.1)] at K2
  go_wp2_with fail
  clear k0
  refine (K2.out).mono ?_
  rintro e w2 ⟨A2, c2, rfl, r2, t2⟩
  have HT2 := Lib.hid (HT1.out.trans t2)
  have HR2 := Lib.hid r2
  clear K2 HT1 HR1 r2 t2
  go_upto_region 44 with fail
  have HKq := Lib.hid (Kpt.new HR2.out.lt (q.k : Int) (q.s : Int) (.slice A2 gl c2))
  have mX : Mod [] w2 (w2.alloc (.cells #[.int .i64 (q.k : Int), .int .i64 (q.s : Int), .slice A2 gl c2] TRP)) := (Mod.refl [] _).alloc _
  replace HR2 := Lib.hid (HR2.out.far mX)
  replace HT2 := Lib.hid (HT2.out.far mX)
  clear mX
  obtain ⟨bq, hbq⟩ : ∃ b, b = w2.heap.size := ⟨_, rfl⟩
  rw [← hbq] at HKq ⊢
  clear hbq
  generalize w2.alloc (.cells #[.int .i64 (q.k : Int), .int .i64 (q.s : Int), .slice A2 gl c2] TRP) = x2 at *
  have kq1 := HKq.out.c1
  obtain ⟨gc, cap, y, kl, ky, kf, KS⟩ := HR2.out.ins (i := t) (by have := (HH.out.2.2.1); simp [layB]; omega)
  obtain ⟨n, hn⟩ : ∃ n, n = (L ++ [(⟨8, 0, 0⟩ : Xi)]).length := ⟨_, rfl⟩
  rw [show _ = n from hn.symm] at kl
  have hnI : (t : Int) < (n : Int) := by have := (HH.out.2.2.1); simp at hn; omega
  have HS := Lib.hid (KS q.s)
  clear KS hn
  go_region
  clear kl ky kf hnI
  clear kq1
  have t9 := HS.out.2.1.far (Mod.refl [] _).drew
  replace HKq := Lib.hid (HKq.out.turn t9)
  replace HR2 := Lib.hid (HS.out.1.far (Mod.refl [] _).drew)
  replace HT2 := Lib.hid (HT2.out.trans t9)
  clear HS t9
  generalize (x2.setCell ⟨gc, t * 3 + 1, none⟩ (.int .i64 (q.s : Int))).drew = y2 at *
  have kq2 := HKq.out.c2
  have K3 := Lib.hid (closes_rh HR2.out (by have := (HH.out.1); simp [layB, setA_len, closeL_len] at this ⊢; omega) _ _ HR2.out.gr (fun i hi => by have := (HH.out.2.2.2.2.1).2.1 i hi; simp [layB, setA_len, closeL_len] at this ⊢; omega) (by have := (HH.out.2.2.2.2.1).1; have := (HH.out.1); simp at *; omega))
  go_wp2_with fail
  refine (K3.out).mono ?_
  rintro e w3 ⟨⟨r3, rfl⟩, T3, r3, t3⟩
  replace HKq := Lib.hid (HKq.out.turn t3)
  have HR3 := Lib.hid r3
  have HT3 := Lib.hid (HT2.out.trans t3)
  clear r3 t3 K3 HT2 HR2
  clear kq2
  go_wp2_with fail
  go_ret
  refine ⟨rfl, _, Rdd.as HR3.out.drop ?_, HT3.out⟩
  have ht := (HH.out.2.2.1)
  subst ht
  simp [actR, layB, topB, setA_len]
set_option maxHeartbeats 8000000 in
set_option maxRecDepth 100000 in
theorem ract_13 {L : List Xi} {C D : List Pk} {q : Pk} (h : Rdd w p T ⟨L, C ++ q :: D⟩ nilV []) (ok : OkR ⟨L, C ++ q :: D⟩) (ha : asksR 13 (C ++ q :: D) = true) (hq : q.k = 2) (hD : ∀ d ∈ D, d.k ≠ 2) (hf : fullR 13 ⟨L, C ++ q :: D⟩ = false) :
    Calls Try.prog 16 #[Pt p, .int .i64 13] w (DoP p T w (0, actR 13 L.length (layB ⟨9, 0, 0⟩ ⟨L, C ++ q :: D⟩))) := by
  have hlen : L.length ≤ 499 := ok.len
  have hdep : (C ++ q :: D).length ≤ 32 := ok.dep
  obtain ⟨f1, f2⟩ := full_no hf
  have k := asks_rh h (show (C ++ q :: D).length ≤ 1000 by omega) (n := 13) (by decide) (by decide)
  rw [show asksR 13 (⟨L, C ++ q :: D⟩ : Bd).P = true from ha] at k
  have K := Lib.hid k
  have KL := Lib.hid (lays_lit (w := w) (n := 13) (by decide) (by decide) 9 rfl)
  have KO := Lib.hid (opens_lit (w := w) (n := 13) (by decide) (by decide) false rfl)
  obtain ⟨A0, c0, A1, c1, k0, k1⟩ := h.rows
  obtain ⟨t, ht⟩ : ∃ t, t = L.length := ⟨_, rfl⟩
  obtain ⟨m, hm⟩ : ∃ m, m = (C ++ q :: D).length := ⟨_, rfl⟩
  rw [show (⟨L, C ++ q :: D⟩ : Bd).L.length = t from ht.symm] at k0
  rw [show (⟨L, C ++ q :: D⟩ : Bd).P.length = m from hm.symm] at k1
  have tI : (t : Int) ≤ 499 := by omega
  have e2 : ¬ (499 : Int) ≤ (t : Int) := by have : L.length < 499 := f1 (by decide); omega
  have KP := Lib.hid (put_rh h (f1 (by decide)) ⟨9, 0, 0⟩)
  have okq := ok.part q (by simp)
  obtain ⟨gl, hgl⟩ : ∃ gl, gl = q.g.length := ⟨_, rfl⟩
  have HH := Lib.hid (And.intro hlen (And.intro hdep (And.intro ht (And.intro hm (And.intro okq (And.intro hgl (And.intro hq (And.intro hD trivial))))))))
  have HR1 := Lib.hid h
  clear h ok ha hf k f1 f2 hlen hdep ht hm okq hgl hq hD
  go_enter Try.func16, Try.ntmps16
  go_wp2_with fail
  refine (K.out).mono ?_
  rintro e w1 ⟨rfl, rfl⟩
  go_wp2_with fail
  refine (KL.out).mono ?_
  rintro e w1 ⟨rfl, rfl⟩
  go_wp2_with fail
  refine (KO.out).mono ?_
  rintro e w1 ⟨rfl, rfl⟩
  go_wp2_with fail
  refine (KP.out).mono ?_
  rintro e w1 ⟨rfl, T1, r1, t1⟩
  clear HR1
  have HR1 := Lib.hid r1
  have HT1 := Lib.hid t1
  clear r1 t1 KP e2
  clear K KL KO k1
  have K2 := Lib.hid (leave_rh (L := L ++ [⟨9, 0, 0⟩]) HR1.out (by have := (HH.out.2.1); simp at this ⊢; omega) (HH.out.2.2.2.2.2.2.1) (HH.out.2.2.2.2.2.2.2.1) (by have := (HH.out.2.2.2.2.1).1; have := (HH.out.1); simp at *; omega) t)
  go_wp2_with fail
  clear k0
  refine (K2.out).mono ?_
  rintro e w2 ⟨⟨r2, rfl⟩, T2, r2, t2⟩
  have HR2 := Lib.hid r2
  have HT2 := Lib.hid (HT1.out.trans t2)
  clear r2 t2 K2 HT1 HR1
  go_wp2_with fail
  go_ret
  refine ⟨rfl, _, Rdd.as HR2.out.drop ?_, HT2.out⟩
  have ht := (HH.out.2.2.1)
  subst ht
  exact act_leave (HH.out.2.2.2.2.2.2.1) (HH.out.2.2.2.2.2.2.2.1)
set_option maxHeartbeats 8000000 in
set_option maxRecDepth 100000 in
theorem ract_14 {B : Bd} (h : Rdd w p T B nilV []) (ok : OkR B) (ha : asksR 14 B.P = true) (hf : fullR 14 B = false) :
    Calls Try.prog 16 #[Pt p, .int .i64 14] w (DoP p T w (0, actR 14 B.L.length B)) := by
  have hlen : B.L.length ≤ 499 := ok.len
  have hdep : B.P.length ≤ 32 := ok.dep
  obtain ⟨f1, f2⟩ := full_no hf
  have k := asks_rh h (show B.P.length ≤ 1000 by omega) (n := 14) (by decide) (by decide)
  rw [show asksR 14 (B : Bd).P = true from ha] at k
  have K := Lib.hid k
  have KL := Lib.hid (lays_lit (w := w) (n := 14) (by decide) (by decide) 0 rfl)
  have KO := Lib.hid (opens_lit (w := w) (n := 14) (by decide) (by decide) true rfl)
  obtain ⟨A0, c0, A1, c1, k0, k1⟩ := h.rows
  obtain ⟨t, ht⟩ : ∃ t, t = B.L.length := ⟨_, rfl⟩
  obtain ⟨m, hm⟩ : ∃ m, m = B.P.length := ⟨_, rfl⟩
  rw [show (B : Bd).L.length = t from ht.symm] at k0
  rw [show (B : Bd).P.length = m from hm.symm] at k1
  have tI : (t : Int) ≤ 499 := by omega
  have e3 : ¬ (32 : Int) ≤ (m : Int) := by have : B.P.length < 32 := f2 (by decide); omega
  have HH := Lib.hid (And.intro hlen (And.intro hdep (And.intro ht (And.intro hm trivial))))
  have HR1 := Lib.hid h
  clear h ok ha hf k f1 f2 hlen hdep ht hm
  go_enter Try.func16, Try.ntmps16
  go_wp2_with fail
  refine (K.out).mono ?_
  rintro e w1 ⟨rfl, rfl⟩
  go_wp2_with fail
  refine (KL.out).mono ?_
  rintro e w1 ⟨rfl, rfl⟩
  go_wp2_with fail
  refine (KO.out).mono ?_
  rintro e w1 ⟨rfl, rfl⟩
  have HT1 := Lib.hid (Turn.refl T w)
  clear K KL KO
  have K2 := Lib.hid (push_lit HR1.out (by have := (HH.out.2.1); simp [layB] at this ⊢; omega) 3 0 3 0 rfl (by first | rfl | (push_cast; rfl)))
  go_wp2_with fail
  clear k0 k1 e3
  refine (K2.out).mono ?_
  rintro e w2 ⟨⟨r2, rfl⟩, T2, r2, t2⟩
  have HR2 := Lib.hid r2
  have HT2 := Lib.hid (HT1.out.trans t2)
  clear r2 t2 K2 HT1 HR1
  go_wp2_with fail
  go_ret
  refine ⟨rfl, _, Rdd.as HR2.out.drop ?_, HT2.out⟩
  have ht := (HH.out.2.2.1)
  subst ht
  simp [actR, layB, topB, setA_len]
set_option maxHeartbeats 8000000 in
set_option maxRecDepth 100000 in
theorem ract_15 {B : Bd} (h : Rdd w p T B nilV []) (ok : OkR B) (ha : asksR 15 B.P = true) (hf : fullR 15 B = false) :
    Calls Try.prog 16 #[Pt p, .int .i64 15] w (DoP p T w (0, actR 15 B.L.length (layB ⟨10, 0, 0⟩ B))) := by
  have hlen : B.L.length ≤ 499 := ok.len
  have hdep : B.P.length ≤ 32 := ok.dep
  obtain ⟨f1, f2⟩ := full_no hf
  have k := asks_rh h (show B.P.length ≤ 1000 by omega) (n := 15) (by decide) (by decide)
  rw [show asksR 15 (B : Bd).P = true from ha] at k
  have K := Lib.hid k
  have KL := Lib.hid (lays_lit (w := w) (n := 15) (by decide) (by decide) 10 rfl)
  have KO := Lib.hid (opens_lit (w := w) (n := 15) (by decide) (by decide) true rfl)
  obtain ⟨A0, c0, A1, c1, k0, k1⟩ := h.rows
  obtain ⟨t, ht⟩ : ∃ t, t = B.L.length := ⟨_, rfl⟩
  obtain ⟨m, hm⟩ : ∃ m, m = B.P.length := ⟨_, rfl⟩
  rw [show (B : Bd).L.length = t from ht.symm] at k0
  rw [show (B : Bd).P.length = m from hm.symm] at k1
  have tI : (t : Int) ≤ 499 := by omega
  have e2 : ¬ (499 : Int) ≤ (t : Int) := by have : B.L.length < 499 := f1 (by decide); omega
  have e3 : ¬ (32 : Int) ≤ (m : Int) := by have : B.P.length < 32 := f2 (by decide); omega
  have KP := Lib.hid (put_rh h (f1 (by decide)) ⟨10, 0, 0⟩)
  have HH := Lib.hid (And.intro hlen (And.intro hdep (And.intro ht (And.intro hm trivial))))
  have HR1 := Lib.hid h
  clear h ok ha hf k f1 f2 hlen hdep ht hm
  go_enter Try.func16, Try.ntmps16
  go_wp2_with fail
  refine (K.out).mono ?_
  rintro e w1 ⟨rfl, rfl⟩
  go_wp2_with fail
  refine (KL.out).mono ?_
  rintro e w1 ⟨rfl, rfl⟩
  go_wp2_with fail
  refine (KO.out).mono ?_
  rintro e w1 ⟨rfl, rfl⟩
  go_wp2_with fail
  refine (KP.out).mono ?_
  rintro e w1 ⟨rfl, T1, r1, t1⟩
  clear HR1
  have HR1 := Lib.hid r1
  have HT1 := Lib.hid t1
  clear r1 t1 KP e2
  clear K KL KO k1 e3
  have K2 := Lib.hid (push_lit HR1.out (by have := (HH.out.2.1); simp [layB] at this ⊢; omega) 4 t 4 (t : Int) rfl (by first | rfl | (push_cast; rfl)))
  go_wp2_with fail
  clear k0
  refine (K2.out).mono ?_
  rintro e w2 ⟨⟨r2, rfl⟩, T2, r2, t2⟩
  have HR2 := Lib.hid r2
  have HT2 := Lib.hid (HT1.out.trans t2)
  clear r2 t2 K2 HT1 HR1
  go_wp2_with fail
  go_ret
  refine ⟨rfl, _, Rdd.as HR2.out.drop ?_, HT2.out⟩
  have ht := (HH.out.2.2.1)
  subst ht
  simp [actR, layB, topB, setA_len]
set_option maxHeartbeats 8000000 in
set_option maxRecDepth 100000 in
theorem ract_16 {L : List Xi} {C : List Pk} {r q : Pk} (h : Rdd w p T ⟨L, C ++ [r] ++ [q]⟩ nilV []) (ok : OkR ⟨L, C ++ [r] ++ [q]⟩) (ha : asksR 16 (C ++ [r] ++ [q]) = true) (hr : r.k = 3) (hq : q.k = 4) (hf : fullR 16 ⟨L, C ++ [r] ++ [q]⟩ = false) :
    Calls Try.prog 16 #[Pt p, .int .i64 16] w (DoP p T w (0, actR 16 L.length (layB ⟨3, 0, 0⟩ ⟨L, C ++ [r] ++ [q]⟩))) := by
  have hlen : L.length ≤ 499 := ok.len
  have hdep : (C ++ [r] ++ [q]).length ≤ 32 := ok.dep
  obtain ⟨f1, f2⟩ := full_no hf
  have k := asks_rh h (show (C ++ [r] ++ [q]).length ≤ 1000 by omega) (n := 16) (by decide) (by decide)
  rw [show asksR 16 (⟨L, C ++ [r] ++ [q]⟩ : Bd).P = true from ha] at k
  have K := Lib.hid k
  have KL := Lib.hid (lays_lit (w := w) (n := 16) (by decide) (by decide) 3 rfl)
  have KO := Lib.hid (opens_lit (w := w) (n := 16) (by decide) (by decide) false rfl)
  obtain ⟨A0, c0, A1, c1, k0, k1⟩ := h.rows
  obtain ⟨t, ht⟩ : ∃ t, t = L.length := ⟨_, rfl⟩
  obtain ⟨m, hm⟩ : ∃ m, m = (C ++ [r] ++ [q]).length := ⟨_, rfl⟩
  rw [show (⟨L, C ++ [r] ++ [q]⟩ : Bd).L.length = t from ht.symm] at k0
  rw [show (⟨L, C ++ [r] ++ [q]⟩ : Bd).P.length = m from hm.symm] at k1
  have tI : (t : Int) ≤ 499 := by omega
  have e2 : ¬ (499 : Int) ≤ (t : Int) := by have : L.length < 499 := f1 (by decide); omega
  have KP := Lib.hid (put_rh h (f1 (by decide)) ⟨3, 0, 0⟩)
  have okq := ok.part q (by simp)
  obtain ⟨gl, hgl⟩ : ∃ gl, gl = q.g.length := ⟨_, rfl⟩
  have okr := ok.part r (by simp)
  obtain ⟨hl, hhl⟩ : ∃ hl, hl = r.g.length := ⟨_, rfl⟩
  have HH := Lib.hid (And.intro hlen (And.intro hdep (And.intro ht (And.intro hm (And.intro okq (And.intro hgl (And.intro hq (And.intro okr (And.intro hhl (And.intro hr trivial))))))))))
  have HR1 := Lib.hid h
  clear h ok ha hf k f1 f2 hlen hdep ht hm okq hgl hq okr hhl hr
  go_enter Try.func16, Try.ntmps16
  go_wp2_with fail
  refine (K.out).mono ?_
  rintro e w1 ⟨rfl, rfl⟩
  go_wp2_with fail
  refine (KL.out).mono ?_
  rintro e w1 ⟨rfl, rfl⟩
  go_wp2_with fail
  refine (KO.out).mono ?_
  rintro e w1 ⟨rfl, rfl⟩
  go_wp2_with fail
  refine (KP.out).mono ?_
  rintro e w1 ⟨rfl, T1, r1, t1⟩
  clear HR1
  have HR1 := Lib.hid r1
  have HT1 := Lib.hid t1
  clear r1 t1 KP e2
  clear K KL KO k1
  have K2 := Lib.hid (pop_rh (L := L ++ [(⟨3, 0, 0⟩ : Xi)]) (C := C ++ [r]) (q := q) HR1.out (by have := (HH.out.2.1); simp at this ⊢; omega))
  rw [← (HH.out.2.2.2.2.2.1)] at K2
  go_wp2_with fail
  clear k0
  refine (K2.out).mono ?_
  rintro e w2 ⟨A2, c2, rfl, r2, t2⟩
  have HT2 := Lib.hid (HT1.out.trans t2)
  have HR2 := Lib.hid r2
  clear K2 HT1 HR1 r2 t2
  go_upto_region 54 with fail
  have HKq := Lib.hid (Kpt.new HR2.out.lt (q.k : Int) (q.s : Int) (.slice A2 gl c2))
  have mX : Mod [] w2 (w2.alloc (.cells #[.int .i64 (q.k : Int), .int .i64 (q.s : Int), .slice A2 gl c2] TRP)) := (Mod.refl [] _).alloc _
  replace HR2 := Lib.hid (HR2.out.far mX)
  replace HT2 := Lib.hid (HT2.out.far mX)
  clear mX
  obtain ⟨bq, hbq⟩ : ∃ b, b = w2.heap.size := ⟨_, rfl⟩
  rw [← hbq] at HKq ⊢
  clear hbq
  generalize w2.alloc (.cells #[.int .i64 (q.k : Int), .int .i64 (q.s : Int), .slice A2 gl c2] TRP) = x2 at *
  have K3 := Lib.hid (pop_rh (L := L ++ [(⟨3, 0, 0⟩ : Xi)]) (C := C) (q := r) HR2.out (by have := (HH.out.2.1); simp at this ⊢; omega))
  rw [← (HH.out.2.2.2.2.2.2.2.2.1)] at K3
  go_wp2_with fail
  refine (K3.out).mono ?_
  rintro e w3 ⟨A3, c3, rfl, r3, t3⟩
  replace HKq := Lib.hid (HKq.out.turn t3)
  have HT3 := Lib.hid (HT2.out.trans t3)
  have HR3 := Lib.hid r3
  clear K3 HT2 HR2 r3 t3
  go_upto_region 55 with fail
  have HKr := Lib.hid (Kpt.new HR3.out.lt (r.k : Int) (r.s : Int) (.slice A3 hl c3))
  have mX : Mod [] w3 (w3.alloc (.cells #[.int .i64 (r.k : Int), .int .i64 (r.s : Int), .slice A3 hl c3] TRP)) := (Mod.refl [] _).alloc _
  replace HR3 := Lib.hid (HR3.out.far mX)
  replace HT3 := Lib.hid (HT3.out.far mX)
  replace HKq := Lib.hid (HKq.out.far mX)
  clear mX
  obtain ⟨br, hbr⟩ : ∃ b, b = w3.heap.size := ⟨_, rfl⟩
  rw [← hbr] at HKr ⊢
  clear hbr
  generalize w3.alloc (.cells #[.int .i64 (r.k : Int), .int .i64 (r.s : Int), .slice A3 hl c3] TRP) = x3 at *
  have kr2 := HKr.out.c2
  have m0 : Mod [] x3 (x3.alloc (.cells #[] 3)) := (Mod.refl [] _).alloc _
  have hraw : x3.ownsRow 0 3 1 (.slice A3 hl c3) hl (intsV (ints r.g)) := by have := Gr.raw HR3.out.gr; rw [← (HH.out.2.2.2.2.2.2.2.2.1)] at this; exact this
  have hli : hl ≤ 499 := by have := (HH.out.2.2.2.2.2.2.2.1).1; have := (HH.out.1); have := (HH.out.2.2.2.2.2.2.2.2.1); simp at *; omega
  obtain ⟨A7, c7, y7, a7, g7, _⟩ := elN.base m0 (Nat.le_refl _) (lit_row 3 1 x3) hraw (intsV_cells _) (by omega) 46
  obtain ⟨A8, c8, y8, a8, g8⟩ := elN.last (g7.far ((Mod.refl [] y7).alloc (.cells #[.int .i64 (t : Int)] 3))) (by omega) ⟨y7.heap.size, 0, none⟩ 1 #[.int .i64 (t : Int)].toList rfl (new_cells y7 #[.int .i64 (t : Int)] 3) (by simp; rfl) 46
  have kr2X := m0.cell (by simp) kr2
  obtain ⟨T9, HR9, t9⟩ := HR3.out.hold g8.m (gr_more g8.row (by rw [(HH.out.2.2.2.2.2.2.2.2.1)])) (fun b hb => by
    obtain ⟨b2, hb2, hl2⟩ := g8.own
    have : b = b2 := Option.some.inj (hb.symm.trans hb2)
    omega)
  replace a7 : (appInts 46 _).run Try.prog _ = .ok (.slice A7 hl c7) y7 := a7
  replace a8 : (appInts 46 _).run Try.prog _ = .ok (.slice A8 (hl + 1) c8) y8 := a8
  replace HKq := Lib.hid (HKq.out.turn t9)
  replace HKr := Lib.hid (HKr.out.turn t9)
  replace HT3 := Lib.hid (HT3.out.trans t9)
  replace HR3 := Lib.hid HR9
  clear HR9 t9 g7 g8 hraw m0 hli
  have K4 := Lib.hid (held_lit HR3.out (by have := (HH.out.2.1); simp [layB] at this ⊢; omega) 3 0 3 0 rfl rfl)
  go_wp2_with fail
  refine (K4.out).mono ?_
  rintro e w4 ⟨⟨r4, rfl⟩, T4, r4, t4⟩
  replace HKq := Lib.hid (HKq.out.turn t4)
  replace HKr := Lib.hid (HKr.out.turn t4)
  have HR4 := Lib.hid r4
  have HT4 := Lib.hid (HT3.out.trans t4)
  clear r4 t4 K4 HT3 HR3
  clear a7 a8 kr2 kr2X
  have kq1 := HKq.out.c1
  have hg := gr_one w4 q.s
  have mX : Mod [] w4 (w4.alloc (.cells #[.int .i64 (q.s : Int)] 3)) := (Mod.refl [] _).alloc _
  replace HR4 := Lib.hid (HR4.out.far mX)
  replace HT4 := Lib.hid (HT4.out.far mX)
  replace HKq := Lib.hid (HKq.out.far mX)
  replace HKr := Lib.hid (HKr.out.far mX)
  have K5 := Lib.hid (closes_rh HR4.out (by have := (HH.out.1); simp [layB, setA_len, closeL_len] at this ⊢; omega) _ _ hg (fun i hi => by
    have e : i = q.s := by simpa using hi
    have := (HH.out.2.2.2.2.1).2.2.1 (by first | exact Or.inl (HH.out.2.2.2.2.2.2.1) | exact Or.inr (HH.out.2.2.2.2.2.2.1))
    simp [layB, setA_len, closeL_len] at this ⊢
    omega) (by simp))
  go_wp2_with fail
  refine (K5.out).mono ?_
  rintro e w5 ⟨⟨r5, rfl⟩, T5, r5, t5⟩
  replace HKq := Lib.hid (HKq.out.turn t5)
  replace HKr := Lib.hid (HKr.out.turn t5)
  have HR5 := Lib.hid r5
  have HT5 := Lib.hid (HT4.out.trans t5)
  clear r5 t5 K5 HT4 HR4
  clear hg mX
  clear kq1
  go_wp2_with fail
  go_ret
  refine ⟨rfl, _, Rdd.as HR5.out.drop ?_, HT5.out⟩
  have ht := (HH.out.2.2.1)
  subst ht
  simp [actR, layB, topB, setA_len]
set_option maxHeartbeats 8000000 in
set_option maxRecDepth 100000 in
theorem ract_17 {L : List Xi} {C : List Pk} {q : Pk} (h : Rdd w p T ⟨L, C ++ [q]⟩ nilV []) (ok : OkR ⟨L, C ++ [q]⟩) (ha : asksR 17 (C ++ [q]) = true) (hq : q.k = 3) (hf : fullR 17 ⟨L, C ++ [q]⟩ = false) :
    Calls Try.prog 16 #[Pt p, .int .i64 17] w (DoP p T w (0, actR 17 L.length (layB ⟨11, 0, 0⟩ ⟨L, C ++ [q]⟩))) := by
  have hlen : L.length ≤ 499 := ok.len
  have hdep : (C ++ [q]).length ≤ 32 := ok.dep
  obtain ⟨f1, f2⟩ := full_no hf
  have k := asks_rh h (show (C ++ [q]).length ≤ 1000 by omega) (n := 17) (by decide) (by decide)
  rw [show asksR 17 (⟨L, C ++ [q]⟩ : Bd).P = true from ha] at k
  have K := Lib.hid k
  have KL := Lib.hid (lays_lit (w := w) (n := 17) (by decide) (by decide) 11 rfl)
  have KO := Lib.hid (opens_lit (w := w) (n := 17) (by decide) (by decide) false rfl)
  obtain ⟨A0, c0, A1, c1, k0, k1⟩ := h.rows
  obtain ⟨t, ht⟩ : ∃ t, t = L.length := ⟨_, rfl⟩
  obtain ⟨m, hm⟩ : ∃ m, m = (C ++ [q]).length := ⟨_, rfl⟩
  rw [show (⟨L, C ++ [q]⟩ : Bd).L.length = t from ht.symm] at k0
  rw [show (⟨L, C ++ [q]⟩ : Bd).P.length = m from hm.symm] at k1
  have tI : (t : Int) ≤ 499 := by omega
  have e2 : ¬ (499 : Int) ≤ (t : Int) := by have : L.length < 499 := f1 (by decide); omega
  have KP := Lib.hid (put_rh h (f1 (by decide)) ⟨11, 0, 0⟩)
  have okq := ok.part q (by simp)
  obtain ⟨gl, hgl⟩ : ∃ gl, gl = q.g.length := ⟨_, rfl⟩
  have HH := Lib.hid (And.intro hlen (And.intro hdep (And.intro ht (And.intro hm (And.intro okq (And.intro hgl (And.intro hq trivial)))))))
  have HR1 := Lib.hid h
  clear h ok ha hf k f1 f2 hlen hdep ht hm okq hgl hq
  go_enter Try.func16, Try.ntmps16
  go_wp2_with fail
  refine (K.out).mono ?_
  rintro e w1 ⟨rfl, rfl⟩
  go_wp2_with fail
  refine (KL.out).mono ?_
  rintro e w1 ⟨rfl, rfl⟩
  go_wp2_with fail
  refine (KO.out).mono ?_
  rintro e w1 ⟨rfl, rfl⟩
  go_wp2_with fail
  refine (KP.out).mono ?_
  rintro e w1 ⟨rfl, T1, r1, t1⟩
  clear HR1
  have HR1 := Lib.hid r1
  have HT1 := Lib.hid t1
  clear r1 t1 KP e2
  clear K KL KO k1
  have K2 := Lib.hid (pop_rh (L := L ++ [(⟨11, 0, 0⟩ : Xi)]) (C := C) (q := q) HR1.out (by have := (HH.out.2.1); simp at this ⊢; omega))
  rw [← (HH.out.2.2.2.2.2.1)] at K2
  go_wp2_with fail
  clear k0
  refine (K2.out).mono ?_
  rintro e w2 ⟨A2, c2, rfl, r2, t2⟩
  have HT2 := Lib.hid (HT1.out.trans t2)
  have HR2 := Lib.hid r2
  clear K2 HT1 HR1 r2 t2
  go_upto_region 59 with fail
  have HKq := Lib.hid (Kpt.new HR2.out.lt (q.k : Int) (q.s : Int) (.slice A2 gl c2))
  have mX : Mod [] w2 (w2.alloc (.cells #[.int .i64 (q.k : Int), .int .i64 (q.s : Int), .slice A2 gl c2] TRP)) := (Mod.refl [] _).alloc _
  replace HR2 := Lib.hid (HR2.out.far mX)
  replace HT2 := Lib.hid (HT2.out.far mX)
  clear mX
  obtain ⟨bq, hbq⟩ : ∃ b, b = w2.heap.size := ⟨_, rfl⟩
  rw [← hbq] at HKq ⊢
  clear hbq
  generalize w2.alloc (.cells #[.int .i64 (q.k : Int), .int .i64 (q.s : Int), .slice A2 gl c2] TRP) = x2 at *
  have kq2 := HKq.out.c2
  have K3 := Lib.hid (closes_rh HR2.out (by have := (HH.out.1); simp [layB, setA_len, closeL_len] at this ⊢; omega) _ _ HR2.out.gr (fun i hi => by have := (HH.out.2.2.2.2.1).2.1 i hi; simp [layB, setA_len, closeL_len] at this ⊢; omega) (by have := (HH.out.2.2.2.2.1).1; have := (HH.out.1); simp at *; omega))
  go_wp2_with fail
  refine (K3.out).mono ?_
  rintro e w3 ⟨⟨r3, rfl⟩, T3, r3, t3⟩
  replace HKq := Lib.hid (HKq.out.turn t3)
  have HR3 := Lib.hid r3
  have HT3 := Lib.hid (HT2.out.trans t3)
  clear r3 t3 K3 HT2 HR2
  clear kq2
  go_wp2_with fail
  go_ret
  refine ⟨rfl, _, Rdd.as HR3.out.drop ?_, HT3.out⟩
  have ht := (HH.out.2.2.1)
  subst ht
  simp [actR, layB, topB, setA_len]
end Go.Proofs.Ytnclfopdgilgaaa

namespace Go.Proofs.Ytnclfopdgilgaaa
open Go.RowKit
set_option linter.unusedVariables false

theorem any_mid {P : List Pk} (h : (P.any fun q => decide (q.k = 2)) = true) : ∃ C q D, P = C ++ q :: D ∧ q.k = 2 ∧ ∀ d ∈ D, d.k ≠ 2 := by
  induction P using snocRec with
  | nil => simp at h
  | snoc C q ih =>
    by_cases hq : q.k = 2
    · exact ⟨C, q, [], rfl, hq, by simp⟩
    · rw [List.any_append] at h
      have h : (C.any fun q => decide (q.k = 2)) = true := by simpa [hq] using h
      obtain ⟨C', q', D, rfl, h1, h2⟩ := ih h
      refine ⟨C', q', D ++ [q], by simp, h1, fun d hd => ?_⟩
      rcases List.mem_append.1 hd with hd | hd
      · exact h2 d hd
      · rw [List.mem_singleton.1 hd]; exact hq
theorem rdo_calls {w : World} {p : Nat} {T : List Nat} {B : Bd} (h : Rdd w p T B nilV []) (ok : OkR B) (n : Int) : Calls Try.prog 16 #[Pt p, .int .i64 n] w (DoP p T w (doR n B)) := by
  have hd : B.P.length ≤ 1000 := by have := ok.dep; omega
  unfold doR
  by_cases hn : n < 1 ∨ 17 < n
  · rw [if_pos hn]; exact rdo_wrong h hn
  rw [if_neg hn]
  have h1 : 1 ≤ n := by omega
  have h2 : n ≤ 17 := by omega
  cases ha : asksR n B.P with
  | false => rw [if_pos rfl]; exact rdo_ctrl h hd h1 h2 ha
  | true =>
    rw [if_neg (by simp)]
    cases hf : fullR n B with
    | true => rw [if_pos rfl]; exact rdo_full h hd h1 h2 ha hf
    | false =>
      rw [if_neg (by simp)]
      obtain ⟨L, P⟩ := B
      simp only at ha
      rcases part17 h1 h2 with rfl | rfl | rfl | rfl | rfl | rfl | rfl | rfl | rfl | rfl | rfl | rfl | rfl | rfl | rfl | rfl | rfl
      · exact ract_1 h ok ha hf
      · obtain ⟨C, q, rfl, hq⟩ := up_top (show upR 0 0 P = true from ha)
        exact ract_2 h ok ha hq hf
      · obtain ⟨C, q, rfl, hq⟩ := up_top (show upR 0 0 P = true from ha)
        exact ract_3 h ok ha hq hf
      · exact ract_4 h ok ha hf
      · obtain ⟨C, q, rfl, hq⟩ := up_top (show upR 1 0 P = true from ha)
        exact ract_5 h ok ha hq hf
      · obtain ⟨C, r, q, rfl, hr, hq⟩ := up_two (show (upR 1 0 P && upR 0 1 P) = true from ha)
        have e : C ++ [r, q] = C ++ [r] ++ [q] := by simp
        rw [e] at h ok ha hf ⊢
        exact ract_6 h ok ha hr hq hf
      · obtain ⟨C, q, rfl, hq⟩ := up_top (show upR 1 0 P = true from ha)
        exact ract_7 h ok ha hq hf
      · obtain ⟨C, q, rfl, hq⟩ := up_top (show upR 1 0 P = true from ha)
        exact ract_8 h ok ha hq hf
      · exact ract_9 h ok ha hf
      · exact ract_10 h ok ha hf
      · obtain ⟨C, q, rfl, hq⟩ := up_top (show upR 2 0 P = true from ha)
        exact ract_11 h ok ha hq hf
      · obtain ⟨C, q, rfl, hq⟩ := up_top (show upR 2 0 P = true from ha)
        exact ract_12 h ok ha hq hf
      · obtain ⟨C, q, D, rfl, hq, hD⟩ := any_mid (show (P.any fun q => decide (q.k = 2)) = true from ha)
        exact ract_13 h ok ha hq hD hf
      · exact ract_14 h ok ha hf
      · exact ract_15 h ok ha hf
      · obtain ⟨C, r, q, rfl, hr, hq⟩ := up_two (show (upR 4 0 P && upR 3 1 P) = true from ha)
        have e : C ++ [r, q] = C ++ [r] ++ [q] := by simp
        rw [e] at h ok ha hf ⊢
        exact ract_16 h ok ha hr hq hf
      · obtain ⟨C, q, rfl, hq⟩ := up_top (show upR 3 0 P = true from ha)
        exact ract_17 h ok ha hq hf
/-- The program's builder (block b, parts B) and the document's (block q, the parts of C) side by side, made since w0. -/
def Pl (w0 w : World) (b : Nat) (B : Bd) (q : Nat) (C : Bd) : Prop :=
  ∃ S T, Bl w b S B ∧ OkB B ∧ Rdd w q T (rB C) nilV [] ∧ OkB C ∧ Mod [] w0 w ∧ (∀ x ∈ S, w0.heap.size ≤ x ∧ x ∉ T) ∧ ∀ x ∈ T, w0.heap.size ≤ x
variable {w0 w : World} {b q : Nat} {B C : Bd}
theorem Pl.m (h : Pl w0 w b B q C) : Mod [] w0 w := by obtain ⟨S, T, _, _, _, _, m, _⟩ := h; exact m
theorem Pl.far {w' : World} (h : Pl w0 w b B q C) (m : Mod [] w w') : Pl w0 w' b B q C := by
  obtain ⟨S, T, h1, h2, h3, h4, h5, h6, h7⟩ := h
  exact ⟨S, T, h1.far m, h2, h3.far m, h4, h5.trans m, h6, h7⟩
theorem Rdd.mod {w w' : World} {p : Nat} {T S : List Nat} {B : Bd} (h : Rdd w p T B nilV []) (m : Mod S w w') (hd : ∀ x ∈ T, x ∉ S) : Rdd w' p T B nilV [] := by
  obtain ⟨vc, vo, O, h1, h2, h3, h4⟩ := h.bv
  exact ⟨fun x hx => Nat.lt_of_lt_of_le (h.lt x hx) m.size, ⟨vc, vo, O, h1.mod m fun x hx => hd x (h3 x hx), h2, h3, h4⟩, Ir.nil _ _, fun b hb => by cases hb⟩
/-- What was laid since w1, and is none of the builders', stays. -/
def Stay (w1 w2 w' : World) : Prop := ∀ a v, w1.heap.size ≤ a.block → w2.cell? a = some v → w'.cell? a = some v
theorem pl_one {w1 w2 w' : World} {S S' T : List Nat} {B' : Bd} (h5 : Bl w' b S' B') (ok : OkB B') (t : Turn S S' w2 w') (h1 : Bl w1 b S B) (h3 : Rdd w1 q T (rB C) nilV []) (h4 : OkB C) (m : Mod [] w0 w1) (m2 : Mod [] w1 w2) (h6 : ∀ x ∈ S, w0.heap.size ≤ x ∧ x ∉ T) (h7 : ∀ x ∈ T, w0.heap.size ≤ x) :
    Pl w0 w' b B' q C ∧ Stay w1 w2 w' := by
  obtain ⟨g1, g2⟩ := t.since (m.trans m2) fun x hx => (h6 x hx).1
  refine ⟨⟨S', T, h5, ok, (h3.far m2).mod t.1 fun x hx hs => (h6 x hs).2 hx, h4, g1, fun x hx => ⟨g2 x hx, fun ht => ?_⟩, h7⟩, fun a v hl hc => t.1.cell (fun hx => by have := h1.lt _ hx; omega) hc⟩
  exact t.apart (U := T) (h3.far m2).lt (fun y hy hs => (h6 y hs).2 hy) x ht hx
theorem pl_two {w1 w2 w' : World} {S T T' : List Nat} {C' : Bd} (h5 : Rdd w' q T' (rB C') nilV []) (ok : OkB C') (t : Turn T T' w2 w') (h1 : Bl w1 b S B) (h2 : OkB B) (h3 : Rdd w1 q T (rB C) nilV []) (m : Mod [] w0 w1) (m2 : Mod [] w1 w2) (h6 : ∀ x ∈ S, w0.heap.size ≤ x ∧ x ∉ T) (h7 : ∀ x ∈ T, w0.heap.size ≤ x) :
    Pl w0 w' b B q C' ∧ Stay w1 w2 w' := by
  obtain ⟨g1, g2⟩ := t.since (m.trans m2) h7
  have hS := (h1.far m2)
  refine ⟨⟨S, T', hS.mod t.1 fun x hx hs => (h6 x hx).2 hs, h2, h5, ok, g1, fun x hx => ⟨(h6 x hx).1, fun ht => ?_⟩, g2⟩, fun a v hl hc => t.1.cell (fun hx => by have := h3.lt _ hx; omega) hc⟩
  exact t.apart (U := S) hS.lt (fun y hy => (h6 y hy).2) x hx ht
theorem pl_do1 (h : Pl w0 w b B q C) (n : Int) : Calls Try.prog 15 #[Pt b, .int .i64 n] w fun e w' => e = .returned (.int .i64 (doB n B).1) ∧ Pl w0 w' b (doB n B).2 q C := by
  obtain ⟨S, T, h1, h2, h3, h4, h5, h6, h7⟩ := h
  refine (do_calls h1 h2 n).mono ?_
  rintro e w' ⟨rfl, S', g1, g2⟩
  exact ⟨rfl, (pl_one g1 (h2.does n) g2 h1 h3 h4 h5 (Mod.refl _ _) h6 h7).1⟩
theorem pl_do2 (h : Pl w0 w b B q C) (n : Int) : Calls Try.prog 16 #[Pt q, .int .i64 n] w fun e w' => e = .returned (.int .i64 (doB n C).1) ∧ Pl w0 w' b B q (doB n C).2 := by
  obtain ⟨S, T, h1, h2, h3, h4, h5, h6, h7⟩ := h
  refine (rdo_calls h3 (okR_of h4) n).mono ?_
  rintro e w' ⟨rfl, T', g1, g2⟩
  rw [sim h4 n] at g1 ⊢
  exact ⟨rfl, (pl_two g1 (h4.does n) g2 h1 h2 h3 h5 (Mod.refl _ _) h6 h7).1⟩
theorem pl_put1 {w1 : World} (h : Pl w0 w b B q C) (m : Mod [] w w1) (x : Xi) (hx : WellX x) : Calls Try.prog 13 #[Pt b, insV x] w1 fun e w' => e = .returned (.int .i64 (putB x B).1) ∧ Pl w0 w' b (putB x B).2 q C ∧ Stay w w1 w' := by
  obtain ⟨S, T, h1, h2, h3, h4, h5, h6, h7⟩ := h
  refine (put_calls (h1.far m) h2 x).mono ?_
  rintro e w' ⟨rfl, S', g1, g2⟩
  exact ⟨rfl, pl_one g1 (h2.puts hx) g2 h1 h3 h4 h5 m h6 h7⟩
theorem put_rd {w : World} {p : Nat} {T : List Nat} {C : Bd} (h : Rdd w p T (rB C) nilV []) (x : Xi) : Calls Try.prog 14 #[Pt p, insV x] w fun e w' => e = .returned (.int .i64 (putB x C).1) ∧ ∃ T', Rdd w' p T' (rB (putB x C).2) nilV [] ∧ Turn T T' w w' := by
  unfold putB
  by_cases hl : C.L.length < 499
  · rw [if_pos hl]
    refine (put_rh h hl x).mono ?_
    rintro e w' ⟨rfl, T', k1, k2⟩
    exact ⟨rfl, T', k1, k2⟩
  · rw [if_neg hl]
    obtain ⟨vc, vo, O, k1, k2, k3, k4⟩ := h.bv
    refine (rput_full k1 (show 499 ≤ C.L.length by omega) x).mono ?_
    rintro e w' ⟨rfl, hm⟩
    exact ⟨rfl, T, h.far hm, (Turn.refl T w).far hm⟩
theorem pl_put2 {w1 : World} (h : Pl w0 w b B q C) (m : Mod [] w w1) (x : Xi) (hx : WellX x) : Calls Try.prog 14 #[Pt q, insV x] w1 fun e w' => e = .returned (.int .i64 (putB x C).1) ∧ Pl w0 w' b B q (putB x C).2 := by
  obtain ⟨S, T, h1, h2, h3, h4, h5, h6, h7⟩ := h
  refine (put_rd (h3.far m) x).mono ?_
  rintro e w' ⟨rfl, T', g1, g2⟩
  exact ⟨rfl, (pl_two g1 (h4.puts hx) g2 h1 h2 h3 h5 m h6 h7).1⟩
theorem pl_len (h : Pl w0 w b B q C) (z : Int) (hz : (B.L.length : Int) = z) : Calls Try.prog 17 #[Pt b] w fun e w' => e = .returned (.int .i64 z) ∧ w = w' := by
  obtain ⟨S, T, h1, _⟩ := h
  subst hz
  exact len_calls h1 _ rfl
theorem pl_open (h : Pl w0 w b B q C) (z : Int) (hz : (B.P.length : Int) = z) : Calls Try.prog 18 #[Pt b] w fun e w' => e = .returned (.int .i64 z) ∧ w = w' := by
  obtain ⟨S, T, h1, _⟩ := h
  subst hz
  exact open_calls h1 _ rfl
theorem Pl.rows (h : Pl w0 w b B q C) : ∃ A0 c0 A1 c1, w.cell? ⟨q, 0, none⟩ = some (.slice A0 C.L.length c0) ∧ w.cell? ⟨q, 1, none⟩ = some (.slice A1 C.P.length c1) := by
  obtain ⟨S, T, _, _, h3, _⟩ := h
  obtain ⟨A0, c0, A1, c1, k0, k1⟩ := h3.rows
  refine ⟨A0, c0, A1, c1, k0, ?_⟩
  rw [k1]
  simp [rB]
/-- Both ends where something is open. -/
theorem pl_stay1 (h : Pl w0 w b B q C) (hP : 0 < B.P.length) : Calls Try.prog 19 #[Pt b] w fun e w' => e = .returned (.tuple #[defV none 0 0, .int .i64 (-22)]) ∧ Pl w0 w' b B q C := by
  have h' := h
  obtain ⟨S, T, h1, h2, h3, h4, h5, h6, h7⟩ := h
  refine (end_open h1 h2 hP).mono ?_
  rintro e w' ⟨rfl, hm⟩
  exact ⟨rfl, h'.far hm⟩
theorem pl_stay2 (h : Pl w0 w b B q C) (hP : 0 < C.P.length) : Calls Try.prog 20 #[Pt q] w fun e w' => e = .returned (.tuple #[defV none 0 0, .int .i64 (-22)]) ∧ Pl w0 w' b B q C ∧ Mod [] w w' := by
  have h' := h
  obtain ⟨S, T, h1, h2, h3, h4, h5, h6, h7⟩ := h
  obtain ⟨vc, vo, O, k1, k2, k3, k4⟩ := h3.bv
  refine (rend_open k1 (by have := congrArg List.length k2; simp [rB] at this; omega)).mono ?_
  rintro e w' ⟨rfl, hm⟩
  exact ⟨rfl, h'.far hm, hm⟩
/-- Instructions do not lie in a builder's own block. -/
theorem ins_ne {w : World} {p : Nat} {T : List Nat} {B : Bd} (h : Rdd w p T B nilV []) {A : Option Addr} {K : List Xi} (hI : InsAt w A K) (hK : 0 < K.length) : ∀ a, A = some a → a.block ≠ p := by
  intro a ha e
  obtain ⟨vc, vo, O, h1, _⟩ := h.bv
  obtain ⟨A0, c0, rfl, _⟩ := h1.code_slice
  obtain ⟨A1, c1, rfl, _⟩ := h1.open_slice
  obtain ⟨b, o, e2, hx, _⟩ := hI 0 hK
  rw [ha] at e2
  obtain rfl := Option.some.inj e2
  simp only at e
  subst e
  have hc := hx.c0
  simp only [Nat.zero_mul, Nat.add_zero, World.cell?, h1.blk] at hc
  match o, hc with
  | 0, hc => simp at hc
  | 1, hc => simp at hc
  | o + 2, hc => simp at hc
theorem pl_end1 {L : List Xi} (h : Pl w0 w b ⟨L, []⟩ q C) : Calls Try.prog 19 #[Pt b] w fun e w' => ∃ A cap, e = .returned (.tuple #[defV A (L ++ [(⟨15, 0, 0⟩ : Xi)]).length cap, .int .i64 0]) ∧ InsAt w' A (L ++ [⟨15, 0, 0⟩]) ∧ Pl w0 w' b ⟨[], []⟩ q C := by
  obtain ⟨S, T, h1, h2, h3, h4, h5, h6, h7⟩ := h
  refine (end_calls h1 h2).mono ?_
  rintro e w' ⟨A, cap, S', rfl, g1, g2, g3, _⟩
  exact ⟨A, cap, rfl, g1, (pl_one g2 ok_new g3 h1 h3 h4 h5 (Mod.refl _ _) h6 h7).1⟩
theorem pl_end2 {w1 : World} {A : Option Addr} {K : List Xi} {L : List Xi} (h : Pl w0 w b B q ⟨L, []⟩) (m : Mod [] w w1) (hI : InsAt w1 A K) (hK : 0 < K.length) : Calls Try.prog 20 #[Pt q] w1 fun e w' => ∃ A2 cap2, e = .returned (.tuple #[defV A2 (L ++ [(⟨15, 0, 0⟩ : Xi)]).length cap2, .int .i64 0]) ∧ InsAt w' A2 (L ++ [⟨15, 0, 0⟩]) ∧ InsAt w' A K ∧ Pl w0 w' b B q ⟨[], []⟩ ∧ Stay w w1 w' := by
  obtain ⟨S, T, h1, h2, h3, h4, h5, h6, h7⟩ := h
  have h3' := h3.far m
  have hne := ins_ne h3' hI hK
  obtain ⟨vc, vo, O, k1, k2, k3, k4⟩ := h3'.bv
  have hO : O = [] := by
    have := congrArg List.length k2
    simp [rB] at this
    exact List.eq_nil_of_length_eq_zero this.symm
  subst hO
  refine (rend_ok k1 (by have := h4.len; simp only [rB] at this ⊢; omega) (fun x hx => h4.well x hx)).mono ?_
  rintro e w' ⟨A2, cap2, rfl, g1, g2, g3, g4⟩
  have hin : ∀ x ∈ Sof q (.slice none 0 0) vo [], x ∈ T ∨ w1.heap.size ≤ x := fun x hx => (g3.2 x hx).imp (k3 x) id
  have t : Turn T (T ++ Sof q (.slice none 0 0) vo []) w1 w' := ⟨g3.1.up k3, fun x hx => (List.mem_append.1 hx).elim Or.inl (hin x)⟩
  have hr : Rdd w' q (T ++ Sof q (.slice none 0 0) vo []) (rB ⟨[], []⟩) nilV [] := ⟨fun x hx => (List.mem_append.1 hx).elim (fun hx => Nat.lt_of_lt_of_le (h3'.lt x hx) g3.1.size) (g2.lt x), ⟨_, vo, [], g2, rfl, fun x hx => by simp [hx], fun b hb => by cases hb⟩, Ir.nil _ _, fun b hb => by cases hb⟩
  refine ⟨A2, cap2, rfl, g1, fun i hi => ?_, pl_two hr ok_new t h1 h2 h3 h5 m h6 h7⟩
  obtain ⟨bb, o, e, hx, hw⟩ := hI i hi
  have hbt : bb ∉ [q] := by have := hne _ e; simpa using this
  exact ⟨bb, o, e, ⟨g4.cell hbt hx.c0, g4.cell hbt hx.c1, g4.cell hbt hx.c2⟩, hw⟩
end Go.Proofs.Ytnclfopdgilgaaa
