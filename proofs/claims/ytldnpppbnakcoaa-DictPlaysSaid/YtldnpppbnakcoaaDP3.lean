/- Layer 9: an act done to both dictionaries, by its kind. Condition: the act is short (ShortA). -/
import Derived.Test.YtldnpppbnakcoaaDP2
namespace Go.Proofs.Ytldnpppbnakcoaa
open Go.RowKit
set_option linter.unusedVariables false

theorem act_cells (W : World) (a : Ac) : AtA (W.alloc (.cells (flatA a).toArray 33)) W.heap.size 0 a := by
  have h := act_new W a 33
  simp only [WideShapes.add_plain, Nat.zero_add] at h
  exact ⟨h 0 _ rfl, h 1 _ rfl, h 2 _ rfl, h 3 _ rfl, h 4 _ rfl, h 5 _ rfl⟩
/-- What does leaves: both dictionaries are alike again. -/
def DoesP (w0 w : World) (p q : Nat) (U : List Nat) (e : Ending) (w' : World) : Prop := e = .returned (.bool true) ∧ ∃ D', Dp w0 w' p q U D' D' ∧ Keep U w w'
theorem IntsOf.y {w : World} {A : Option Addr} {n cap : Nat} (h : IntsOf w A n cap) : ∃ Y : List Int, IntsAt w A Y ∧ n = Y.length ∧ (A = none → cap = 0) := by
  obtain ⟨Y, h1, h2, h3, _⟩ := h
  exact ⟨Y, h1, h2.symm, h3⟩
theorem str_toList (s : ByteArray) : s.data.toList.length = s.size := by rw [Array.length_toList]; rfl
/-- An act as it came to does: its box is laid. -/
structure Box9 (w0 w w1 : World) (p q B : Nat) (U : List Nat) (D : Di) (m : Nat) (s : ByteArray) (x : Int) (A : Option Addr) (n cap : Nat) (ma mb : Int) : Prop where
  h : Dp w0 w1 p q (B :: U) D D
  m1 : Mod [] w w1
  c0 : w1.cell? ⟨B, 0, none⟩ = some (.int .u8 (m : Int))
  c1 : w1.cell? ⟨B, 1, none⟩ = some (.string s)
  c2 : w1.cell? ⟨B, 2, none⟩ = some (.int .i64 x)
  c3 : w1.cell? ⟨B, 3, none⟩ = some (.slice A n cap)
  c4 : w1.cell? ⟨B, 4, none⟩ = some (.int .i64 ma)
  c5 : w1.cell? ⟨B, 5, none⟩ = some (.int .i64 mb)
theorem Box9.of {w0 w : World} {p q : Nat} {U : List Nat} {D : Di} (h : Dp w0 w p q U D D) (a : Ac) : Box9 w0 w (w.alloc (.cells #[.int .u8 (a.c.toNat : Int), .string a.s, .int .i64 a.x, .slice a.A a.n a.cap, .int .i64 a.a, .int .i64 a.b] 33)) p q w.heap.size U D a.c.toNat a.s a.x a.A a.n a.cap a.a a.b := by
  have m1 : Mod [] w (w.alloc (.cells (flatA a).toArray 33)) := (Mod.refl [] w).alloc _
  have hat := act_cells w a
  have h1 := h.more (V := w.heap.size :: U) m1 fun y hy => (List.mem_cons.1 hy).elim (fun e => Or.inr (by rw [e, size_allocD]; omega)) Or.inl
  have c1 := hat.c1
  have c2 := hat.c2
  have c3 := hat.c3
  have c4 := hat.c4
  have c5 := hat.c5
  rw [Nat.zero_add] at c1 c2 c3 c4 c5
  exact ⟨h1, m1, hat.c0, c1, c2, c3, c4, c5⟩
theorem Box9.far {w0 w w1 w2 : World} {p q B : Nat} {U : List Nat} {D : Di} {m : Nat} {s : ByteArray} {x : Int} {A : Option Addr} {n cap : Nat} {ma mb : Int} (h : Box9 w0 w w1 p q B U D m s x A n cap ma mb) (k : Mod [] w1 w2) : Box9 w0 w w2 p q B U D m s x A n cap ma mb :=
  ⟨h.h.far k, h.m1.trans k, k.cell (by simp) h.c0, k.cell (by simp) h.c1, k.cell (by simp) h.c2, k.cell (by simp) h.c3, k.cell (by simp) h.c4, k.cell (by simp) h.c5⟩
theorem does_end {w0 w w1 w3 : World} {p q B : Nat} {U : List Nat} {D : Di} (h : Dp w0 w3 p q (B :: U) D D) (m1 : Mod [] w w1) (k : Keep (B :: U) w1 w3) : ∃ D', Dp w0 w3 p q U D' D' ∧ Keep U w w3 :=
  ⟨D, h.sub fun y hy => List.mem_cons.2 (Or.inr hy), (Keep.of m1).trans (k.sub fun y hy => List.mem_cons.2 (Or.inr hy))⟩
set_option maxHeartbeats 8000000 in
set_option maxRecDepth 100000 in
theorem does_0 {w0 w : World} {p q : Nat} {U : List Nat} {D : Di} {a : Ac} (h : Dp w0 w p q U D D) (ha : ShortA w0 a) (hk : a.c.toNat % 9 = 0) :
    Calls Try.prog 13 #[PtD p, PtD q, .agg #[.int .u8 (a.c.toNat : Int), .string a.s, .int .i64 a.x, .slice a.A a.n a.cap, .int .i64 a.a, .int .i64 a.b]] w (DoesP w0 w p q U) := by
  obtain ⟨c, s, x, A, n, cap, ma, mb⟩ := a
  have hbox := Box9.of h ⟨c, s, x, A, n, cap, ma, mb⟩
  obtain ⟨Y, hYA, hYn, hYc⟩ := ha.l.y
  have HA := Lib.hid (show s.data.toList.length ≤ 40 ∧ I64 ma ∧ I64 mb ∧ n ≤ 12 ∧ IntsAt w0 A Y ∧ n = Y.length ∧ (A = none → cap = 0) from ⟨by rw [str_toList]; exact ha.s, ha.m1, ha.m2, ha.n, hYA, hYn, hYc⟩)
  have hbn := c.toNat_lt
  dsimp only at hbox hk ⊢
  obtain ⟨m, hm⟩ : ∃ m, m = c.toNat := ⟨_, rfl⟩
  rw [← hm] at hbox hk hbn ⊢
  have hkI : (m : Int) % 9 = 0 := by omega
  clear h ha hYA hYn hYc hm hk
  unfold DoesP
  have c0 := hbox.c0
  have HB := Lib.hid hbox
  clear hbox
  go_enter Try.func13, Try.ntmps13
  go_upto_region 1 with fail
  generalize w.alloc (.cells #[.int .u8 (m : Int), .string s, .int .i64 x, .slice A n cap, .int .i64 ma, .int .i64 mb] 33) = w1 at c0 HB ⊢
  obtain ⟨B, hB⟩ : ∃ B, B = w.heap.size := ⟨_, rfl⟩
  rw [← hB] at c0 HB ⊢
  clear hB
  have b2 := HB.out.far (Mod.refl [] w1).drew
  have d1 := b2.c1
  have d2 := b2.c2
  have k1 := b2.h.addP s HA.out.1 x
  obtain ⟨r, hr⟩ : ∃ r, r = addR D s.data.toList x := ⟨_, rfl⟩
  rw [← hr] at k1
  have K1 := Lib.hid k1
  have HR := Lib.hid hr
  have M1 := Lib.hid b2.m1
  clear k1 hr b2
  go_upto_region 3 with fail
  go_region_held3 (fun V => V.cell? ⟨B, 1, none⟩ = some (.string s) ∧ V.cell? ⟨B, 2, none⟩ = some (.int .i64 x)) (first | exact ⟨d1, d2⟩ | exact ⟨e1, e2⟩ | exact ⟨f1, f2⟩ | fail) (first
    | ((with_reducible refine (K1.out).mono ?_); rintro e w2 ⟨rfl, h2, k2⟩; have e1 := k2.cell (x := ⟨B, 1, none⟩) (by simp) d1; have e2 := k2.cell (x := ⟨B, 2, none⟩) (by simp) d2; have kk := h2.addQ s HA.out.1 x; rw [← HR.out] at kk; have K2 := Lib.hid kk; have H2 := Lib.hid k2; clear h2 k2 kk K1)
    | ((with_reducible refine (K2.out).mono ?_); rintro e w3 ⟨rfl, h3, k3⟩; have f1 := k3.cell (x := ⟨B, 1, none⟩) (by simp) e1; have f2 := k3.cell (x := ⟨B, 2, none⟩) (by simp) e2; have H3 := Lib.hid (does_end h3 M1.out (H2.out.trans k3)); clear h3 k3 K2)
    | fail)
  go_wp2_with fail
  go_ret
  exact ⟨by simp, H3.out⟩
set_option maxHeartbeats 8000000 in
set_option maxRecDepth 100000 in
theorem does_1 {w0 w : World} {p q : Nat} {U : List Nat} {D : Di} {a : Ac} (h : Dp w0 w p q U D D) (ha : ShortA w0 a) (hk : a.c.toNat % 9 = 1) :
    Calls Try.prog 13 #[PtD p, PtD q, .agg #[.int .u8 (a.c.toNat : Int), .string a.s, .int .i64 a.x, .slice a.A a.n a.cap, .int .i64 a.a, .int .i64 a.b]] w (DoesP w0 w p q U) := by
  obtain ⟨c, s, x, A, n, cap, ma, mb⟩ := a
  have hbox := Box9.of h ⟨c, s, x, A, n, cap, ma, mb⟩
  obtain ⟨Y, hYA, hYn, hYc⟩ := ha.l.y
  have HA := Lib.hid (show s.data.toList.length ≤ 40 ∧ I64 ma ∧ I64 mb ∧ n ≤ 12 ∧ IntsAt w0 A Y ∧ n = Y.length ∧ (A = none → cap = 0) from ⟨by rw [str_toList]; exact ha.s, ha.m1, ha.m2, ha.n, hYA, hYn, hYc⟩)
  have hbn := c.toNat_lt
  dsimp only at hbox hk ⊢
  obtain ⟨m, hm⟩ : ∃ m, m = c.toNat := ⟨_, rfl⟩
  rw [← hm] at hbox hk hbn ⊢
  have hkI : (m : Int) % 9 = 1 := by omega
  clear h ha hYA hYn hYc hm hk
  unfold DoesP
  have c0 := hbox.c0
  have HB := Lib.hid hbox
  clear hbox
  go_enter Try.func13, Try.ntmps13
  go_upto_region 1 with fail
  generalize w.alloc (.cells #[.int .u8 (m : Int), .string s, .int .i64 x, .slice A n cap, .int .i64 ma, .int .i64 mb] 33) = w1 at c0 HB ⊢
  obtain ⟨B, hB⟩ : ∃ B, B = w.heap.size := ⟨_, rfl⟩
  rw [← hB] at c0 HB ⊢
  clear hB
  have k1 := HB.out.h.nowP
  obtain ⟨r, hr⟩ : ∃ r, r = nowR D := ⟨_, rfl⟩
  rw [← hr] at k1
  have K1 := Lib.hid k1
  have HR := Lib.hid hr
  clear k1 hr
  go_wp2_with fail
  refine (K1.out).mono ?_
  rintro e w2 ⟨rfl, h2, k2⟩
  have kk := h2.nowQ
  rw [← HR.out] at kk
  have K2 := Lib.hid kk
  have H2 := Lib.hid k2
  clear h2 k2 kk K1
  go_wp2_with fail
  refine (K2.out).mono ?_
  rintro e w3 ⟨rfl, h3, k3⟩
  have H3 := Lib.hid (does_end h3 HB.out.m1 (H2.out.trans k3))
  clear h3 k3 K2
  go_wp2_with fail
  go_ret
  exact ⟨by simp, H3.out⟩
set_option maxHeartbeats 8000000 in
set_option maxRecDepth 100000 in
theorem does_2 {w0 w : World} {p q : Nat} {U : List Nat} {D : Di} {a : Ac} (h : Dp w0 w p q U D D) (ha : ShortA w0 a) (hk : a.c.toNat % 9 = 2) :
    Calls Try.prog 13 #[PtD p, PtD q, .agg #[.int .u8 (a.c.toNat : Int), .string a.s, .int .i64 a.x, .slice a.A a.n a.cap, .int .i64 a.a, .int .i64 a.b]] w (DoesP w0 w p q U) := by
  obtain ⟨c, s, x, A, n, cap, ma, mb⟩ := a
  have hbox := Box9.of h ⟨c, s, x, A, n, cap, ma, mb⟩
  obtain ⟨Y, hYA, hYn, hYc⟩ := ha.l.y
  have HA := Lib.hid (show s.data.toList.length ≤ 40 ∧ I64 ma ∧ I64 mb ∧ n ≤ 12 ∧ IntsAt w0 A Y ∧ n = Y.length ∧ (A = none → cap = 0) from ⟨by rw [str_toList]; exact ha.s, ha.m1, ha.m2, ha.n, hYA, hYn, hYc⟩)
  have hbn := c.toNat_lt
  dsimp only at hbox hk ⊢
  obtain ⟨m, hm⟩ : ∃ m, m = c.toNat := ⟨_, rfl⟩
  rw [← hm] at hbox hk hbn ⊢
  have hkI : (m : Int) % 9 = 2 := by omega
  clear h ha hYA hYn hYc hm hk
  unfold DoesP
  have c0 := hbox.c0
  have HB := Lib.hid hbox
  clear hbox
  go_enter Try.func13, Try.ntmps13
  go_upto_region 1 with fail
  generalize w.alloc (.cells #[.int .u8 (m : Int), .string s, .int .i64 x, .slice A n cap, .int .i64 ma, .int .i64 mb] 33) = w1 at c0 HB ⊢
  obtain ⟨B, hB⟩ : ∃ B, B = w.heap.size := ⟨_, rfl⟩
  rw [← hB] at c0 HB ⊢
  clear hB
  obtain ⟨N, ex, nb, nis, hres⟩ := resE_is (findW D.W D.O s.data.toList)
  have c1 := HB.out.c1
  have K1 := Lib.hid (HB.out.h.findP s HA.out.1 hres)
  have HR := Lib.hid hres
  clear hres
  go_wp2_with fail
  refine (K1.out).mono ?_
  rintro e w2 ⟨rfl, h2, m2⟩
  obtain ⟨n0, n1, n2⟩ := ent_new w2 N ex nb
  have b3 := (HB.out.far m2).far ((Mod.refl [] w2).alloc (.cells #[.string N, .int .i64 ex, .bool nb] 49))
  have d1 := b3.c1
  have K2 := Lib.hid (b3.h.findQ s HA.out.1 HR.out)
  have H3 := Lib.hid b3
  clear h2 m2 b3 K1 HB c1
  go_wp2_with fail
  refine (K2.out).mono ?_
  rintro e w4 ⟨rfl, h4, m4⟩
  have a0 := (m4.alloc (.cells #[.string N, .int .i64 ex, .bool nb] 49)).cell (by simp) n0
  have a1 := (m4.alloc (.cells #[.string N, .int .i64 ex, .bool nb] 49)).cell (by simp) n1
  have a2 := (m4.alloc (.cells #[.string N, .int .i64 ex, .bool nb] 49)).cell (by simp) n2
  obtain ⟨e0, e1, e2⟩ := ent_new w4 N ex nb
  have b5 := (H3.out.far m4).far ((Mod.refl [] w4).alloc (.cells #[.string N, .int .i64 ex, .bool nb] 49))
  have H5 := Lib.hid (does_end b5.h b5.m1 (Keep.of (Mod.refl [] _)))
  clear h4 m4 b5 K2 n0 n1 n2 H3
  go_wp2_with fail
  go_ret
  exact ⟨by simp, H5.out⟩
set_option maxHeartbeats 8000000 in
set_option maxRecDepth 100000 in
theorem does_3 {w0 w : World} {p q : Nat} {U : List Nat} {D : Di} {a : Ac} (h : Dp w0 w p q U D D) (ha : ShortA w0 a) (hk : a.c.toNat % 9 = 3) :
    Calls Try.prog 13 #[PtD p, PtD q, .agg #[.int .u8 (a.c.toNat : Int), .string a.s, .int .i64 a.x, .slice a.A a.n a.cap, .int .i64 a.a, .int .i64 a.b]] w (DoesP w0 w p q U) := by
  obtain ⟨c, s, x, A, n, cap, ma, mb⟩ := a
  have hbox := Box9.of h ⟨c, s, x, A, n, cap, ma, mb⟩
  obtain ⟨Y, hYA, hYn, hYc⟩ := ha.l.y
  have HA := Lib.hid (show s.data.toList.length ≤ 40 ∧ I64 ma ∧ I64 mb ∧ n ≤ 12 ∧ IntsAt w0 A Y ∧ n = Y.length ∧ (A = none → cap = 0) from ⟨by rw [str_toList]; exact ha.s, ha.m1, ha.m2, ha.n, hYA, hYn, hYc⟩)
  have hbn := c.toNat_lt
  dsimp only at hbox hk ⊢
  obtain ⟨m, hm⟩ : ∃ m, m = c.toNat := ⟨_, rfl⟩
  rw [← hm] at hbox hk hbn ⊢
  have hkI : (m : Int) % 9 = 3 := by omega
  clear h ha hYA hYn hYc hm hk
  unfold DoesP
  have c0 := hbox.c0
  have HB := Lib.hid hbox
  clear hbox
  go_enter Try.func13, Try.ntmps13
  go_upto_region 1 with fail
  generalize w.alloc (.cells #[.int .u8 (m : Int), .string s, .int .i64 x, .slice A n cap, .int .i64 ma, .int .i64 mb] 33) = w1 at c0 HB ⊢
  obtain ⟨B, hB⟩ : ∃ B, B = w.heap.size := ⟨_, rfl⟩
  rw [← hB] at c0 HB ⊢
  clear hB
  obtain ⟨N, ex, nb, nis, hres⟩ := resE_is (inW D.W x s.data.toList)
  have c1 := HB.out.c1
  have c2 := HB.out.c2
  have K1 := Lib.hid (HB.out.h.innP x s HA.out.1 hres)
  have HR := Lib.hid hres
  clear hres
  go_wp2_with fail
  refine (K1.out).mono ?_
  rintro e w2 ⟨rfl, h2, m2⟩
  obtain ⟨n0, n1, n2⟩ := ent_new w2 N ex nb
  have b3 := (HB.out.far m2).far ((Mod.refl [] w2).alloc (.cells #[.string N, .int .i64 ex, .bool nb] 49))
  have d1 := b3.c1
  have d2 := b3.c2
  have K2 := Lib.hid (b3.h.innQ x s HA.out.1 HR.out)
  have H3 := Lib.hid b3
  clear h2 m2 b3 K1 HB c1 c2
  go_wp2_with fail
  refine (K2.out).mono ?_
  rintro e w4 ⟨rfl, h4, m4⟩
  have a0 := (m4.alloc (.cells #[.string N, .int .i64 ex, .bool nb] 49)).cell (by simp) n0
  have a1 := (m4.alloc (.cells #[.string N, .int .i64 ex, .bool nb] 49)).cell (by simp) n1
  have a2 := (m4.alloc (.cells #[.string N, .int .i64 ex, .bool nb] 49)).cell (by simp) n2
  obtain ⟨e0, e1, e2⟩ := ent_new w4 N ex nb
  have b5 := (H3.out.far m4).far ((Mod.refl [] w4).alloc (.cells #[.string N, .int .i64 ex, .bool nb] 49))
  have H5 := Lib.hid (does_end b5.h b5.m1 (Keep.of (Mod.refl [] _)))
  clear h4 m4 b5 K2 n0 n1 n2 H3
  go_wp2_with fail
  go_ret
  exact ⟨by simp, H5.out⟩
set_option maxHeartbeats 8000000 in
set_option maxRecDepth 100000 in
theorem does_4 {w0 w : World} {p q : Nat} {U : List Nat} {D : Di} {a : Ac} (h : Dp w0 w p q U D D) (ha : ShortA w0 a) (hk : a.c.toNat % 9 = 4) :
    Calls Try.prog 13 #[PtD p, PtD q, .agg #[.int .u8 (a.c.toNat : Int), .string a.s, .int .i64 a.x, .slice a.A a.n a.cap, .int .i64 a.a, .int .i64 a.b]] w (DoesP w0 w p q U) := by
  obtain ⟨c, s, x, A, n, cap, ma, mb⟩ := a
  have hbox := Box9.of h ⟨c, s, x, A, n, cap, ma, mb⟩
  obtain ⟨Y, hYA, hYn, hYc⟩ := ha.l.y
  have HA := Lib.hid (show s.data.toList.length ≤ 40 ∧ I64 ma ∧ I64 mb ∧ n ≤ 12 ∧ IntsAt w0 A Y ∧ n = Y.length ∧ (A = none → cap = 0) from ⟨by rw [str_toList]; exact ha.s, ha.m1, ha.m2, ha.n, hYA, hYn, hYc⟩)
  have hbn := c.toNat_lt
  dsimp only at hbox hk ⊢
  obtain ⟨m, hm⟩ : ∃ m, m = c.toNat := ⟨_, rfl⟩
  rw [← hm] at hbox hk hbn ⊢
  have hkI : (m : Int) % 9 = 4 := by omega
  clear h ha hYA hYn hYc hm hk
  unfold DoesP
  have c0 := hbox.c0
  have HB := Lib.hid hbox
  clear hbox
  go_enter Try.func13, Try.ntmps13
  go_upto_region 1 with fail
  generalize w.alloc (.cells #[.int .u8 (m : Int), .string s, .int .i64 x, .slice A n cap, .int .i64 ma, .int .i64 mb] 33) = w1 at c0 HB ⊢
  obtain ⟨B, hB⟩ : ∃ B, B = w.heap.size := ⟨_, rfl⟩
  rw [← hB] at c0 HB ⊢
  clear hB
  have b2 := HB.out.far (Mod.refl [] w1).drew
  have d2 := b2.c2
  obtain ⟨X, hX⟩ : ∃ X, X = namesW D.W x := ⟨_, rfl⟩
  obtain ⟨nx, hnx⟩ : ∃ nx, nx = X.length := ⟨_, rfl⟩
  have hnx9 : nx ≤ 1000000000 := by rw [hnx, hX]; have := namesW_len D.W x; have := b2.h.ordle; omega
  have K1 := Lib.hid (b2.h.namesP x hX hnx)
  have HX := Lib.hid (And.intro hX hnx)
  have HM := Lib.hid b2
  clear hX hnx b2 HB
  go_upto_region 15 with fail
  go_region_held3 (fun V => V.cell? ⟨B, 2, none⟩ = some (.int .i64 x)) (first | exact d2 | exact e2 | exact f2 | exact g2 | fail) (first
    | ((with_reducible refine (K1.out).mono ?_); rintro e w2 ⟨A2, cp2, rfl, t2, h2, m2⟩; have e2 := m2.cell (by simp) d2; have K2 := Lib.hid (h2.namesQ x HX.out.1 HX.out.2); have H2 := Lib.hid (And.intro t2 (HM.out.far m2)); clear h2 m2 t2 K1 HM)
    | ((with_reducible refine (K2.out).mono ?_); rintro e w3 ⟨A3, cp3, rfl, t3, h3, m3⟩; have f2 := m3.cell (by simp) e2; have K3 := Lib.hid (texts_same (c := cp2) (d := cp3) (H2.out.1.far m3) t3 HX.out.2 HX.out.2 hnx9); have H3 := Lib.hid (H2.out.2.far m3); clear h3 m3 t3 K2 H2)
    | ((with_reducible refine (K3.out).mono ?_); rintro e w4 ⟨rfl, m4⟩; have g2 := m4.cell (by simp) f2; have b5 := H3.out.far m4; have H5 := Lib.hid (does_end b5.h b5.m1 (Keep.of (Mod.refl [] _))); clear b5 m4 K3 H3)
    | fail)
  go_wp2_with fail
  go_ret
  exact ⟨by simp, H5.out⟩
set_option maxHeartbeats 8000000 in
set_option maxRecDepth 100000 in
theorem does_5 {w0 w : World} {p q : Nat} {U : List Nat} {D : Di} {a : Ac} (h : Dp w0 w p q U D D) (ha : ShortA w0 a) (hk : a.c.toNat % 9 = 5) :
    Calls Try.prog 13 #[PtD p, PtD q, .agg #[.int .u8 (a.c.toNat : Int), .string a.s, .int .i64 a.x, .slice a.A a.n a.cap, .int .i64 a.a, .int .i64 a.b]] w (DoesP w0 w p q U) := by
  obtain ⟨c, s, x, A, n, cap, ma, mb⟩ := a
  have hbox := Box9.of h ⟨c, s, x, A, n, cap, ma, mb⟩
  obtain ⟨Y, hYA, hYn, hYc⟩ := ha.l.y
  have HA := Lib.hid (show s.data.toList.length ≤ 40 ∧ I64 ma ∧ I64 mb ∧ n ≤ 12 ∧ IntsAt w0 A Y ∧ n = Y.length ∧ (A = none → cap = 0) from ⟨by rw [str_toList]; exact ha.s, ha.m1, ha.m2, ha.n, hYA, hYn, hYc⟩)
  have hbn := c.toNat_lt
  dsimp only at hbox hk ⊢
  obtain ⟨m, hm⟩ : ∃ m, m = c.toNat := ⟨_, rfl⟩
  rw [← hm] at hbox hk hbn ⊢
  have hkI : (m : Int) % 9 = 5 := by omega
  clear h ha hYA hYn hYc hm hk
  unfold DoesP
  have c0 := hbox.c0
  have HB := Lib.hid hbox
  clear hbox
  go_enter Try.func13, Try.ntmps13
  go_upto_region 1 with fail
  generalize w.alloc (.cells #[.int .u8 (m : Int), .string s, .int .i64 x, .slice A n cap, .int .i64 ma, .int .i64 mb] 33) = w1 at c0 HB ⊢
  obtain ⟨B, hB⟩ : ∃ B, B = w.heap.size := ⟨_, rfl⟩
  rw [← hB] at c0 HB ⊢
  clear hB
  have k1 := HB.out.h.lstP
  obtain ⟨r, hr⟩ : ∃ r, r = lstR D := ⟨_, rfl⟩
  rw [← hr] at k1
  have K1 := Lib.hid k1
  have HR := Lib.hid hr
  clear k1 hr
  go_wp2_with fail
  refine (K1.out).mono ?_
  rintro e w2 ⟨rfl, h2, k2⟩
  have kk := h2.lstQ
  rw [← HR.out] at kk
  have K2 := Lib.hid kk
  have H2 := Lib.hid k2
  clear h2 k2 kk K1
  go_wp2_with fail
  refine (K2.out).mono ?_
  rintro e w3 ⟨rfl, h3, k3⟩
  have H3 := Lib.hid (does_end h3 HB.out.m1 (H2.out.trans k3))
  clear h3 k3 K2
  go_wp2_with fail
  go_ret
  exact ⟨by simp, H3.out⟩
set_option maxHeartbeats 8000000 in
set_option maxRecDepth 100000 in
theorem does_6 {w0 w : World} {p q : Nat} {U : List Nat} {D : Di} {a : Ac} (h : Dp w0 w p q U D D) (ha : ShortA w0 a) (hk : a.c.toNat % 9 = 6) :
    Calls Try.prog 13 #[PtD p, PtD q, .agg #[.int .u8 (a.c.toNat : Int), .string a.s, .int .i64 a.x, .slice a.A a.n a.cap, .int .i64 a.a, .int .i64 a.b]] w (DoesP w0 w p q U) := by
  obtain ⟨c, s, x, A, n, cap, ma, mb⟩ := a
  have hbox := Box9.of h ⟨c, s, x, A, n, cap, ma, mb⟩
  obtain ⟨Y, hYA, hYn, hYc⟩ := ha.l.y
  have HA := Lib.hid (show s.data.toList.length ≤ 40 ∧ I64 ma ∧ I64 mb ∧ n ≤ 12 ∧ IntsAt w0 A Y ∧ n = Y.length ∧ (A = none → cap = 0) from ⟨by rw [str_toList]; exact ha.s, ha.m1, ha.m2, ha.n, hYA, hYn, hYc⟩)
  have hbn := c.toNat_lt
  dsimp only at hbox hk ⊢
  obtain ⟨m, hm⟩ : ∃ m, m = c.toNat := ⟨_, rfl⟩
  rw [← hm] at hbox hk hbn ⊢
  have hkI : (m : Int) % 9 = 6 := by omega
  clear h ha hYA hYn hYc hm hk
  unfold DoesP
  have c0 := hbox.c0
  have HB := Lib.hid hbox
  clear hbox
  go_enter Try.func13, Try.ntmps13
  go_upto_region 1 with fail
  generalize w.alloc (.cells #[.int .u8 (m : Int), .string s, .int .i64 x, .slice A n cap, .int .i64 ma, .int .i64 mb] 33) = w1 at c0 HB ⊢
  obtain ⟨B, hB⟩ : ∃ B, B = w.heap.size := ⟨_, rfl⟩
  rw [← hB] at c0 HB ⊢
  clear hB
  have b2 := HB.out.far (Mod.refl [] w1).drew
  have d3 := b2.c3
  have k1 := b2.h.setP HA.out.2.2.2.2.1 HA.out.2.2.2.2.2.1 HA.out.2.2.2.2.2.2 HA.out.2.2.2.1
  obtain ⟨r, hr⟩ : ∃ r, r = ordR D Y := ⟨_, rfl⟩
  rw [← hr] at k1
  have K1 := Lib.hid k1
  have HR := Lib.hid hr
  have M1 := Lib.hid b2.m1
  clear k1 hr b2
  go_upto_region 21 with fail
  go_region_held3 (fun V => V.cell? ⟨B, 3, none⟩ = some (.slice A n cap)) (first | exact d3 | exact e3 | exact f3 | fail) (first
    | ((with_reducible refine (K1.out).mono ?_); rintro e w2 ⟨rfl, h2, k2⟩; have e3 := k2.cell (x := ⟨B, 3, none⟩) (by simp) d3; have kk := h2.setQ HA.out.2.2.2.2.1 HA.out.2.2.2.2.2.1 HA.out.2.2.2.2.2.2 HA.out.2.2.2.1; rw [← HR.out] at kk; have K2 := Lib.hid kk; have H2 := Lib.hid k2; clear h2 k2 kk K1)
    | ((with_reducible refine (K2.out).mono ?_); rintro e w3 ⟨rfl, h3, k3⟩; have f3 := k3.cell (x := ⟨B, 3, none⟩) (by simp) e3; have H3 := Lib.hid (does_end h3 M1.out (H2.out.trans k3)); clear h3 k3 K2)
    | fail)
  go_wp2_with fail
  go_ret
  exact ⟨by simp, H3.out⟩
set_option maxHeartbeats 8000000 in
set_option maxRecDepth 100000 in
theorem does_7 {w0 w : World} {p q : Nat} {U : List Nat} {D : Di} {a : Ac} (h : Dp w0 w p q U D D) (ha : ShortA w0 a) (hk : a.c.toNat % 9 = 7) :
    Calls Try.prog 13 #[PtD p, PtD q, .agg #[.int .u8 (a.c.toNat : Int), .string a.s, .int .i64 a.x, .slice a.A a.n a.cap, .int .i64 a.a, .int .i64 a.b]] w (DoesP w0 w p q U) := by
  obtain ⟨c, s, x, A, n, cap, ma, mb⟩ := a
  have hbox := Box9.of h ⟨c, s, x, A, n, cap, ma, mb⟩
  obtain ⟨Y, hYA, hYn, hYc⟩ := ha.l.y
  have HA := Lib.hid (show s.data.toList.length ≤ 40 ∧ I64 ma ∧ I64 mb ∧ n ≤ 12 ∧ IntsAt w0 A Y ∧ n = Y.length ∧ (A = none → cap = 0) from ⟨by rw [str_toList]; exact ha.s, ha.m1, ha.m2, ha.n, hYA, hYn, hYc⟩)
  have hbn := c.toNat_lt
  dsimp only at hbox hk ⊢
  obtain ⟨m, hm⟩ : ∃ m, m = c.toNat := ⟨_, rfl⟩
  rw [← hm] at hbox hk hbn ⊢
  have hkI : (m : Int) % 9 = 7 := by omega
  clear h ha hYA hYn hYc hm hk
  unfold DoesP
  have c0 := hbox.c0
  have HB := Lib.hid hbox
  clear hbox
  go_enter Try.func13, Try.ntmps13
  go_upto_region 1 with fail
  generalize w.alloc (.cells #[.int .u8 (m : Int), .string s, .int .i64 x, .slice A n cap, .int .i64 ma, .int .i64 mb] 33) = w1 at c0 HB ⊢
  obtain ⟨B, hB⟩ : ∃ B, B = w.heap.size := ⟨_, rfl⟩
  rw [← hB] at c0 HB ⊢
  clear hB
  have b2 := HB.out.far (Mod.refl [] w1).drew
  have d2 := b2.c2
  have k1 := b2.h.curP x
  obtain ⟨r, hr⟩ : ∃ r, r = curR D x := ⟨_, rfl⟩
  rw [← hr] at k1
  have K1 := Lib.hid k1
  have HR := Lib.hid hr
  have M1 := Lib.hid b2.m1
  clear k1 hr b2
  go_upto_region 23 with fail
  go_region_held3 (fun V => V.cell? ⟨B, 2, none⟩ = some (.int .i64 x)) (first | exact d2 | exact e2 | exact f2 | fail) (first
    | ((with_reducible refine (K1.out).mono ?_); rintro e w2 ⟨rfl, h2, k2⟩; have e2 := k2.cell (x := ⟨B, 2, none⟩) (by simp) d2; have kk := h2.curQ' x; rw [← HR.out] at kk; have K2 := Lib.hid kk; have H2 := Lib.hid k2; clear h2 k2 kk K1)
    | ((with_reducible refine (K2.out).mono ?_); rintro e w3 ⟨rfl, h3, k3⟩; have f2 := k3.cell (x := ⟨B, 2, none⟩) (by simp) e2; have H3 := Lib.hid (does_end h3 M1.out (H2.out.trans k3)); clear h3 k3 K2)
    | fail)
  go_wp2_with fail
  go_ret
  exact ⟨by simp, H3.out⟩
set_option maxHeartbeats 8000000 in
set_option maxRecDepth 100000 in
theorem does_8 {w0 w : World} {p q : Nat} {U : List Nat} {D : Di} {a : Ac} (h : Dp w0 w p q U D D) (ha : ShortA w0 a) (hk : a.c.toNat % 9 = 8) :
    Calls Try.prog 13 #[PtD p, PtD q, .agg #[.int .u8 (a.c.toNat : Int), .string a.s, .int .i64 a.x, .slice a.A a.n a.cap, .int .i64 a.a, .int .i64 a.b]] w (DoesP w0 w p q U) := by
  obtain ⟨c, s, x, A, n, cap, ma, mb⟩ := a
  have hbox := Box9.of h ⟨c, s, x, A, n, cap, ma, mb⟩
  obtain ⟨Y, hYA, hYn, hYc⟩ := ha.l.y
  have HA := Lib.hid (show s.data.toList.length ≤ 40 ∧ I64 ma ∧ I64 mb ∧ n ≤ 12 ∧ IntsAt w0 A Y ∧ n = Y.length ∧ (A = none → cap = 0) from ⟨by rw [str_toList]; exact ha.s, ha.m1, ha.m2, ha.n, hYA, hYn, hYc⟩)
  have hbn := c.toNat_lt
  dsimp only at hbox hk ⊢
  obtain ⟨m, hm⟩ : ∃ m, m = c.toNat := ⟨_, rfl⟩
  rw [← hm] at hbox hk hbn ⊢
  have hkI : (m : Int) % 9 = 8 := by omega
  clear h ha hYA hYn hYc hm hk
  unfold DoesP
  have c0 := hbox.c0
  have HB := Lib.hid hbox
  clear hbox
  go_enter Try.func13, Try.ntmps13
  go_upto_region 1 with fail
  generalize w.alloc (.cells #[.int .u8 (m : Int), .string s, .int .i64 x, .slice A n cap, .int .i64 ma, .int .i64 mb] 33) = w1 at c0 HB ⊢
  obtain ⟨B, hB⟩ : ∃ B, B = w.heap.size := ⟨_, rfl⟩
  rw [← hB] at c0 HB ⊢
  clear hB
  have b2 := HB.out.far (Mod.refl [] w1).drew
  have d4 := b2.c4
  have d5 := b2.c5
  have k1 := b2.h.backP ma mb
  obtain ⟨r, hr⟩ : ∃ r, r = backR D ma mb := ⟨_, rfl⟩
  rw [← hr] at k1
  have K1 := Lib.hid k1
  have HR := Lib.hid hr
  have M1 := Lib.hid b2.m1
  clear k1 hr b2
  go_upto_region 24 with fail
  go_region_held3 (fun V => V.cell? ⟨B, 4, none⟩ = some (.int .i64 ma) ∧ V.cell? ⟨B, 5, none⟩ = some (.int .i64 mb)) (first | exact ⟨d4, d5⟩ | exact ⟨e4, e5⟩ | exact ⟨f4, f5⟩ | fail) (first
    | ((with_reducible refine (K1.out).mono ?_); rintro e w2 ⟨rfl, h2, k2⟩; have e4 := k2.cell (x := ⟨B, 4, none⟩) (by simp) d4; have e5 := k2.cell (x := ⟨B, 5, none⟩) (by simp) d5; have kk := h2.backQ ma mb HA.out.2.1 HA.out.2.2.1; rw [← HR.out] at kk; have K2 := Lib.hid kk; have H2 := Lib.hid k2; clear h2 k2 kk K1)
    | ((with_reducible refine (K2.out).mono ?_); rintro e w3 ⟨rfl, h3, k3⟩; have f4 := k3.cell (x := ⟨B, 4, none⟩) (by simp) e4; have f5 := k3.cell (x := ⟨B, 5, none⟩) (by simp) e5; have H3 := Lib.hid (does_end h3 M1.out (H2.out.trans k3)); clear h3 k3 K2)
    | fail)
  go_wp2_with fail
  go_ret
  exact ⟨by simp, H3.out⟩
end Go.Proofs.Ytldnpppbnakcoaa
