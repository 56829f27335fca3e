/- Layer 6: the document's stack: all operations. Condition: block q is such a stack (Rf), apart from block p. -/
import Derived.Test.YtjmbmhjhnoiclaaS6L
namespace Go.Proofs.Ytjmbmhjhnoiclaa
open Go.RowKit
set_option linter.unusedVariables false

/-- The document's shape: t cells are taken, those at ps are put. -/
def ShR (t : Int) (ps : List Nat) (w : World) (e : Ending) (w' : World) : Prop :=
  ∃ B c, e = .returned (.tuple #[.int .i64 t, .slice B ps.length c]) ∧ Sl w' B (ps.map fun (i : Nat) => (i : Int)) ∧ (∀ x, B = some x → w.heap.size ≤ x.block) ∧ Mod [] w w'
theorem sl_row (w : World) (l : List Int) (t : TypeId) : Sl (w.alloc (.cells (cellsI l).toArray t)) (some ⟨w.heap.size, 0, none⟩) l := fun j hj => by
  refine ⟨w.heap.size, 0, rfl, ?_⟩
  have hb : (w.alloc (.cells (cellsI l).toArray t)).heap[w.heap.size]? = some (.cells (cellsI l).toArray t) := (MapKept.heap_alloc w _).1
  simp only [World.cell?, hb]
  simp [cellsI, hj]
theorem shr_none (t : Int) (w : World) : ShR t [] w (.returned (.tuple #[.int .i64 t, .slice none 0 0])) w := ⟨none, 0, rfl, Sl.nil _ _, by simp, Mod.refl _ _⟩
theorem shr_row (t : Int) (ps : List Nat) (w : World) (l : List Int) (hl : l = ps.map fun (i : Nat) => (i : Int)) (ty : TypeId) : ShR t ps w (.returned (.tuple #[.int .i64 t, .slice (some ⟨w.heap.size, 0, none⟩) ps.length ps.length])) (w.alloc (.cells (cellsI l).toArray ty)) := by
  subst hl
  exact ⟨_, _, rfl, sl_row _ _ _, fun x hx => by injection hx with hx; subst hx; exact Nat.le_refl _, (Mod.refl _ _).alloc _⟩
theorem shape_28 (w : World) : Calls Try.prog 37 #[.int .i64 28] w (ShR 1 [0, 0] w) := by
  go_enter Try.func37, Try.ntmps37
  go_wp2
  go_ret2
  exact shr_row 1 [0, 0] w [(0 : Int), (0 : Int)] rfl _
theorem shape_29 (w : World) : Calls Try.prog 37 #[.int .i64 29] w (ShR 1 [] w) := by
  go_enter Try.func37, Try.ntmps37
  go_wp2
  go_ret2
  exact shr_none 1 w
theorem shape_30 (w : World) : Calls Try.prog 37 #[.int .i64 30] w (ShR 2 [1, 0] w) := by
  go_enter Try.func37, Try.ntmps37
  go_wp2
  go_ret2
  exact shr_row 2 [1, 0] w [(1 : Int), (0 : Int)] rfl _
theorem shape_31 (w : World) : Calls Try.prog 37 #[.int .i64 31] w (ShR 2 [0, 1, 0] w) := by
  go_enter Try.func37, Try.ntmps37
  go_wp2
  go_ret2
  exact shr_row 2 [0, 1, 0] w [(0 : Int), (1 : Int), (0 : Int)] rfl _
theorem shape_32 (w : World) : Calls Try.prog 37 #[.int .i64 32] w (ShR 3 [1, 2, 0] w) := by
  go_enter Try.func37, Try.ntmps37
  go_wp2
  go_ret2
  exact shr_row 3 [1, 2, 0] w [(1 : Int), (2 : Int), (0 : Int)] rfl _
theorem shape_33 (w : World) : Calls Try.prog 37 #[.int .i64 33] w (ShR 2 [1] w) := by
  go_enter Try.func37, Try.ntmps37
  go_wp2
  go_ret2
  exact shr_row 2 [1] w [(1 : Int)] rfl _
theorem shape_34 (w : World) : Calls Try.prog 37 #[.int .i64 34] w (ShR 2 [1, 0, 1] w) := by
  go_enter Try.func37, Try.ntmps37
  go_wp2
  go_ret2
  exact shr_row 2 [1, 0, 1] w [(1 : Int), (0 : Int), (1 : Int)] rfl _
theorem shape_36 (w : World) : Calls Try.prog 37 #[.int .i64 36] w (ShR 2 [0, 1, 0, 1] w) := by
  go_enter Try.func37, Try.ntmps37
  go_wp2
  go_ret2
  exact shr_row 2 [0, 1, 0, 1] w [(0 : Int), (1 : Int), (0 : Int), (1 : Int)] rfl _
theorem shape_37 (w : World) : Calls Try.prog 37 #[.int .i64 37] w (ShR 2 [] w) := by
  go_enter Try.func37, Try.ntmps37
  go_wp2
  go_ret2
  exact shr_none 2 w
theorem shape_38 (w : World) : Calls Try.prog 37 #[.int .i64 38] w (ShR 4 [2, 3, 0, 1] w) := by
  go_enter Try.func37, Try.ntmps37
  go_wp2
  go_ret2
  exact shr_row 4 [2, 3, 0, 1] w [(2 : Int), (3 : Int), (0 : Int), (1 : Int)] rfl _
theorem shape_39 (w : World) : Calls Try.prog 37 #[.int .i64 39] w (ShR 4 [0, 1, 2, 3, 0, 1] w) := by
  go_enter Try.func37, Try.ntmps37
  go_wp2
  go_ret2
  exact shr_row 4 [0, 1, 2, 3, 0, 1] w [(0 : Int), (1 : Int), (2 : Int), (3 : Int), (0 : Int), (1 : Int)] rfl _
theorem shape_no (op : Int) (h : ¬ (28 ≤ op ∧ op ≤ 39) ∨ op = 35) (w : World) : Calls Try.prog 37 #[.int .i64 op] w (ShR (-1) [] w) := by
  have h28 : (op == 28) = false := by simp; omega
  have h29 : (op == 29) = false := by simp; omega
  have h30 : (op == 30) = false := by simp; omega
  have h31 : (op == 31) = false := by simp; omega
  have h32 : (op == 32) = false := by simp; omega
  have h33 : (op == 33) = false := by simp; omega
  have h34 : (op == 34) = false := by simp; omega
  have h36 : (op == 36) = false := by simp; omega
  have h37 : (op == 37) = false := by simp; omega
  have h38 : (op == 38) = false := by simp; omega
  have h39 : (op == 39) = false := by simp; omega
  clear h
  go_enter Try.func37, Try.ntmps37
  go_wp2
  go_ret2
  exact shr_none (-1) w
theorem rfar_calls {w : World} {p q : Nat} {X : List Int} {A : Option Addr} {cap : Nat} (h : Rf w p q X A cap) (hp : p < w.heap.size) :
    (Calls Try.prog 36 #[Pt q, .int .i64 40] w (RTurns p q w (.int .i64 (pickL X).1) (pickL X).2)) ∧ Calls Try.prog 36 #[Pt q, .int .i64 41] w (RTurns p q w (.int .i64 (rollL X).1) (rollL X).2) := by
  rcases chosen_cases X with ⟨e, h0⟩ | ⟨A0, x, B, rfl, e⟩
  · have hc : ∀ op, Calls Try.prog 36 #[Pt q, .int .i64 op] w fun e w' => e = .returned (.int .i64 (-4)) ∧ w = w' := fun op => by
      rcases h0 with rfl | ⟨R, u, rfl, hu⟩
      · exact rfar_none h op
      · exact rfar_no h hu op
    unfold pickL rollL
    rw [e]
    exact ⟨(hc 40).mono fun e w' ⟨he, hw⟩ => ⟨he, ⟨_, _, hw ▸ h⟩, hw ▸ Mod.refl _ _⟩, (hc 41).mono fun e w' ⟨he, hw⟩ => ⟨he, ⟨_, _, hw ▸ h⟩, hw ▸ Mod.refl _ _⟩⟩
  · obtain ⟨bb, off, a, b, m, rfl, P⟩ := h.farP
    unfold pickL rollL
    rw [e]
    exact ⟨rfar_40 P hp, rfar_41 P hp⟩
set_option maxHeartbeats 4000000 in
set_option maxRecDepth 10000 in
theorem rdo_gen {w : World} {p q : Nat} {X : List Int} {A : Option Addr} {cap : Nat} (h : Rf w p q X A cap) (hp : p < w.heap.size) (op : Int) (t : Nat) (ps : List Nat) (ht : t ≤ 4) (h6 : ps.length ≤ 6) (hps : ∀ i ∈ ps, i < t)
    (h35 : op ≠ 35) (h40 : op ≠ 40) (h41 : op ≠ 41) (h42 : op ≠ 42) (hsh : ∀ W, Calls Try.prog 37 #[.int .i64 op] W (ShR t ps W)) :
    Calls Try.prog 30 #[Pt q, .int .i64 op] w (RTurns p q w (.int .i64 (replL t ps X).1) (replL t ps X).2) := by
  have b35 : (op == 35) = false := by simpa using h35
  have b40 : (op == 40) = false := by simpa using h40
  have b41 : (op == 41) = false := by simpa using h41
  have b42 : (op == 42) = false := by simpa using h42
  obtain ⟨n, hn⟩ : ∃ n, n = ps.length := ⟨_, rfl⟩
  obtain ⟨d, hd⟩ : ∃ d, d = X.length := ⟨_, rfl⟩
  have hd128 := h.n
  have H := Lib.hid h
  have HSH := Lib.hid hsh
  have HN := Lib.hid hn
  have HD := Lib.hid hd
  have HP := Lib.hid hps
  have HH := Lib.hid hp
  rw [← hd] at hd128
  rw [← hn] at h6
  clear h hsh hps h35 h40 h41 h42 hp
  unfold replL
  rw [← hd, ← hn]
  by_cases hb : d < t
  · rw [if_pos hb]
    clear hn hd
    go_enter Try.func30, Try.ntmps30
    go_wp2_with fail
    refine (HSH.out _).mono ?_
    rintro e w1 ⟨Bl, cl, rfl, hs, hbl, hm⟩
    have h1 := H.out.far hm
    have hc1 := h1.c
    rw [← HD.out] at hc1
    have HF := Lib.hid (show (∃ A cap, Rf w1 p q X A cap) ∧ Mod [q] w w1 from ⟨⟨_, _, h1⟩, hm.up (by simp)⟩)
    clear hs hbl hm h1
    go_wp2
    go_ret
    exact ⟨rfl, HF.out⟩
  rw [if_neg hb]
  by_cases hc : 128 < d - t + n
  · rw [if_pos hc]
    have hc2 : (128 : Int) < (d : Int) - (t : Int) + (n : Int) := by omega
    clear hn hd hc
    go_enter Try.func30, Try.ntmps30
    go_wp2_with fail
    refine (HSH.out _).mono ?_
    rintro e w1 ⟨Bl, cl, rfl, hs, hbl, hm⟩
    rw [← HN.out]
    have h1 := H.out.far hm
    have hc1 := h1.c
    rw [← HD.out] at hc1
    have HF := Lib.hid (show (∃ A cap, Rf w1 p q X A cap) ∧ Mod [q] w w1 from ⟨⟨_, _, h1⟩, hm.up (by simp)⟩)
    clear hs hbl hm h1
    go_wp2
    go_ret
    exact ⟨rfl, HF.out⟩
  rw [if_neg hc]
  have hc2 : ¬ (128 : Int) < (d : Int) - (t : Int) + (n : Int) := by omega
  have hdt : t ≤ d := by omega
  obtain ⟨T, hTe⟩ : ∃ T, T = X.drop (d - t) := ⟨_, rfl⟩
  obtain ⟨Y, hYe⟩ : ∃ Y, Y = X.take (d - t) := ⟨_, rfl⟩
  obtain ⟨f, hf⟩ : ∃ f : Nat → Int, f = fun i => T.getD i 0 := ⟨_, rfl⟩
  rw [← hTe, ← hYe, ← hf]
  have HT := Lib.hid (And.intro hTe (And.intro hYe hf))
  have HTl := Lib.hid (show T.length = t ∧ Y.length = d - t by rw [hTe, hYe]; simp; omega)
  have hcn : d - t + n ≤ 128 := by omega
  clear hn hd hc hTe hYe hf hb
  go_enter Try.func30, Try.ntmps30
  go_wp2_with fail
  refine (HSH.out _).mono ?_
  rintro e w1 ⟨Bl, cl, rfl, hs, hbl, hm⟩
  rw [← HN.out]
  have h1 := H.out.far hm
  have hc1 := h1.c
  rw [← HD.out] at hc1
  have hT := rtake_ok h1 (Nat.lt_of_lt_of_le HH.out hm.size) t (by rw [← HD.out]; exact hdt)
  unfold RTaken at hT
  rw [← HD.out, ← HT.out.1, ← HT.out.2.1] at hT
  have HTK := Lib.hid hT
  have HS1 := Lib.hid (And.intro hs (And.intro hbl hm))
  have hq1 := h1.lq
  have HQ := Lib.hid hq1
  have HQ0 := Lib.hid H.out.lq
  clear hs hbl hm h1 hT hq1
  go_wp2_with fail
  refine (HTK.out).mono ?_
  rintro e w2 ⟨b, c, rfl, ho, hbb, hr, hm2⟩
  have hbq : q ≠ b := by have := HQ.out; omega
  have hs2 : Sl w2 Bl (ps.map fun (i : Nat) => (i : Int)) := HS1.out.1.mod hm2 (fun x hx => by have := HS1.out.2.1 x hx; have := HQ0.out; simp; omega)
  have hm02 := (HS1.out.2.2.up (by simp)).trans hm2
  have HBQ := Lib.hid hbq
  have HBL := Lib.hid HS1.out.2.1
  clear HTK HS1 hbq hbb hm2 hc1
  go_wp2_with fail
  go_loopw [10] (fun i wr => ∃ k : Nat, k ≤ n ∧ i = .int .i64 (k : Int) ∧ (∃ A cap, Rf wr p q (Y ++ (ps.take k).map f) A cap) ∧ Ow wr b T c ∧ Sl wr Bl (ps.map fun (i : Nat) => (i : Int)) ∧ Mod [q] w wr) (fun i _ => n - (intOf i).toNat)
  case atStart => exact ⟨0, by omega, rfl, by simpa using hr, ho, hs2, hm02⟩
  case round =>
    clear ho hr hs2 hm02
    obtain ⟨k, hk, rfl, ⟨A2, cap2, hr⟩, ho, hs, hm⟩ := hrel
    by_cases hlt : k < n
    · have hkp : k < ps.length := by rw [← HN.out]; exact hlt
      obtain ⟨i, hie⟩ : ∃ i, i = ps[k] := ⟨_, rfl⟩
      have hit : i < t := by rw [hie]; exact HP.out _ (List.getElem_mem hkp)
      obtain ⟨b2, off2, hbl2, hcl⟩ := hs k (by simpa using hkp)
      have e1 : (ps.map fun (i : Nat) => (i : Int))[k]'(by simpa using hkp) = (i : Int) := by rw [List.getElem_map, hie]
      rw [e1] at hcl
      have hcx := ho.cell i (by rw [HTl.out.1]; exact hit)
      have hx : f i = T[i]'(by rw [HTl.out.1]; exact hit) := by rw [HT.out.2.2]; simp [HTl.out.1, hit]
      rw [← hx] at hcx
      have hIx : I64 (f i) := by rw [hx]; exact H.out.i _ (by have := HT.out.1; exact List.mem_of_mem_drop (i := d - t) (this ▸ List.getElem_mem _))
      obtain ⟨x, hxe⟩ : ∃ x, x = f i := ⟨_, rfl⟩
      rw [← hxe] at hcx hIx
      have hlen : (Y ++ (ps.take k).map f).length < 128 := by
        rw [List.length_append, HTl.out.2, List.length_map, List.length_take]; omega
      have HPU := Lib.hid (rpush_ok hr (Nat.lt_of_lt_of_le HH.out hm.size) x hIx hlen)
      have HE := Lib.hid (And.intro hie hxe)
      have HO := Lib.hid (And.intro ho (And.intro hs hm))
      have g1 : (i : Int) < (t : Int) := by omega
      subst hbl2
      have HB2 := Lib.hid (HBL.out _ rfl)
      clear hr ho hs hm hie hxe hx hIx hlen e1
      go_wp2_with fail
      refine (HPU.out).mono ?_
      rintro e w3 ⟨rfl, hr3, hm3⟩
      have HR3 := Lib.hid (And.intro hr3 hm3)
      clear hr3 hm3 HPU
      go_wp2_with fail
      go_roundw
      case rel =>
        refine ⟨k + 1, by omega, by go_num, ?_, HO.out.1.mod HR3.out.2 (by simpa [eq_comm] using HBQ.out), HO.out.2.1.mod HR3.out.2 (fun y hy => by injection hy with hy; subst hy; have h1 := HB2.out; have h2 := HQ0.out; simp at h1 ⊢; omega), HO.out.2.2.trans HR3.out.2⟩
        rw [map_take_snoc ps f k hkp, ← HE.out.1, ← HE.out.2, ← List.append_assoc]
        exact HR3.out.1
      case measure => simp [intOf]; omega
    · have hkn : k = n := by omega
      subst hkn
      have HF := Lib.hid (show (∃ A cap, Rf wr p q (Y ++ ps.map f) A cap) ∧ Mod [q] w wr from ⟨⟨_, _, by rw [HN.out, List.take_length] at hr; exact hr⟩, hm⟩)
      clear hr ho hs hm hk
      go_wp2
      go_ret
      exact ⟨rfl, HF.out⟩
theorem repl_top0 (R : List Int) : replL 1 [0] (R ++ [0]) = if 128 < R.length + 1 then (-3, R ++ [0]) else (0, R ++ [0]) := by
  unfold replL
  simp
set_option maxRecDepth 10000 in
theorem rdo_no {w : World} {p q : Nat} {X : List Int} {A : Option Addr} {cap : Nat} (h : Rf w p q X A cap) (op : Int) (ho : ¬ (28 ≤ op ∧ op ≤ 42)) :
    Calls Try.prog 30 #[Pt q, .int .i64 op] w (RTurns p q w (.int .i64 1) X) := by
  have HSH := Lib.hid (shape_no op (Or.inl (by omega)) w)
  have b35 : (op == 35) = false := by simp; omega
  have b40 : (op == 40) = false := by simp; omega
  have b41 : (op == 41) = false := by simp; omega
  have b42 : (op == 42) = false := by simp; omega
  have H := Lib.hid h
  clear h ho
  go_enter Try.func30, Try.ntmps30
  go_wp2_with fail
  refine (HSH.out).mono ?_
  rintro e w1 ⟨Bl, cl, rfl, hs, hbl, hm⟩
  have HF := Lib.hid (show (∃ A cap, Rf w1 p q X A cap) ∧ Mod [q] w w1 from ⟨⟨_, _, H.out.far hm⟩, hm.up (by simp)⟩)
  clear hs hbl hm
  go_wp2
  go_ret
  exact ⟨rfl, HF.out⟩
set_option maxRecDepth 10000 in
theorem rdo_4 {w : World} {p q : Nat} {op : Int} {r : Int × List Int} (h : op = 40 ∨ op = 41) (hc : Calls Try.prog 36 #[Pt q, .int .i64 op] w (RTurns p q w (.int .i64 r.1) r.2)) :
    Calls Try.prog 30 #[Pt q, .int .i64 op] w (RTurns p q w (.int .i64 r.1) r.2) := by
  have HC := Lib.hid hc
  clear hc
  rcases h with rfl | rfl
  all_goals
    go_enter Try.func30, Try.ntmps30
    go_wp2_with fail
    refine (HC.out).mono ?_
    rintro e w1 ⟨rfl, h1⟩
    have H1 := Lib.hid h1
    clear h1
    go_wp2
    go_ret
    exact ⟨rfl, H1.out⟩
set_option maxRecDepth 10000 in
theorem rdo_42 {w : World} {p q : Nat} {X : List Int} {A : Option Addr} {cap : Nat} (h : Rf w p q X A cap) (hp : p < w.heap.size) :
    Calls Try.prog 30 #[Pt q, .int .i64 42] w (RTurns p q w (.int .i64 (putL [(X.length : Int)] X).1) (putL [(X.length : Int)] X).2) := by
  have hn := h.n
  have HC := Lib.hid (rpush_calls h hp (X.length : Int) (by unfold I64; omega))
  have hc := h.c
  obtain ⟨r, hr⟩ : ∃ r, r = putL [(X.length : Int)] X := ⟨_, rfl⟩
  rw [← hr] at HC ⊢
  clear h hr hn
  go_enter Try.func30, Try.ntmps30
  go_wp2_with fail
  refine (HC.out).mono ?_
  rintro e w1 ⟨rfl, h1⟩
  have H1 := Lib.hid h1
  clear h1
  go_wp2
  go_ret
  exact ⟨rfl, H1.out⟩
set_option maxRecDepth 10000 in
theorem rdo_35z {w : World} {p q : Nat} {R : List Int} {A : Option Addr} {cap : Nat} (h : Rf w p q (R ++ [0]) A cap) :
    Calls Try.prog 30 #[Pt q, .int .i64 35] w fun e w' => e = .returned (.int .i64 0) ∧ w = w' := by
  have hc := h.c
  obtain ⟨b, off, rfl, hx⟩ := h.s R.length (by simp)
  rw [List.getElem_concat_length rfl] at hx
  have hn := h.n
  simp only [List.length_append, List.length_singleton] at hc hn
  obtain ⟨n, hne⟩ : ∃ n, n = R.length := ⟨_, rfl⟩
  rw [← hne] at hc hx hn
  have g0 : ((n + 1 : Nat) : Int) = (n : Int) + 1 := rfl
  have g1 : (0 : Int) ≤ (n : Int) := by omega
  have g2 : (n : Int) ≤ 127 := by omega
  have g3 : decide (0 < (n : Int) + 1) = true := decide_eq_true (by omega)
  clear h hne
  go_enter Try.func30, Try.ntmps30
  go_wp2
  go_ret
  exact ⟨rfl, rfl⟩
set_option maxRecDepth 10000 in
theorem rdo_35n {w : World} {p q : Nat} {R : List Int} {u : Int} {A : Option Addr} {cap : Nat} (h : Rf w p q (R ++ [u]) A cap) (hu : u ≠ 0) {r : Int × List Int} (hc0 : Calls Try.prog 30 #[Pt q, .int .i64 28] w (RTurns p q w (.int .i64 r.1) r.2)) :
    Calls Try.prog 30 #[Pt q, .int .i64 35] w (RTurns p q w (.int .i64 r.1) r.2) := by
  have hc := h.c
  have HC := Lib.hid hc0
  obtain ⟨b, off, rfl, hx⟩ := h.s R.length (by simp)
  rw [List.getElem_concat_length rfl] at hx
  have hn := h.n
  simp only [List.length_append, List.length_singleton] at hc hn
  obtain ⟨n, hne⟩ : ∃ n, n = R.length := ⟨_, rfl⟩
  rw [← hne] at hc hx hn
  have g0 : ((n + 1 : Nat) : Int) = (n : Int) + 1 := rfl
  have g1 : (0 : Int) ≤ (n : Int) := by omega
  have g2 : (n : Int) ≤ 127 := by omega
  have g3 : decide (0 < (n : Int) + 1) = true := decide_eq_true (by omega)
  have g4 : (u == 0) = false := by simpa using hu
  clear h hne hc0 hu
  go_enter Try.func30, Try.ntmps30
  go_wp2_with fail
  refine (HC.out).mono ?_
  rintro e w1 ⟨rfl, h1⟩
  have H1 := Lib.hid h1
  clear h1
  go_wp2
  go_ret
  exact ⟨rfl, H1.out⟩
set_option maxRecDepth 10000 in
theorem rdo_35e {w : World} {p q : Nat} {A : Option Addr} {cap : Nat} (h : Rf w p q [] A cap) {r : Int × List Int} (hc0 : Calls Try.prog 30 #[Pt q, .int .i64 28] w (RTurns p q w (.int .i64 r.1) r.2)) :
    Calls Try.prog 30 #[Pt q, .int .i64 35] w (RTurns p q w (.int .i64 r.1) r.2) := by
  have hc : w.cell? ⟨q, 0, none⟩ = some (.slice A 0 cap) := h.c
  have HC := Lib.hid hc0
  clear h hc0
  go_enter Try.func30, Try.ntmps30
  go_wp2_with fail
  refine (HC.out).mono ?_
  rintro e w1 ⟨rfl, h1⟩
  have H1 := Lib.hid h1
  clear h1
  go_wp2
  go_ret
  exact ⟨rfl, H1.out⟩
theorem doL_28 (X : List Int) : doL 28 X = replL 1 [0, 0] X := rfl
theorem rdo_calls {w : World} {p q : Nat} {X : List Int} {A : Option Addr} {cap : Nat} (h : Rf w p q X A cap) (hp : p < w.heap.size) (op : Int) :
    Calls Try.prog 30 #[Pt q, .int .i64 op] w (RTurns p q w (.int .i64 (doL op X).1) (doL op X).2) := by
  have hc : op = 28 ∨ op = 29 ∨ op = 30 ∨ op = 31 ∨ op = 32 ∨ op = 33 ∨ op = 34 ∨ op = 36 ∨ op = 37 ∨ op = 38 ∨ op = 39 ∨ op = 35 ∨ op = 40 ∨ op = 41 ∨ op = 42 ∨ ¬ (28 ≤ op ∧ op ≤ 42) := by omega
  rcases hc with h1 | h1 | h1 | h1 | h1 | h1 | h1 | h1 | h1 | h1 | h1 | h1 | h1 | h1 | h1 | h1
  · subst h1; exact rdo_gen h hp 28 1 [0, 0] (by decide) (by decide) (by decide) (by decide) (by decide) (by decide) (by decide) shape_28
  · subst h1; exact rdo_gen h hp 29 1 [] (by decide) (by decide) (by decide) (by decide) (by decide) (by decide) (by decide) shape_29
  · subst h1; exact rdo_gen h hp 30 2 [1, 0] (by decide) (by decide) (by decide) (by decide) (by decide) (by decide) (by decide) shape_30
  · subst h1; exact rdo_gen h hp 31 2 [0, 1, 0] (by decide) (by decide) (by decide) (by decide) (by decide) (by decide) (by decide) shape_31
  · subst h1; exact rdo_gen h hp 32 3 [1, 2, 0] (by decide) (by decide) (by decide) (by decide) (by decide) (by decide) (by decide) shape_32
  · subst h1; exact rdo_gen h hp 33 2 [1] (by decide) (by decide) (by decide) (by decide) (by decide) (by decide) (by decide) shape_33
  · subst h1; exact rdo_gen h hp 34 2 [1, 0, 1] (by decide) (by decide) (by decide) (by decide) (by decide) (by decide) (by decide) shape_34
  · subst h1; exact rdo_gen h hp 36 2 [0, 1, 0, 1] (by decide) (by decide) (by decide) (by decide) (by decide) (by decide) (by decide) shape_36
  · subst h1; exact rdo_gen h hp 37 2 [] (by decide) (by decide) (by decide) (by decide) (by decide) (by decide) (by decide) shape_37
  · subst h1; exact rdo_gen h hp 38 4 [2, 3, 0, 1] (by decide) (by decide) (by decide) (by decide) (by decide) (by decide) (by decide) shape_38
  · subst h1; exact rdo_gen h hp 39 4 [0, 1, 2, 3, 0, 1] (by decide) (by decide) (by decide) (by decide) (by decide) (by decide) (by decide) shape_39
  · subst h1
    have h28 := rdo_gen h hp 28 1 [0, 0] (by decide) (by decide) (by decide) (by decide) (by decide) (by decide) (by decide) shape_28
    by_cases h0 : X = []
    · subst h0
      exact rdo_35e h h28
    · obtain ⟨R, u, rfl⟩ : ∃ R u, X = R ++ [u] := ⟨X.dropLast, X.getLast h0, (List.dropLast_concat_getLast h0).symm⟩
      by_cases hu : u = 0
      · subst hu
        have e : doL 35 (R ++ [0]) = (0, R ++ [0]) := by
          have hn := h.n
          have ez : topZ (R ++ [0]) = true := by unfold topZ; simp [List.getLastD_eq_getLast?]
          show (if (shapeL 35 (topZ (R ++ [0]))).1 = 0 then (1, R ++ [0]) else replL (shapeL 35 (topZ (R ++ [0]))).1 (shapeL 35 (topZ (R ++ [0]))).2 (R ++ [0])) = _
          rw [ez]
          show replL 1 [0] (R ++ [0]) = _
          rw [repl_top0, if_neg (by simp at hn; omega)]
        rw [e]
        exact (rdo_35z h).mono fun e w' ⟨he, hw⟩ => ⟨he, ⟨_, _, hw ▸ h⟩, hw ▸ Mod.refl _ _⟩
      · have e : doL 35 (R ++ [u]) = replL 1 [0, 0] (R ++ [u]) := by
          have ez : topZ (R ++ [u]) = false := by unfold topZ; simp [List.getLastD_eq_getLast?, hu]
          show (if (shapeL 35 (topZ (R ++ [u]))).1 = 0 then (1, R ++ [u]) else replL (shapeL 35 (topZ (R ++ [u]))).1 (shapeL 35 (topZ (R ++ [u]))).2 (R ++ [u])) = _
          rw [ez]
          rfl
        rw [e]
        exact rdo_35n h hu h28
  · subst h1; exact rdo_4 (Or.inl rfl) (rfar_calls h hp).1
  · subst h1; exact rdo_4 (Or.inr rfl) (rfar_calls h hp).2
  · subst h1; exact rdo_42 h hp
  · have e : doL op X = (1, X) := by
      unfold doL
      rw [if_neg (by omega), if_neg (by omega), if_neg (by omega), if_pos ((shapeL_le op (topZ X)).2.2.2.2 (by omega))]
    rw [e]
    exact rdo_no h op h1
end Go.Proofs.Ytjmbmhjhnoiclaa
