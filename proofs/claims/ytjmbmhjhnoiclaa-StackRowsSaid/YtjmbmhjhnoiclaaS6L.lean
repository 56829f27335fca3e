/- Layer 6: the document's stack: pick and roll. Condition: block q is such a stack (Rf), apart from block p. -/
import Derived.Test.YtjmbmhjhnoiclaaS6K
import Derived.Deep.RegionLaw
import Derived.Deep.RegionHeld3
namespace Go.Proofs.Ytjmbmhjhnoiclaa
open Go.RowKit
set_option linter.unusedVariables false

theorem rfar_none {w : World} {p q : Nat} {A : Option Addr} {cap : Nat} (h : Rf w p q [] A cap) (op : Int) :
    Calls Try.prog 36 #[Pt q, .int .i64 op] w fun e w' => e = .returned (.int .i64 (-4)) ∧ w = w' := by
  have hc : w.cell? ⟨q, 0, none⟩ = some (.slice A 0 cap) := h.c
  clear h
  go_enter Try.func36, Try.ntmps36
  go_wp2
  go_ret
  exact ⟨rfl, rfl⟩
set_option maxRecDepth 10000 in
theorem rfar_no {w : World} {p q : Nat} {R : List Int} {u : Int} {A : Option Addr} {cap : Nat} (h : Rf w p q (R ++ [u]) A cap) (hu : ¬ (0 ≤ u ∧ u < (R.length : Int))) (op : Int) :
    Calls Try.prog 36 #[Pt q, .int .i64 op] w fun e w' => e = .returned (.int .i64 (-4)) ∧ w = w' := by
  have hc := h.c
  obtain ⟨b, off, rfl, hx⟩ := h.s R.length (by simp)
  rw [List.getElem_concat_length rfl] at hx
  have hn := h.n
  simp only [List.length_append, List.length_singleton] at hc hn
  obtain ⟨n, hne⟩ : ∃ n, n = R.length := ⟨_, rfl⟩
  rw [← hne] at hc hx hn hu
  have g0 : ((n + 1 : Nat) : Int) = (n : Int) + 1 := rfl
  have g1 : (0 : Int) ≤ (n : Int) := by omega
  have g2 : (n : Int) ≤ 127 := by omega
  have g3 : ((n : Int) + 1 == 0) = false := by simp; omega
  have g4 : (n : Int) + 1 - 1 = (n : Int) := by omega
  clear h hne
  by_cases h0 : u < 0
  · clear hu
    go_enter Try.func36, Try.ntmps36
    go_wp2
    go_ret
    exact ⟨rfl, rfl⟩
  · have h1 : (n : Int) ≤ u := by omega
    clear hu
    go_enter Try.func36, Try.ntmps36
    go_wp2
    go_ret
    exact ⟨rfl, rfl⟩
theorem step_app {ops : Array Oper} {o : Oper} {a : Act} {w : World} {K : Act → World → Prop} {Q : Exit → Act → World → Prop} {E : Prop} (hgd : o.guard = none) (s x : Operand)
    (ho : o.op = .call { callee := .builtin .append, args := #[s, x], argTypes := #[27, 27] })
    {b c n0 : Nat} {X Y : List Int} {A : Option Addr} {n cap : Nat} (h : Ow w b X c) (hs : Sl w A Y) (e1 : n0 = X.length) (e2 : n = Y.length) (hA : A = none → cap = 0) (hb : X.length + Y.length ≤ 1000000000)
    (v1 : a.eval s = .slice (some ⟨b, 0, none⟩) n0 c) (v2 : a.eval x = .slice A n cap)
    (hK : ∀ b' c' w', Ow w' b' (X ++ Y) c' → Mod [b] w w' → b ≤ b' → K (a.put o.dst (.slice (some ⟨b', 0, none⟩) (n0 + n) c')) w') :
    if Region.wanted o (yielded ops a.tmps) = true then Oper.wp Try.prog o a w K Q else E := by
  have hw : Region.wanted o (yielded ops a.tmps) = true := by simp [Region.wanted, hgd]
  rw [if_pos hw]
  subst e1 e2
  obtain ⟨b', c', w', hr, h2, h3, h4⟩ := run_app h hs o.type Y.length cap rfl hA hb
  unfold Oper.wp execOp
  simp only [ho, resolve, invoke, builtin, Sem.run_bind, Sem.run_pure, Result.andThen_ok, List.map_toArray, List.map_cons, List.map_nil, v1, v2, hr]
  rw [List.length_append]
  exact hK b' c' w' h2 h3 h4
/-- What far is told. -/
structure FarP (w : World) (p q : Nat) (A0 : List Int) (x : Int) (B : List Int) (bb off cap a b m : Nat) : Prop where
  h : Rf w p q (A0 ++ x :: (B ++ [(B.length : Int)])) (some ⟨bb, off, none⟩) cap
  ea : a = A0.length
  eb : b = B.length
  em : m = a + b + 1
  n : m + 1 ≤ 128
  ic : m + 1 ≤ cap
  c : w.cell? ⟨q, 0, none⟩ = some (.slice (some ⟨bb, off, none⟩) (m + 1) cap)
  cm : w.cell? ⟨bb, off + m, none⟩ = some (.int .i64 (b : Int))
  ca : w.cell? ⟨bb, off + a, none⟩ = some (.int .i64 x)
  sm : Sl w (some ⟨bb, off, none⟩) (A0 ++ x :: B)
  lm : m = (A0 ++ x :: B).length
  sa : Sl w (some ⟨bb, off, none⟩) A0
  sb : Sl w (fromA (some ⟨bb, off, none⟩) (a + 1) cap) B
theorem Rf.farP {w : World} {p q : Nat} {A0 : List Int} {x : Int} {B : List Int} {A : Option Addr} {cap : Nat} (h : Rf w p q (A0 ++ x :: (B ++ [(B.length : Int)])) A cap) : ∃ bb off a b m, A = some ⟨bb, off, none⟩ ∧ FarP w p q A0 x B bb off cap a b m := by
  have hl : (A0 ++ x :: (B ++ [(B.length : Int)])).length = A0.length + B.length + 2 := by simp; omega
  obtain ⟨bb, off, rfl, hx⟩ := h.s (A0.length + B.length + 1) (by rw [hl]; omega)
  refine ⟨bb, off, A0.length, B.length, A0.length + B.length + 1, rfl, h, rfl, rfl, rfl, by have := h.n; omega, by have := h.m; omega, ?_, ?_, ?_, ?_, by simp; omega, ?_, ?_⟩
  · have := h.c
    rw [hl] at this
    exact this
  · rw [hx]
    congr 2
    rw [List.getElem_append_right (by omega)]
    simp [show A0.length + B.length + 1 - A0.length = B.length + 1 by omega]
  · obtain ⟨b2, off2, e, hc⟩ := h.s A0.length (by rw [hl]; omega)
    injection e with e
    injection e with e1 e2
    subst e1 e2
    rw [hc]
    simp
  · have := h.s.take (A0.length + B.length + 1)
    have e : (A0 ++ x :: (B ++ [(B.length : Int)])).take (A0.length + B.length + 1) = A0 ++ x :: B := by
      have e1 : A0 ++ x :: (B ++ [(B.length : Int)]) = (A0 ++ x :: B) ++ [(B.length : Int)] := by simp
      rw [e1, List.take_left' (by simp; omega)]
    rwa [e] at this
  · have := h.s.take A0.length
    rwa [List.take_left] at this
  · have := (h.s.drop (A0.length + 1) cap h.m).take B.length
    have e : ((A0 ++ x :: (B ++ [(B.length : Int)])).drop (A0.length + 1)).take B.length = B := by
      rw [show A0 ++ x :: (B ++ [(B.length : Int)]) = (A0 ++ [x]) ++ (B ++ [(B.length : Int)]) by simp, List.drop_left' (by simp), List.take_left]
    rwa [e] at this
-- WALKS
theorem Wk.again {w : World} {p q : Nat} {X : List Int} {A : Option Addr} {cap : Nat} {W : World} {b : Nat} {Y : List Int} {c : Nat} (h : Wk w p q X A cap W b Y c) : Wk w p q X A cap (W.alloc (.cells #[] 31)) W.heap.size [] 0 :=
  ⟨h.r.far ((Mod.refl [] W).alloc _), Ow.new W [] (Nat.zero_le _), h.m.far ((Mod.refl [] W).alloc _), h.m.size, h.lp, h.lq, h.la⟩
set_option maxHeartbeats 4000000 in
set_option maxRecDepth 10000 in
theorem rfar_40 {w : World} {p q : Nat} {A0 : List Int} {x : Int} {B : List Int} {bb off cap a b m : Nat} (P : FarP w p q A0 x B bb off cap a b m) (hp : p < w.heap.size) :
    Calls Try.prog 36 #[Pt q, .int .i64 40] w (RTurns p q w (.int .i64 0) (A0 ++ x :: (B ++ [x]))) := by
  have hc := P.c
  have hcm := P.cm
  have hca := P.ca
  have k1 := Wk.start P.h hp
  have s1 := P.sm.far k1.m
  have sa1 := P.sa.far k1.m
  have sb1 := P.sb.far k1.m
  have hc1 := k1.m.cell (x := ⟨q, 0, none⟩) (by simp) P.c
  have g0 : (0 : Int) ≤ (m : Int) := by omega
  have g2 : (m : Int) ≤ 127 := by have := P.n; omega
  have g3 : ((m : Int) + 1 == 0) = false := by simp; omega
  have g5 : ¬ m ≤ b := by have := P.em; omega
  have g6 : ((m + 1 : Nat) : Int) = (m : Int) + 1 := rfl
  have g7 : (m : Int) + 1 - 2 - (b : Int) = (a : Int) := by have := P.em; omega
  have g8 : IntKind.i64.wrap ((m : Int) + 1 - 2 - (b : Int)) = (a : Int) := by rw [g7]; exact IntWalk.i64_in _ (by have := P.em; omega)
  have hsl1 := fun W => cells_upto W (some ⟨bb, off, none⟩) (m + 1) cap m (by have := P.ic; omega)
  have HI := Lib.hid (show ∀ y ∈ A0 ++ x :: (B ++ [x]), I64 y from fun y hy => P.h.i y (by simp at hy ⊢; rcases hy with h | h | h | h <;> simp [h]))
  have K1 := Lib.hid k1
  have S1 := Lib.hid s1
  have SA := Lib.hid sa1
  have SB := Lib.hid sb1
  have PP := Lib.hid P
  have gam : (a : Int) < (m : Int) := by have := P.em; omega
  clear P k1 s1 sa1 sb1
  go_enter Try.func36, Try.ntmps36
  go_wp2_with (refine wpList_app rfl (.tmp 58) (.tmp 65) rfl K1.out.o S1.out rfl PP.out.lm (by simp) (by rw [← PP.out.lm]; have := PP.out.n; simp; omega) rfl rfl ?_)
  intro b2 c2 W2 o2 m2 l2
  have k2 := K1.out.app o2 m2 l2
  have hc2 := k2.r.c
  rw [← show m + 1 = (A0 ++ x :: (B ++ [(B.length : Int)])).length by have := PP.out.em; have := PP.out.ea; have := PP.out.eb; simp; omega] at hc2
  obtain ⟨k3, s3⟩ := k2.one x
  have hc3 := k3.r.c
  have hf3 := k3.r.f
  rw [← show m + 1 = (A0 ++ x :: (B ++ [(B.length : Int)])).length by have := PP.out.em; have := PP.out.ea; have := PP.out.eb; simp; omega] at hc3
  have K3 := Lib.hid k3
  have S3 := Lib.hid s3
  clear K1 o2 m2 l2 k2 k3 s3
  go_wp2_with (refine wpList_app rfl (.tmp 88) (.tmp 90) rfl K3.out.o S3.out PP.out.lm rfl (by simp) (by rw [← PP.out.lm]; have := PP.out.n; simp; omega) rfl rfl ?_)
  intro b5 c5 W5 o5 m5 l5
  have k5 := K3.out.app o5 m5 l5
  have hc5 := k5.r.c
  have hf5 := k5.r.f
  have HF := Lib.hid (k5.fin (by have := PP.out.em; have := PP.out.ea; have := PP.out.eb; simp; omega) (by simpa using HI.out) (m := m + 1) (by have := PP.out.em; have := PP.out.ea; have := PP.out.eb; simp; omega))
  clear K3 S3 o5 m5 l5 k5
  go_wp2
  go_ret
  exact ⟨rfl, by simpa using HF.out⟩
set_option maxHeartbeats 4000000 in
set_option maxRecDepth 10000 in
theorem rfar_41 {w : World} {p q : Nat} {A0 : List Int} {x : Int} {B : List Int} {bb off cap a b m : Nat} (P : FarP w p q A0 x B bb off cap a b m) (hp : p < w.heap.size) :
    Calls Try.prog 36 #[Pt q, .int .i64 41] w (RTurns p q w (.int .i64 0) (A0 ++ (B ++ [x]))) := by
  have hc := P.c
  have hcm := P.cm
  have hca := P.ca
  have k1 := Wk.start P.h hp
  have s1 := P.sm.far k1.m
  have sa1 := P.sa.far k1.m
  have sb1 := P.sb.far k1.m
  have hc1 := k1.m.cell (x := ⟨q, 0, none⟩) (by simp) P.c
  have g0 : (0 : Int) ≤ (m : Int) := by omega
  have g2 : (m : Int) ≤ 127 := by have := P.n; omega
  have g3 : ((m : Int) + 1 == 0) = false := by simp; omega
  have g5 : ¬ m ≤ b := by have := P.em; omega
  have g6 : ((m + 1 : Nat) : Int) = (m : Int) + 1 := rfl
  have g7 : (m : Int) + 1 - 2 - (b : Int) = (a : Int) := by have := P.em; omega
  have g8 : IntKind.i64.wrap ((m : Int) + 1 - 2 - (b : Int)) = (a : Int) := by rw [g7]; exact IntWalk.i64_in _ (by have := P.em; omega)
  have hsl1 := fun W => cells_upto W (some ⟨bb, off, none⟩) (m + 1) cap m (by have := P.ic; omega)
  have HI := Lib.hid (show ∀ y ∈ A0 ++ (B ++ [x]), I64 y from fun y hy => P.h.i y (by simp at hy ⊢; rcases hy with h | h | h <;> simp [h]))
  have K1 := Lib.hid k1
  have S1 := Lib.hid s1
  have SA := Lib.hid sa1
  have SB := Lib.hid sb1
  have PP := Lib.hid P
  have gam : (a : Int) < (m : Int) := by have := P.em; omega
  clear P k1 s1 sa1 sb1
  go_enter Try.func36, Try.ntmps36
  go_wp2_with (refine wpList_app rfl (.tmp 58) (.tmp 65) rfl K1.out.o S1.out rfl PP.out.lm (by simp) (by rw [← PP.out.lm]; have := PP.out.n; simp; omega) rfl rfl ?_)
  intro b2 c2 W2 o2 m2 l2
  have k2 := K1.out.app o2 m2 l2
  have hc2 := k2.r.c
  rw [← show m + 1 = (A0 ++ x :: (B ++ [(B.length : Int)])).length by have := PP.out.em; have := PP.out.ea; have := PP.out.eb; simp; omega] at hc2
  have K2 := Lib.hid k2
  have k3 := (k2.far (Mod.refl [] W2).drew).again
  have hc3 := k3.r.c
  rw [← show m + 1 = (A0 ++ x :: (B ++ [(B.length : Int)])).length by have := PP.out.em; have := PP.out.ea; have := PP.out.eb; simp; omega] at hc3
  have K3 := Lib.hid k3
  have hsl2 := fun W => cells_upto W (some ⟨bb, off, none⟩) (m + 1) cap a (by have := PP.out.ic; omega)
  have hsl3 := fun W => cells_from_to W (some ⟨bb, off, none⟩) (m + 1) cap (a + 1) m (by omega) (by have := PP.out.ic; omega)
  have hfn := fromA_none (A := some ⟨bb, off, none⟩) (a := a + 1) (cap := cap) (by simp)
  have hsb := PP.out.sb
  rw [show ((a + 1 : Nat) : Int) = (a : Int) + 1 from rfl] at hsl3
  have hnb : m - (a + 1) = B.length := by have := PP.out.em; have := PP.out.eb; omega
  generalize fromA (some ⟨bb, off, none⟩) (a + 1) cap = Af at hsl3 hfn hsb
  generalize m - (a + 1) = nb at hsl3 hnb
  generalize cap - (a + 1) = c6 at hsl3 hfn
  have HNB := Lib.hid hnb
  have HFN := Lib.hid hfn
  have HSB := Lib.hid hsb
  have g9 : IntKind.i64.wrap ((a : Int) + 1) = (a : Int) + 1 := IntWalk.i64_in _ (by omega)
  have g10 : IntKind.i64.wrap ((m : Int) + 1 - 1) = (m : Int) := by rw [show (m : Int) + 1 - 1 = (m : Int) by omega]; exact IntWalk.i64_in _ (by omega)
  have g11 : IntKind.i64.wrap (m : Int) = (m : Int) := IntWalk.i64_in _ (by omega)
  clear K1 o2 m2 l2 k2 k3 hnb hfn hsb
  go_wp2_with fail
  go_region_held3 (fun V => V.cell? ⟨q, 0, none⟩ = some (.slice (some ⟨bb, off, none⟩) (m + 1) cap)) (first | exact hc2 | exact hc3 | exact hc4 | exact hc6 | assumption) (first
    | (refine step_app (by rfl) (.tmp 69) (.tmp 75) (by rfl) K3.out.o (PP.out.sa.far K3.out.m) (by rfl) PP.out.ea (by simp) (by have := PP.out.em; have := PP.out.ea; simp; omega) (by rfl) (by rfl) ?_; intro b4 c4 W4 o4 m4 l4; have k4 := K3.out.app o4 m4 l4; have hc4 := k4.m.cell (x := ⟨q, 0, none⟩) (by simp) hc; have K4 := Lib.hid k4; clear o4 m4 l4 k4)
    | (refine step_app (n0 := 0 + a) (by rfl) (.tmp 76) (.tmp 85) (by rfl) K4.out.o (HSB.out.far K4.out.m) (by have := PP.out.ea; simpa using this) HNB.out HFN.out (by have := PP.out.em; have := PP.out.ea; have := PP.out.eb; simp; omega) (by rfl) (by rfl) ?_; intro b6 c6 W6 o6 m6 l6; have k6 := K4.out.app o6 m6 l6; have hc6 := k6.m.cell (x := ⟨q, 0, none⟩) (by simp) hc; have K6 := Lib.hid k6; clear o6 m6 l6 k6))
  obtain ⟨k7, s7⟩ := K6.out.one x
  have hc7 := k7.r.c
  have hf7 := k7.r.f
  rw [← show m + 1 = (A0 ++ x :: (B ++ [(B.length : Int)])).length by have := PP.out.em; have := PP.out.ea; have := PP.out.eb; simp; omega] at hc7
  clear K3 K4 K6 K2
  have K3 := Lib.hid k7
  have S3 := Lib.hid s7
  have hnn : 0 + a + nb = a + nb := by omega
  clear k7 s7
  go_wp2_with (refine wpList_app rfl (.tmp 88) (.tmp 90) rfl K3.out.o S3.out (by have := PP.out.ea; have := HNB.out; simp; omega) rfl (by simp) (by have := PP.out.em; have := PP.out.ea; have := PP.out.eb; simp; omega) rfl rfl ?_)
  intro b5 c5 W5 o5 m5 l5
  have k5 := K3.out.app o5 m5 l5
  have hc5 := k5.r.c
  have hf5 := k5.r.f
  have HF := Lib.hid (k5.fin (by have := PP.out.em; have := PP.out.ea; have := PP.out.eb; simp; omega) (by simpa using HI.out) (m := a + nb + 1) (by have := PP.out.em; have := PP.out.ea; have := PP.out.eb; have := HNB.out; simp; omega))
  clear K3 S3 o5 m5 l5 k5
  go_wp2
  go_ret
  exact ⟨rfl, by simpa using HF.out⟩
end Go.Proofs.Ytjmbmhjhnoiclaa
