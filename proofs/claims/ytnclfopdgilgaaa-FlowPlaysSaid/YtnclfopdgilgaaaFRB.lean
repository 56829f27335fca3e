/- Layer 11: the document's End; two definitions that are the same; the first 100 (few). Condition: the block is a builder (Bv) of at most 999 instructions. Layer 11: the document's builder with a row of gaps held beside it (Rdd): each of its calls. Condition: at most 998 instructions and parts. Layer 11: the document's Do where it refuses; what is so of its parts. Condition: at most 499 instructions and 32 parts. Layer 11: the document's Do: what the parts need. Condition: at most 499 instructions and 32 parts. -/
import Derived.Test.YtnclfopdgilgaaaFRA
namespace Go.Proofs.Ytnclfopdgilgaaa
open Go.RowKit
set_option linter.unusedVariables false

set_option maxHeartbeats 2000000 in
theorem rend_open {w : World} {p : Nat} {vc vo : Value} {O : List (Pk × Value)} {L : List Xi} (h : Bv TRB TRP w p vc vo O L) (ho : 0 < O.length) : Calls Try.prog 20 #[Pt p] w fun e w' => e = .returned (.tuple #[defV none 0 0, .int .i64 (-22)]) ∧ Mod [] w w' := by
  have mA := (Mod.refl [] w).alloc (.cells #[.slice none 0 0] 41)
  obtain ⟨A0, cap0, hvo, _⟩ := h.open_slice
  have k0 := (h.far mA).c1
  obtain ⟨n, hn⟩ : ∃ n, n = O.length := ⟨_, rfl⟩
  rw [hvo, ← hn] at k0
  have q1 : (0 : Int) < (n : Int) := by omega
  clear h hvo hn ho
  go_enter Try.func20, Try.ntmps20
  go_wp2_with fail
  have c0 : (w.alloc (.cells #[.slice none 0 0] 41)).cell? ⟨w.heap.size, 0, none⟩ = some (.slice none 0 0) := by rw [World.cell?_alloc_new]; rfl
  exact bodyPost_ret (v := .tuple #[defV none 0 0, .int .i64 (-22)]) (by simp [results, Try.results20, go_sem, c0]) rfl ⟨rfl, mA⟩
/-- What the document's End gives: the instructions K, and a builder that has none. -/
def REnded (p : Nat) (vc vo : Value) (w : World) (K : List Xi) (e : Ending) (w' : World) : Prop :=
  ∃ A cap, e = .returned (.tuple #[defV A K.length cap, .int .i64 0]) ∧ InsAt w' A K ∧ Bv TRB TRP w' p (.slice none 0 0) vo [] [] ∧ Turn (Sof p vc vo []) (Sof p (.slice none 0 0) vo []) w w' ∧ Mod [p] w w'
set_option maxHeartbeats 4000000 in
theorem rend_ok {w : World} {p : Nat} {vc vo : Value} {L : List Xi} (h : Bv TRB TRP w p vc vo [] L) (hl : L.length ≤ 999) (hw : ∀ x ∈ L, WellX x) :
    Calls Try.prog 20 #[Pt p] w (REnded p vc vo w (L ++ [⟨15, 0, 0⟩])) := by
  obtain ⟨A0, cap0, hvc, _⟩ := h.code_slice
  obtain ⟨A5, cap5, hvo, _⟩ := h.open_slice
  obtain ⟨n, hn⟩ : ∃ n, n = L.length := ⟨_, rfl⟩
  rw [← hn] at hvc
  rw [List.length_nil] at hvo
  subst hvc hvo
  obtain ⟨W, hW⟩ : ∃ W, W = w.alloc (.cells #[.slice none 0 0] 41) := ⟨_, rfl⟩
  have mW : Mod [] w W := by rw [hW]; exact (Mod.refl [] w).alloc _
  have bW : W.heap[w.heap.size]? = some (.cells #[.slice none 0 0] 41 (0, 0)) := by rw [hW]; exact (MapKept.heap_alloc w _).1
  have m1 : Mod [] W (W.alloc (.cells #[] 35)) := (Mod.refl [] W).alloc _
  have hrow : W.ownsRow 0 35 3 (.slice A0 n cap0) n (flatsX L) := by have := (h.far mW).code; unfold Xr at this; rw [← hn] at this; exact this
  obtain ⟨A1, c1, w1, a1, g1, _⟩ := elX.base m1 (Nat.le_refl _) (lit_row 35 3 W) hrow (flatsX_cells L) (by omega) 27
  obtain ⟨A2, c2, w2, a2, g2⟩ := elX.last (g1.far ((Mod.refl [] w1).alloc (.cells #[.int .u8 15, .int .i64 0, .int .i64 0] 35))) (by omega) ⟨w1.heap.size, 0, none⟩ 1 #[.int .u8 15, .int .i64 0, .int .i64 0].toList rfl (new_cells w1 #[.int .u8 15, .int .i64 0, .int .i64 0] 35) (by simp; exact ⟨rfl, rfl⟩) 27
  obtain ⟨b, rfl, hb⟩ := g2.at
  have k0 := (h.far mW).c1
  have k0' : (w.alloc (.cells #[.slice none 0 0] 41)).cell? ⟨p, 1, none⟩ = some (.slice A5 0 cap5) := by rw [← hW]; exact k0
  have k1 := (h.far (mW.trans m1)).c0
  have h2 := h.far (mW.trans g2.m)
  have m3 : Mod [] w2 (w2.alloc (.cells #[.slice (some ⟨b, 0, none⟩) (n + 1) c2] 41)) := (Mod.refl [] w2).alloc _
  have k3 := (h2.far m3).c0
  have f3 := (h2.far m3).f 0
  have d3 : (w2.alloc (.cells #[.slice (some ⟨b, 0, none⟩) (n + 1) c2] 41)).heap[w2.heap.size]? = some (.cells #[.slice (some ⟨b, 0, none⟩) (n + 1) c2] 41 (0, 0)) := (MapKept.heap_alloc w2 _).1
  have hrowX : Xr w2 0 (.slice (some ⟨b, 0, none⟩) (n + 1) c2) (L ++ [⟨15, 0, 0⟩]) := by
    unfold Xr
    rw [flatsX_app, List.length_append, ← hn]
    exact g2.row
  have HH := Lib.hid (And.intro h (And.intro hn (And.intro hw (And.intro mW (And.intro bW (And.intro g2 (And.intro hb (And.intro m3 (And.intro d3 hrowX)))))))))
  replace a1 : (appIns 27 _).run Try.prog _ = .ok (.slice A1 n c1) w1 := a1
  replace a2 : (appIns 27 _).run Try.prog _ = .ok (.slice (some ⟨b, 0, none⟩) (n + 1) c2) w2 := a2
  clear h hl hw mW bW m1 hrow g1 g2 hb h2 m3 d3 hn hrowX
  go_enter Try.func20, Try.ntmps20
  go_upto_region 3 with fail
  rw [← hW]
  clear hW k0'
  go_upto_region 4 with fail
  clear a1 a2 k0 k1
  obtain ⟨h, hn, hw, mW, bW, g2, hb, m3, d3, hrowX⟩ := HH.out
  have hZ := (h.far ((mW.trans g2.m).trans m3)).set0 (vc' := .slice none 0 0) (L' := []) (Xr.nil _ _) (Or.inr fun g hg => by cases hg)
  have hlp := h.lp
  have sW : w.heap.size < W.heap.size := (Array.getElem?_eq_some_iff.1 bW).1
  have s2 := g2.m.size
  have x1 := (hZ.2.block w2.heap.size (by simp) (by simp; omega)).trans d3
  have x0 := (hZ.2.block w.heap.size (by simp; omega) (by simp; omega)).trans (((g2.m.trans m3).block w.heap.size sW (by simp)).trans bW)
  have hrZ := row_mod (row_mod hrowX m3 (by simp)) hZ.2 fun g hg hx => by
    have e1 : b = g := by simpa [Value.ownBlock] using hg
    have e2 : g = p := by simpa using hx
    omega
  have mZ : Mod [p] w ((w2.alloc (.cells #[.slice (some ⟨b, 0, none⟩) (n + 1) c2] 41)).setCell ⟨p, 0, none⟩ (.slice none 0 0)) := (((mW.trans g2.m).trans m3).up (by simp)).trans hZ.2
  have x1c : ((w2.alloc (.cells #[.slice (some ⟨b, 0, none⟩) (n + 1) c2] 41)).setCell ⟨p, 0, none⟩ (.slice none 0 0)).cell? ⟨w2.heap.size, 0, none⟩ = some (.slice (some ⟨b, 0, none⟩) (n + 1) c2) := by simp only [World.cell?, x1]; rfl
  have x0c : ((w2.alloc (.cells #[.slice (some ⟨b, 0, none⟩) (n + 1) c2] 41)).setCell ⟨p, 0, none⟩ (.slice none 0 0)).cell? ⟨w.heap.size, 0, none⟩ = some (.slice none 0 0) := by simp only [World.cell?, x0]; rfl
  have x0f : ((w2.alloc (.cells #[.slice (some ⟨b, 0, none⟩) (n + 1) c2] 41)).setCell ⟨p, 0, none⟩ (.slice none 0 0)).frozen? ⟨w.heap.size, 0, none⟩ = false := by simp only [World.frozen?, x0]; rfl
  have HZ := Lib.hid (And.intro hZ.1 (And.intro x0 (And.intro hrZ (And.intro mZ (And.intro hlp sW)))))
  clear hZ m3 d3 hrowX x0 x1 hrZ mZ hlp sW h hn hw mW bW g2 hb s2
  go_upto_region 5 with fail
  clear k3 f3
  generalize (w2.alloc (.cells #[.slice (some ⟨b, 0, none⟩) (n + 1) c2] 41)).setCell ⟨p, 0, none⟩ (.slice none 0 0) = X at *
  go_wp2_with fail
  obtain ⟨hB, x0, hrZ, mZ, hlp, sW⟩ := HZ.out
  obtain ⟨h, hn, hw, _, _, _, hb, _⟩ := HH.out
  have y0 := heap_setCell_same X w.heap.size 0 _ _ (.slice (some ⟨b, 0, none⟩) (n + 1) c2) x0
  have mY := set_mod X w.heap.size 0 (.slice (some ⟨b, 0, none⟩) (n + 1) c2)
  generalize X.setCell ⟨w.heap.size, 0, none⟩ (.slice (some ⟨b, 0, none⟩) (n + 1) c2) = Y at *
  have yc : Y.cell? ⟨w.heap.size, 0, none⟩ = some (.slice (some ⟨b, 0, none⟩) (n + 1) c2) := by simp only [World.cell?, y0]; rfl
  refine bodyPost_ret (v := .tuple #[defV (some ⟨b, 0, none⟩) (n + 1) c2, .int .i64 0]) (by simp [results, Try.results20, go_sem, yc]) rfl ?_
  have hrY : Xr Y 0 (.slice (some ⟨b, 0, none⟩) (n + 1) c2) (L ++ [⟨15, 0, 0⟩]) := row_mod hrZ mY fun g hg hx => by
    have e1 : b = g := by simpa [Value.ownBlock] using hg
    have e2 : g = w.heap.size := by simpa using hx
    omega
  have mF := mZ.then mY (fun x hx => Or.inr (by rw [List.mem_singleton.1 hx]; exact Nat.le_refl _))
  refine ⟨some ⟨b, 0, none⟩, c2, by rw [hn, List.length_append]; rfl, hrY.ins fun x hx => ?_, hB.mod mY fun x hx hy => ?_, ⟨mF.up fun x hx => by rw [List.mem_singleton.1 hx]; exact mem_Sof.2 (Or.inl rfl), fun x hx => Or.inl ?_⟩, mF⟩
  · rcases List.mem_append.1 hx with hx | hx
    · exact hw x hx
    · rw [List.mem_singleton.1 hx]; exact well_op 15 (by decide)
  · have : x < w.heap.size := by
      rcases mem_Sof.1 hx with hx | hx | hx | ⟨r, hr, _⟩
      · omega
      · cases hx
      · exact h.lo x hx
      · cases hr
    have := List.mem_singleton.1 hy
    omega
  · rcases mem_Sof.1 hx with hx | hx | hx | ⟨r, hr, _⟩
    · exact mem_Sof.2 (Or.inl hx)
    · cases hx
    · exact mem_Sof.2 (Or.inr (Or.inr (Or.inl hx)))
    · cases hr
@[go_sem] theorem eq_ins (o1 a1 w1 o2 a2 w2 : Int) (w : World) : (Op.equalIn 10000 35 (.agg #[.int .u8 o1, .int .i64 a1, .int .i64 w1]) (.agg #[.int .u8 o2, .int .i64 a2, .int .i64 w2])).run Try.prog w = .ok (o1 == o2 && a1 == a2 && w1 == w2) w := by
  have u3 := Try.underlying3
  have a3 := Try.isAgg3
  have z3 := Try.sizeOf3
  have u9 := Try.underlying5
  have a9 := Try.isAgg5
  have z9 := Try.sizeOf5
  have u4 := Try.underlying33
  have a4 := Try.isAgg33
  have z4 := Try.sizeOf33
  have hS : Try.prog.underlying 35 = some (.struct (Try.prog.fieldsOf 35)) := by kernel_rfl
  have hp : Try.prog.stoodInHeld 35 = false := by kernel_rfl
  rw [show (10000 : Nat) = 9999 + 1 from rfl, run_equalIn_agg w 9999 35 _ _ hS hp]
  simp only [Program.fieldsOf, Try.underlying35]
  go_simp
  by_cases h0 : o1 = o2 <;> by_cases h1 : a1 = a2 <;> by_cases h2 : w1 = w2 <;> simp [h0, h1, h2]
@[go_sem ↓] theorem run_ins_neq (o1 a1 w1 o2 a2 w2 : Int) (w : World) : (binOp .neq 35 (.agg #[.int .u8 o1, .int .i64 a1, .int .i64 w1]) (.agg #[.int .u8 o2, .int .i64 a2, .int .i64 w2])).run Try.prog w = .ok (.bool (!(o1 == o2 && a1 == a2 && w1 == w2))) w := by
  rw [run_neq_struct, eq_ins]; rfl
@[go_sem ↓] theorem guard_ins (op : BinOp) (x y : Operand) (xs ys : Array Value) (w : World) : (eqGuard op 35 x y (.agg xs) (.agg ys)).run Try.prog w = .ok () w :=
  run_eqGuard_agg w op 35 x y xs ys (by kernel_rfl)
set_option maxHeartbeats 4000000 in
theorem same_calls {w : World} {A B : Option Addr} {n c d : Nat} {K : List Xi} (hA : InsAt w A K) (hB : InsAt w B K) (hn : n = K.length) (hK : K.length ≤ 1000) : Calls Try.prog 21 #[defV A n c, defV B n d] w fun e w' => e = .returned (.bool true) ∧ Mod [] w w' := by
  obtain ⟨W, hW⟩ : ∃ W, W = (w.alloc (.cells #[.slice A n c] 41)).alloc (.cells #[.slice B n d] 41) := ⟨_, rfl⟩
  have mW : Mod [] w W := by rw [hW]; exact ((Mod.refl [] w).alloc _).alloc _
  have k1 : W.cell? ⟨w.heap.size, 0, none⟩ = some (.slice A n c) := by
    rw [hW]
    refine ((Mod.refl [] _).alloc _).cell (by simp) ?_
    rw [World.cell?_alloc_new]; rfl
  have k2 : W.cell? ⟨w.heap.size + 1, 0, none⟩ = some (.slice B n d) := by
    rw [hW]
    have e := size_allocI w (.cells #[.slice A n c] 41)
    rw [← e, World.cell?_alloc_new]; rfl
  have HH := Lib.hid (And.intro (hA.far mW) (And.intro (hB.far mW) (And.intro hn mW)))
  have hnI : (n : Int) ≤ 1000 := by omega
  clear hA hB hn hK mW
  go_enter Try.func21, Try.ntmps21
  go_upto_region 1 with fail
  rw [← hW]
  clear hW
  go_wp2_with fail
  go_loopg [5] n (fun g z wr => ∃ i : Nat, z = .int .i64 (i : Int) ∧ i + g = n ∧ RowKit.Hid (Mod [] W wr))
  case atStart => exact ⟨0, rfl, by omega, Lib.hid (Mod.refl _ _)⟩
  case round =>
    obtain ⟨i, rfl, hig, hi⟩ := hrel
    obtain ⟨hA, hB, hn, mW⟩ := HH.out
    have k1r := hi.out.cell (by simp) k1
    have k2r := hi.out.cell (by simp) k2
    by_cases hlt : i < n
    · have hltI : (i : Int) < (n : Int) := by omega
      obtain ⟨x, hx⟩ : ∃ x, K[i]? = some x := ⟨_, List.getElem?_eq_getElem (by omega)⟩
      obtain ⟨ba, oa, rfl, hxa, _⟩ := hA.get hx
      obtain ⟨bb, ob, rfl, hxb, _⟩ := hB.get hx
      have hxa := hxa.far hi.out
      have hxb := hxb.far hi.out
      have a0 := hxa.c0
      have a1 := hxa.c1
      have a2 := hxa.c2
      have b0 := hxb.c0
      have b1 := hxb.c1
      have b2 := hxb.c2
      have HI := Lib.hid (And.intro hig hi.out)
      clear hi hA hB hn mW hx hxa hxb hlt hig k1 k2 HH
      go_upto_region 6 with fail
      go_quiet (fail)
      have HI2 := Lib.hid ((HI.out.2).drewN nq)
      go_wp2_with fail
      go_roundg (gk - 1)
      case measure => have := HI.out.1; omega
      case rel => exact ⟨i + 1, by go_num, by have := HI.out.1; omega, HI2⟩
    · have hltI : ¬ (i : Int) < (n : Int) := by omega
      have HM := Lib.hid (mW.trans hi.out)
      clear hA hB hn mW hi hig hlt k1 k2
      go_wp2_with fail
      go_ret
      exact ⟨rfl, HM.out⟩
end Go.Proofs.Ytnclfopdgilgaaa

namespace Go.Proofs.Ytnclfopdgilgaaa
open Go.RowKit
set_option linter.unusedVariables false

/-- Block p of w is the document's builder; its blocks lie in T, and the row v of gaps, which is not the builder's. -/
structure Rdd (w : World) (p : Nat) (T : List Nat) (B : Bd) (v : Value) (g : List Nat) : Prop where
  lt : ∀ x ∈ T, x < w.heap.size
  bv : ∃ vc vo O, Bv TRB TRP w p vc vo O B.L ∧ B.P = O.map Prod.fst ∧ (∀ x ∈ Sof p vc vo O, x ∈ T) ∧ ∀ b, v.ownBlock = some b → b ∉ Sof p vc vo O
  gr : Gr w v g
  own : ∀ b, v.ownBlock = some b → b ∈ T
abbrev nilV : Value := .slice none 0 0
variable {w w' w1 : World} {p : Nat} {T : List Nat} {B : Bd} {v : Value} {g : List Nat}
theorem Rdd.far (h : Rdd w p T B v g) (m : Mod [] w w') : Rdd w' p T B v g := by
  obtain ⟨vc, vo, O, h1, h2, h3, h4⟩ := h.bv
  exact ⟨fun x hx => Nat.lt_of_lt_of_le (h.lt x hx) m.size, ⟨vc, vo, O, h1.far m, h2, h3, h4⟩, row_mod h.gr m (by simp), h.own⟩
theorem Rdd.drop (h : Rdd w p T B v g) : Rdd w p T B nilV [] := by
  obtain ⟨vc, vo, O, h1, h2, h3, h4⟩ := h.bv
  exact ⟨h.lt, ⟨vc, vo, O, h1, h2, h3, fun b hb => by cases hb⟩, Ir.nil _ _, fun b hb => by cases hb⟩
theorem Rdd.hold (h : Rdd w p T B v g) (m : Mod [] w w1) {v1 : Value} {g1 : List Nat} (hv : Gr w1 v1 g1) (hf : ∀ b, v1.ownBlock = some b → w.heap.size ≤ b) : ∃ T', Rdd w1 p T' B v1 g1 ∧ Turn T T' w w1 := by
  obtain ⟨vc, vo, O, h1, h2, h3, h4⟩ := h.bv
  refine ⟨v1.ownBlock.toList ++ T, ⟨fun x hx => ?_, ⟨vc, vo, O, h1.far m, h2, fun x hx => by simp [h3 x hx], fun b hb hx => ?_⟩, hv, fun b hb => by simp [hb]⟩, m.up (by simp), fun x hx => ?_⟩
  · rcases List.mem_append.1 hx with hx | hx
    · exact (World.ownsRow.lt hv x (by simpa using hx)).2
    · exact Nat.lt_of_lt_of_le (h.lt x hx) m.size
  · have := hf b hb
    have := h1.lt b hx
    omega
  · rcases List.mem_append.1 hx with hx | hx
    · exact Or.inr (hf x (by simpa using hx))
    · exact Or.inl hx
theorem Rdd.step (h : Rdd w p T B v g) {vc vo vc' vo' : Value} {O O' : List (Pk × Value)} {B' : Bd} (hsub : ∀ x ∈ Sof p vc vo O, x ∈ T) (hv : ∀ b, v.ownBlock = some b → b ∉ Sof p vc vo O)
    (h' : Bv TRB TRP w' p vc' vo' O' B'.L) (hP : B'.P = O'.map Prod.fst) (t : Turn (Sof p vc vo O) (Sof p vc' vo' O') w w') : ∃ T', Rdd w' p T' B' v g ∧ Turn T T' w w' := by
  refine ⟨T ++ Sof p vc' vo' O', ⟨fun x hx => ?_, ⟨vc', vo', O', h', hP, fun x hx => by simp [hx], fun b hb hx => ?_⟩, row_mod h.gr t.1 hv, fun b hb => by simp [h.own b hb]⟩, t.1.up hsub, fun x hx => ?_⟩
  · rcases List.mem_append.1 hx with hx | hx
    · exact Nat.lt_of_lt_of_le (h.lt x hx) t.1.size
    · exact h'.lt x hx
  · rcases t.2 b hx with hx | hx
    · exact hv b hb hx
    · have := h.lt b (h.own b hb)
      omega
  · rcases List.mem_append.1 hx with hx | hx
    · exact Or.inl hx
    · exact (t.2 x hx).imp (hsub x) id
theorem put_rh (h : Rdd w p T B v g) (hl : B.L.length < 499) (x : Xi) : Calls Try.prog 14 #[Pt p, insV x] w fun e w' => e = .returned (.int .i64 0) ∧ ∃ T', Rdd w' p T' (layB x B) v g ∧ Turn T T' w w' := by
  obtain ⟨vc, vo, O, h1, h2, h3, h4⟩ := h.bv
  refine (rput_ok h1 hl x).mono ?_
  rintro e w' ⟨rfl, vc', k1, k2, _⟩
  exact ⟨rfl, h.step (B' := layB x B) h3 h4 k1 h2 k2⟩
theorem closes_rh (h : Rdd w p T B v g) (hl : B.L.length ≤ 999) (u : Value) (G : List Nat) (hu : Gr w u G) (hlt : ∀ i ∈ G, i < B.L.length) (hg : G.length ≤ 1000) :
    Calls Try.prog 35 #[Pt p, u] w fun e w' => (∃ r, e = .returned r) ∧ ∃ T', Rdd w' p T' ⟨closeL B.L.length G B.L, B.P⟩ v g ∧ Turn T T' w w' := by
  obtain ⟨vc, vo, O, h1, h2, h3, h4⟩ := h.bv
  refine (rcloses_calls h1 hl u G hu hlt hg).mono ?_
  rintro e w' ⟨he, vc', k1, k2, _⟩
  exact ⟨he, h.step (B' := ⟨closeL B.L.length G B.L, B.P⟩) h3 h4 k1 h2 k2⟩
theorem Sof_open {p : Nat} {vc vo vo' : Value} {O O' : List (Pk × Value)} {n : Nat} (h1 : ∃ b, vo'.ownBlock = some b ∧ n ≤ b) (h2 : ∀ q ∈ O', q ∈ O ∨ ∀ b, q.2.ownBlock = some b → n ≤ b) : ∀ x ∈ Sof p vc vo' O', x ∈ Sof p vc vo O ∨ n ≤ x := fun x hx => by
  rcases mem_Sof.1 hx with hx | hx | hx | ⟨q, hq, hx⟩
  · exact Or.inl (mem_Sof.2 (Or.inl hx))
  · exact Or.inl (mem_Sof.2 (Or.inr (Or.inl hx)))
  · obtain ⟨b, hb, hl⟩ := h1
    rw [hb] at hx
    obtain rfl := Option.some.inj hx
    exact Or.inr hl
  · rcases h2 q hq with hq | hq
    · exact Or.inl (mem_Sof.2 (Or.inr (Or.inr (Or.inr ⟨q, hq, hx⟩))))
    · exact Or.inr (hq x hx)
theorem push_rh (h : Rdd w p T B v g) (hd : B.P.length ≤ 998) (q : Pk) (hq : q.g = []) : Calls Try.prog 33 #[Pt p, .agg #[.int .i64 (q.k : Int), .int .i64 (q.s : Int), nilV]] w fun e w' => (∃ r, e = .returned r) ∧ ∃ T', Rdd w' p T' ⟨B.L, B.P ++ [q]⟩ v g ∧ Turn T T' w w' := by
  obtain ⟨vc, vo, O, h1, h2, h3, h4⟩ := h.bv
  refine (rpush_calls h1 (by rw [h2, List.length_map] at hd; exact hd) q nilV (by rw [hq]; exact Ir.nil _ _) (fun b hb => by cases hb)).mono ?_
  rintro e w' ⟨he, vo', k1, k2, k3⟩
  refine ⟨he, h.step (B' := ⟨B.L, B.P ++ [q]⟩) h3 h4 k1 (by simp [h2]) ⟨k2.up fun x hx => ?_, Sof_open k3 fun r hr => ?_⟩⟩
  · rw [List.mem_singleton.1 hx]; exact mem_Sof.2 (Or.inl rfl)
  · rcases List.mem_append.1 hr with hr | hr
    · exact Or.inl hr
    · rw [List.mem_singleton.1 hr]; exact Or.inr fun b hb => by cases hb
theorem back_rh (h : Rdd w p T B v g) (hd : B.P.length ≤ 998) (q : Pk) (hq : q.g = g) : Calls Try.prog 33 #[Pt p, .agg #[.int .i64 (q.k : Int), .int .i64 (q.s : Int), v]] w fun e w' => (∃ r, e = .returned r) ∧ ∃ T', Rdd w' p T' ⟨B.L, B.P ++ [q]⟩ nilV [] ∧ Turn T T' w w' := by
  subst hq
  obtain ⟨vc, vo, O, h1, h2, h3, h4⟩ := h.bv
  refine (rpush_calls h1 (by rw [h2, List.length_map] at hd; exact hd) q v h.gr h4).mono ?_
  rintro e w' ⟨he, vo', k1, k2, k3⟩
  have mem : ∀ x ∈ Sof p vc vo' (O ++ [(q, v)]), x ∈ T ∨ w.heap.size ≤ x := fun x hx => by
    rcases mem_Sof.1 hx with hx | hx | hx | ⟨r, hr, hx⟩
    · exact Or.inl (h3 x (mem_Sof.2 (Or.inl hx)))
    · exact Or.inl (h3 x (mem_Sof.2 (Or.inr (Or.inl hx))))
    · obtain ⟨b, hb, hl⟩ := k3
      rw [hb] at hx
      obtain rfl := Option.some.inj hx
      exact Or.inr hl
    · rcases List.mem_append.1 hr with hr | hr
      · exact Or.inl (h3 x (mem_Sof.2 (Or.inr (Or.inr (Or.inr ⟨r, hr, hx⟩)))))
      · rw [List.mem_singleton.1 hr] at hx
        exact Or.inl (h.own x hx)
  refine ⟨he, T ++ Sof p vc vo' (O ++ [(q, v)]), ⟨fun x hx => ?_, ⟨vc, vo', _, k1, by simp [h2], fun x hx => by simp [hx], fun b hb => by cases hb⟩, Ir.nil _ _, fun b hb => by cases hb⟩, k2.up fun x hx => ?_, fun x hx => ?_⟩
  · rcases List.mem_append.1 hx with hx | hx
    · exact Nat.lt_of_lt_of_le (h.lt x hx) k2.size
    · exact k1.lt x hx
  · rw [List.mem_singleton.1 hx]; exact h3 p (mem_Sof.2 (Or.inl rfl))
  · rcases List.mem_append.1 hx with hx | hx
    · exact Or.inl hx
    · exact mem x hx
theorem pop_rh {L : List Xi} {C : List Pk} {q : Pk} (h : Rdd w p T ⟨L, C ++ [q]⟩ v g) (hd : C.length ≤ 1000) :
    Calls Try.prog 34 #[Pt p] w fun e w' => ∃ A c, e = .returned (.agg #[.int .i64 (q.k : Int), .int .i64 (q.s : Int), .slice A q.g.length c]) ∧ Rdd w' p T ⟨L, C⟩ (.slice A q.g.length c) q.g ∧ Turn T T w w' := by
  obtain ⟨vc, vo, O, h1, h2, h3, h4⟩ := h.bv
  obtain ⟨A, v1, rfl, rfl⟩ := snoc_map h2
  obtain ⟨gb, cap, rfl, _⟩ := h1.part
  have hgp := h1.gp (q, v1) (by simp)
  have hgg := h1.gg
  rw [List.pairwise_append] at hgg
  have hv1 : ∀ b, v1.ownBlock = some b → b ∈ T := fun b hb => h3 b (mem_Sof.2 (Or.inr (Or.inr (Or.inr ⟨(q, v1), by simp, hb⟩))))
  refine (rpop_calls h1 (by rw [List.length_map] at hd; exact hd)).mono ?_
  rintro e w' ⟨rfl, k1, k2, k3⟩
  obtain ⟨A1, c1, rfl⟩ := k2.slice
  refine ⟨A1, c1, rfl, ⟨fun x hx => Nat.lt_of_lt_of_le (h.lt x hx) k3.size, ⟨vc, _, A, k1, rfl, fun x hx => h3 x ?_, fun b hb hx => ?_⟩, k2, hv1⟩, Turn.of (k3.up fun x hx => ?_)⟩
  · rcases mem_Sof.1 hx with hx | hx | hx | ⟨r, hr, hx⟩
    · exact mem_Sof.2 (Or.inl hx)
    · exact mem_Sof.2 (Or.inr (Or.inl hx))
    · exact mem_Sof.2 (Or.inr (Or.inr (Or.inl hx)))
    · exact mem_Sof.2 (Or.inr (Or.inr (Or.inr ⟨r, by simp [hr], hx⟩)))
  · rcases mem_Sof.1 hx with hx | hx | hx | ⟨r, hr, hx⟩
    · exact hgp.1 (by rw [← hx]; exact hb)
    · exact (hgp.2 b hb).1 hx
    · exact (hgp.2 b hb).2 hx
    · exact hgg.2.2 r hr (q, .slice A1 q.g.length c1) (by simp) b hx hb
  · rw [List.mem_singleton.1 hx]; exact h3 p (mem_Sof.2 (Or.inl rfl))
theorem leave_rh {L : List Xi} {C D : List Pk} {q : Pk} (h : Rdd w p T ⟨L, C ++ q :: D⟩ v g) (hd : (C ++ q :: D).length ≤ 998) (hq : q.k = 2) (hD : ∀ d ∈ D, d.k ≠ 2) (hg : q.g.length ≤ 990) (i : Nat) :
    Calls Try.prog 36 #[Pt p, .int .i64 (i : Int)] w fun e w' => (∃ r, e = .returned r) ∧ ∃ T', Rdd w' p T' ⟨L, C ++ { q with g := q.g ++ [i] } :: D⟩ v g ∧ Turn T T' w w' := by
  obtain ⟨vc, vo, O, h1, h2, h3, h4⟩ := h.bv
  obtain ⟨A, v1, B1, rfl, rfl, rfl⟩ := mid_map h2
  refine (rleave_calls h1 (by simp at hd ⊢; omega) hq (fun d hd => hD d.1 (List.mem_map.2 ⟨d, hd, rfl⟩)) hg i).mono ?_
  rintro e w' ⟨he, vo', v', k1, k2, k3, b, hb, hl⟩
  refine ⟨he, h.step (B' := ⟨L, A.map Prod.fst ++ { q with g := q.g ++ [i] } :: B1.map Prod.fst⟩) h3 h4 k1 (by simp) ⟨k2.up fun x hx => ?_, Sof_open k3 fun r hr => ?_⟩⟩
  · rw [List.mem_singleton.1 hx]; exact mem_Sof.2 (Or.inl rfl)
  · rcases List.mem_append.1 hr with hr | hr
    · exact Or.inl (by simp [hr])
    · rcases List.mem_cons.1 hr with rfl | hr
      · refine Or.inr fun b' hb' => ?_
        have : b' = b := Option.some.inj (hb'.symm.trans hb)
        omega
      · exact Or.inl (by simp [hr])
/-- The instruction i, in place. -/
theorem Rdd.ins (h : Rdd w p T B v g) {i : Nat} (hi : i < B.L.length) : ∃ gc cap y, w.cell? ⟨p, 0, none⟩ = some (.slice (some ⟨gc, 0, none⟩) B.L.length cap) ∧ w.cell? ⟨gc, i * 3 + 1, none⟩ = some (.int .i64 y) ∧ w.frozen? ⟨gc, i * 3 + 1, none⟩ = false ∧
    ∀ a : Nat, Rdd (w.setCell ⟨gc, i * 3 + 1, none⟩ (.int .i64 (a : Int))) p T ⟨setA B.L i a, B.P⟩ v g ∧ Turn T T w (w.setCell ⟨gc, i * 3 + 1, none⟩ (.int .i64 (a : Int))) ∧ Mod [gc] w (w.setCell ⟨gc, i * 3 + 1, none⟩ (.int .i64 (a : Int))) ∧ gc ∈ T := by
  obtain ⟨vc, vo, O, h1, h2, h3, h4⟩ := h.bv
  obtain ⟨gc, cap, rfl, hgp, hat, hfr, _⟩ := h1.ins (List.getElem?_eq_getElem hi)
  have hgc : gc ∈ Sof p (.slice (some ⟨gc, 0, none⟩) B.L.length cap) vo O := mem_Sof.2 (Or.inr (Or.inl rfl))
  refine ⟨gc, cap, _, h1.c0, hat.c1, hfr _, fun a => ?_⟩
  obtain ⟨k1, k2⟩ := h1.setA i a
  refine ⟨⟨fun x hx => Nat.lt_of_lt_of_le (h.lt x hx) k2.size, ⟨_, vo, O, k1, h2, h3, h4⟩, row_mod h.gr k2 fun b hb hx => h4 b hb ?_, h.own⟩, Turn.of (k2.up fun x hx => by rw [List.mem_singleton.1 hx]; exact h3 gc hgc), k2, h3 gc hgc⟩
  rw [List.mem_singleton.1 hx]; exact hgc
theorem asks_rh (h : Rdd w p T B v g) (hd : B.P.length ≤ 1000) {n : Int} (h1 : 1 ≤ n) (h2 : n ≤ 17) : Calls Try.prog 30 #[Pt p, .int .i64 n] w fun e w' => e = .returned (.bool (asksR n B.P)) ∧ w = w' := by
  obtain ⟨vc, vo, O, k1, k2, _, _⟩ := h.bv
  rw [k2] at hd ⊢
  exact asks_calls k1 (by rw [List.length_map] at hd; exact hd) h1 h2
theorem Rdd.rows (h : Rdd w p T B v g) : ∃ A0 c0 A1 c1, w.cell? ⟨p, 0, none⟩ = some (.slice A0 B.L.length c0) ∧ w.cell? ⟨p, 1, none⟩ = some (.slice A1 B.P.length c1) := by
  obtain ⟨vc, vo, O, k1, k2, _, _⟩ := h.bv
  obtain ⟨A0, c0, rfl, _⟩ := k1.code_slice
  obtain ⟨A1, c1, rfl, _⟩ := k1.open_slice
  rw [k2, List.length_map]
  exact ⟨A0, c0, A1, c1, k1.c0, k1.c1⟩
end Go.Proofs.Ytnclfopdgilgaaa

namespace Go.Proofs.Ytnclfopdgilgaaa
open Go.RowKit
set_option linter.unusedVariables false

/-- What is so of the document's builder. -/
structure OkR (B : Bd) : Prop where
  len : B.L.length ≤ 499
  dep : B.P.length ≤ 32
  part : ∀ q ∈ B.P, q.g.length ≤ B.L.length ∧ (∀ i ∈ q.g, i < B.L.length) ∧ (q.k = 0 ∨ q.k = 4 → q.s < B.L.length) ∧ (¬ (q.k = 2 ∨ q.k = 3) → q.g = []) ∧ (q.k = 3 → q.s = 0)
theorem okR_of {B : Bd} (h : OkB B) : OkR (rB B) := by
  refine ⟨h.len, by unfold rB; rw [List.length_map]; exact h.dep, fun q hq => ?_⟩
  obtain ⟨r, hr, rfl⟩ := List.mem_map.1 hq
  have k := h.part r hr
  have hL : (rB B).L = B.L := rfl
  rw [hL]
  have hk := k.kind
  unfold rP
  simp only
  refine ⟨?_, ?_, ?_, ?_, ?_⟩
  · split
    · exact k.many
    · simp
  · split
    · exact k.lt
    · simp
  · intro e
    have e2 : r.k = 1 ∨ r.k = 5 := by omega
    obtain ⟨i, hi⟩ := k.one e2
    rw [if_pos e2, hi]
    exact k.lt i (by rw [hi]; simp)
  · intro e
    rw [if_neg (by omega)]
  · intro e
    rw [if_neg (by omega), if_pos (by omega)]
theorem up_top {k : Nat} {P : List Pk} (h : upR k 0 P = true) : ∃ C q, P = C ++ [q] ∧ q.k = k := by
  rcases List.eq_nil_or_concat P with rfl | ⟨C, q, rfl⟩
  · rw [up_nil] at h; cases h
  · rw [List.concat_eq_append, up_snoc] at h
    exact ⟨C, q, by simp, of_decide_eq_true h⟩
theorem up_two {k l : Nat} {P : List Pk} (h : (upR l 0 P && upR k 1 P) = true) : ∃ C p q, P = C ++ [p, q] ∧ p.k = k ∧ q.k = l := by
  rw [Bool.and_eq_true] at h
  obtain ⟨C, q, rfl, hq⟩ := up_top h.1
  rcases List.eq_nil_or_concat C with rfl | ⟨D, p, rfl⟩
  · rw [List.nil_append, up_one] at h; cases h.2
  · rw [List.concat_eq_append, List.append_assoc, List.singleton_append, up_snoc2] at h
    exact ⟨D, p, q, by simp, of_decide_eq_true h.2, hq⟩
/-- What the document's Do answers, and what is then. -/
def DoP (p : Nat) (T : List Nat) (w : World) (r : Int × Bd) (e : Ending) (w' : World) : Prop := e = .returned (.int .i64 r.1) ∧ ∃ T', Rdd w' p T' r.2 nilV [] ∧ Turn T T' w w'
theorem lays_lit {w : World} {n : Int} (h1 : 1 ≤ n) (h2 : n ≤ 17) (z : Int) (hz : (laysR n : Int) = z) : Calls Try.prog 31 #[.int .i64 n] w fun e w' => e = .returned (.int .u8 z) ∧ w = w' := by
  subst hz
  exact lays_calls h1 h2
theorem opens_lit {w : World} {n : Int} (h1 : 1 ≤ n) (h2 : n ≤ 17) (z : Bool) (hz : opensR n = z) : Calls Try.prog 32 #[.int .i64 n] w fun e w' => e = .returned (.bool z) ∧ w = w' := by
  subst hz
  exact opens_calls h1 h2
variable {w : World} {p : Nat} {T : List Nat} {B : Bd}
set_option maxHeartbeats 4000000 in
set_option maxRecDepth 100000 in
theorem rdo_wrong (h : Rdd w p T B nilV []) {n : Int} (hn : n < 1 ∨ 17 < n) : Calls Try.prog 16 #[Pt p, .int .i64 n] w (DoP p T w (1, B)) := by
  have HH := Lib.hid h
  clear h
  by_cases h1 : n < 1
  · clear hn
    go_enter Try.func16, Try.ntmps16
    go_wp2_with fail
    go_ret
    exact ⟨rfl, T, HH.out, Turn.refl _ _⟩
  · have h2 : 17 < n := by omega
    clear hn
    go_enter Try.func16, Try.ntmps16
    go_wp2_with fail
    go_ret
    exact ⟨rfl, T, HH.out, Turn.refl _ _⟩
set_option maxHeartbeats 4000000 in
set_option maxRecDepth 100000 in
theorem rdo_ctrl (h : Rdd w p T B nilV []) (hd : B.P.length ≤ 1000) {n : Int} (h1 : 1 ≤ n) (h2 : n ≤ 17) (ha : asksR n B.P = false) : Calls Try.prog 16 #[Pt p, .int .i64 n] w (DoP p T w (-22, B)) := by
  have k := asks_rh h hd h1 h2
  rw [ha] at k
  have K := Lib.hid k
  have HH := Lib.hid h
  have g1 : ¬ n < 1 := by omega
  have g2 : ¬ 17 < n := by omega
  clear h k h1 h2 hd ha
  go_enter Try.func16, Try.ntmps16
  go_wp2_with fail
  refine (K.out).mono ?_
  rintro e w1 ⟨rfl, rfl⟩
  go_wp2_with fail
  go_ret
  exact ⟨rfl, T, HH.out, Turn.refl _ _⟩
set_option maxHeartbeats 4000000 in
set_option maxRecDepth 100000 in
theorem rdo_full (h : Rdd w p T B nilV []) (hd : B.P.length ≤ 1000) {n : Int} (h1 : 1 ≤ n) (h2 : n ≤ 17) (ha : asksR n B.P = true) (hf : fullR n B = true) : Calls Try.prog 16 #[Pt p, .int .i64 n] w (DoP p T w (-8, B)) := by
  have k := asks_rh h hd h1 h2
  rw [ha] at k
  have K := Lib.hid k
  obtain ⟨z, hz⟩ : ∃ z : Int, (laysR n : Int) = z := ⟨_, rfl⟩
  obtain ⟨o, ho⟩ : ∃ o, opensR n = o := ⟨_, rfl⟩
  have KL := Lib.hid (lays_lit (w := w) h1 h2 z hz)
  have KO := Lib.hid (opens_lit (w := w) h1 h2 o ho)
  obtain ⟨A0, c0, A1, c1, k0, k1⟩ := h.rows
  obtain ⟨t, ht⟩ : ∃ t, t = B.L.length := ⟨_, rfl⟩
  obtain ⟨m, hm⟩ : ∃ m, m = B.P.length := ⟨_, rfl⟩
  rw [← ht] at k0
  rw [← hm] at k1
  have HH := Lib.hid h
  have g1 : ¬ n < 1 := by omega
  have g2 : ¬ 17 < n := by omega
  have hf2 : (z ≠ 0 ∧ 499 ≤ t) ∨ (o = true ∧ 32 ≤ m) := by
    unfold fullR at hf
    rw [ho, ← ht, ← hm] at hf
    simp only [Bool.or_eq_true, Bool.and_eq_true, decide_eq_true_eq] at hf
    rcases hf with hf | hf
    · exact Or.inl ⟨by omega, hf.2⟩
    · exact Or.inr hf
  clear h k h1 h2 hd ha hf hz ho ht hm
  by_cases c : z ≠ 0 ∧ 499 ≤ t
  · have e1 : Value.bool (z != 0) = Value.bool true := by rw [bne_iff_ne.2 c.1]
    have e2 : (499 : Int) ≤ (t : Int) := by omega
    clear c hf2
    go_enter Try.func16, Try.ntmps16
    go_wp2_with fail
    refine (K.out).mono ?_
    rintro e w1 ⟨rfl, rfl⟩
    go_wp2_with fail
    refine (KL.out).mono ?_
    rintro e w1 ⟨rfl, rfl⟩
    go_wp2_with fail
    go_ret
    exact ⟨rfl, T, HH.out, Turn.refl _ _⟩
  · obtain ⟨rfl, hm⟩ : o = true ∧ 32 ≤ m := by
      rcases hf2 with h | h
      · exact absurd h c
      · exact h
    have e3 : (32 : Int) ≤ (m : Int) := by omega
    by_cases c2 : z = 0
    · subst c2
      clear c hf2 hm
      go_enter Try.func16, Try.ntmps16
      go_wp2_with fail
      refine (K.out).mono ?_
      rintro e w1 ⟨rfl, rfl⟩
      go_wp2_with fail
      refine (KL.out).mono ?_
      rintro e w1 ⟨rfl, rfl⟩
      go_wp2_with fail
      refine (KO.out).mono ?_
      rintro e w1 ⟨rfl, rfl⟩
      go_wp2_with fail
      go_ret
      exact ⟨rfl, T, HH.out, Turn.refl _ _⟩
    · have e1 : Value.bool (z != 0) = Value.bool true := by rw [bne_iff_ne.2 c2]
      have e2 : ¬ (499 : Int) ≤ (t : Int) := by have : ¬ 499 ≤ t := fun h => c ⟨c2, h⟩
                                                omega
      clear c hf2 hm c2
      go_enter Try.func16, Try.ntmps16
      go_wp2_with fail
      refine (K.out).mono ?_
      rintro e w1 ⟨rfl, rfl⟩
      go_wp2_with fail
      refine (KL.out).mono ?_
      rintro e w1 ⟨rfl, rfl⟩
      go_wp2_with fail
      refine (KO.out).mono ?_
      rintro e w1 ⟨rfl, rfl⟩
      go_wp2_with fail
      go_ret
      exact ⟨rfl, T, HH.out, Turn.refl _ _⟩
end Go.Proofs.Ytnclfopdgilgaaa

namespace Go.Proofs.Ytnclfopdgilgaaa
open Go.RowKit
set_option linter.unusedVariables false

theorem full_no {n : Int} {B : Bd} (hf : fullR n B = false) : (laysR n ≠ 0 → B.L.length < 499) ∧ (opensR n = true → B.P.length < 32) := by
  unfold fullR at hf
  simp only [Bool.or_eq_false_iff, Bool.and_eq_false_iff, decide_eq_false_iff_not] at hf
  refine ⟨fun h => ?_, fun h => ?_⟩
  · rcases hf.1 with k | k
    · exact absurd h k
    · omega
  · rcases hf.2 with k | k
    · rw [h] at k; cases k
    · omega
theorem push_lit {w : World} {p : Nat} {T : List Nat} {B : Bd} {v : Value} {g : List Nat} (h : Rdd w p T B v g) (hd : B.P.length ≤ 998) (k s : Nat) (kz sz : Int) (hk : (k : Int) = kz) (hs : (s : Int) = sz) :
    Calls Try.prog 33 #[Pt p, .agg #[.int .i64 kz, .int .i64 sz, .slice none 0 0]] w fun e w' => (∃ r, e = .returned r) ∧ ∃ T', Rdd w' p T' ⟨B.L, B.P ++ [⟨k, s, []⟩]⟩ v g ∧ Turn T T' w w' := by
  subst hk hs
  exact push_rh h hd ⟨k, s, []⟩ rfl
theorem held_lit {w : World} {p : Nat} {T : List Nat} {B : Bd} {v : Value} {g : List Nat} (h : Rdd w p T B v g) (hd : B.P.length ≤ 998) (k s : Nat) (kz sz : Int) (hk : (k : Int) = kz) (hs : (s : Int) = sz) :
    Calls Try.prog 33 #[Pt p, .agg #[.int .i64 kz, .int .i64 sz, v]] w fun e w' => (∃ r, e = .returned r) ∧ ∃ T', Rdd w' p T' ⟨B.L, B.P ++ [⟨k, s, g⟩]⟩ nilV [] ∧ Turn T T' w w' := by
  subst hk hs
  exact back_rh h hd ⟨k, s, g⟩ rfl
theorem gr_one (w : World) (s : Nat) : Gr (w.alloc (.cells #[.int .i64 (s : Int)] 3)) (.slice (some ⟨w.heap.size, 0, none⟩) 1 1) [s] := Ir.one w 0 (Nat.zero_le _) (s : Int)
/-- Block b is a part of the call's own, apart from T. -/
structure Kpt (w : World) (T : List Nat) (b : Nat) (k s : Int) (v : Value) : Prop where
  out : b ∉ T
  c0 : w.cell? ⟨b, 0, none⟩ = some (.int .i64 k)
  c1 : w.cell? ⟨b, 1, none⟩ = some (.int .i64 s)
  c2 : w.cell? ⟨b, 2, none⟩ = some v
theorem Kpt.new {w : World} {T : List Nat} (h : ∀ x ∈ T, x < w.heap.size) (k s : Int) (v : Value) : Kpt (w.alloc (.cells #[.int .i64 k, .int .i64 s, v] TRP)) T w.heap.size k s v := by
  refine ⟨fun hx => by have := h _ hx; omega, ?_, ?_, ?_⟩
  all_goals
    rw [World.cell?_alloc_new]
    rfl
theorem Kpt.turn {w w' : World} {T T' : List Nat} {b : Nat} {k s : Int} {v : Value} (h : Kpt w T b k s v) (t : Turn T T' w w') : Kpt w' T' b k s v := by
  refine ⟨fun hx => ?_, t.1.cell h.out h.c0, t.1.cell h.out h.c1, t.1.cell h.out h.c2⟩
  rcases t.2 b hx with hx | hx
  · exact h.out hx
  · have : b < w.heap.size := World.block_lt_of_cell? w _ h.c0
    omega
theorem Kpt.far {w w' : World} {T : List Nat} {b : Nat} {k s : Int} {v : Value} (h : Kpt w T b k s v) (m : Mod [] w w') : Kpt w' T b k s v := ⟨h.out, m.cell (by simp) h.c0, m.cell (by simp) h.c1, m.cell (by simp) h.c2⟩
theorem Rdd.as {w : World} {p : Nat} {T : List Nat} {B B' : Bd} {v : Value} {g : List Nat} (h : Rdd w p T B v g) (e : B' = B) : Rdd w p T B' v g := e ▸ h
theorem act_leave {L : List Xi} {C D : List Pk} {q : Pk} (hq : q.k = 2) (hD : ∀ d ∈ D, d.k ≠ 2) : actR 13 L.length (layB ⟨9, 0, 0⟩ ⟨L, C ++ q :: D⟩) = ⟨L ++ [⟨9, 0, 0⟩], C ++ { q with g := q.g ++ [L.length] } :: D⟩ := by
  have e1 : actR 13 L.length (layB ⟨9, 0, 0⟩ ⟨L, C ++ q :: D⟩) = ⟨L ++ [⟨9, 0, 0⟩], moreG L.length (C ++ q :: D) (topmost 2 (C ++ q :: D)).toNat⟩ := rfl
  rw [e1, topmost_is hq hD, Int.toNat_natCast, more_at]
end Go.Proofs.Ytnclfopdgilgaaa
