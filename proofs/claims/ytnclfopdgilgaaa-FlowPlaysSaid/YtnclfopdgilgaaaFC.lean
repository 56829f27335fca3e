/- Layer 11 (package flow): an instruction is laid; a part is opened. Condition: the block is a builder (Bv). -/
import Derived.Test.YtnclfopdgilgaaaFB
namespace Go.Proofs.Ytnclfopdgilgaaa
open Go.RowKit
set_option linter.unusedVariables false

abbrev TB : TypeId := 61
abbrev TP : TypeId := 94
/-- An append of one instruction, behind whatever is new. -/
theorem Bv.code_app {tB tP : TypeId} {w w1 : World} {p : Nat} {vc vo : Value} {O : List (Pk × Value)} {L : List Xi} (h : Bv tB tP w p vc vo O L) (m : Mod [] w w1) (hl : L.length ≤ 1000) (x : Xi) (ad : Addr) (cp : Nat) (hc : ∀ j u, (flatsX [x])[j]? = some u → w1.cell? (ad.add j) = some u) :
    ∃ A n cap w', (appIns 27 #[vc, .slice (some ad) 1 cp]).run Try.prog w1 = .ok (.slice A n cap) w' ∧ Mod vc.ownBlock.toList w1 w' ∧
      Bv tB tP (w'.setCell ⟨p, 0, none⟩ (.slice A n cap)) p (.slice A n cap) vo O (L ++ [x]) ∧ Turn (Sof p vc vo O) (Sof p (.slice A n cap) vo O) w (w'.setCell ⟨p, 0, none⟩ (.slice A n cap)) := by
  have h1 := h.far m
  have hm0 : maxLen = 9223372036854775807 := rfl
  obtain ⟨i, hi, hz0, hz1, hz2⟩ := info_parts infoIns
  obtain ⟨v', w', hr, hrow, hg, _, ho⟩ := run_append_own_at (P := Try.prog) (w := w1) 0 27 27 35 i _ 3 24 Try.underlying27 hi hz0 hz1 hz2 rfl (by decide) _ _ _ h1.code ad 1 cp (flatsX [x]) (flatsX_len [x]) hc (fun u hu => by
    simp [flatsX, flatX] at hu
    rcases hu with rfl | rfl | rfl <;> rfl) (by omega) (by omega) (Nat.zero_le _)
  have hrow' : Xr w' 0 v' (L ++ [x]) := by
    unfold Xr
    rw [flatsX_app]
    rw [List.length_append]
    exact hrow
  have hs : ∃ A cap, v' = .slice A (L.length + 1) cap := by
    rcases hrow.2 with ⟨rfl, h0⟩ | ⟨g, cap, cur, rfl, _⟩
    · omega
    · exact ⟨_, cap, rfl⟩
  obtain ⟨A, cap, rfl⟩ := hs
  have hm := Mod.of_grown hg (S := vc.ownBlock.toList) (by simp)
  have hown : (Value.slice A (L.length + 1) cap).ownBlock = vc.ownBlock ∨ ∀ g, (Value.slice A (L.length + 1) cap).ownBlock = some g → g = w1.heap.size := ho.imp id fun e g hg => Option.some.inj (hg.symm.trans e)
  have hold : w'.heap[p]? = some (.cells #[vc, vo] tB (0, 0)) := (hm.block p h1.lp (by simpa using h1.cp)).trans h1.blk
  have hset := set_mod w' p 0 (.slice A (L.length + 1) cap)
  have kp : (Value.slice A (L.length + 1) cap).ownBlock ≠ some p := by
    rcases hown with e | e
    · rw [e]; exact h1.cp
    · exact fun hg => by have := e p hg; have := h1.lp; omega
  refine ⟨A, _, cap, w', hr, hm, ⟨heap_setCell_same w' p 0 _ _ _ hold, row_mod hrow' hset fun g hg hx => kp (by rw [hg]; simpa using hx), row_mod (row_mod h1.row hm fun g hg hx => h1.co g (by simpa using hx) hg) hset fun g hg hx => h1.op (by rw [hg]; simpa using hx),
    fun q hq => row_mod (row_mod (h1.gaps q hq) hm fun g hg hx => ((h1.gp q hq).2 g hg).1 (by simpa using hx)) hset fun g hg hx => (h1.gp q hq).1 (by rw [hg]; simpa using hx), kp, h1.op, fun g hg hv => ?_, fun q hq => ⟨(h1.gp q hq).1, fun g hg => ⟨fun hv => ?_, ((h1.gp q hq).2 g hg).2⟩⟩, h1.gg⟩, ?_, fun y hy => ?_⟩
  · rcases hown with e | e
    · exact h1.co g (e ▸ hg) hv
    · have := e g hg; have := h1.lo g hv; omega
  · rcases hown with e | e
    · exact ((h1.gp q hq).2 g hg).1 (e ▸ hv)
    · have := e g hv; have := h1.lg q hq g hg; omega
  · refine ((m.up (by simp)).trans (hm.up fun y hy => ?_)).trans (hset.up fun y hy => ?_)
    · exact mem_Sof.2 (Or.inr (Or.inl (by simpa using hy)))
    · exact mem_Sof.2 (Or.inl (by simpa using hy))
  · rcases mem_Sof.1 hy with hy | hy | hy | hy
    · exact Or.inl (mem_Sof.2 (Or.inl hy))
    · rcases hown with e | e
      · exact Or.inl (mem_Sof.2 (Or.inr (Or.inl (e ▸ hy))))
      · have := e y hy
        have := m.size
        exact Or.inr (by omega)
    · exact Or.inl (mem_Sof.2 (Or.inr (Or.inr (Or.inl hy))))
    · exact Or.inl (mem_Sof.2 (Or.inr (Or.inr (Or.inr hy))))
set_option maxHeartbeats 2000000 in
theorem lay_calls {w : World} {p : Nat} {vc vo : Value} {O : List (Pk × Value)} {L : List Xi} (h : Bv TB TP w p vc vo O L) (hl : L.length ≤ 1000) (x : Xi) :
    Calls Try.prog 26 #[Pt p, insV x] w fun e w' => (∃ v, e = .returned v) ∧ ∃ vc', Bv TB TP w' p vc' vo O (L ++ [x]) ∧ Turn (Sof p vc vo O) (Sof p vc' vo O) w w' := by
  obtain ⟨A0, cap0, hvc, _⟩ := h.code_slice
  obtain ⟨n0, hn0⟩ : ∃ n0, n0 = L.length := ⟨_, rfl⟩
  rw [← hn0] at hvc
  subst hvc
  obtain ⟨W, hW⟩ : ∃ W, W = w.alloc (.cells #[.int .u8 (x.op : Int), .int .i64 x.a, .int .i64 x.w] 35) := ⟨_, rfl⟩
  have mW : Mod [] w W := by rw [hW]; exact (Mod.refl [] w).alloc _
  have cW := fun j u (hj : (flatsX [x])[j]? = some u) => (by rw [hW]; exact flat_new w x _ j u hj : W.cell? ((⟨w.heap.size, 0, none⟩ : Addr).add j) = some u)
  have x0 : W.cell? ⟨w.heap.size, 0, none⟩ = some (.int .u8 (x.op : Int)) := by have := cW 0 _ rfl; rwa [WideShapes.add_plain] at this
  have x1 : W.cell? ⟨w.heap.size, 1, none⟩ = some (.int .i64 x.a) := by have := cW 1 _ rfl; rwa [WideShapes.add_plain] at this
  have x2 : W.cell? ⟨w.heap.size, 2, none⟩ = some (.int .i64 x.w) := by have := cW 2 _ rfl; rwa [WideShapes.add_plain] at this
  have hWs : W.heap.size = w.heap.size + 1 := by rw [hW, size_allocI]
  have hM3 : Mod [] w (W.alloc (.cells #[.int .u8 (x.op : Int), .int .i64 x.a, .int .i64 x.w] 35)).drew := (mW.alloc _).drew
  obtain ⟨A, n, cap, w', hr, hm, hB, hT⟩ := h.code_app hM3 hl x ⟨W.heap.size, 0, none⟩ 1 (fun j u hj => flat_new W x _ j u hj)
  have K := h.far mW
  have K3 := h.far hM3
  have k0 := K.c0
  have k30 : (W.alloc (.cells #[.int .u8 (x.op : Int), .int .i64 x.a, .int .i64 x.w] 35)).cell? ⟨p, 0, none⟩ = some (.slice A0 n0 cap0) := K3.c0
  have y0 : (W.alloc (.cells #[.int .u8 (x.op : Int), .int .i64 x.a, .int .i64 x.w] 35)).cell? ⟨w.heap.size, 0, none⟩ = some (.int .u8 (x.op : Int)) := ((Mod.refl [] W).alloc _).cell (by simp) x0
  have hpn : p ∉ (Value.slice A0 n0 cap0).ownBlock.toList := by simpa using h.cp
  have g0 := hm.cell (x := ⟨p, 0, none⟩) hpn K3.c0
  have gf0 := (hm.frozen (x := ⟨p, 0, none⟩) hpn K3.lp).trans (K3.f 0)
  have HF := Lib.hid (And.intro hB hT)
  clear h hB hT K K3 hm hpn hM3 mW cW hl hn0
  go_enter Try.func26, Try.ntmps26
  go_upto_region 1 with fail
  rw [← hW]
  clear hW
  clear hWs
  replace hr : (appIns 27 _).run Try.prog _ = .ok (.slice A n cap) w' := hr
  go_region
  all_goals
    clear hr k0 k30 y0 g0 gf0 x0 x1 x2
    go_wp2_with fail
    go_end0
    exact ⟨⟨_, rfl⟩, _, HF.out.1, HF.out.2⟩
end Go.Proofs.Ytnclfopdgilgaaa
