/- Layer 11 (package flow): the last instruction, the top part; a part is opened, or removed. Condition: the block is a builder (Bv). -/
import Derived.Test.YtnclfopdgilgaaaFC
import Derived.BigQuiet
namespace Go.Proofs.Ytnclfopdgilgaaa
open Go.RowKit
set_option linter.unusedVariables false

theorem last_calls {w : World} {p : Nat} {vc vo : Value} {O : List (Pk × Value)} {L : List Xi} (h : Bv TB TP w p vc vo O L) (hl : L.length ≤ 1000) : Calls Try.prog 63 #[Pt p] w fun e w' => e = .returned (.int .i64 ((L.length : Int) - 1)) ∧ w = w' := by
  obtain ⟨A0, cap0, rfl, _⟩ := h.code_slice
  have h0 := h.c0
  obtain ⟨n, hn⟩ : ∃ n, n = L.length := ⟨_, rfl⟩
  rw [← hn] at h0 hl ⊢
  have hlI : (n : Int) ≤ 1000 := by omega
  clear h hn
  go_enter Try.func63, Try.ntmps63
  go_wp2
  go_ret
  exact ⟨rfl, rfl⟩
set_option maxHeartbeats 1000000 in
theorem top_calls {w : World} {p g n cap : Nat} {vc : Value} {A : List (Pk × Value)} {q : Pk × Value} {L : List Xi} (h : Bv TB TP w p vc (.slice (some ⟨g, 0, none⟩) n cap) (A ++ [q]) L) (hd : A.length ≤ 1000) :
    Calls Try.prog 65 #[Pt p] w fun e w' => e = .returned (.pointer (some ⟨g, A.length * 3, none⟩)) ∧ Mod [] w w' := by
  have h1 := h.c1
  have hn : n = A.length + 1 := by
    obtain ⟨_, _, e, _⟩ := h.open_slice
    injection e with _ e
    simpa using e
  obtain ⟨a, ha⟩ : ∃ a, a = A.length := ⟨_, rfl⟩
  rw [← ha] at hd hn ⊢
  have hI : (n : Int) ≤ 1001 := by omega
  have hw : IntKind.i64.wrap ((n : Int) - 1) = (a : Int) := by rw [IntKind.wrap_i64]; omega
  have hlt : (a : Int) < (n : Int) := by omega
  clear hn hd
  clear h ha
  go_enter Try.func65, Try.ntmps65
  go_upto_region 1 with fail
  go_quiet (fail)
  go_wp2_with fail
  go_ret
  exact ⟨rfl, (Mod.refl [] w).drewN _⟩
/-- An append of one part: a name, so that the walk lays nothing open. -/
def appP (ty : TypeId) (xs : Array Value) : Sem Value := Builtin.append_ #[59, 59] ty xs
@[go_sem ↓ high] theorem builtin_appP (ty : TypeId) (cs : Array Bool) (xs : Array Value) : builtin .append #[59, 59] ty cs xs = (do pure (.value (← appP ty xs))) := rfl
theorem infoP : (Try.prog.info? 94).map (fun i => (i.zero, i.size, i.bytes)) = some (some (.agg #[.int .i64 0, .int .i64 0, .slice none 0 0]), 3, 40) := by kernel_rfl
theorem part_new (w : World) (q : Pk × Value) (t : TypeId) : ∀ j u, (flatO [q])[j]? = some u → (w.alloc (.cells #[.int .i64 (q.1.k : Int), .int .i64 (q.1.s : Int), q.2] t)).cell? ((⟨w.heap.size, 0, none⟩ : Addr).add j) = some u := fun j u hj => by
  rw [WideShapes.add_plain, Nat.zero_add, World.cell?_alloc_new, ← hj, show flatO [q] = [.int .i64 (q.1.k : Int), .int .i64 (q.1.s : Int), q.2] from rfl]
  simp
theorem Bv.open_app {tB : TypeId} {w w1 : World} {p : Nat} {vc vo : Value} {O : List (Pk × Value)} {L : List Xi} (h : Bv tB TP w p vc vo O L) (m : Mod [] w w1) (hd : O.length ≤ 1000) (q : Pk) (v : Value) (hv : Gr w1 v q.g) (hs : ∀ g, v.ownBlock = some g → g ∉ Sof p vc vo O) (ad : Addr) (cp : Nat) (hc : ∀ j u, (flatO [(q, v)])[j]? = some u → w1.cell? (ad.add j) = some u) :
    ∃ A n cap w', (appP 59 #[vo, .slice (some ad) 1 cp]).run Try.prog w1 = .ok (.slice A n cap) w' ∧ Mod vo.ownBlock.toList w1 w' ∧
      Bv tB TP (w'.setCell ⟨p, 1, none⟩ (.slice A n cap)) p vc (.slice A n cap) (O ++ [(q, v)]) L ∧ Mod (Sof p vc vo O) w (w'.setCell ⟨p, 1, none⟩ (.slice A n cap)) ∧ ∀ x ∈ Sof p vc (.slice A n cap) (O ++ [(q, v)]), x ∈ Sof p vc vo O ∨ v.ownBlock = some x ∨ w.heap.size ≤ x := by
  have h1 := h.far m
  have hm0 : maxLen = 9223372036854775807 := rfl
  obtain ⟨i, hi, hz0, hz1, hz2⟩ := info_parts infoP
  have hvl : ∀ g, v.ownBlock = some g → g < w1.heap.size := fun g hg => (World.ownsRow.lt hv g hg).2
  obtain ⟨v', w', hr, hrow, hg, _, ho⟩ := run_append_own_at (P := Try.prog) (w := w1) 0 59 59 TP i _ 3 40 Try.underlying59 hi hz0 hz1 hz2 rfl (by decide) _ _ _ h1.row ad 1 cp (flatO [(q, v)]) (flatO_len [(q, v)]) hc (flatO_cells fun x hx => by
    rw [List.mem_singleton.1 hx]
    exact hv.one) (by omega) (by omega) (Nat.zero_le _)
  have hrow' : w'.ownsRow 0 TP 3 v' (O ++ [(q, v)]).length (flatO (O ++ [(q, v)])) := by
    rw [flatO_app, List.length_append]
    exact hrow
  have hsl : ∃ A cap, v' = .slice A (O.length + 1) cap := by
    rcases hrow.2 with ⟨rfl, h0⟩ | ⟨g, cap, cur, rfl, _⟩
    · omega
    · exact ⟨_, cap, rfl⟩
  obtain ⟨A, cap, rfl⟩ := hsl
  have hm := Mod.of_grown hg (S := vo.ownBlock.toList) (by simp)
  have hown : (Value.slice A (O.length + 1) cap).ownBlock = vo.ownBlock ∨ ∀ g, (Value.slice A (O.length + 1) cap).ownBlock = some g → g = w1.heap.size := ho.imp id fun e g hg => Option.some.inj (hg.symm.trans e)
  have hold : w'.heap[p]? = some (.cells #[vc, vo] tB (0, 0)) := (hm.block p h1.lp (by simpa using h1.op)).trans h1.blk
  have hset := set_mod w' p 1 (.slice A (O.length + 1) cap)
  have vp : v.ownBlock ≠ some p := fun hg => hs p hg (mem_Sof.2 (Or.inl rfl))
  have vco : ∀ g, v.ownBlock = some g → vc.ownBlock ≠ some g := fun g hg hx => hs g hg (mem_Sof.2 (Or.inr (Or.inl hx)))
  have voo : ∀ g, v.ownBlock = some g → vo.ownBlock ≠ some g := fun g hg hx => hs g hg (mem_Sof.2 (Or.inr (Or.inr (Or.inl hx))))
  have kp : (Value.slice A (O.length + 1) cap).ownBlock ≠ some p := by
    rcases hown with e | e
    · rw [e]; exact h1.op
    · exact fun hg => by have := e p hg; have := h1.lp; omega
  have mem : ∀ x ∈ O ++ [(q, v)], x = (q, v) ∨ x ∈ O := fun x hx => by
    rcases List.mem_append.1 hx with hx | hx
    · exact Or.inr hx
    · exact Or.inl (List.mem_singleton.1 hx)
  have gp : ∀ x ∈ O ++ [(q, v)], x.2.ownBlock ≠ some p ∧ ∀ g, x.2.ownBlock = some g → vc.ownBlock ≠ some g ∧ vo.ownBlock ≠ some g := fun x hx => by
    rcases mem x hx with rfl | hx
    · exact ⟨vp, fun g hg => ⟨vco g hg, voo g hg⟩⟩
    · exact h1.gp x hx
  have gl : ∀ x ∈ O ++ [(q, v)], ∀ g, x.2.ownBlock = some g → g < w1.heap.size := fun x hx => by
    rcases mem x hx with rfl | hx
    · exact hvl
    · exact h1.lg x hx
  refine ⟨A, _, cap, w', hr, hm, ⟨heap_setCell_same w' p 1 _ _ _ hold, row_mod (row_mod h1.code hm fun g hg hx => h1.co g hg (by simpa using hx)) hset fun g hg hx => h1.cp (by rw [hg]; simpa using hx), row_mod hrow' hset fun g hg hx => kp (by rw [hg]; simpa using hx),
    fun x hx => row_mod (row_mod (show Gr w1 x.2 x.1.g from ?_) hm fun g hg hy => ((gp x hx).2 g hg).2 (by simpa using hy)) hset fun g hg hy => (gp x hx).1 (by rw [hg]; simpa using hy), h1.cp, kp, fun g hg hv => ?_, fun x hx => ⟨(gp x hx).1, fun g hg => ⟨((gp x hx).2 g hg).1, fun hv => ?_⟩⟩, ?_⟩, ?_, fun y hy => ?_⟩
  · rcases mem x hx with rfl | hx
    · exact hv
    · exact h1.gaps x hx
  · rcases hown with e | e
    · exact h1.co g hg (e ▸ hv)
    · have := e g hv; have := h1.lc g hg; omega
  · rcases hown with e | e
    · exact ((gp x hx).2 g hg).2 (e ▸ hv)
    · have := e g hv; have := gl x hx g hg; omega
  · rw [List.pairwise_append]
    refine ⟨h1.gg, by simp, fun a ha b hb g hg hg2 => ?_⟩
    obtain rfl := List.mem_singleton.1 hb
    exact hs g hg2 (mem_Sof.2 (Or.inr (Or.inr (Or.inr ⟨a, ha, hg⟩))))
  · refine ((m.up (by simp)).trans (hm.up fun y hy => ?_)).trans (hset.up fun y hy => ?_)
    · exact mem_Sof.2 (Or.inr (Or.inr (Or.inl (by simpa using hy))))
    · exact mem_Sof.2 (Or.inl (by simpa using hy))
  · rcases mem_Sof.1 hy with hy | hy | hy | ⟨x, hx, hy⟩
    · exact Or.inl (mem_Sof.2 (Or.inl hy))
    · exact Or.inl (mem_Sof.2 (Or.inr (Or.inl hy)))
    · rcases hown with e | e
      · exact Or.inl (mem_Sof.2 (Or.inr (Or.inr (Or.inl (e ▸ hy)))))
      · have := e y hy
        have := m.size
        exact Or.inr (Or.inr (by omega))
    · rcases mem x hx with rfl | hx
      · exact Or.inr (Or.inl hy)
      · exact Or.inl (mem_Sof.2 (Or.inr (Or.inr (Or.inr ⟨x, hx, hy⟩))))
set_option maxHeartbeats 2000000 in
theorem begin_calls {w : World} {p : Nat} {vc vo : Value} {O : List (Pk × Value)} {L : List Xi} (h : Bv TB TP w p vc vo O L) (hd : O.length ≤ 1000) (k : Nat) (v : Value) (g : List Nat) (hv : Gr w v g) (hs : ∀ b, v.ownBlock = some b → b ∉ Sof p vc vo O) :
    Calls Try.prog 62 #[Pt p, .int .i64 (k : Int), v] w fun e w' => (∃ v, e = .returned v) ∧ ∃ vo', Bv TB TP w' p vc vo' (O ++ [(⟨k, L.length, g⟩, v)]) L ∧ Mod (Sof p vc vo O) w w' ∧ ∀ x ∈ Sof p vc vo' (O ++ [(⟨k, L.length, g⟩, v)]), x ∈ Sof p vc vo O ∨ v.ownBlock = some x ∨ w.heap.size ≤ x := by
  obtain ⟨A0, cap0, hvc, _⟩ := h.code_slice
  obtain ⟨A2, cap2, rfl⟩ := hv.slice
  obtain ⟨gl, hgl⟩ : ∃ gl, gl = g.length := ⟨_, rfl⟩
  rw [← hgl] at hv hs ⊢
  have hM3 : Mod [] w (w.alloc (.cells #[.int .i64 (k : Int), .int .i64 (L.length : Int), .slice A2 gl cap2] TP)).drew := ((Mod.refl [] w).alloc _).drew
  obtain ⟨A, n, cap, w', hr, hm, hB, hT⟩ := h.open_app hM3 hd ⟨k, L.length, g⟩ (.slice A2 gl cap2) (row_mod hv hM3 (by simp)) hs ⟨w.heap.size, 0, none⟩ 1 (fun j u hj => part_new w (⟨k, L.length, g⟩, .slice A2 gl cap2) TP j u hj)
  have K3 := h.far hM3
  have k0 := h.c0
  have k1 := h.c1
  have k30 : (w.alloc (.cells #[.int .i64 (k : Int), .int .i64 (L.length : Int), .slice A2 gl cap2] TP)).cell? ⟨p, 1, none⟩ = some vo := K3.c1
  have hpn : p ∉ vo.ownBlock.toList := by simpa using h.op
  have g0 := hm.cell (x := ⟨p, 1, none⟩) hpn K3.c1
  have gf0 := (hm.frozen (x := ⟨p, 1, none⟩) hpn K3.lp).trans (K3.f 1)
  have HF := Lib.hid (And.intro hB hT)
  replace hr : (appP 59 _).run Try.prog _ = .ok (.slice A n cap) w' := hr
  clear h hB hT K3 hm hpn hM3 hv hs
  obtain ⟨nl, hnl⟩ : ∃ nl, nl = L.length := ⟨_, rfl⟩
  have HX := Lib.hid (And.intro hvc hgl)
  rw [hvc, ← hnl] at k0
  rw [← hnl] at hr k30
  clear hvc hgl hnl
  go_enter Try.func62, Try.ntmps62
  go_region
  all_goals
    clear hr k0 k1 k30 g0 gf0
    go_wp2_with fail
    go_end0
    exact ⟨⟨_, rfl⟩, _, HF.out.1, HF.out.2⟩
end Go.Proofs.Ytnclfopdgilgaaa
