/- Layer 15: how many words of each kind are built in (allBuiltIn). No condition. Layer 15: a new engine. Condition: of its state and its input what they are. Layer 15: whether a word may be added. Condition: the block is an engine (Eg). Layer 15: a word is added. Condition: the block is an engine (Eg); the word is a valid one. Layer 15: a word is added (Add). Condition: the block is an engine (Eg); the word is a valid one. -/
import Derived.Test.YtifnkmddinoneaaGreatDoorCBBA
import Derived.Test.YtifnkmddinoneaaGreatDoorCBBD
set_option maxRecDepth 100000
namespace Go.Proofs.YtifnkmddinoneaaGreatDoor
open Go.RowKit
set_option linter.unusedVariables false

/-- A map is written, whether the key was there or not. -/
theorem MapV.write {P : Program} {t k e : TypeId} (ht : P.underlying t = some (.map k e)) (hk : P.underlying k = some (.int .i64)) {w : World} {b : Nat} {f : Int → Option Value} (h : MapV w b f) (n : Int) (v : Value) :
    ∃ w', (Instr.mapUpdate t (.map (some b)) (.int .i64 n) v).run P w = .ok () w' ∧ MapV w' b (updV f n v) ∧ Mod [b] w w' := by
  cases hf : f n with
  | none => exact h.put ht hk n v hf
  | some u => exact h.upd ht hk n u v hf
theorem zero_int15 (w : World) : (zeroValue 3).run Tryz.prog w = .ok (.int .i64 0) w := by
  kernel_rfl
def cntF (j : Nat) (f : Int → Option Value) : Prop := ∀ n, (f n).getD (.int .i64 0) = .int .i64 (L12.cntK n j : Int)
theorem cntF_step {j : Nat} {f : Int → Option Value} (h : cntF j f) (hj : j < L12.tab.length) : cntF (j + 1) (updV f L12.tab[j].k (.int .i64 ((L12.cntK L12.tab[j].k j : Int) + 1))) := fun n => by
  rw [L12.cntK_step n j hj]
  unfold updV
  by_cases e : n = L12.tab[j].k
  · rw [if_pos e, e]; simp
  · rw [if_neg e, if_neg (fun h => e h.symm)]; exact h n
theorem kinds_all : ∀ j : Fin 180, (fun x : L12.En => x.k = 1 ∨ x.k = 2 ∨ x.k = 3 ∨ x.k = 4) (L12.tab[j.val]'(by have := j.isLt; rw [L12.tab_len]; omega)) := by decide +kernel
theorem cnt_many (n : Int) : (L12.cntK n 180 : Int) = manyF n := by
  unfold manyF
  by_cases h1 : n = 1
  · rw [if_pos h1, h1, L12.cnt_1]; rfl
  by_cases h2 : n = 2
  · rw [if_neg h1, if_pos h2, h2, L12.cnt_2]; rfl
  by_cases h3 : n = 3
  · rw [if_neg h1, if_neg h2, if_pos h3, h3, L12.cnt_3]; rfl
  by_cases h4 : n = 4
  · rw [if_neg h1, if_neg h2, if_neg h3, if_pos h4, h4, L12.cnt_4]; rfl
  rw [if_neg h1, if_neg h2, if_neg h3, if_neg h4]
  unfold L12.cntK
  rw [List.filter_eq_nil_iff.2]
  · rfl
  · intro x hx
    obtain ⟨j, hj, rfl⟩ := List.mem_iff_getElem.1 (List.mem_of_mem_take hx)
    have := kinds_all ⟨j, by rw [L12.tab_len] at hj; exact hj⟩
    simp only at this
    simp; omega
set_option maxRecDepth 100000 in
set_option maxHeartbeats 4000000 in
theorem builtin_calls (w : World) : Calls Tryz.prog 50 #[] w fun e w' => ∃ M, e = .returned (.map (some M)) ∧ w.heap.size ≤ M ∧ (∃ f, MapV w' M f ∧ ∀ n, (f n).getD (.int .i64 0) = .int .i64 (manyF n)) ∧ Mod [] w w' := by
  have hmm := @run_makeMap Tryz.prog
  have b0 := MapV.new w
  have u0 := (Mod.refl [] w).alloc (.map #[] 0)
  have A1 := Lib.hid fun W => L12.all_calls W
  obtain ⟨M, hM⟩ : ∃ M, M = w.heap.size := ⟨_, rfl⟩
  have HM := Lib.hid hM
  have B0 := Lib.hid b0
  have U0 := Lib.hid u0
  clear b0 u0 hM
  go_enter Tryz.func50, Tryz.ntmps50
  go_upto_region 2 with fail
  generalize w.alloc (.map #[] 0) = W at *
  rw [← HM.out] at B0 ⊢
  go_wp2_with fail
  refine (A1.out _).mono ?_
  rintro e w1 ⟨v, rfl, er, m1⟩
  have B1 := Lib.hid (B0.out.far m1)
  have M1 := Lib.hid (U0.out.trans m1)
  have hown := er.own
  obtain ⟨A, c, rfl, hE⟩ := er.at
  have HB := Lib.hid (fun b (hb : A = some ⟨b, 0, none⟩) (e : b = M) => by have h1 := hown b (by rw [hb]; rfl); have h2 := B0.out.lt; omega : ∀ b, A = some ⟨b, 0, none⟩ → b = M → False)
  clear hown
  rw [L12.tab_len]
  have HE := Lib.hid hE
  clear m1 er hE
  go_wp2_with fail
  go_loopw [7] (fun y wr => ∃ j : Nat, y = .int .i64 (j : Int) ∧ j ≤ 180 ∧ RowKit.Hid ((∃ f, MapV wr M f ∧ cntF j f) ∧ Mod [M] w1 wr)) (fun y _ => 181 - (intOf y).toNat)
  case atStart => exact ⟨0, rfl, by omega, Lib.hid ⟨⟨_, B1.out, fun n => rfl⟩, Mod.refl _ _⟩⟩
  case round =>
    obtain ⟨j, rfl, hj, hi⟩ := hrel
    obtain ⟨⟨f, hf, hc⟩, hm⟩ := hi.out
    by_cases hlt : j < 180
    · have hjI : (j : Int) < 180 := by omega
      have hjX : j < L12.tab.length := by rw [L12.tab_len]; exact hlt
      obtain ⟨b, rfl, g0, g1, g2, g3, g4⟩ := HE.out j hjX
      have hbM : b ∉ [M] := fun hx => HB.out b rfl (List.mem_singleton.1 hx)
      replace g0 := hm.cell hbM g0
      replace g1 := hm.cell hbM g1
      replace g2 := hm.cell hbM g2
      replace g3 := hm.cell hbM g3
      replace g4 := hm.cell hbM g4
      have hst := cntF_step hc hjX
      have hck := hc L12.tab[j].k
      have hcl := L12.cntK_le L12.tab[j].k j
      generalize (L12.cntK L12.tab[j].k j) = q at *
      have wj : wrap64 ((j : Int) + 1) = (j : Int) + 1 := IntWalk.wrap64_in _ (by omega)
      have wq : wrap64 ((q : Int) + 1) = (q : Int) + 1 := IntWalk.wrap64_in _ (by omega)
      generalize L12.tab[j] = x at *
      obtain ⟨N, hN⟩ : ∃ N, N = str x.s := ⟨_, rfl⟩
      rw [← hN] at g0
      have m3 : Mod [] wr (wr.alloc (.cells #[.string N, .int .i64 x.k, .int .i64 (x.n : Int), .bool x.now, .bool x.only] 79)) := (Mod.refl [] wr).alloc _
      have hf5 := hf.far m3
      have hlook := MapV.at (P := Tryz.prog) Tryz.underlying87 Tryz.underlying3 (zero_int15 _) hf5 x.k
      rw [hck] at hlook
      obtain ⟨w6, hup, hf6, hm6⟩ := hf5.write (P := Tryz.prog) Tryz.underlying87 Tryz.underlying3 x.k (.int .i64 ((q : Int) + 1))
      have HF6 := Lib.hid (And.intro hf6 (And.intro hst (hm.trans ((m3.up (by simp)).trans hm6))))
      clear hi hm hf hc hck hN hst hbM hf5 hf6 hm6 m3
      go_wp2_with fail
      go_roundw
      case rel => exact ⟨j + 1, by go_num, by omega, Lib.hid ⟨⟨_, HF6.out.1, HF6.out.2.1⟩, HF6.out.2.2⟩⟩
      case measure => simp [intOf]; omega
    · have hjI : ¬ (j : Int) < 180 := by omega
      have e4 : j = 180 := by omega
      subst e4
      have HF6 := Lib.hid (And.intro hf (And.intro hc hm))
      clear hi hm hf hc
      go_wp2_with fail
      go_ret
      exact ⟨M, rfl, Nat.le_of_eq HM.out.symm, ⟨f, HF6.out.1, fun n => by rw [← cnt_many]; exact HF6.out.2.1 n⟩, M1.out.then HF6.out.2.2 fun x hx => Or.inr (by rw [List.mem_singleton.1 hx, HM.out]; exact Nat.le_refl _)⟩
end Go.Proofs.YtifnkmddinoneaaGreatDoor
namespace Go.Proofs.YtifnkmddinoneaaGreatDoor
open Go.RowKit
set_option linter.unusedVariables false
def newE (C : List Int) (μ : Mu) (I : List L8.Sc) (M : Nat) : Es := ⟨[], [], [], 0, 0, 0, C, μ, I, M⟩
def NewG (w : World) (a : Ad) (p : Nat) (Ts Ti : List Nat) (E : Es) (e : Ending) (w' : World) : Prop := ∃ A T', e = .returned (Pt A.g) ∧ A.a = a ∧ A.p = p ∧ Eg w' A T' E ∧ Mod [] w w' ∧ ∀ x ∈ T', x ∈ Ts ∨ x ∈ Ti ∨ w.heap.size ≤ x
def newB (s p f M1 : Nat) : Array Value := #[.slice none 0 0, .slice none 0 0, .slice none 0 0, Pt s, Pt p, Pt f, .int .i64 0, .int .i64 0, .int .i64 0, .map (some M1), .map none, .map none]
theorem twelve_at {W : World} {b : Nat} {v0 v1 v2 v3 v4 v5 v6 v7 v8 v9 v10 v11 : Value} {t : TypeId} (h : W.heap[b]? = some (.cells #[v0, v1, v2, v3, v4, v5, v6, v7, v8, v9, v10, v11] t (0, 0))) :
    (∀ i, W.frozen? ⟨b, i, none⟩ = false) ∧ W.cell? ⟨b, 10, none⟩ = some v10 ∧ W.cell? ⟨b, 11, none⟩ = some v11 := by
  refine ⟨fun i => ?_, ?_, ?_⟩
  · simp [World.frozen?, h]
  · simp [World.cell?, h]
  · simp [World.cell?, h]
theorem twelve_set10 {W : World} {b : Nat} {v0 v1 v2 v3 v4 v5 v6 v7 v8 v9 v10 v11 : Value} {t : TypeId} (h : W.heap[b]? = some (.cells #[v0, v1, v2, v3, v4, v5, v6, v7, v8, v9, v10, v11] t (0, 0))) (u : Value) :
    (W.setCell ⟨b, 10, none⟩ u).heap[b]? = some (.cells #[v0, v1, v2, v3, v4, v5, v6, v7, v8, v9, u, v11] t (0, 0)) ∧ Mod [b] W (W.setCell ⟨b, 10, none⟩ u) := by
  refine ⟨?_, L14.set_mod W b 10 u⟩
  rw [heap_setCell_same W b 10 _ _ u h]
  rfl
theorem twelve_set11 {W : World} {b : Nat} {v0 v1 v2 v3 v4 v5 v6 v7 v8 v9 v10 v11 : Value} {t : TypeId} (h : W.heap[b]? = some (.cells #[v0, v1, v2, v3, v4, v5, v6, v7, v8, v9, v10, v11] t (0, 0))) (u : Value) :
    (W.setCell ⟨b, 11, none⟩ u).heap[b]? = some (.cells #[v0, v1, v2, v3, v4, v5, v6, v7, v8, v9, v10, u] t (0, 0)) ∧ Mod [b] W (W.setCell ⟨b, 11, none⟩ u) := by
  refine ⟨?_, L14.set_mod W b 11 u⟩
  rw [heap_setCell_same W b 11 _ _ u h]
  rfl
section
variable {w w' : World} {a : Ad} {p M : Nat} {C : List Int} {μ : Mu} {I : List L8.Sc} {Ts Ti : List Nat}
set_option maxRecDepth 100000 in
set_option maxHeartbeats 4000000 in
theorem new_calls15 (hs : Stt w a Ts C μ) (hi : L8.Inp w p Ti I M) (si : Apt Ts Ti) (bs : ∀ x ∈ Ts, 6 ≤ x) (bi : ∀ x ∈ Ti, (x < a.lo ∨ a.hi ≤ x) ∧ 6 ≤ x) : Calls Tryz.prog 27 #[Pt a.s, Pt p] w (NewG w a p Ts Ti (newE C μ I M)) := by
  have H1 := Lib.hid fun W => L14.new_calls W
  have H2 := Lib.hid fun W => builtin_calls W
  have H3 := Lib.hid fun W q => controls_calls W q
  have H4 := Lib.hid fun W q => instructions_calls W q
  have HH := Lib.hid (And.intro hs (And.intro hi (And.intro si (And.intro bs bi))))
  clear hs hi si bs bi
  go_enter Tryz.func27, Tryz.ntmps27
  go_wp2_with fail
  refine (H1.out _).mono ?_
  rintro e w1 ⟨f, rfl, h1, m1, l1⟩
  have F1 := Lib.hid (And.intro h1 (And.intro m1 l1))
  clear h1 m1 l1 H1
  go_wp2_with fail
  refine (H2.out _).mono ?_
  rintro e w2 ⟨M1, rfl, l2, x2, m2⟩
  obtain ⟨B, hB⟩ : ∃ B, B = (.cells (newB a.s p f M1) 91 : Obj) := ⟨_, rfl⟩
  have bk := (MapKept.heap_alloc w2 (.cells (newB a.s p f M1) 91)).1
  have F2 := Lib.hid (And.intro l2 (And.intro x2 m2))
  clear l2 x2 m2 H2
  unfold newB at bk
  go_upto_region 2 with fail
  have m3 := L14.al_mod w2 (.cells #[.slice none 0 0, .slice none 0 0, .slice none 0 0, Pt a.s, Pt p, Pt f, .int .i64 0, .int .i64 0, .int .i64 0, .map (some M1), .map none, .map none] 91)
  have z3 := L14.size_allocI w2 (.cells #[.slice none 0 0, .slice none 0 0, .slice none 0 0, Pt a.s, Pt p, Pt f, .int .i64 0, .int .i64 0, .int .i64 0, .map (some M1), .map none, .map none] 91)
  generalize (w2.alloc (.cells #[.slice none 0 0, .slice none 0 0, .slice none 0 0, Pt a.s, Pt p, Pt f, .int .i64 0, .int .i64 0, .int .i64 0, .map (some M1), .map none, .map none] 91)) = W at *
  obtain ⟨g, hg⟩ : ∃ g, g = w2.heap.size := ⟨_, rfl⟩
  rw [← hg] at bk z3 ⊢
  have F3 := Lib.hid (And.intro m3 (And.intro z3 (And.intro hg bk)))
  clear m3 z3 hg hB bk
  go_wp2_with fail
  refine (H3.out _ _).mono ?_
  rintro e w4 ⟨M2, rfl, l4, x4, m4⟩
  have bk := (m4.block g (by have := F3.out.2.1; omega) (by simp)).trans F3.out.2.2.2
  have k10 := (twelve_at bk).2.1
  have g10 := (twelve_at bk).1 10
  have lg : g < w4.heap.size := (Array.getElem?_eq_some_iff.1 bk).1
  have F4 := Lib.hid (And.intro l4 (And.intro x4 (And.intro m4 bk)))
  clear l4 x4 m4 H3 bk
  go_wp2_with fail
  have bk := F4.out.2.2.2
  obtain ⟨b4, m4⟩ := twelve_set10 bk (.map (some M2))
  have F5 := Lib.hid (And.intro b4 m4)
  have z4 : (w4.setCell ⟨g, 10, none⟩ (.map (some M2))).heap.size = w4.heap.size := by simp [World.setCell]
  generalize (w4.setCell ⟨g, 10, none⟩ (.map (some M2))) = X at *
  clear bk b4 m4 k10 g10
  refine (H4.out _ _).mono ?_
  rintro e w5 ⟨M3, rfl, l5, x5, m5⟩
  have bk := (m5.block g (by rw [z4]; exact lg) (by simp)).trans F5.out.1
  have k11 := (twelve_at bk).2.2
  have g11 := (twelve_at bk).1 11
  have lg5 : g < w5.heap.size := (Array.getElem?_eq_some_iff.1 bk).1
  obtain ⟨b6, m6⟩ := twelve_set11 bk (.map (some M3))
  have F6 := Lib.hid (And.intro l5 (And.intro x5 (And.intro m5 (And.intro b6 m6))))
  clear l5 x5 m5 H4 bk b6 m6
  go_wp2_with fail
  go_ret
  generalize (w5.setCell ⟨g, 11, none⟩ (.map (some M3))) = w6 at *
  obtain ⟨hs, hi, si, bs, bi⟩ := HH.out
  obtain ⟨h1, m1, l1⟩ := F1.out
  obtain ⟨l2, x2, m2⟩ := F2.out
  obtain ⟨m3, z3, hg, _⟩ := F3.out
  obtain ⟨l4, x4, m4, _⟩ := F4.out
  obtain ⟨_, m4'⟩ := F5.out
  obtain ⟨l5, x5, m5, b6, m6⟩ := F6.out
  have m56 : Mod [g] X w6 := (m5.up (by simp)).trans m6
  have m46 : Mod [g] w4 w6 := m4'.trans m56
  have m36 : Mod [g] W w6 := (m4.up (by simp)).trans m46
  have m26 : Mod [g] w2 w6 := (m3.up (by simp)).trans m36
  have m16 : Mod [g] w1 w6 := (m2.up (by simp)).trans m26
  have s1 := m1.size
  have s2 := m2.size
  have s4 := m4.size
  have s5 := m5.size
  have s6 := m6.size
  have t1 := h1.lt f (by simp)
  have t2 : M1 < w2.heap.size := by obtain ⟨_, h, _⟩ := x2; exact h.lt
  have t4 : M2 < w4.heap.size := by obtain ⟨_, h, _⟩ := x4; exact h.lt
  have t5 : M3 < w5.heap.size := by obtain ⟨_, h, _⟩ := x5; exact h.lt
  have k : Mod [] w w6 := m1.then m16 fun x hx => Or.inr (by rw [List.mem_singleton.1 hx]; omega)
  have c := fun i => L14.cell_eq b6 i
  have hz := hs.hi
  have h6 := hs.good.big
  have hT := hs.tl
  have hI := hi.lt
  refine ⟨⟨g, a, f, p, M1, M2, M3⟩, Ow15 ⟨g, a, f, p, M1, M2, M3⟩ ⟨.slice none 0 0, .slice none 0 0, .slice none 0 0⟩ ++ (Ts ++ ([f] ++ Ti)), rfl, rfl, rfl, ⟨⟨.slice none 0 0, .slice none 0 0, .slice none 0 0⟩, Ts, [f], Ti, ?_⟩, k, ?_⟩
  · refine ⟨⟨c 0, c 1, c 2, c 3, c 4, c 5, c 6, c 7, c 8, c 9, c 10, c 11, (twelve_at b6).1, (Array.getElem?_eq_some_iff.1 b6).1, World.ownsRow_nil _ _ _ _, World.ownsRow_nil _ _ _ _, World.ownsRow_nil _ _ _ _, by simp [Ow15, Vr.bs, Value.ownBlock]⟩, hs.other k (by simp) (by simp) (by simp), h1.mod m16 (by simp; omega), hi.mod k (by simp), ⟨by simp [newE], by simp [newE], by simp [newE], by simp [newE], by simp [newE], i64_0, i64_0, i64_0⟩, ⟨?_, ?_, ?_⟩, ?_, ?_, ?_, ?_, si, ?_, ?_, ?_, ?_⟩
    · obtain ⟨q, h, e⟩ := x2; exact ⟨q, h.mod m26 (by simp; omega), e⟩
    · obtain ⟨q, h, e⟩ := x4; exact ⟨q, h.mod m46 (by simp; omega), e⟩
    · obtain ⟨q, h, e⟩ := x5; exact ⟨q, h.mod m6 (by simp; omega), e⟩
    · intro x hx hy
      have := hT x hy
      simp [Ow15, Vr.bs, Value.ownBlock] at hx
      omega
    · intro x hx hy
      simp [Ow15, Vr.bs, Value.ownBlock] at hx hy
      omega
    · intro x hx hy
      have := hI x hy
      simp [Ow15, Vr.bs, Value.ownBlock] at hx
      omega
    · intro x hx hy
      have := hT x hx
      simp at hy
      omega
    · intro x hx hy
      have := hI x hy
      simp at hx
      omega
    · intro x hx
      simp only [List.mem_append] at hx ⊢
      rcases hx with h | h | h | h
      · exact Or.inl h
      · exact Or.inr (Or.inl h)
      · exact Or.inr (Or.inr (Or.inl h))
      · exact Or.inr (Or.inr (Or.inr h))
    · intro x hx
      have hk := k.size
      simp only [List.mem_append] at hx
      rcases hx with h | h | h | h
      · simp [Ow15, Vr.bs, Value.ownBlock] at h; omega
      · have := hT x h; omega
      · simp at h; omega
      · have := hI x h; omega
    · intro x hx
      unfold Fre
      dsimp only
      simp only [List.mem_append] at hx
      rcases hx with h | h | h | h
      · simp [Ow15, Vr.bs, Value.ownBlock] at h
        exact ⟨Or.inr (by omega), by omega, by omega, by omega, by omega⟩
      · have := hT x h
        exact ⟨hs.t x h, bs x h, by omega, by omega, by omega⟩
      · simp at h
        exact ⟨Or.inr (by omega), by omega, by omega, by omega, by omega⟩
      · have := hI x h
        exact ⟨(bi x h).1, (bi x h).2, by omega, by omega, by omega⟩
  · intro x hx
    simp only [List.mem_append] at hx
    rcases hx with h | h | h | h
    · simp [Ow15, Vr.bs, Value.ownBlock] at h; exact Or.inr (Or.inr (by omega))
    · exact Or.inl h
    · simp at h; exact Or.inr (Or.inr (by omega))
    · exact Or.inr (Or.inl h)
end
end Go.Proofs.YtifnkmddinoneaaGreatDoor
namespace Go.Proofs.YtifnkmddinoneaaGreatDoor
open Go.RowKit
set_option linter.unusedVariables false
def Valid (E : Es) (x : Wd) : Prop :=
  ((x.k = 1 ∨ x.k = 2 ∨ x.k = 3 ∨ x.k = 4) ∧ 1 ≤ x.n ∧ x.n ≤ manyF x.k) ∨ ((x.k = 5 ∨ x.k = 7) ∧ (E.code x.n).isSome = true) ∨ ((x.k = 6 ∨ x.k = 9) ∧ x.n = 0) ∨ (x.k = 8 ∧ (x.n = 0 ∨ (E.word x.n).isSome = true))
theorem manyF_le (k : Int) : 0 ≤ manyF k ∧ manyF k ≤ 107 := by unfold manyF; split; omega; split; omega; split; omega; split <;> omega
section
variable {w w' : World} {A : Ag} {E : Es} {T : List Nat}
set_option maxRecDepth 100000 in
set_option maxHeartbeats 4000000 in
theorem valid_built (h : Eg w A T E) (K n ww : Int) (hK : K = 1 ∨ K = 2 ∨ K = 3 ∨ K = 4) (h1 : 1 ≤ n) (h2 : n ≤ manyF K) : Calls Tryz.prog 42 #[Pt A.g, .agg #[.int .i64 K, .int .i64 n, .int .i64 ww]] w fun e w' => e = .returned (.bool true) ∧ Mod [] w w' := by
  have m := L14.al_mod w (.cells #[.int .i64 K, .int .i64 n, .int .i64 ww] TW15)
  have h0 := h.far m
  have hD := (Mod.refl [] (w.alloc (.cells #[.int .i64 K, .int .i64 n, .int .i64 ww] TW15))).drew
  obtain ⟨mp, c9, _, _⟩ := h0.maps
  have d9 := hD.cell (x := ⟨A.g, 9, none⟩) (by simp) c9
  have bk := (MapKept.heap_alloc w (.cells #[.int .i64 K, .int .i64 n, .int .i64 ww] TW15)).1
  obtain ⟨x0, x1, _⟩ := three_at bk
  have d0 := hD.cell (x := ⟨w.heap.size, 0, none⟩) (by simp) x0
  have d1 := hD.cell (x := ⟨w.heap.size, 1, none⟩) (by simp) x1
  have lg : A.g < (w.alloc (.cells #[.int .i64 K, .int .i64 n, .int .i64 ww] TW15)).heap.size := World.block_lt_of_cell? _ _ c9
  obtain ⟨f, hf, hg⟩ := mp.m1
  have hlook := MapV.at (P := Tryz.prog) Tryz.underlying87 Tryz.underlying3 (zero_int15 _) (hf.far hD) K
  rw [hg K] at hlook
  have l2 := (manyF_le K).2
  generalize manyF K = M at *
  have b1 : decide (1 ≤ n) = true := decide_eq_true h1
  have b2 : decide (n ≤ M) = true := decide_eq_true h2
  clear h h0 hf hg h1 h2 mp l2 bk x0 x1
  rcases hK with rfl | rfl | rfl | rfl
  · go_enter Tryz.func42, Tryz.ntmps42
    go_wp2_with fail
    go_region_held3 (fun W => W.cell? ⟨A.g, 9, none⟩ = some (.map (some A.M1)) ∧ W.cell? ⟨w.heap.size, 0, none⟩ = some (.int .i64 1) ∧ W.cell? ⟨w.heap.size, 1, none⟩ = some (.int .i64 n)) (first | with_reducible exact ⟨d9, d0, d1⟩ | fail) (fail)
    all_goals
      go_wp2_with fail
      go_ret
      exact ⟨rfl, m.trans hD⟩
  · go_enter Tryz.func42, Tryz.ntmps42
    go_wp2_with fail
    go_region_held3 (fun W => W.cell? ⟨A.g, 9, none⟩ = some (.map (some A.M1)) ∧ W.cell? ⟨w.heap.size, 0, none⟩ = some (.int .i64 2) ∧ W.cell? ⟨w.heap.size, 1, none⟩ = some (.int .i64 n)) (first | with_reducible exact ⟨d9, d0, d1⟩ | fail) (fail)
    all_goals
      go_wp2_with fail
      go_ret
      exact ⟨rfl, m.trans hD⟩
  · go_enter Tryz.func42, Tryz.ntmps42
    go_wp2_with fail
    go_region_held3 (fun W => W.cell? ⟨A.g, 9, none⟩ = some (.map (some A.M1)) ∧ W.cell? ⟨w.heap.size, 0, none⟩ = some (.int .i64 3) ∧ W.cell? ⟨w.heap.size, 1, none⟩ = some (.int .i64 n)) (first | with_reducible exact ⟨d9, d0, d1⟩ | fail) (fail)
    all_goals
      go_wp2_with fail
      go_ret
      exact ⟨rfl, m.trans hD⟩
  · go_enter Tryz.func42, Tryz.ntmps42
    go_wp2_with fail
    go_region_held3 (fun W => W.cell? ⟨A.g, 9, none⟩ = some (.map (some A.M1)) ∧ W.cell? ⟨w.heap.size, 0, none⟩ = some (.int .i64 4) ∧ W.cell? ⟨w.heap.size, 1, none⟩ = some (.int .i64 n)) (first | with_reducible exact ⟨d9, d0, d1⟩ | fail) (fail)
    all_goals
      go_wp2_with fail
      go_ret
      exact ⟨rfl, m.trans hD⟩
set_option maxRecDepth 100000 in
set_option maxHeartbeats 4000000 in
theorem valid_def (h : Eg w A T E) (K n ww : Int) (hK : K = 5 ∨ K = 7) (hd : (E.code n).isSome = true) : Calls Tryz.prog 42 #[Pt A.g, .agg #[.int .i64 K, .int .i64 n, .int .i64 ww]] w fun e w' => e = .returned (.bool true) ∧ Mod [] w w' := by
  have m := L14.al_mod w (.cells #[.int .i64 K, .int .i64 n, .int .i64 ww] TW15)
  have h0 := h.far m
  have lg : A.g < (w.alloc (.cells #[.int .i64 K, .int .i64 n, .int .i64 ww] TW15)).heap.size := World.block_lt_of_cell? _ _ h0.cs.c3
  have hD := (Mod.refl [] (w.alloc (.cells #[.int .i64 K, .int .i64 n, .int .i64 ww] TW15))).drew
  have bk := (MapKept.heap_alloc w (.cells #[.int .i64 K, .int .i64 n, .int .i64 ww] TW15)).1
  have d1 := hD.cell (x := ⟨w.heap.size, 1, none⟩) (by simp) (three_at bk).2.1
  have H1 := isdef_calls (h0.far hD) n
  rw [hd] at H1
  have H1 := Lib.hid H1
  clear h h0 hd bk
  rcases hK with rfl | rfl
  all_goals
    go_enter Tryz.func42, Tryz.ntmps42
    go_wp2_with fail
    go_region_held3 (fun W => W.cell? ⟨w.heap.size, 1, none⟩ = some (.int .i64 n)) (first | with_reducible exact d1 | fail) (first | ((with_reducible refine (H1.out).mono ?_); rintro e w1 ⟨rfl, rfl⟩) | fail)
    all_goals
      go_wp2_with fail
      go_ret
      exact ⟨rfl, m.trans hD⟩
set_option maxRecDepth 100000 in
set_option maxHeartbeats 4000000 in
theorem valid_cell (h : Eg w A T E) (K ww : Int) (hK : K = 6 ∨ K = 9) : Calls Tryz.prog 42 #[Pt A.g, .agg #[.int .i64 K, .int .i64 0, .int .i64 ww]] w fun e w' => e = .returned (.bool true) ∧ Mod [] w w' := by
  have m := L14.al_mod w (.cells #[.int .i64 K, .int .i64 0, .int .i64 ww] TW15)
  clear h
  rcases hK with rfl | rfl
  all_goals
    go_enter Tryz.func42, Tryz.ntmps42
    go_wp2_with fail
    go_ret
    exact ⟨rfl, m⟩
set_option maxRecDepth 100000 in
set_option maxHeartbeats 4000000 in
theorem valid_defer (h : Eg w A T E) (n ww : Int) (hn : n = 0 ∨ (E.word n).isSome = true) : Calls Tryz.prog 42 #[Pt A.g, .agg #[.int .i64 8, .int .i64 n, .int .i64 ww]] w fun e w' => e = .returned (.bool true) ∧ Mod [] w w' := by
  have m := L14.al_mod w (.cells #[.int .i64 8, .int .i64 n, .int .i64 ww] TW15)
  have h0 := h.far m
  have hD := (Mod.refl [] (w.alloc (.cells #[.int .i64 8, .int .i64 n, .int .i64 ww] TW15))).drew
  have bk := (MapKept.heap_alloc w (.cells #[.int .i64 8, .int .i64 n, .int .i64 ww] TW15)).1
  have d1 := hD.cell (x := ⟨w.heap.size, 1, none⟩) (by simp) (three_at bk).2.1
  have lg : A.g < (w.alloc (.cells #[.int .i64 8, .int .i64 n, .int .i64 ww] TW15)).heap.size := World.block_lt_of_cell? _ _ h0.cs.c3
  have H1 := isword_calls h0 n
  by_cases hz : n = 0
  · have hzb : (n == 0) = true := by simpa using hz
    clear h h0 hn hz H1 bk
    go_enter Tryz.func42, Tryz.ntmps42
    go_wp2_with fail
    go_ret
    exact ⟨rfl, m⟩
  · have hzb : (n == 0) = false := by simpa using hz
    rw [hn.resolve_left hz] at H1
    have H1 := Lib.hid H1
    clear h h0 hn hz bk
    go_enter Tryz.func42, Tryz.ntmps42
    go_wp2_with fail
    refine (H1.out).mono ?_
    rintro e w1 ⟨rfl, rfl⟩
    go_wp2_with fail
    go_ret
    exact ⟨rfl, m⟩
theorem valid_calls (h : Eg w A T E) (x : Wd) (hv : Valid E x) : Calls Tryz.prog 42 #[Pt A.g, wdV x] w fun e w' => e = .returned (.bool true) ∧ Mod [] w w' := by
  obtain ⟨k, n, ww⟩ := x
  unfold wdV
  rcases hv with ⟨hk, h1, h2⟩ | ⟨hk, h1⟩ | ⟨hk, h1⟩ | ⟨hk, h1⟩
  · exact valid_built h k n ww hk h1 h2
  · exact valid_def h k n ww hk h1
  · dsimp only at h1 ⊢; subst h1; exact valid_cell h k ww hk
  · dsimp only at hk ⊢; subst hk; exact valid_defer h n ww h1
end
end Go.Proofs.YtifnkmddinoneaaGreatDoor
namespace Go.Proofs.YtifnkmddinoneaaGreatDoor
open Go.RowKit
set_option linter.unusedVariables false
theorem Tryz.infoWd : (Tryz.prog.info? 35).map (fun i => (i.zero, i.size, i.bytes)) = some (some (.agg #[.int .i64 0, .int .i64 0, .int .i64 0]), 3, 24) := by kernel_rfl
theorem flatWs_cells (L : List Wd) : ∀ u ∈ flatWs L, u.oneCell' = true := fun u hu => by
  unfold flatWs at hu
  obtain ⟨x, _, hx⟩ := List.mem_flatMap.1 hu
  simp [flatW] at hx
  rcases hx with rfl | rfl | rfl <;> rfl
theorem flatWs_one (x : Wd) : flatWs [x] = flatW x := by simp [flatWs]
theorem run_appW {w : World} {v : Value} {L : List Wd} (h : w.ownsRow 0 35 3 v L.length (flatWs L)) (hl : L.length ≤ 1000) (x : Wd) (a : Addr) (cp : Nat) (hc : ∀ j u, (flatW x)[j]? = some u → w.cell? (a.add j) = some u) (ty : TypeId) :
    ∃ v' w', (Builtin.append_ #[84, 84] ty #[v, .slice (some a) 1 cp]).run Tryz.prog w = .ok v' w' ∧ w'.ownsRow 0 35 3 v' (L ++ [x]).length (flatWs (L ++ [x])) ∧ Mod v.ownBlock.toList w w' ∧ (v'.ownBlock = v.ownBlock ∨ v'.ownBlock = some w.heap.size) := by
  obtain ⟨i, hi, hz0, hz1, hz2⟩ := info_parts Tryz.infoWd
  have hm : maxLen = 9223372036854775807 := rfl
  obtain ⟨v', w', h1, h2, h3, _, h5⟩ := run_append_own_at (P := Tryz.prog) w 0 84 ty 35 i _ 3 24 Tryz.underlying84 hi hz0 hz1 hz2 rfl (by decide) _ _ _ h a 1 cp (flatW x) rfl hc (fun u hu => flatWs_cells [x] u (by rw [flatWs_one]; exact hu)) (by omega) (by omega) (Nat.zero_le _)
  refine ⟨v', w', h1, ?_, Mod.of_grown h3 (by simp), h5⟩
  have e : (L ++ [x]).length = L.length + 1 := by simp
  rw [e, flatWs_app, flatWs_one]
  exact h2
def appRowW (ty : TypeId) (xs : Array Value) : Sem Value := Builtin.append_ #[84, 84] ty xs
@[go_sem ↓ high] theorem builtin_appRowW (ty : TypeId) (cs : Array Bool) (xs : Array Value) : builtin .append #[84, 84] ty cs xs = (do pure (.value (← appRowW ty xs))) := rfl
theorem wd_new (W : World) (x : Wd) : ∀ j u, (flatW x)[j]? = some u → (W.alloc (.cells (flatW x).toArray 35)).drew.cell? ((⟨W.heap.size, 0, none⟩ : Addr).add j) = some u := fun j u hj => by
  have hb : (W.alloc (.cells (flatW x).toArray 35)).drew.heap[W.heap.size]? = some (.cells (flatW x).toArray 35) := (MapKept.heap_alloc W _).1
  rw [WideShapes.add_plain, Nat.zero_add, ← hj]
  simp only [World.cell?, hb]
  simp
section
variable {w w' : World} {A : Ag} {E : Es} {T : List Nat}
theorem Eown.words {W W3 w' : World} {v : Vr} {v' : Value} {x : Wd} (K : Eown W A v E) (hM3 : Mod [] W W3) (hrow : w'.ownsRow 0 35 3 v' (E.W ++ [x]).length (flatWs (E.W ++ [x]))) (hm4 : Mod v.w.ownBlock.toList W3 w')
    (hown : v'.ownBlock = v.w.ownBlock ∨ v'.ownBlock = some W3.heap.size) :
    Eown (w'.setCell ⟨A.g, 2, none⟩ v') A { v with w := v' } { E with W := E.W ++ [x] } ∧ Mod (Ow15 A v) W (w'.setCell ⟨A.g, 2, none⟩ v') ∧ ∀ y ∈ Ow15 A { v with w := v' }, y ∈ Ow15 A v ∨ W.heap.size ≤ y := by
  have K3 := K.mod hM3 (by simp)
  have hsep := K.sep
  unfold Ow15 Vr.bs at hsep
  have hlt := K3.lt
  have hg4 : A.g ∉ v.w.ownBlock.toList := fun h => (List.nodup_cons.1 hsep).1 (List.mem_append.2 (Or.inr (List.mem_append.2 (Or.inr h))))
  have hsp := (List.nodup_cons.1 hsep).2
  have hp4 : ∀ g, v.p.ownBlock = some g → g ∉ v.w.ownBlock.toList := fun g hg h => (List.nodup_append.1 hsp).2.2 g (by rw [hg]; simp) g (List.mem_append.2 (Or.inr h)) rfl
  have he4 : ∀ g, v.e.ownBlock = some g → g ∉ v.w.ownBlock.toList := fun g hg h => (List.nodup_append.1 (List.nodup_append.1 hsp).2.1).2.2 g (by rw [hg]; simp) g h rfl
  have hm5 := L14.set_mod w' A.g 2 v'
  have hgn : ∀ g, v'.ownBlock = some g → g ≠ A.g := fun g hg e => by
    rcases hown with h | h
    · rw [h] at hg; exact hg4 (by rw [hg, e]; simp)
    · rw [h] at hg; injection hg with hg; have := K3.lg; omega
  have hne : ∀ g, g ∈ v.p.ownBlock.toList ∨ g ∈ v.e.ownBlock.toList → g ≠ A.g := fun g hg e => (List.nodup_cons.1 hsep).1 (by rw [← e]; exact hg.elim (fun h => List.mem_append.2 (Or.inl h)) fun h => List.mem_append.2 (Or.inr (List.mem_append.2 (Or.inl h))))
  have hc : ∀ i u, i ≠ 2 → W3.cell? ⟨A.g, i, none⟩ = some u → (w'.setCell ⟨A.g, 2, none⟩ v').cell? ⟨A.g, i, none⟩ = some u := fun i u hi h => by
    rw [World.cell?_setCell_other (h := by simp <;> omega)]
    exact hm4.cell (x := ⟨A.g, i, none⟩) hg4 h
  refine ⟨⟨hc 0 _ (by omega) K3.c0, hc 1 _ (by omega) K3.c1, World.cell?_setCell_same _ _ _ (h := hm4.cell (x := ⟨A.g, 2, none⟩) hg4 K3.c2), hc 3 _ (by omega) K3.c3, hc 4 _ (by omega) K3.c4, hc 5 _ (by omega) K3.c5, hc 6 _ (by omega) K3.c6, hc 7 _ (by omega) K3.c7, hc 8 _ (by omega) K3.c8, hc 9 _ (by omega) K3.c9, hc 10 _ (by omega) K3.c10, hc 11 _ (by omega) K3.c11, fun i => (World.frozen?_setCell _ _ _ _).trans ((hm4.frozen (x := ⟨A.g, i, none⟩) hg4 K3.lg).trans (K3.f i)), Nat.lt_of_lt_of_le K3.lg (Nat.le_trans hm4.size hm5.size), ?_, ?_, ?_, ?_⟩, ?_, ?_⟩
  · exact L14.row_mod (L14.row_mod K3.rp hm4 hp4) hm5 fun g hg h => hne g (Or.inl (by rw [hg]; simp)) (List.mem_singleton.1 h)
  · exact L14.row_mod (L14.row_mod K3.re hm4 he4) hm5 fun g hg h => hne g (Or.inr (by rw [hg]; simp)) (List.mem_singleton.1 h)
  · exact L14.row_mod hrow hm5 fun g hg h => hgn g hg (List.mem_singleton.1 h)
  · unfold Ow15 Vr.bs
    dsimp only
    rcases hown with h | h
    · rw [h]; exact hsep
    · rw [h]
      have hl : ∀ y ∈ Ow15 A v, y < W3.heap.size := hlt
      unfold Ow15 Vr.bs at hl
      have h1 := List.nodup_append.1 hsp
      have h2 := List.nodup_append.1 h1.2.1
      refine List.nodup_cons.2 ⟨fun hx => ?_, List.nodup_append.2 ⟨h1.1, List.nodup_append.2 ⟨h2.1, by simp, fun a ha b hb e => ?_⟩, fun a ha b hb e => ?_⟩⟩
      · have hg := hl A.g (by simp)
        rcases List.mem_append.1 hx with hx | hx
        · exact hne _ (Or.inl hx) rfl
        · rcases List.mem_append.1 hx with hx | hx
          · exact hne _ (Or.inr hx) rfl
          · simp at hx; omega
      · have := hl a (List.mem_cons.2 (Or.inr (List.mem_append.2 (Or.inr (List.mem_append.2 (Or.inl ha))))))
        simp at hb; omega
      · have h9 := hl a (List.mem_cons.2 (Or.inr (List.mem_append.2 (Or.inl ha))))
        rcases List.mem_append.1 hb with hb | hb
        · exact h1.2.2 a ha b (List.mem_append.2 (Or.inl hb)) e
        · simp at hb; omega
  · refine ((hM3.up (T := Ow15 A v) (by simp)).trans (hm4.up fun y hy => mem_Ow15.2 (Or.inr (Or.inr (Or.inr (by simpa using hy)))))).trans (hm5.up fun y hy => mem_Ow15.2 (Or.inl (List.mem_singleton.1 hy)))
  · intro y hy
    rcases mem_Ow15.1 hy with h | h | h | h
    · exact Or.inl (mem_Ow15.2 (Or.inl h))
    · exact Or.inl (mem_Ow15.2 (Or.inr (Or.inl h)))
    · exact Or.inl (mem_Ow15.2 (Or.inr (Or.inr (Or.inl h))))
    · dsimp only at h
      rcases hown with e | e
      · exact Or.inl (mem_Ow15.2 (Or.inr (Or.inr (Or.inr (by rw [← e]; exact h)))))
      · rw [e] at h; injection h with h; have := hM3.size; exact Or.inr (by omega)
end
end Go.Proofs.YtifnkmddinoneaaGreatDoor
namespace Go.Proofs.YtifnkmddinoneaaGreatDoor
open Go.RowKit
set_option linter.unusedVariables false
section
variable {w w' : World} {A : Ag} {E : Es} {T : List Nat}
set_option maxRecDepth 100000 in
set_option maxHeartbeats 4000000 in
theorem eadd_calls (h : Eg w A T E) (x : Wd) (hv : Valid E x) (ho : OkW x) (hr : E.W.length < 600) : Calls Tryz.prog 13 #[Pt A.g, wdV x] w (Plays A T w (.tuple #[.int .i64 ((E.W.length : Int) + 1), .int .i64 0]) { E with W := E.W ++ [x] }) := by
  obtain ⟨k, n, ww⟩ := x
  have m0 := L14.al_mod w (.cells #[.int .i64 k, .int .i64 n, .int .i64 ww] TW15)
  have h0 := h.far m0
  have H1 := valid_calls h0 _ hv
  unfold wdV at H1 ⊢
  dsimp only at H1 ⊢
  have H1 := Lib.hid H1
  have HH := Lib.hid (And.intro h (And.intro m0 (And.intro hv (And.intro ho hr))))
  have lg : A.g < (w.alloc (.cells #[.int .i64 k, .int .i64 n, .int .i64 ww] TW15)).heap.size := World.block_lt_of_cell? _ _ h0.cs.c3
  clear h h0 hv ho hr m0
  go_enter Tryz.func13, Tryz.ntmps13
  go_wp2_with fail
  refine (H1.out).mono ?_
  rintro e w1 ⟨rfl, m1⟩
  have h1 := (HH.out.1.far HH.out.2.1).far m1
  obtain ⟨v, Ts, Tf, Ti, hV⟩ := h1
  have c2 := hV.own.c2
  have g2 := hV.own.f 2
  obtain ⟨B, c, hs⟩ := row_slice hV.own.rw
  rw [hs] at c2
  obtain ⟨m, hm⟩ : ∃ m, m = E.W.length := ⟨_, rfl⟩
  have hm6 : m < 600 := by have := HH.out.2.2.2.2; omega
  have hmI : ¬ (600 : Int) ≤ (m : Int) := by omega
  have HM := Lib.hid hm
  rw [← hm] at c2
  have HV := Lib.hid (And.intro hV (And.intro hs m1))
  clear m1 hV hs hm H1
  go_wp2_with fail
  obtain ⟨hV, hs, m1⟩ := HV.out
  have bk := (m1.block w.heap.size (by rw [L14.size_allocI]; omega) (by simp)).trans (MapKept.heap_alloc w (.cells #[.int .i64 k, .int .i64 n, .int .i64 ww] TW15)).1
  obtain ⟨x0, x1, x2, _⟩ := three_at bk
  have hM3 : Mod [] w1 (w1.alloc (.cells #[.int .i64 k, .int .i64 n, .int .i64 ww] 35)).drew := ((Mod.refl [] w1).alloc _).drew
  have K3 := hV.own.mod hM3 (by simp)
  have hc := wd_new w1 ⟨k, n, ww⟩
  have ef : (flatW ⟨k, n, ww⟩).toArray = #[.int .i64 k, .int .i64 n, .int .i64 ww] := rfl
  rw [ef] at hc
  obtain ⟨v', w', hr, hrow, hm4, hown⟩ := run_appW K3.rw (by have := HM.out; omega) ⟨k, n, ww⟩ ⟨w1.heap.size, 0, none⟩ 1 hc 84
  obtain ⟨A', cap', hsl⟩ := row_slice hrow
  have e1 : (E.W ++ [(⟨k, n, ww⟩ : Wd)]).length = m + 1 := by rw [HM.out]; simp
  rw [e1] at hsl
  subst hsl
  have hAP := hV.own.words hM3 hrow hm4 hown
  have hsep := K3.sep
  unfold Ow15 Vr.bs at hsep
  have hp4 : A.g ∉ v.w.ownBlock.toList := fun h => (List.nodup_cons.1 hsep).1 (List.mem_append.2 (Or.inr (List.mem_append.2 (Or.inr h))))
  have g0 := hm4.cell (x := ⟨A.g, 2, none⟩) hp4 K3.c2
  have gf0 := (hm4.frozen (x := ⟨A.g, 2, none⟩) hp4 K3.lg).trans (K3.f 2)
  have k30 : (w1.alloc (.cells #[.int .i64 k, .int .i64 n, .int .i64 ww] 35)).cell? ⟨A.g, 2, none⟩ = some (.slice B m c) := by rw [HM.out, ← hs]; exact K3.c2
  rw [hs, ← HM.out] at hr g0
  have lgw : A.g < w'.heap.size := World.block_lt_of_cell? _ _ g0
  have HF := Lib.hid (And.intro hAP (And.intro hV m1))
  clear hAP hrow hm4 hown hM3 K3 hc ef hp4 hV hs m1 hsep bk
  replace hr : (appRowW 84 _).run Tryz.prog _ = .ok (.slice A' (m + 1) cap') w' := hr
  go_region
  all_goals
    have hmw : wrap64 ((m : Int) + 1) = (m : Int) + 1 := IntWalk.wrap64_in _ (by omega)
    have c2' := HF.out.1.1.c2
    have lg' := HF.out.1.1.lg
    dsimp only at c2'
    generalize (w'.setCell ⟨A.g, 2, none⟩ (.slice A' (m + 1) cap')) = w6 at *
    rw [← HM.out]
    clear hr k30 g0 gf0 x0 x1 x2 c2 g2 lgw lg e1
    go_wp2_with fail
    refine bodyPost_ret (v := .tuple #[.int .i64 ((m : Int) + 1), .int .i64 0]) (by simp [results, Tryz.results13, go_sem]) rfl ?_
    obtain ⟨⟨ho, mo, hv⟩, hV, m1⟩ := HF.out
    obtain ⟨h, m0, _, ok, hr⟩ := HH.out
    have hok := h.ok
    obtain ⟨a1, a2⟩ := hV.owns mo hv ho rfl rfl rfl rfl rfl ⟨hok.x, fun y hy => (List.mem_append.1 hy).elim (hok.w y) (fun e => by rw [List.mem_singleton.1 e]; exact ok), hok.f, hok.d, by simp; omega, hok.di⟩
    exact ⟨by rw [HM.out], _, ⟨_, _, _, _, a1⟩, (Tn.far (m0.trans m1)).trans a2⟩
end
end Go.Proofs.YtifnkmddinoneaaGreatDoor
