/- Layer 9: what the program's cutWords needs. Condition: as each says. -/
import Derived.Test.YtldnpppbnakcoaaBC
import Derived.Lib.SliceRun
namespace Go.Proofs.Ytldnpppbnakcoaa
open Go.RowKit Go.Shelf
set_option linter.unusedVariables false

def lzZ (Z : List (Nat × We)) (j : Nat) : Int := (Z[j]?.map (·.2.l)).getD 0
def qzZ (Z : List (Nat × We)) (j : Nat) : Nat := (Z[j]?.map (·.1)).getD 0
def hzZ (Z : List (Nat × We)) (j : Nat) : Option Nat := headZ (Z.drop (j + 1)) (lzZ Z j)
/-- The map when the words pre have been taken away. -/
def mapA (Z : List (Nat × We)) {c : Nat} (pre : List (Upto c)) : Int → Option Nat := pre.foldl (fun f x => updF f (lzZ Z x.1) (hzZ Z x.1)) (headZ Z)
theorem mapA_snoc (Z : List (Nat × We)) {c : Nat} (pre : List (Upto c)) (x : Upto c) : mapA Z (pre ++ [x]) = updF (mapA Z pre) (lzZ Z x.1) (hzZ Z x.1) := by simp [mapA]
theorem mapA_upC (Z : List (Nat × We)) (c k : Nat) (hk : k ≤ c) (hc : c ≤ Z.length) : mapA Z (upC c k) = headZ (Z.drop k) := by
  induction k with
  | zero => rfl
  | succ k ih =>
    rw [upC_succ c k (by omega), mapA_snoc, ih (by omega)]
    have hkl : k < Z.length := by omega
    funext n
    unfold updF hzZ
    have e : Z.drop k = Z[k] :: Z.drop (k + 1) := List.drop_eq_getElem_cons hkl
    have hl : lzZ Z k = Z[k].2.l := by simp [lzZ, hkl]
    rw [e, headZ_cons]
    by_cases h : n = lzZ Z k
    · rw [if_pos h, h]
    · rw [if_neg h, if_neg (by rw [← hl]; exact fun e => h e.symm)]
theorem PdV.word {w : World} {p : Nat} {v : Value} {b : Nat} {u : Value} {Z : List (Nat × We)} {D : Di} (h : PdV w p v b u Z D) (j : Nat) (hj : j < Z.length) : ∃ a, WoAt w (qzZ Z j) a (hzZ Z j) ∧ a.l = lzZ Z j ∧ p ≠ qzZ Z j ∧ b ≠ qzZ Z j ∧ v.ownBlock ≠ some (qzZ Z j) := by
  have e : Z.drop j = Z[j] :: Z.drop (j + 1) := List.drop_eq_getElem_cons hj
  have hw := h.body.ws.drop j
  rw [e] at hw
  have hl : lzZ Z j = Z[j].2.l := by simp [lzZ, hj]
  have hq : qzZ Z j = Z[j].1 := by simp [qzZ, hj]
  obtain ⟨n1, n2, n3, _⟩ := h.wo_ne Z[j] (List.getElem_mem hj)
  refine ⟨Z[j].2, ?_, hl.symm, by rw [hq]; exact n1, by rw [hq]; exact n2, by rw [hq]; exact n3⟩
  unfold hzZ
  rw [hl, hq]
  exact hw.1
theorem take_ptsZ (Z : List (Nat × We)) (x : Nat) (hx : x ≤ Z.length) : ptsZ (Z.drop (Z.length - x)) = (ptsZ Z).take x := by
  unfold ptsZ
  rw [List.take_reverse, List.map_drop, List.length_map]
theorem PdV.cutEnd {w w' : World} {p n cap x : Nat} {A : Option Addr} {b : Nat} {u : Value} {Z : List (Nat × We)} {D : Di} (h : PdV w p (.slice A n cap) b u Z D) (hn : n = Z.length) (hx : x ≤ n) {S : List Nat} (m : Mod S w w') (hS : ∀ y ∈ S, y = p ∨ y = b ∨ (Value.slice A n cap).ownBlock = some y)
    (c0 : w'.cell? ⟨p, 0, none⟩ = some (.slice A x cap)) (hc : ∀ i, i ≠ 0 → w'.cell? ⟨p, i, none⟩ = w.cell? ⟨p, i, none⟩) (hf : ∀ i, w'.frozen? ⟨p, i, none⟩ = false)
    (rv : w'.ownsRow 0 71 1 (.slice A x cap) x ((ptsZ Z).take x)) (mp : MapP w' b (headZ (Z.drop (n - x)))) :
    PdV w' p (.slice A x cap) b u (Z.drop (n - x)) { D with W := D.W.take x } ∧ TurnD (p :: tailP (.slice A n cap) b u Z) (p :: tailP (.slice A x cap) b u (Z.drop (n - x))) w w' := by
  subst hn
  have hv : (Value.slice A x cap).ownBlock = (Value.slice A Z.length cap).ownBlock := by cases A <;> rfl
  have hsub : (p :: tailP (.slice A x cap) b u (Z.drop (Z.length - x))).Sublist (p :: tailP (.slice A Z.length cap) b u Z) := by
    unfold tailP
    rw [hv]
    refine List.Sublist.cons_cons _ (List.Sublist.cons_cons _ (List.Sublist.append (List.Sublist.refl _) (List.Sublist.append (List.Sublist.refl _) ?_)))
    exact (List.drop_sublist _ _).map _
  have huS : ∀ g, u.ownBlock = some g → g ∉ S := fun g hg hy => by
    have hn2 := h.nd
    unfold tailP at hn2
    rw [hg] at hn2
    obtain ⟨n1, n2⟩ := List.nodup_cons.1 hn2
    obtain ⟨n3, n4⟩ := List.nodup_cons.1 n2
    have n6 := (List.nodup_append.1 n4).2.2
    rcases hS g hy with rfl | rfl | e
    · exact n1 (by simp)
    · exact n3 (by simp)
    · exact n6 g (by rw [e]; simp) g (by simp) rfl
  have hzS : ∀ z ∈ Z, z.1 ∉ S := fun z hz hy => by
    obtain ⟨n1, n2, n3, _⟩ := h.wo_ne z hz
    rcases hS z.1 hy with e | e | e
    · exact n1 e.symm
    · exact n2 e.symm
    · exact n3 e
  have hDW : D.W.take x = ((Z.drop (Z.length - x)).map (·.2)).reverse := by
    rw [h.eW, List.take_reverse, List.map_drop, List.length_map]
  refine ⟨⟨c0, (hc 1 (by omega)).trans h.c1, (hc 2 (by omega)).trans h.c2, (hc 3 (by omega)).trans h.c3, (hc 4 (by omega)).trans h.c4, hf, Nat.lt_of_lt_of_le h.lp m.size, ⟨?_, mp, rowD_mod h.body.ru m huS, (h.body.ws.drop _).mod m fun z hz => hzS z (List.mem_of_mem_drop hz)⟩, h.nd.sublist hsub, hDW, fun a ha => h.names a (List.mem_of_mem_take ha), ?_, h.do_, h.dk, h.dk1⟩, m.up fun y hy => ?_, fun y hy => Or.inl (hsub.subset hy)⟩
  · rw [take_ptsZ Z x hx]
    have : (Z.drop (Z.length - x)).length = x := by simp; omega
    rw [this]
    exact rv
  · have := h.dw
    simp
    omega
  · rcases hS y hy with rfl | rfl | e
    · simp
    · exact List.mem_cons.2 (Or.inr (mem_tailP.2 (Or.inl rfl)))
    · exact List.mem_cons.2 (Or.inr (mem_tailP.2 (Or.inr (Or.inl e))))
theorem ptrs_from (A : Option Addr) (n cap x : Nat) (hx : x ≤ n) (hn : n ≤ cap) : ∃ A' c', (∀ W, (Instr.sliceAt 67 (.slice A n cap) (some (.int .i64 (x : Int))) none none).run Try.prog W = .ok (.slice A' (n - x) c') W) ∧ (x < n → ∀ g, A = some ⟨g, 0, none⟩ → A' = some ⟨g, x, none⟩) := by
  have ht := Try.underlying67
  have he : Try.prog.elem 67 = 71 := by simp [Program.elem, ht]
  have ht' : Try.prog.underlying 67 = some (.slice (Try.prog.elem 67)) := by rw [he]; exact ht
  have hz : ∀ W, (Go.sizeOf 71).run Try.prog W = .ok 1 W := fun W => by kernel_rfl
  refine ⟨if cap = x then A else A.map fun y => y.add (x * 1), cap - x, fun W => ?_, ?_⟩
  · rw [run_sliceAt_slice W 67 _ _ _ _ ht', run_slice_l W 67 A n cap ht' .i64 x (by omega) (by omega), he, hz]
    rfl
  · intro hlt g hg
    subst hg
    have : cap ≠ x := by omega
    simp [this, WideShapes.add_plain]
theorem row_cutP {w : World} {e : TypeId} {k g n cap : Nat} {xs : List Value} (h : w.ownsRow 0 e k (.slice (some ⟨g, 0, none⟩) n cap) n xs) (m : Nat) (hm : m ≤ n) : w.ownsRow 0 e k (.slice (some ⟨g, 0, none⟩) m cap) m (xs.take (m * k)) := by
  have hle : m * k ≤ n * k := Nat.mul_le_mul_right k hm
  refine ⟨by rw [List.length_take, h.1]; exact Nat.min_eq_left hle, ?_⟩
  rcases h.2 with ⟨e, _⟩ | ⟨g', cap', cur, e, hb, hg, h1, h2, h3, h4⟩
  · cases e
  · injection e with e1 e2 e3
    injection e1 with e1
    injection e1 with e1 _
    subst e1 e3
    refine Or.inr ⟨g, cap, cur, rfl, hb, hg, by omega, h2, h3, ?_⟩
    rw [← h4, List.take_take, Nat.min_eq_left hle]
/-- The row of pointers from x on is cleared. -/
theorem clear_at {W : World} {A A' : Option Addr} {n cap c' x c : Nat} {xs : List Value} (rv : W.ownsRow 0 71 1 (.slice A n cap) n xs) (hx : x ≤ n) (hc : c = n - x) (hA : x < n → ∀ g, A = some ⟨g, 0, none⟩ → A' = some ⟨g, x, none⟩) :
    ∃ W3, (∀ ty, (Builtin.clear_ #[67] ty #[.slice A' c c']).run Try.prog W = .ok (.tuple #[]) W3) ∧ W3.ownsRow 0 71 1 (.slice A x cap) x (xs.take x) ∧ Mod (Value.slice A n cap).ownBlock.toList W W3 := by
  by_cases h0 : x < n
  · obtain ⟨g, rfl⟩ : ∃ g, A = some ⟨g, 0, none⟩ := by
      rcases rv.2 with ⟨e, h⟩ | ⟨g, cp, cur, e, _⟩
      · omega
      · injection e with e1; exact ⟨g, e1⟩
    have e1 := hA h0 g rfl
    subst e1
    have hl : xs.length = n := by rw [rv.1, Nat.mul_one]
    have hr := row_clear (.pointer none) c x (row_cutP rv x hx) (by rw [List.length_take]; omega)
    rw [Nat.mul_one] at hr
    refine ⟨W.setCells g x (List.replicate c (.pointer none)), fun ty => ?_, hr, (Mod.refl _ W).sets (by simp [Value.ownBlock]) _ _⟩
    exact Lib.run_clear_slice (P := Try.prog) W 67 71 ty (.pointer none) Try.underlying67 Try.zeroWord rfl rfl g x c c' (by omega)
      (fun j hj => by
        rw [rv.cellAt (x + j) (by omega)]
        have : x + j < xs.length := by omega
        simp [this]) (fun j hj => rv.frozenAt _)
  · obtain rfl : x = n := by omega
    obtain rfl : c = 0 := by omega
    have hl : xs.length = x := by rw [rv.1, Nat.mul_one]
    refine ⟨W, fun ty => ?_, by rw [List.take_of_length_le (by omega)]; exact rv, Mod.refl _ _⟩
    cases A' <;> simp [Builtin.clear_, run_underlying Try.underlying67]
/-- What cutWords leaves, put together. -/
theorem cut_fin {w W2 W W3 W4 : World} {p n cap x c Dd : Nat} {A : Option Addr} {b : Nat} {u : Value} {Z : List (Nat × We)} {D : Di} (hv : PdV w p (.slice A n cap) b u Z D) (hn : n = Z.length) (hx : x ≤ n) (hc : c = n - x) (M2 : Mod [] w W2) (hm : Mod [b] W2 W) (mp : MapP W b (headZ (Z.drop c)))
    (hrv3 : W3.ownsRow 0 71 1 (.slice A x cap) x ((ptsZ Z).take x)) (hm3 : Mod (Value.slice A n cap).ownBlock.toList W W3) (hm4 : Mod [] W3 W4) (hD : w.heap.size ≤ Dd) (o : Obj) :
    ∃ T', Pd9 ((W4.setCell ⟨p, 0, none⟩ (.slice A x cap)).putObj Dd o) p T' { D with W := D.W.take x } ∧ TurnD (p :: tailP (.slice A n cap) b u Z) T' w ((W4.setCell ⟨p, 0, none⟩ (.slice A x cap)).putObj Dd o) := by
  obtain ⟨npb, nvp, nvb⟩ := hv.pbv
  have hpl := hv.lp
  have hbl := hv.body.mp.lt
  have hown : ∀ g, (Value.slice A n cap).ownBlock = some g → g < w.heap.size := fun g hg => (hv.body.rv.lt g hg).2
  have hvx : (Value.slice A x cap).ownBlock = (Value.slice A n cap).ownBlock := by cases A <;> rfl
  have m1 : Mod (p :: b :: (Value.slice A n cap).ownBlock.toList) w W4 := ((M2.up (by simp)).trans (hm.up (by simp)) |>.trans (hm3.up (by simp; exact fun a ha => Or.inr (Or.inr ha))) |>.trans (hm4.up (by simp)))
  have k1 : Mod (b :: (Value.slice A n cap).ownBlock.toList) w W4 := ((M2.up (by simp)).trans (hm.up (by simp)) |>.trans (hm3.up (by simp; exact fun a ha => Or.inr ha)) |>.trans (hm4.up (by simp)))
  have hpn : p ∉ b :: (Value.slice A n cap).ownBlock.toList := by simp; exact ⟨npb, nvp⟩
  have hm5 : Mod [p] W4 (W4.setCell ⟨p, 0, none⟩ (.slice A x cap)) := (Mod.refl [p] W4).set (x := ⟨p, 0, none⟩) (Or.inl (by simp)) _
  have hm6 : Mod [Dd] (W4.setCell ⟨p, 0, none⟩ (.slice A x cap)) ((W4.setCell ⟨p, 0, none⟩ (.slice A x cap)).putObj Dd o) := Mod.of_grown (grownBy_putObj' _ _ _) (by simp)
  have hpD : p ∉ [Dd] := by simp; omega
  have hs4 : w.heap.size ≤ W4.heap.size := m1.size
  have c0 : W4.cell? ⟨p, 0, none⟩ = some (.slice A n cap) := k1.cell hpn hv.c0
  have hfin := hv.cutEnd (S := p :: b :: (Value.slice A n cap).ownBlock.toList) (w' := (W4.setCell ⟨p, 0, none⟩ (.slice A x cap)).putObj Dd o) hn hx ((m1.trans (hm5.up (by simp))).then hm6 (by simp; exact Or.inr hD)) (by
      intro y hy
      rcases List.mem_cons.1 hy with rfl | hy
      · exact Or.inl rfl
      · rcases List.mem_cons.1 hy with rfl | hy
        · exact Or.inr (Or.inl rfl)
        · exact Or.inr (Or.inr (by simpa using hy)))
    (hm6.cell hpD (World.cell?_setCell_same _ _ _ (h := c0)))
    (fun i hi => by
      rw [World.cell?_of_block (hm6.block p (Nat.lt_of_lt_of_le (Nat.lt_of_lt_of_le hpl hs4) hm5.size) hpD), World.cell?_setCell_other (h := by intro e; injection e with _ e; exact hi e.symm)]
      exact World.cell?_of_block (k1.block p hpl hpn))
    (fun i => by
      rw [hm6.frozen hpD (Nat.lt_of_lt_of_le (Nat.lt_of_lt_of_le hpl hs4) hm5.size), World.frozen?_setCell, k1.frozen hpn hpl]
      exact hv.f i)
    (rowD_mod (rowD_mod (rowD_mod hrv3 hm4 (by simp)) hm5 fun g hg hp => nvp (by rw [hvx] at hg; rw [hg]; simpa using hp)) hm6 fun g hg hp => by
      rw [hvx] at hg
      have := hown g hg
      simp at hp
      omega)
    (by
      rw [← hc]
      refine (((mp.mod hm3 ?_).mod hm4 (by simp)).mod hm5 (by simpa using fun e => npb e.symm)).mod hm6 (by simp; omega)
      simpa using nvb)
  exact ⟨_, ⟨_, _, _, _, hfin.1, rfl⟩, hfin.2⟩
end Go.Proofs.Ytldnpppbnakcoaa
