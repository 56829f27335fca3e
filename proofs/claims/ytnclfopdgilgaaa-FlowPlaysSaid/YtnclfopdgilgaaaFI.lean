/- Layer 11 (package flow): a gap more for a part; repeat, endBranch, a gap below the top part. Condition: the block is a builder (Bl) with so many instructions and parts. -/
import Derived.Test.YtnclfopdgilgaaaFH
namespace Go.Proofs.Ytnclfopdgilgaaa
open Go.RowKit
set_option linter.unusedVariables false

/-- A gap more: its number appended to a part's row, behind whatever is new. -/
theorem Bv.gap_app {tB tP : TypeId} {w w1 : World} {p g n cap : Nat} {vc v : Value} {A B : List (Pk × Value)} {q : Pk} {L : List Xi} (h : Bv tB tP w p vc (.slice (some ⟨g, 0, none⟩) n cap) (A ++ (q, v) :: B) L) (m : Mod [] w w1) (hl : q.g.length ≤ 1000) (i : Nat) (ty : TypeId) (ad : Addr) (cp : Nat) (hc : w1.cell? (ad.add 0) = some (.int .i64 (i : Int))) :
    ∃ A' n' cap' w', (appInts ty #[v, .slice (some ad) 1 cp]).run Try.prog w1 = .ok (.slice A' n' cap') w' ∧ Mod v.ownBlock.toList w1 w' ∧
      Bv tB tP (w'.setCell ⟨g, A.length * 3 + 2, none⟩ (.slice A' n' cap')) p vc (.slice (some ⟨g, 0, none⟩) n cap) (A ++ ({ q with g := q.g ++ [i] }, .slice A' n' cap') :: B) L ∧
      Turn (Sof p vc (.slice (some ⟨g, 0, none⟩) n cap) (A ++ (q, v) :: B)) (Sof p vc (.slice (some ⟨g, 0, none⟩) n cap) (A ++ ({ q with g := q.g ++ [i] }, .slice A' n' cap') :: B)) w (w'.setCell ⟨g, A.length * 3 + 2, none⟩ (.slice A' n' cap')) := by
  have h1 := h.far m
  have hqm : (q, v) ∈ A ++ (q, v) :: B := by simp
  have hgr : Gr w1 v q.g := h1.gaps (q, v) hqm
  obtain ⟨A', n', cap', w', hr, hn', hI, hg, ho⟩ := hgr.app1 (Nat.zero_le _) (by simp; omega) ty ad cp (i : Int) hc
  have hG : Gr w' (.slice A' n' cap') (q.g ++ [i]) := by
    show Ir w' 0 _ (ints (q.g ++ [i]))
    rw [show ints (q.g ++ [i]) = ints q.g ++ [(i : Int)] by simp]
    exact hI
  have hm := Mod.of_grown hg (S := v.ownBlock.toList) (by simp)
  generalize hv' : Value.slice A' n' cap' = v' at *
  have hown : v'.ownBlock = v.ownBlock ∨ ∀ b, v'.ownBlock = some b → b = w1.heap.size := ho.imp id fun e b hb => Option.some.inj (hb.symm.trans e)
  have hog : (Value.slice (some ⟨g, 0, none⟩) n cap).ownBlock = some g := rfl
  have hgp : g ≠ p := fun e => h1.op (by rw [hog, e])
  have hlg : g < w1.heap.size := h1.lo g hog
  have kq := h1.gp (q, v) hqm
  have hset := set_mod w' g (A.length * 3 + 2) v'
  have hgv : g ∉ v.ownBlock.toList := fun hx => (kq.2 g (by simpa using hx)).2 hog
  have hpv : p ∉ v.ownBlock.toList := fun hx => kq.1 (by simpa using hx)
  have hgg := h1.gg
  rw [List.pairwise_append, List.pairwise_cons] at hgg
  obtain ⟨g1, ⟨g2, g3⟩, g4⟩ := hgg
  have far : ∀ x, x ∈ A ∨ x ∈ B → ∀ b, x.2.ownBlock = some b → v.ownBlock ≠ some b := fun x hx b hb hv => by
    rcases hx with hx | hx
    · exact g4 x hx (q, v) (by simp) b hb hv
    · exact g2 x hx b hv hb
  have inO : ∀ x, x ∈ A ∨ x ∈ B → x ∈ A ++ (q, v) :: B := fun x hx => by
    rcases hx with hx | hx <;> simp [hx]
  have mem : ∀ x ∈ A ++ ({ q with g := q.g ++ [i] }, v') :: B, x = ({ q with g := q.g ++ [i] }, v') ∨ (x ∈ A ∨ x ∈ B) := fun x hx => by
    rcases List.mem_append.1 hx with hx | hx
    · exact Or.inr (Or.inl hx)
    · rcases List.mem_cons.1 hx with hx | hx
      · exact Or.inl hx
      · exact Or.inr (Or.inr hx)
  have kv : v'.ownBlock ≠ some p ∧ ∀ b, v'.ownBlock = some b → vc.ownBlock ≠ some b ∧ b ≠ g := by
    rcases hown with e | e
    · rw [e]
      exact ⟨kq.1, fun b hb => ⟨(kq.2 b hb).1, fun e2 => (kq.2 b hb).2 (by rw [hog, e2])⟩⟩
    · refine ⟨fun hb => ?_, fun b hb => ⟨fun hc => ?_, fun e2 => ?_⟩⟩
      · have := e p hb; have := h1.lp; omega
      · have := e b hb; have := h1.lc b hc; omega
      · have := e b hb; omega
  have nv : ∀ x, x ∈ A ∨ x ∈ B → ∀ b, x.2.ownBlock = some b → v'.ownBlock ≠ some b := fun x hx b hb hv => by
    rcases hown with e | e
    · exact far x hx b hb (e ▸ hv)
    · have := e b hv; have := h1.lg x (inO x hx) b hb; omega
  have hnO : n = (A ++ (q, v) :: B).length := by
    obtain ⟨_, _, e, _⟩ := h1.open_slice
    injection e
  refine ⟨A', n', cap', w', by rw [hv']; exact hr, hm, ?_, ?_⟩
  · rw [hv']
    refine ⟨(hset.block p (Nat.lt_of_lt_of_le h1.lp hm.size) (by simpa using hgp.symm)).trans ((hm.block p h1.lp hpv).trans h1.blk), row_mod (row_mod h1.code hm fun b hb hx => (kq.2 b (by simpa using hx)).1 hb) hset fun b hb hx => ?_, ?_, fun x hx => ?_, h1.cp, h1.op, h1.co, fun x hx => ?_, ?_⟩
    · have : b = g := by simpa using hx
      subst this
      exact h1.co b hb hog
    · have hrow := row_mod h1.row hm fun b hb hx => by
        rw [hog] at hb
        injection hb with hb
        subst hb
        exact hgv hx
      subst hnO
      have := (hrow.stored (A.length * 3 + 2) v').1
      rw [flatO_set2] at this
      have e2 : flatO (A ++ ({ q with g := q.g ++ [i] }, v') :: B) = flatO (A ++ (q, v') :: B) := by simp [flatO, flatQ]
      rw [e2]
      have e3 : (A ++ ({ q with g := q.g ++ [i] }, v') :: B).length = (A ++ (q, v) :: B).length := by simp
      rw [e3]
      exact this
    · rcases mem x hx with rfl | hx
      · exact row_mod hG hset fun b hb hx => (kv.2 b hb).2 (by simpa using hx)
      · exact row_mod (row_mod (h1.gaps x (inO x hx)) hm fun b hb hy => far x hx b hb (by simpa using hy)) hset fun b hb hy => ((h1.gp x (inO x hx)).2 b hb).2 (by rw [hog]; exact congrArg some (by simpa using hy : b = g).symm)
    · rcases mem x hx with rfl | hx
      · exact ⟨kv.1, fun b hb => ⟨(kv.2 b hb).1, fun e => (kv.2 b hb).2 (Option.some.inj (hog.symm.trans e)).symm⟩⟩
      · exact h1.gp x (inO x hx)
    · rw [List.pairwise_append, List.pairwise_cons]
      refine ⟨g1, ⟨fun x hx b hb hx2 => nv x (Or.inr hx) b hx2 hb, g3⟩, fun a ha x hx b hb hx2 => ?_⟩
      rcases List.mem_cons.1 hx with rfl | hx
      · exact nv a (Or.inl ha) b hb hx2
      · exact g4 a ha x (by simp [hx]) b hb hx2
  · rw [hv']
    refine ⟨((m.up (by simp)).trans (hm.up fun y hy => ?_)).trans (hset.up fun y hy => ?_), fun y hy => ?_⟩
    · exact mem_Sof.2 (Or.inr (Or.inr (Or.inr ⟨(q, v), hqm, by simpa using hy⟩)))
    · exact mem_Sof.2 (Or.inr (Or.inr (Or.inl (by rw [List.mem_singleton.1 hy]; rfl))))
    · rcases mem_Sof.1 hy with hy | hy | hy | ⟨x, hx, hy⟩
      · exact Or.inl (mem_Sof.2 (Or.inl hy))
      · exact Or.inl (mem_Sof.2 (Or.inr (Or.inl hy)))
      · exact Or.inl (mem_Sof.2 (Or.inr (Or.inr (Or.inl hy))))
      · rcases mem x hx with rfl | hx
        · rcases hown with e | e
          · exact Or.inl (mem_Sof.2 (Or.inr (Or.inr (Or.inr ⟨(q, v), hqm, e ▸ hy⟩))))
          · have := e y hy
            have := m.size
            exact Or.inr (by omega)
        · exact Or.inl (mem_Sof.2 (Or.inr (Or.inr (Or.inr ⟨x, inO x hx, hy⟩))))
theorem repeat_acts (L : List Xi) (C : List Pk) (r q : Pk) (i : Nat) (hl : L.length = i + 1) (hi : i ≤ 999) (hd : C.length ≤ 998) (hq : ∀ j ∈ q.g, j < L.length) (hq2 : q.g.length ≤ 1000) (hr : ∀ j ∈ r.g, j < L.length) (hr2 : r.g.length ≤ 1000) :
    Acts 46 ⟨L, C ++ [r, q]⟩ ⟨closeL L.length r.g (closeL L.length q.g (setA L i q.s)), C⟩ := fun w p S h => by
  have e : C ++ [r, q] = (C ++ [r]) ++ [q] := by simp
  rw [e] at h
  have H1 := Lib.hid (back_acts L (C ++ [r]) q i hl hi (by simp; omega) hq hq2 w p S h)
  have G := fun W S (hb : Bl W p S ⟨closeL L.length q.g (setA L i q.s), C ++ [r]⟩) => close_bl hb (by omega) (by rw [closeL_len, setA_len]; omega) (by rw [closeL_len, setA_len]; exact hr) hr2
  have HG := Lib.hid G
  have HN := Lib.hid (show (closeL L.length q.g (setA L i q.s)).length = L.length by rw [closeL_len, setA_len])
  clear h hd hl G hq hq2 hr hr2 e
  go_enter Try.func46, Try.ntmps46
  go_wp2_with fail
  refine (H1.out).mono ?_
  rintro e w1 ⟨⟨v, rfl⟩, S1, h1, h2⟩
  have H2 := Lib.hid (HG.out w1 S1 h1)
  have HT := Lib.hid h2
  clear h1 h2
  go_wp2_with fail
  refine (H2.out).mono ?_
  rintro e w2 ⟨⟨v, rfl⟩, S2, h1, h2⟩
  rw [HN.out] at h1
  have HE := Lib.hid (And.intro h1 h2)
  clear h1 h2
  go_wp2_with fail
  go_end0
  exact ⟨⟨_, rfl⟩, S2, HE.out.1, HT.out.trans HE.out.2⟩
end Go.Proofs.Ytnclfopdgilgaaa
