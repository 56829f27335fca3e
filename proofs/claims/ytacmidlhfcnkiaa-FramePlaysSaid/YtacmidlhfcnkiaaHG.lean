/- Layer 14: a frame more at the end of a row made anew, for the document's Push, Step, SetLocal. Condition: as each says. -/
import Derived.Test.YtacmidlhfcnkiaaHF
namespace Go.Proofs.Ytacmidlhfcnkiaa
open Go.RowKit
set_option linter.unusedVariables false

theorem row_ne {w : World} {v s : Value} {n g b : Nat} {xs : List Value} {l : List Int} (hr : w.ownsRow 0 TF 6 v n xs) (hg : v.ownBlock = some g) (hl : Lc w s l) (hb : s.ownBlock = some b) : b ≠ g := by
  rintro rfl
  rcases hr.2 with ⟨rfl, _⟩ | ⟨g', cap, cur, rfl, _, h3, _⟩
  · cases hg
  · rcases hl with ⟨rfl, rfl⟩ | ⟨b', c, rfl, cur', h1, _⟩
    · cases hb
    · cases hg
      cases hb
      rw [h3] at h1
      simp at h1
      exact absurd h1.2 (by decide)
section
variable {t e : TypeId} {k y : Nat}
/-- As El.last, with what it turned. -/
theorem El.last2 (E : El t e k y) {W Y : World} {v : Value} {n : Nat} {xs : List Value} (h : Grew e k W Y v n xs) (hn : n ≤ 999) (ad : Addr) (cp : Nat) (ys : List Value) (hl : ys.length = k) (hc : ∀ j u, ys[j]? = some u → Y.cell? (ad.add j) = some u) (h1 : ∀ u ∈ ys, u.oneCell' = true) (ty : TypeId) :
    ∃ A c w', (Builtin.append_ #[t, t] ty #[v, .slice (some ad) 1 cp]).run Try.prog Y = .ok (.slice A (n + 1) c) w' ∧ Grew e k W w' (.slice A (n + 1) c) (n + 1) (xs ++ ys) ∧ Mod v.ownBlock.toList Y w' := by
  obtain ⟨i, z, hi, hz, hs, hby, hzs⟩ := E.inf
  have hm0 : maxLen = 9223372036854775807 := rfl
  have hby2 : (n + 1) * y ≤ 140737488355328 := Nat.le_trans (Nat.mul_le_mul (show n + 1 ≤ 1000 by omega) E.few) (by decide)
  obtain ⟨v', w', h2, h3, h4, h5, h6⟩ := run_append_own_at (P := Try.prog) (w := Y) 0 t ty e i z k y E.und hi hz hs hby hzs E.pos _ _ _ h.row ad 1 cp ys (by omega) hc h1 (by omega) hby2 (Nat.zero_le _)
  have hm := Mod.of_grown (S := v.ownBlock.toList) h4 (by simp)
  obtain ⟨g0, hg0, hg1⟩ := h.own
  have h3' := h3
  rcases h3.2 with ⟨e1, h0⟩ | ⟨g', cp', cur', e1, _⟩
  · omega
  · subst e1
    refine ⟨_, _, w', h2, ⟨h.m.then hm fun x hx => ?_, h3', g', rfl, ?_⟩, hm⟩
    · have : x = g0 := by rw [hg0] at hx; simpa using hx
      exact Or.inr (by omega)
    · rcases h6 with e2 | e2
      · have : g' = g0 := by rw [hg0] at e2; simpa [Value.ownBlock] using e2
        omega
      · have : g' = Y.heap.size := by simpa [Value.ownBlock] using e2
        have := h.m.size
        omega
end
section
variable {tB : TypeId} {w : World} {p : Nat} {v : Value} {O : List (Fm × Value)}
/-- The frames are a row that was made anew, with a frame more, locals made anew too. -/
theorem Fv.anew (h : Fv tB w p v O) {X Y : World} (mX : Mod [] w X) {v1 : Value} {n : Nat} (hn : n = O.length) (g : Grew TF 6 X Y v1 n (flatG O)) {q : Fm} {s' : Value} (hs : Lc Y s' q.l) (hb : ∀ b, s'.ownBlock = some b → w.heap.size ≤ b) (hn2 : n < 128) (ty : TypeId) :
    ∃ A c w', (appF ty #[v1, .slice (some ⟨Y.heap.size, 0, none⟩) 1 1]).run Try.prog (Y.alloc (.cells (cellsF q s') TF)) = .ok (.slice A (n + 1) c) w' ∧ w'.cell? ⟨p, 0, none⟩ = some v ∧ w'.frozen? ⟨p, 0, none⟩ = false ∧
      RowKit.Hid (Fv tB (w'.setCell ⟨p, 0, none⟩ (.slice A (n + 1) c)) p (.slice A (n + 1) c) (O ++ [(q, s')]) ∧ Turn (Sf p v O) (Sf p (.slice A (n + 1) c) (O ++ [(q, s')])) w (w'.setCell ⟨p, 0, none⟩ (.slice A (n + 1) c))) := by
  subst hn
  have mA := al_mod Y (.cells (cellsF q s') TF)
  have gA := g.far mA
  obtain ⟨A, c, w5, e5, g5, m5⟩ := elF.last2 gA (by omega) ⟨Y.heap.size, 0, none⟩ 1 (cellsF q s').toList rfl (new_cells Y (cellsF q s') TF) (cellsF_one hs.ls.one) ty
  have mm : Mod [] w w5 := mX.trans g5.m
  have hl5 : Lc w5 s' q.l := (hs.far mA).mod m5 fun b hb' hx => row_ne gA.row (by simpa using hx) (hs.far mA) hb' rfl
  obtain ⟨g', hg', hgX⟩ := g5.own
  have h5 := h.far mm
  have hrow : w5.ownsRow 0 TF 6 (.slice A (O.length + 1) c) (O ++ (q, s') :: []).length (flatG (O ++ (q, s') :: [])) := by
    rw [flatG_app, flatG_one]
    have := g5.row
    simpa [flatF] using this
  obtain ⟨r1, r2⟩ := h.renew (A := O) (B := []) (B' := []) (q := (q, s')) (by simp) (List.Sublist.refl _) mm hrow hg' (by have := mX.size; omega) hl5 (fun b hb' => ⟨hb b hb', row_ne g5.row hg' hl5 hb'⟩) (by simp; omega)
  exact ⟨A, c, w5, e5, h5.c0, h5.f 0, Lib.hid ⟨r1, r2⟩⟩
end
end Go.Proofs.Ytacmidlhfcnkiaa
