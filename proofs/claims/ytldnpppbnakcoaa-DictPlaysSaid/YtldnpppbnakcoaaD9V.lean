/- Layer 9: the program's Add. Condition: the block is such a dictionary (Pd9). -/
import Derived.Test.YtldnpppbnakcoaaD9U
namespace Go.Proofs.Ytldnpppbnakcoaa
open Go.RowKit
set_option linter.unusedVariables false

theorem nd_add {p b q : Nat} {A A' B C : List Nat} (h : (p :: b :: (A ++ (B ++ C))).Nodup) (hq : q ∉ p :: b :: (A ++ (B ++ C))) (hA : A' = A ∨ A' = [] ∨ ∃ g, A' = [g] ∧ g ∉ p :: b :: (A ++ (B ++ C)) ∧ g ≠ q) : (p :: b :: (A' ++ (B ++ q :: C))).Nodup := by
  have e1 : p :: b :: (A' ++ (B ++ q :: C)) = (p :: b :: (A' ++ B)) ++ q :: C := by simp
  rw [e1]
  refine List.perm_middle.symm.nodup_iff.1 ?_
  have key : ((p :: b :: (A' ++ B)) ++ C).Nodup ∧ q ∉ (p :: b :: (A' ++ B)) ++ C := by
    have e2 : (p :: b :: (A' ++ B)) ++ C = p :: b :: (A' ++ (B ++ C)) := by simp
    rw [e2]
    rcases hA with rfl | rfl | ⟨g, rfl, hg, hgq⟩
    · exact ⟨h, hq⟩
    · refine ⟨h.sublist (by simp), fun hx => hq ?_⟩
      simp only [List.mem_cons, List.mem_append, List.nil_append] at hx ⊢
      rcases hx with hx | hx | hx
      · exact Or.inl hx
      · exact Or.inr (Or.inl hx)
      · exact Or.inr (Or.inr (Or.inr hx))
    · have e3 : p :: b :: ([g] ++ (B ++ C)) = [p, b] ++ g :: (B ++ C) := rfl
      rw [e3]
      have hs : ([p, b] ++ (B ++ C)).Nodup := h.sublist (by simp)
      have hsub : ∀ x ∈ [p, b] ++ (B ++ C), x ∈ p :: b :: (A ++ (B ++ C)) := fun x hx => by
        simp only [List.mem_cons, List.mem_append, List.not_mem_nil, or_false] at hx ⊢
        rcases hx with (hx | hx) | hx
        · exact Or.inl hx
        · exact Or.inr (Or.inl hx)
        · exact Or.inr (Or.inr (Or.inr hx))
      refine ⟨List.perm_middle.symm.nodup_iff.1 (List.nodup_cons.2 ⟨fun hx => hg (hsub g hx), hs⟩), fun hx => ?_⟩
      have hx := List.perm_middle.mem_iff.1 hx
      rcases List.mem_cons.1 hx with hx | hx
      · exact hgq hx.symm
      · exact hq (hsub q hx)
  exact List.nodup_cons.2 ⟨key.2, key.1⟩
theorem PdV.add {w w4 : World} {p : Nat} {v v' : Value} {b : Nat} {u : Value} {Z : List (Nat × We)} {D : Di} {q : Nat} {a : We} (h : PdV w p v b u Z D) {S : List Nat} (m : Mod S w w4) (hS : ∀ x ∈ S, x = p ∨ x = b ∨ v.ownBlock = some x)
    (c0 : w4.cell? ⟨p, 0, none⟩ = some v') (hc : ∀ i, i ≠ 0 → w4.cell? ⟨p, i, none⟩ = w.cell? ⟨p, i, none⟩) (hf : ∀ i, w4.frozen? ⟨p, i, none⟩ = false)
    (rv : w4.ownsRow 0 71 1 v' (Z.length + 1) (ptsZ Z ++ [PtW q])) (hv : ∀ g, v'.ownBlock = some g → v.ownBlock = some g ∨ (w.heap.size ≤ g ∧ g ≠ q))
    (hq : w.heap.size ≤ q) (wo : WoAt w4 q a (headZ Z a.l)) (mp : MapP w4 b (fun n => if n = a.l then some q else headZ Z n)) (ha : a.n.length ≤ 31) (hl : Z.length < 2000) :
    PdV w4 p v' b u ((q, a) :: Z) { D with W := D.W ++ [a] } ∧ TurnD (p :: tailP v b u Z) (p :: tailP v' b u ((q, a) :: Z)) w w4 := by
  have hn := h.nd
  have hfresh : ∀ g, w.heap.size ≤ g → g ∉ p :: tailP v b u Z := fun g hg hx => by have := h.lt g hx; omega
  have hnd : (p :: tailP v' b u ((q, a) :: Z)).Nodup := by
    refine nd_add (A := v.ownBlock.toList) hn (hfresh q hq) ?_
    cases hv' : v'.ownBlock with
    | none => exact Or.inr (Or.inl rfl)
    | some g =>
      rcases hv g hv' with e | ⟨e1, e2⟩
      · exact Or.inl (by rw [e])
      · exact Or.inr (Or.inr ⟨g, rfl, hfresh g e1, e2⟩)
  have huS : ∀ g, u.ownBlock = some g → g ∉ S := fun g hg hx => by
    have hn2 := hn
    unfold tailP at hn2
    rw [hg] at hn2
    obtain ⟨n1, n2⟩ := List.nodup_cons.1 hn2
    obtain ⟨n3, n4⟩ := List.nodup_cons.1 n2
    have n6 := (List.nodup_append.1 n4).2.2
    rcases hS g hx with rfl | rfl | e
    · exact n1 (by simp)
    · exact n3 (by simp)
    · exact n6 g (by rw [e]; simp) g (by simp) rfl
  have hzS : ∀ z ∈ Z, z.1 ∉ S := fun z hz hx => by
    obtain ⟨n1, n2, n3, _⟩ := h.wo_ne z hz
    rcases hS z.1 hx with e | e | e
    · exact n1 e.symm
    · exact n2 e.symm
    · exact n3 e
  refine ⟨⟨c0, (hc 1 (by omega)).trans h.c1, (hc 2 (by omega)).trans h.c2, (hc 3 (by omega)).trans h.c3, (hc 4 (by omega)).trans h.c4, hf, Nat.lt_of_lt_of_le h.lp m.size, ⟨by rw [ptsZ_cons]; exact rv, mp.congr fun n => ?_, rowD_mod h.body.ru m huS, ⟨wo, h.body.ws.mod m hzS⟩⟩, hnd, ?_, ?_, hl, h.do_, h.dk, h.dk1⟩, m.up fun x hx => ?_, fun x hx => ?_⟩
  · rw [headZ_cons]
    by_cases e : n = a.l
    · rw [if_pos e, if_pos e.symm]
    · rw [if_neg e, if_neg fun e2 => e e2.symm]
  · show D.W ++ [a] = _
    rw [h.eW]; simp
  · intro y hy
    rcases List.mem_append.1 hy with hy | hy
    · exact h.names y hy
    · rw [List.mem_singleton.1 hy]; exact ha
  · rcases hS x hx with rfl | rfl | e
    · simp
    · exact List.mem_cons.2 (Or.inr (mem_tailP.2 (Or.inl rfl)))
    · exact List.mem_cons.2 (Or.inr (mem_tailP.2 (Or.inr (Or.inl e))))
  · rcases List.mem_cons.1 hx with rfl | hx
    · exact Or.inl (by simp)
    · rcases mem_tailP.1 hx with hx | hx | hx | ⟨z, hz, hx⟩
      · exact Or.inl (List.mem_cons.2 (Or.inr (mem_tailP.2 (Or.inl hx))))
      · rcases hv x hx with e | e
        · exact Or.inl (List.mem_cons.2 (Or.inr (mem_tailP.2 (Or.inr (Or.inl e)))))
        · exact Or.inr e.1
      · exact Or.inl (List.mem_cons.2 (Or.inr (mem_tailP.2 (Or.inr (Or.inr (Or.inl hx))))))
      · rcases List.mem_cons.1 hz with rfl | hz
        · exact Or.inr (by rw [← hx]; exact hq)
        · exact Or.inl (List.mem_cons.2 (Or.inr (mem_tailP.2 (Or.inr (Or.inr (Or.inr ⟨z, hz, hx⟩))))))
theorem infoPtr9 : (Try.prog.info? 71).map (fun i => (i.zero, i.size, i.bytes)) = some (some (.pointer none), 1, 8) := by kernel_rfl
/-- An append of pointers to words: a name, so that the walk lays nothing open. -/
def appPtr (ty : TypeId) (xs : Array Value) : Sem Value := Builtin.append_ #[67, 67] ty xs
@[go_sem ↓ high] theorem builtin_appPtr (ty : TypeId) (cs : Array Bool) (xs : Array Value) : builtin .append #[67, 67] ty cs xs = (do pure (.value (← appPtr ty xs))) := rfl
theorem run_addP {w : World} {v : Value} {Z : List (Nat × We)} (h : w.ownsRow 0 71 1 v Z.length (ptsZ Z)) (hl : Z.length ≤ 2000) (q : Nat) (a : Addr) (cp : Nat) (hc : w.cell? (a.add 0) = some (PtW q)) (ty : TypeId) :
    ∃ A n c w', (appPtr ty #[v, .slice (some a) 1 cp]).run Try.prog w = .ok (.slice A n c) w' ∧ w'.ownsRow 0 71 1 (.slice A n c) (Z.length + 1) (ptsZ Z ++ [PtW q]) ∧ Mod v.ownBlock.toList w w' ∧ ((Value.slice A n c).ownBlock = v.ownBlock ∨ (Value.slice A n c).ownBlock = some w.heap.size) := by
  obtain ⟨i, hi, hz0, hz1, hz2⟩ := info_parts infoPtr9
  have hm : maxLen = 9223372036854775807 := rfl
  obtain ⟨v', w', h1, h2, h3, _, h5⟩ := run_append_own_at (P := Try.prog) w 0 67 ty 71 i _ 1 8 Try.underlying67 hi hz0 hz1 hz2 rfl (by decide) _ _ _ h a 1 cp [PtW q] rfl (fun j u hj => by
    have hj' := (List.getElem?_eq_some_iff.1 hj).1
    have : j = 0 := by simpa using hj'
    subst this
    rw [hc, ← hj]; rfl) (fun u hu => by rw [List.mem_singleton.1 hu]; rfl) (by omega) (by omega) (Nat.zero_le _)
  obtain ⟨A', n', cap', rfl⟩ : ∃ A' n' cap', v' = .slice A' n' cap' := by
    rcases h2.2 with ⟨rfl, _⟩ | ⟨g, cp, cur, rfl, _⟩
    · exact ⟨_, _, _, rfl⟩
    · exact ⟨_, _, _, rfl⟩
  exact ⟨_, _, _, w', h1, h2, Mod.of_grown h3 (by simp), h5⟩
theorem sclone_calls (s : List UInt8) (hs : s.length ≤ 1000000000) (w : World) : Calls Try.prog 41 #[.string (str s)] w fun e w' => e = .returned (.string (str s)) ∧ Mod [] w w' := by
  have hsz := str_size s
  obtain ⟨X, hX⟩ : ∃ X, X = str s := ⟨_, rfl⟩
  rw [← hX] at hsz ⊢
  have K := Lib.hid (Try.stringslite_Clone X w (by omega))
  clear hX hsz
  go_enter Try.func41, Try.ntmps41
  go_wp2_with fail
  refine (K.out).mono ?_
  rintro e u1 ⟨rfl, h1⟩
  have H1 := Lib.hid (Mod.of_below h1)
  clear h1
  go_wp2_with fail
  go_ret
  exact ⟨rfl, H1.out⟩
/-- What Add says no to. -/
theorem padd_no {w : World} {p : Nat} {T : List Nat} {D : Di} (h : Pd9 w p T D) (s : List UInt8) (x : Int) (hs : s.length ≤ 4611686018427387904) (hno : s.length = 0 ∨ 31 < s.length ∨ 2000 ≤ D.W.length) :
    Calls Try.prog 22 #[PtD p, .string (str s), .int .i64 x] w (PPlays p T (.int .i64 (addR D s x).1) (addR D s x).2 w) := by
  have K0 := Lib.hid (none_calls h)
  have HH := Lib.hid h
  obtain ⟨v, b, u, Z, hv, rfl⟩ := h
  obtain ⟨A, cap, rfl, _⟩ := rowD_open hv.body.rv
  have h0 := hv.c0
  have hd := hv.dw
  have hlen : D.W.length = Z.length := by rw [hv.eW]; simp
  obtain ⟨n, hn⟩ : ∃ n, n = Z.length := ⟨_, rfl⟩
  have hsz := str_size s
  obtain ⟨X, hX⟩ : ∃ X, X = str s := ⟨_, rfl⟩
  rw [← hX] at hsz ⊢
  rw [← hn] at h0 hd hlen
  clear hv hX
  unfold PPlays
  by_cases h1 : s.length = 0
  · have e : addR D s x = (-16, D) := if_pos h1
    rw [e]
    have hz : X = ⟨#[]⟩ := by
      apply ByteArray.ext
      exact Array.eq_empty_of_size_eq_zero (by have : X.data.size = s.length := hsz; omega)
    subst hz
    clear e hno hn h1 hsz hlen
    go_enter Try.func22, Try.ntmps22
    go_wp2_with fail
    refine (K0.out).mono ?_
    rintro e u1 ⟨rfl, rfl⟩
    go_wp2_with fail
    go_ret
    exact ⟨rfl, _, HH.out, TurnD.refl _ _⟩
  · have hze : X.toList.isEmpty = false := by
      rw [ByteArray.toList_eq, List.isEmpty_eq_false_iff]
      intro e
      have h3 : X.data.toList.length = s.length := by rw [Array.length_toList]; exact hsz
      rw [e] at h3
      exact h1 h3.symm
    by_cases h2 : 31 < s.length
    · have e : addR D s x = (-19, D) := by unfold addR; rw [if_neg h1, if_pos h2]
      rw [e]
      have h2I : (31 : Int) < (X.size : Int) := by omega
      clear e hno hn h1 h2 hsz hlen
      go_enter Try.func22, Try.ntmps22
      go_wp2_with fail
      refine (K0.out).mono ?_
      rintro e u1 ⟨rfl, rfl⟩
      go_wp2_with fail
      go_ret
      exact ⟨rfl, _, HH.out, TurnD.refl _ _⟩
    · have h3 : 2000 ≤ n := by omega
      have e : addR D s x = (-8, D) := by unfold addR; rw [if_neg h1, if_neg h2, if_pos (by rw [hlen]; exact h3)]
      rw [e]
      have h2I : ¬ (31 : Int) < (X.size : Int) := by omega
      have h3I : (2000 : Int) ≤ (n : Int) := by omega
      clear e hno hn h1 h2 hsz h3 hlen
      go_enter Try.func22, Try.ntmps22
      go_wp2_with fail
      refine (K0.out).mono ?_
      rintro e u1 ⟨rfl, rfl⟩
      go_wp2_with fail
      go_ret
      exact ⟨rfl, _, HH.out, TurnD.refl _ _⟩
end Go.Proofs.Ytldnpppbnakcoaa
