/- Layer 13: what the stack's operations do to lists; Do, whatever the operation. Condition: the state is one. -/
import Derived.Test.YtegcecpmdgljpaaGreatDoorUZ
namespace Go.Proofs.YtegcecpmdgljpaaGreatDoor
open Go.RowKit
set_option linter.unusedVariables false

theorem chosen_some (A : List Int) (x : Int) (B : List Int) : chosenAt (A ++ x :: (B ++ [(B.length : Int)])) = some (A, x, B) := by
  rcases chosen_cases (A ++ x :: (B ++ [(B.length : Int)])) with ⟨_, h | ⟨R, u, h, hu⟩⟩ | ⟨A', x', B', h, e⟩
  · simp at h
  · refine absurd ?_ hu
    have h1 : (A ++ x :: B) ++ [(B.length : Int)] = R ++ [u] := by rw [← h]; simp
    have h2 := List.append_inj' h1 rfl
    injection h2.2 with h3
    rw [← h2.1, ← h3]
    simp
    omega
  · have h1 : (A ++ x :: B) ++ [(B.length : Int)] = (A' ++ x' :: B') ++ [(B'.length : Int)] := by simpa using h
    have h2 := List.append_inj' h1 rfl
    injection h2.2 with h3
    have h4 : B.length = B'.length := by omega
    have h5 := List.append_inj' h2.1 (by simp [h4])
    injection h5.2 with h6 h7
    rw [e, h5.1, h6, h7]
theorem pickL_err (L : List Int) : (pickL L).1 = 0 ∨ (pickL L).1 = -4 := by unfold pickL; split <;> simp
theorem rollL_err (L : List Int) : (rollL L).1 = 0 ∨ (rollL L).1 = -4 := by unfold rollL; split <;> simp
theorem pickL_some (A : List Int) (x : Int) (B : List Int) : pickL (A ++ x :: (B ++ [(B.length : Int)])) = (0, A ++ x :: (B ++ [x])) := by unfold pickL; rw [chosen_some]
theorem rollL_some (A : List Int) (x : Int) (B : List Int) : rollL (A ++ x :: (B ++ [(B.length : Int)])) = (0, A ++ (B ++ [x])) := by unfold rollL; rw [chosen_some]
theorem pickL_below (X Y : List Int) (h : (pickL Y).1 ≠ -4) : pickL (X ++ Y) = ((pickL Y).1, X ++ (pickL Y).2) := by
  rcases chosen_cases Y with ⟨e, _⟩ | ⟨A, x, B, rfl, e⟩
  · unfold pickL at h
    rw [e] at h
    exact absurd rfl h
  · rw [pickL_some, ← List.append_assoc, pickL_some, List.append_assoc]
theorem rollL_below (X Y : List Int) (h : (rollL Y).1 ≠ -4) : rollL (X ++ Y) = ((rollL Y).1, X ++ (rollL Y).2) := by
  rcases chosen_cases Y with ⟨e, _⟩ | ⟨A, x, B, rfl, e⟩
  · unfold rollL at h
    rw [e] at h
    exact absurd rfl h
  · rw [rollL_some, ← List.append_assoc, rollL_some, List.append_assoc]
theorem replL_err (t : Nat) (ps : List Nat) (L : List Int) (hp : ps.length ≤ 6) (hl : L.length ≤ 120) : (replL t ps L).1 = 0 ∨ (replL t ps L).1 = -4 := by
  unfold replL
  split
  · simp
  · rw [if_neg (by omega)]
    simp
theorem replL_below (t : Nat) (ps : List Nat) (X Y : List Int) (hp : ps.length ≤ 6) (hx : X.length ≤ 60) (hy : Y.length ≤ 60) (h : (replL t ps Y).1 ≠ -4) : replL t ps (X ++ Y) = ((replL t ps Y).1, X ++ (replL t ps Y).2) := by
  unfold replL at h ⊢
  by_cases ht : Y.length < t
  · rw [if_pos ht] at h
    exact absurd rfl h
  · have hl : (X ++ Y).length = X.length + Y.length := by simp
    rw [if_neg ht, if_neg (show ¬ (X ++ Y).length < t by omega), if_neg (show ¬ 128 < (X ++ Y).length - t + ps.length by omega), if_neg (show ¬ 128 < Y.length - t + ps.length by omega)]
    have e : (X ++ Y).length - t = X.length + (Y.length - t) := by simp; omega
    rw [e, List.take_length_add_append, List.drop_length_add_append, List.append_assoc]
theorem shape_z (op : Int) (h : op ≠ 35) (z z' : Bool) : shapeL op z = shapeL op z' := by
  unfold shapeL
  repeat (split; rfl)
  rw [if_neg h, if_neg h]
theorem topZ_app (X Y : List Int) (h : Y ≠ []) : topZ (X ++ Y) = topZ Y := by
  unfold topZ
  simp [List.getLastD_eq_getLast?, List.getLast?_append, h]
  obtain ⟨R, u, rfl⟩ : ∃ R u, Y = R ++ [u] := ⟨Y.dropLast, Y.getLast h, (List.dropLast_concat_getLast h).symm⟩
  simp
theorem doL_err (op : Int) (h42 : op ≠ 42) (L : List Int) (hl : L.length ≤ 120) : (28 ≤ op ∧ op ≤ 42 → (doL op L).1 = 0 ∨ (doL op L).1 = -4) ∧ (¬ (28 ≤ op ∧ op ≤ 42) → doL op L = (1, L)) := by
  unfold doL
  obtain ⟨l1, l2, l3, l4⟩ := shapeL_le op (topZ L)
  refine ⟨fun h => ?_, fun h => ?_⟩
  · by_cases h40 : op = 40
    · rw [if_pos h40]; exact pickL_err L
    rw [if_neg h40]
    by_cases h41 : op = 41
    · rw [if_pos h41]; exact rollL_err L
    rw [if_neg h41, if_neg h42, if_neg (fun e => l4.1 e (by omega))]
    exact replL_err _ _ L l3 hl
  · rw [if_neg (by omega), if_neg (by omega), if_neg h42, if_pos (l4.2 (by omega))]
theorem doL_below (op : Int) (h42 : op ≠ 42) (X Y : List Int) (hx : X.length ≤ 60) (hy : Y.length ≤ 60) (h : (doL op Y).1 ≠ -4) : doL op (X ++ Y) = ((doL op Y).1, X ++ (doL op Y).2) := by
  by_cases hr : 28 ≤ op ∧ op ≤ 42
  · unfold doL at h ⊢
    by_cases h40 : op = 40
    · rw [if_pos h40] at h ⊢; rw [if_pos h40]; exact pickL_below X Y h
    rw [if_neg h40] at h ⊢
    rw [if_neg h40]
    by_cases h41 : op = 41
    · rw [if_pos h41] at h ⊢; rw [if_pos h41]; exact rollL_below X Y h
    rw [if_neg h41, if_neg h42] at h ⊢
    rw [if_neg h41, if_neg h42]
    have n0 : ∀ z, ¬ (shapeL op z).1 = 0 := fun z e => (shapeL_le op z).2.2.2.1 e (by omega)
    rw [if_neg (n0 _)] at h ⊢
    rw [if_neg (n0 _)]
    have e : shapeL op (topZ (X ++ Y)) = shapeL op (topZ Y) := by
      by_cases h35 : op = 35
      · rw [topZ_app X Y (fun e => by
          subst e h35
          exact h rfl)]
      · exact shape_z op h35 _ _
    rw [e]
    exact replL_below _ _ X Y (shapeL_le op _).2.2.1 hx hy h
  · rw [(doL_err op h42 Y (by omega)).2 hr, (doL_err op h42 (X ++ Y) (by simp; omega)).2 hr]
/-- With an error nothing is changed; what is none of the operations is refused. -/
theorem doL_still (op : Int) (L : List Int) : ((doL op L).1 ≠ 0 → (doL op L).2 = L) ∧ (¬ (28 ≤ op ∧ op ≤ 42) → doL op L = (1, L)) ∧ ((28 ≤ op ∧ op ≤ 42) → (doL op L).1 ≠ 1) := by
  obtain ⟨l1, l2, l3, l4⟩ := shapeL_le op (topZ L)
  unfold doL
  by_cases h40 : op = 40
  · rw [if_pos h40]
    refine ⟨fun h => ?_, fun h => absurd (show 28 ≤ op ∧ op ≤ 42 by omega) h, fun _ => by rcases pickL_err L with h | h <;> rw [h] <;> decide⟩
    unfold pickL at h ⊢
    split at h
    · rfl
    · exact absurd rfl h
  rw [if_neg h40]
  by_cases h41 : op = 41
  · rw [if_pos h41]
    refine ⟨fun h => ?_, fun h => absurd (show 28 ≤ op ∧ op ≤ 42 by omega) h, fun _ => by rcases rollL_err L with h | h <;> rw [h] <;> decide⟩
    unfold rollL at h ⊢
    split at h
    · rfl
    · exact absurd rfl h
  rw [if_neg h41]
  by_cases h42 : op = 42
  · rw [if_pos h42]
    refine ⟨fun h => ?_, fun h => absurd (show 28 ≤ op ∧ op ≤ 42 by omega) h, fun _ => ?_⟩
    · unfold putL at h ⊢
      split
      · rename_i h1
        rw [if_pos h1] at h
        exact absurd rfl h
      · rfl
    · unfold putL
      split
      · show (0 : Int) ≠ 1; decide
      · show (-3 : Int) ≠ 1; decide
  rw [if_neg h42]
  by_cases h0 : (shapeL op (topZ L)).1 = 0
  · rw [if_pos h0]
    have := l4.1 h0
    exact ⟨fun _ => rfl, fun _ => rfl, fun h => absurd (show 28 ≤ op ∧ op ≤ 39 by omega) this⟩
  · rw [if_neg h0]
    refine ⟨fun h => ?_, fun h => absurd (l4.2 (by omega)) h0, fun _ => ?_⟩
    · unfold replL at h ⊢
      split
      · rfl
      · rename_i h1
        rw [if_neg h1] at h
        split
        · rfl
        · rename_i h2
          rw [if_neg h2] at h
          exact absurd rfl h
    · unfold replL
      split
      · show (-4 : Int) ≠ 1; decide
      · split
        · show (-3 : Int) ≠ 1; decide
        · show (0 : Int) ≠ 1; decide

theorem doL_128 (op : Int) (L : List Int) (h : L.length ≤ 128) : (doL op L).2.length ≤ 128 := by
  unfold doL
  split
  · rcases chosen_cases L with ⟨e, _⟩ | ⟨A, x, B, rfl, e⟩
    · unfold pickL; rw [e]; exact h
    · rw [pickL_some]; simp at h ⊢; omega
  split
  · rcases chosen_cases L with ⟨e, _⟩ | ⟨A, x, B, rfl, e⟩
    · unfold rollL; rw [e]; exact h
    · rw [rollL_some]; simp at h ⊢; omega
  split
  · unfold putL; split
    · simp at *; omega
    · exact h
  split
  · exact h
  · unfold replL; split
    · exact h
    · split
      · exact h
      · simp; omega
variable {w : World} {a : Ad} {T : List Nat} {C : List Int} {μ : Mu}
set_option maxHeartbeats 1000000 in
theorem act_stk (a : Ad) (n : Int) (R : List Int) (μ : Mu) (hn : 28 ≤ n ∧ n ≤ 42) : Act13 a n 0 R [] μ ⟨[], (doL n R).1, (doL n R).2, μ⟩ := by
  have hS : shp a.s n = some .stk := by unfold shp; rw [if_neg (by omega), if_neg (by omega), if_pos hn]
  intro S F' q w T b c hS' hv h ho hb
  rw [hS] at hS'
  injection hS' with hS'
  subst hS'
  obtain ⟨w1, hz, ⟨b1, b2, h1, h2, g1, g2, h3⟩, hk⟩ := hv
  have l1 : b1 < w1.heap.size := World.block_lt_of_cell? _ _ g1
  have l2 : b2 < w1.heap.size := World.block_lt_of_cell? _ _ g2
  have g1 : w.cell? ⟨b1, 0, none⟩ = some (Pt a.s) := (World.cell?_of_block (a := ⟨b1, 0, none⟩) (hk b1 h1 (by omega))).trans g1
  have g2 : w.cell? ⟨b2, 0, none⟩ = some (.int .i64 n) := (World.cell?_of_block (a := ⟨b2, 0, none⟩) (hk b2 h2 (by omega))).trans g2
  injection h3 with h3
  injection h3 with h3
  injection h3 with _ h3
  injection h3 with h3 _
  injection h3 with e1 _ e3
  injection e1 with e1
  subst e1 e3
  have c0 := h.c0
  have hW : Mod [] w w.drew := (Mod.refl [] w).drew
  have h0 := h.far hW
  have HC := Lib.hid (do_calls h0.st n)
  have HH := Lib.hid h0
  have n1 : b1 ∉ [a.p] := by simp; exact fun e => h.box_ne h1 (by omega) (e ▸ h.ts.2.1)
  have n2 : b2 ∉ [a.p] := by simp; exact fun e => h.box_ne h2 (by omega) (e ▸ h.ts.2.1)
  have ns : a.s ∉ [a.p] := by simp; exact h.ne.1
  have np := h.ts.2.1
  clear h ho h0 hk hz l1 l2
  show Calls Tryz.prog 92 #[.slice (some ⟨b, 0, none⟩) 0 c, Pt b1, Pt b2] w _
  go_enter Tryz.func92, Tryz.ntmps92
  go_wp2_with fail
  go_region_held3 (fun W => W.cell? ⟨b1, 0, none⟩ = some (Pt a.s) ∧ W.cell? ⟨b2, 0, none⟩ = some (.int .i64 n) ∧ W.cell? ⟨a.s, 0, none⟩ = some (Pt a.p)) (first | with_reducible exact ⟨hW.cell (x := ⟨b1, 0, none⟩) (by simp) g1, hW.cell (x := ⟨b2, 0, none⟩) (by simp) g2, hW.cell (x := ⟨a.s, 0, none⟩) (by simp) c0⟩ | with_reducible exact ⟨hm2.cell (x := ⟨b1, 0, none⟩) n1 (hW.cell (x := ⟨b1, 0, none⟩) (by simp) g1), hm2.cell (x := ⟨b2, 0, none⟩) n2 (hW.cell (x := ⟨b2, 0, none⟩) (by simp) g2), hm2.cell (x := ⟨a.s, 0, none⟩) ns (hW.cell (x := ⟨a.s, 0, none⟩) (by simp) c0)⟩ | fail)
    (first | ((with_reducible refine (HC.out).mono ?_); rintro e w2 ⟨rfl, hst, hm2⟩) | fail)
  go_wp2
  go_ret2
  exact ⟨none, 0, 0, T, rfl, rfl, Sl.nil _ _, (Tn.far hW).trans (.of_mod hm2 (by simp; exact np)), HH.out.stack hm2 hst⟩
/-- Do, whatever the operation. -/
def DoneAny (a : Ad) (T : List Nat) (w : World) (n : Int) (C : List Int) (μ : Mu) (e : Ending) (w' : World) : Prop := ∃ er C' μ' T', e = .returned (.int .i64 er) ∧ Tn T T' w w' ∧ Stt w' a T' C' μ' ∧ (er = 1 ↔ ¬ (1 ≤ n ∧ n ≤ 107)) ∧ (er ≠ 0 → C' = C ∧ μ' = μ)
theorem did_any (n : Int) (hn : 1 ≤ n ∧ n ≤ 107) (k : Nat) (R X P : List Int) (er : Int) (μ' : Mu) (hC : C = R ++ X) (hX : X.length = k) (hl : C.length ≤ 128) (he : er ≠ 1) (h0 : er ≠ 0 → μ' = μ) (hk : k < P.length → μ' = μ) {e : Ending} {w' : World}
    (h : Did a T w (doR X ⟨P, er, R, μ'⟩) e w') : DoneAny a T w n C μ e w' := by
  obtain ⟨e1, T', tn, h2⟩ := h
  refine ⟨_, _, _, T', e1, tn, h2, ?_, ?_⟩
  · unfold doR
    simp only
    split
    · split <;> simp <;> omega
    · simp; omega
  · unfold doR
    simp only
    split
    · split
      · intro _
        refine ⟨hC.symm, hk ?_⟩
        have : C.length = R.length + k := by rw [hC, List.length_append, hX]
        omega
      · intro h; exact absurd rfl h
    · intro _
      exact ⟨hC.symm, h0 ‹_›⟩
theorem do_any (h : Stt w a T C μ) (n : Int) : Calls Tryz.prog 14 #[Pt a.s, .int .i64 n] w (DoneAny a T w n C μ) := by
  by_cases hn : 1 ≤ n ∧ n ≤ 107
  · obtain ⟨S, hS⟩ := shp_known a.s n hn
    have hk := shp_arity a.s n S hS
    have hl := h.st.n
    by_cases hu : arity n ≤ C.length
    · have hC : C = C.take (C.length - arity n) ++ C.drop (C.length - arity n) := (List.take_append_drop _ _).symm
      have hX : (C.drop (C.length - arity n)).length = arity n := by simp; omega
      have hR : (C.take (C.length - arity n)).length = C.length - arity n := by simp
      have hI : ∀ x ∈ C.drop (C.length - arity n), I64 x := fun x hx => h.st.2 x (List.mem_of_mem_drop hx)
      by_cases hs : 28 ≤ n ∧ n ≤ 42
      · have e : arity n = 0 := by unfold arity; rw [if_neg (by omega), if_neg (by omega), if_pos hs]
        rw [e] at hk hu hC hX hR hI
        have hact : Act13 a n ((0 : Nat) : Int) (C.take (C.length - 0)) (C.drop (C.length - 0)) μ ⟨[], (doL n C).1, (doL n C).2, μ⟩ := by
          rw [Nat.sub_zero, List.take_length, List.drop_length]; exact act_stk a n C μ hs
        have hd := do_known h n hn S hS 0 hk (Nat.zero_le _) _ hact (by simp) (by simp) (by have := doL_128 n C hl; simpa using this)
        have st := doL_still n C
        refine hd.mono fun e w' ⟨e1, T', tn, h2⟩ => ?_
        rw [Nat.sub_zero, List.drop_length] at e1 h2
        refine ⟨_, _, _, T', e1, tn, h2, ?_, ?_⟩
        · unfold doR
          have hle := doL_128 n C hl
          simp only
          split
          · rw [if_neg (by simp; omega)]; simp; omega
          · have := st.2.2 hs; constructor
            · intro h; exact absurd h this
            · intro h; exact absurd hn h
        · unfold doR
          have hle := doL_128 n C hl
          simp only
          split
          · rw [if_neg (by simp; omega)]; intro h; exact absurd rfl h
          · intro h; rw [st.1 h]; simp
      · by_cases h99 : n = 99
        · subst h99
          have e : arity 99 = 0 := rfl
          rw [e] at hk hu hC hX hR hI
          rcases base_cases μ with eb | ⟨B, eb, h2, h36, _⟩
          · have hact : Act13 a 99 ((0 : Nat) : Int) (C.take (C.length - 0)) (C.drop (C.length - 0)) μ ⟨[], baseE μ, C, μ⟩ := by
              rw [Nat.sub_zero, List.take_length, List.drop_length]; exact act_99e C μ (by rw [eb]; decide) a
            have hd := do_known h 99 hn S hS 0 hk (Nat.zero_le _) _ hact (by simp) (by simp) (by simpa using hl)
            refine hd.mono fun e w' hh => did_any 99 hn 0 C [] [] (baseE μ) μ (by simp) rfl hl (by rw [eb]; decide) (fun _ => rfl) (fun _ => rfl) ?_
            rw [Nat.sub_zero, List.drop_length] at hh
            exact hh
          · have hact : Act13 a 99 ((0 : Nat) : Int) (C.take (C.length - 0)) (C.drop (C.length - 0)) μ ⟨[], 0, C, { μ with O := showO B C μ.O }⟩ := by
              rw [Nat.sub_zero, List.take_length, List.drop_length]; exact act_99 B C μ eb h2 h36 a
            have hd := do_known h 99 hn S hS 0 hk (Nat.zero_le _) _ hact (by simp) (by simp) (by simpa using hl)
            refine hd.mono fun e w' hh => did_any 99 hn 0 C [] [] 0 { μ with O := showO B C μ.O } (by simp) rfl hl (by decide) (fun h => absurd rfl h) (by simp) ?_
            rw [Nat.sub_zero, List.drop_length] at hh
            exact hh
        · obtain ⟨P, er, μ', U, he, h0, hp2, hpk, hPI⟩ := any_op (μ := μ) n hn hs h99 h.muok _ hX hI
          have hd := do_known h n hn S hS (arity n) hk hu _ (U a _) hPI (Nat.le_trans hp2 (by decide)) (by rw [hR]; omega)
          exact hd.mono fun e w' hh => did_any n hn (arity n) _ _ P er μ' hC hX hl he h0 hpk hh
    · have hd := do_under h n hn S hS (by rw [hk]; omega)
      refine hd.mono fun e w' ⟨e1, m⟩ => ⟨-4, C, μ, T, e1, Tn.far m, h.far m, ?_, fun _ => ⟨rfl, rfl⟩⟩
      constructor
      · intro h; exact absurd h (by decide)
      · intro h; exact absurd hn h
  · refine (do_unknown h n hn).mono fun e w' ⟨e1, m⟩ => ⟨1, C, μ, T, e1, Tn.far m, h.far m, ?_, fun _ => ⟨rfl, rfl⟩⟩
    exact ⟨fun _ => hn, fun _ => rfl⟩
end Go.Proofs.YtegcecpmdgljpaaGreatDoor
