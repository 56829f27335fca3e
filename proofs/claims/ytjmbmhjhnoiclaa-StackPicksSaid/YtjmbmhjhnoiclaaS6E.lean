/- Layer 6 (package stack): the cell that is chosen; pick and roll. Condition: the block is a stack (St). -/
import Derived.Test.YtjmbmhjhnoiclaaS6D
namespace Go.Proofs.Ytjmbmhjhnoiclaa
open Go.RowKit
set_option linter.unusedVariables false

/-- The cell that the uppermost chooses: what is below it, itself, what is between both. -/
def chosenAt (L : List Int) : Option (List Int × Int × List Int) :=
  if 0 < L.length ∧ 0 ≤ L.getLastD 0 ∧ L.getLastD 0 < (L.length : Int) - 1 then
    some (L.take (L.length - 2 - (L.getLastD 0).toNat), L.getD (L.length - 2 - (L.getLastD 0).toNat) 0, (L.drop (L.length - 1 - (L.getLastD 0).toNat)).dropLast)
  else none
theorem chosen_cases (L : List Int) : (chosenAt L = none ∧ (L = [] ∨ ∃ R u, L = R ++ [u] ∧ ¬ (0 ≤ u ∧ u < (R.length : Int)))) ∨ ∃ A x B, L = A ++ x :: (B ++ [(B.length : Int)]) ∧ chosenAt L = some (A, x, B) := by
  by_cases h0 : L = []
  · subst h0
    exact Or.inl ⟨rfl, Or.inl rfl⟩
  obtain ⟨R, u, rfl⟩ : ∃ R u, L = R ++ [u] := ⟨L.dropLast, L.getLast h0, (List.dropLast_concat_getLast h0).symm⟩
  have e1 : (R ++ [u]).getLastD 0 = u := by simp [List.getLastD_eq_getLast?]
  have e2 : (R ++ [u]).length = R.length + 1 := by simp
  by_cases h : 0 ≤ u ∧ u < (R.length : Int)
  · refine Or.inr ?_
    obtain ⟨m, rfl⟩ := Int.eq_ofNat_of_zero_le h.1
    have hm : m < R.length := by omega
    obtain ⟨A, x, B, rfl, hB⟩ : ∃ A x B, R = A ++ x :: B ∧ B.length = m := ⟨R.take (R.length - 1 - m), R[R.length - 1 - m], R.drop (R.length - 1 - m + 1), by
      rw [← List.drop_eq_getElem_cons (by omega), List.take_append_drop], by simp; omega⟩
    subst hB
    refine ⟨A, x, B, by simp, ?_⟩
    unfold chosenAt
    rw [e1, e2, if_pos ⟨by omega, by omega, by have := h.2; omega⟩, Int.toNat_natCast]
    have a1 : (A ++ x :: B).length + 1 - 2 - B.length = A.length := by simp
    have a2 : (A ++ x :: B).length + 1 - 1 - B.length = A.length + 1 := by simp; omega
    rw [a1, a2]
    simp
  · refine Or.inl ⟨?_, Or.inr ⟨R, u, rfl, h⟩⟩
    unfold chosenAt
    rw [e1, e2, if_neg (fun k => h ⟨k.2.1, by have := k.2.2; omega⟩)]
def pickL (L : List Int) : Int × List Int := match chosenAt L with
  | none => (-4, L)
  | some (A, x, B) => (0, A ++ x :: (B ++ [x]))
def rollL (L : List Int) : Int × List Int := match chosenAt L with
  | none => (-4, L)
  | some (A, x, B) => (0, A ++ (B ++ [x]))
theorem ret_pair {a b : Int} {v : Value} (h : a = b) : Ending.returned (.tuple #[.int .i64 a, v]) = .returned (.tuple #[.int .i64 b, v]) := by rw [h]
theorem chosen_none {w : World} {p : Nat} (h : St w p []) :
    Calls Try.prog 38 #[Pt p] w fun e w' => e = .returned (.tuple #[.int .i64 0, .int .i64 (-4)]) ∧ w = w' := by
  have hd := h.depth
  clear h
  go_enter Try.func38, Try.ntmps38
  go_wp2
  go_ret2
  exact ⟨rfl, rfl⟩
theorem chosen_no {w : World} {p : Nat} {R : List Int} {u : Int} (h : St w p (R ++ [u])) (hu : ¬ (0 ≤ u ∧ u < (R.length : Int))) :
    Calls Try.prog 38 #[Pt p] w fun e w' => e = .returned (.tuple #[.int .i64 0, .int .i64 (-4)]) ∧ w = w' := by
  have hd := h.depth
  have hl := h.n
  have hc := h.cell R.length (by simp)
  have hI : I64 u := h.2 u (by simp)
  simp only [List.length_append, List.length_singleton] at hd hl
  rw [List.getElem_concat_length rfl] at hc
  obtain ⟨d, hdd⟩ : ∃ d, d = R.length := ⟨_, rfl⟩
  rw [← hdd] at hd hl hc hu
  obtain ⟨v, hv, hv2⟩ : ∃ v : Int, IntKind.u64.wrap u = v ∧ (d : Int) ≤ v := ⟨_, rfl, by unfold I64 at hI; simp only [IntKind.wrap, IntKind.bits, IntKind.signed]; simp; omega⟩
  have hdw : IntKind.u64.wrap (d : Int) = (d : Int) := by simp only [IntKind.wrap, IntKind.bits, IntKind.signed]; simp; omega
  rw [show ((d + 1 : Nat) : Int) = (d : Int) + 1 from rfl] at hd
  clear h hdd hI hu
  go_enter Try.func38, Try.ntmps38
  go_wp2
  go_ret2
  exact ⟨rfl, rfl⟩
theorem chosen_ok {w : World} {p : Nat} {A B : List Int} {x : Int} (h : St w p (A ++ x :: (B ++ [(B.length : Int)]))) :
    Calls Try.prog 38 #[Pt p] w fun e w' => e = .returned (.tuple #[.int .i64 (A.length : Int), .int .i64 0]) ∧ w = w' := by
  have hd := h.depth
  have hl := h.n
  have hc := h.cell (A.length + B.length + 1) (by simp; omega)
  have e1 : (A ++ x :: (B ++ [(B.length : Int)])).length = A.length + B.length + 2 := by simp; omega
  have e2 : (A ++ x :: (B ++ [(B.length : Int)]))[A.length + B.length + 1]'(by omega) = (B.length : Int) := by
    rw [List.getElem_append_right (by omega)]
    simp [show A.length + B.length + 1 - A.length = B.length + 1 by omega]
  rw [e1] at hd hl
  rw [e2] at hc
  obtain ⟨a, ha⟩ : ∃ a, a = A.length := ⟨_, rfl⟩
  obtain ⟨b, hb⟩ : ∃ b, b = B.length := ⟨_, rfl⟩
  rw [← ha, ← hb] at hd hl hc
  rw [← ha]
  have hw1 : IntKind.u64.wrap (b : Int) = (b : Int) := by simp only [IntKind.wrap, IntKind.bits, IntKind.signed]; simp; omega
  obtain ⟨m, hm⟩ : ∃ m, m = a + b + 1 := ⟨_, rfl⟩
  rw [← hm] at hc
  rw [show ((a + b + 2 : Nat) : Int) = (m : Int) + 1 by omega] at hd
  have hw2 : IntKind.u64.wrap (m : Int) = (m : Int) := by simp only [IntKind.wrap, IntKind.bits, IntKind.signed]; simp; omega
  have hm2 : ¬ m ≤ b := by omega
  have hm3 : (m : Int) < 128 := by omega
  have HM := Lib.hid hm
  clear h e1 e2 ha hb hl hm
  go_enter Try.func38, Try.ntmps38
  set_option maxRecDepth 10000 in go_wp2
  go_ret2
  exact ⟨ret_pair (by have := HM.out; omega), rfl⟩
theorem pick_none {w : World} {p : Nat} (hc : Calls Try.prog 38 #[Pt p] w fun e w' => e = .returned (.tuple #[.int .i64 0, .int .i64 (-4)]) ∧ w = w') :
    Calls Try.prog 32 #[Pt p] w fun e w' => e = .returned (.int .i64 (-4)) ∧ w = w' := by
  have hC := Lib.hid hc
  clear hc
  go_enter Try.func32, Try.ntmps32
  go_wp2_with ((with_reducible refine (hC.out).mono ?_); rintro e w' ⟨rfl, rfl⟩)
  go_ret
  exact ⟨rfl, rfl⟩
theorem roll_none {w : World} {p : Nat} (hc : Calls Try.prog 38 #[Pt p] w fun e w' => e = .returned (.tuple #[.int .i64 0, .int .i64 (-4)]) ∧ w = w') :
    Calls Try.prog 33 #[Pt p] w fun e w' => e = .returned (.int .i64 (-4)) ∧ w = w' := by
  have hC := Lib.hid hc
  clear hc
  go_enter Try.func33, Try.ntmps33
  go_wp2_with ((with_reducible refine (hC.out).mono ?_); rintro e w' ⟨rfl, rfl⟩)
  go_ret
  exact ⟨rfl, rfl⟩
theorem St.setTop {w : World} {p : Nat} {R : List Int} {u : Int} (h : St w p (R ++ [u])) (x : Int) (hx : I64 x) : St (w.setCell ⟨p, R.length, none⟩ (.int .i64 x)) p (R ++ [x]) := by
  obtain ⟨⟨C, hR, he⟩, hI⟩ := h
  have hn := hR.n
  have hl := hR.len
  simp only [List.length_append, List.length_singleton] at hn he hR
  refine ⟨⟨C.set R.length x, ?_, ?_⟩, all_app (fun y hy => hI y (by simp [hy])) (by simpa using hx)⟩
  · simp only [List.length_append, List.length_singleton]
    exact hR.put R.length (by omega) x
  · simp only [List.length_append, List.length_singleton]
    rw [List.take_set, he, List.set_append_right _ _ (Nat.le_refl _)]
    simp
set_option maxHeartbeats 1000000 in
set_option maxRecDepth 10000 in
theorem pick_ok {w : World} {p : Nat} {A B : List Int} {x : Int} (h : St w p (A ++ x :: (B ++ [(B.length : Int)]))) :
    Calls Try.prog 32 #[Pt p] w (Turns p w (.int .i64 0) (A ++ x :: (B ++ [x]))) := by
  have hC := Lib.hid (chosen_ok h)
  have hd := h.depth
  have hl := h.n
  have hc := h.cell A.length (by simp)
  rw [List.getElem_append_right (by omega)] at hc
  simp only [Nat.sub_self, List.getElem_cons_zero] at hc
  have e0 : A ++ x :: (B ++ [(B.length : Int)]) = (A ++ x :: B) ++ [(B.length : Int)] := by simp
  have e0' : A ++ x :: (B ++ [x]) = (A ++ x :: B) ++ [x] := by simp
  have hI : I64 x := h.2 x (by simp)
  have e1 : (A ++ x :: (B ++ [(B.length : Int)])).length = (A ++ x :: B).length + 1 := by simp <;> omega
  have h1 := h.far (Mod.refl [] w).drew
  rw [e0] at h1
  have hft := h.free (A ++ x :: B).length
  have hct := h.cell (A ++ x :: B).length (by omega)
  have HF := Lib.hid (And.intro (h1.setTop x hI) (((Mod.refl [p] w).drew.one (p := p) (by simp) (A ++ x :: B).length (.int .i64 x))))
  rw [e1] at hd hl
  rw [e0']
  have ham : A.length < (A ++ x :: B).length := by simp <;> omega
  obtain ⟨m, hm⟩ : ∃ m, m = (A ++ x :: B).length := ⟨_, rfl⟩
  generalize (A ++ x :: (B ++ [(B.length : Int)]))[(A ++ x :: B).length]'(by omega) = z at hct
  rw [← hm] at hd hl HF hft hct ham
  obtain ⟨a, ha⟩ : ∃ a, a = A.length := ⟨_, rfl⟩
  rw [← ha] at hC hc ham
  rw [show ((m + 1 : Nat) : Int) = (m : Int) + 1 from rfl] at hd
  have ha1 : (0 : Int) ≤ (a : Int) := by omega
  have ha2 : (a : Int) < 128 := by omega
  have hm1 : (0 : Int) ≤ (m : Int) := by omega
  have hm2 : (m : Int) < 128 := by omega
  have hm3 : IntKind.i64.wrap ((m : Int) + 1 - 1) = (m : Int) := by rw [show (m : Int) + 1 - 1 = (m : Int) by omega]; exact IntWalk.i64_in _ (by omega)
  clear h h1 e0 e0' e1 hI hm ha
  go_enter Try.func32, Try.ntmps32
  go_wp2_with ((with_reducible refine (hC.out).mono ?_); rintro e w' ⟨rfl, rfl⟩)
  go_region
  go_wp2
  go_ret
  exact ⟨rfl, HF.out⟩
theorem Raw.move {w : World} {p : Nat} {C : List Int} {d : Nat} (h : Raw w p C d) (a : Nat) (B : List Int) (hB : ∀ j (hj : j < B.length), C[a + 1 + j]? = some B[j]) (hb : a + 1 + B.length ≤ 128) (n cap : Nat) (hn : n = B.length) (ty : TypeId) :
    (Builtin.copy_ #[27, 27] ty #[.slice (some ⟨p, a, none⟩) (128 - a) (128 - a), .slice (some ⟨p, a + 1, none⟩) n cap]).run Try.prog w = .ok (goInt n) (w.setCells p a (cellsI B)) := by
  subst hn
  have hl := cellsI_len B
  have hlen := h.len
  have := run_copy_cells (P := Try.prog) w 27 27 ty 31 p a (128 - a) (128 - a) ⟨p, a + 1, none⟩ B.length cap (cellsI B) Try.underlying27 (by kernel_rfl) (by rw [hl]; exact (Nat.min_eq_left (by omega)).symm) (fun j v hv => by
      have hj : j < B.length := by
        have := (List.getElem?_eq_some_iff.1 hv).1
        rwa [hl] at this
      have hp : (⟨p, a + 1, none⟩ : Addr).add j = ⟨p, a + 1 + j, none⟩ := by unfold Addr.add; split <;> simp_all
      have hg := hB j hj
      rw [List.getElem?_eq_getElem (by omega)] at hg
      injection hg with hg
      rw [hp, h.c (a + 1 + j) (by omega), ← hv, cellsI_get B j hj, hg]) (fun j hj => by rw [h.c (a + j) (by omega)]; rfl) (fun j hj => h.f _) (one_cells B)
  rw [hl] at this
  exact this
set_option maxHeartbeats 2000000 in
set_option maxRecDepth 10000 in
theorem roll_ok {w : World} {p : Nat} {A B : List Int} {x : Int} (h : St w p (A ++ x :: (B ++ [(B.length : Int)]))) :
    Calls Try.prog 33 #[Pt p] w (Turns p w (.int .i64 0) (A ++ (B ++ [x]))) := by
  have hC := Lib.hid (chosen_ok h)
  obtain ⟨⟨C, hR, he⟩, hI⟩ := h
  have hlen := hR.len
  have hd := hR.dp
  have hl := hR.n
  have e1 : (A ++ x :: (B ++ [(B.length : Int)])).length = A.length + B.length + 2 := by simp; omega
  rw [e1] at hR hd hl he
  obtain ⟨m, hm⟩ : ∃ m, m = A.length + B.length + 1 := ⟨_, rfl⟩
  have hget : ∀ i, i ≤ m → C[i]? = (A ++ x :: (B ++ [(B.length : Int)]))[i]? := fun i hi => by
    rw [← he, List.getElem?_take, if_pos (by omega)]
  have hx : C[A.length]? = some x := by rw [hget _ (by omega)]; simp
  have hB : ∀ j (hj : j < B.length), C[A.length + 1 + j]? = some B[j] := fun j hj => by
    rw [hget _ (by omega), List.getElem?_append_right (by omega), show A.length + 1 + j - A.length = j + 1 by omega, List.getElem?_cons_succ, List.getElem?_append_left hj, List.getElem?_eq_getElem hj]
  have hA : C.take A.length = A := by
    have : (C.take (A.length + B.length + 2)).take A.length = A := by rw [he]; simp
    rwa [List.take_take, Nat.min_eq_left (by omega)] at this
  have hf := hR.f 128
  have R1 := hR.depth m (by omega)
  have M1 := (Mod.refl [p] w).one (p := p) (by simp) 128 (.int .i64 (m : Int))
  have hxc : (w.setCell ⟨p, 128, none⟩ (.int .i64 (m : Int))).cell? ⟨p, A.length, none⟩ = some (.int .i64 x) := by
    rw [R1.c A.length (by omega)]
    rw [List.getElem?_eq_getElem (by omega)] at hx
    injection hx with hx
    rw [hx]
  have R1d := R1.far (Mod.refl [] _).drew
  have hcp := R1d.move A.length B hB (by omega) (m - (A.length + 1)) (128 - (A.length + 1)) (by omega)
  have R2 := R1d.puts A.length B (by omega)
  have M2 := M1.drew.sets (x := p) (by simp) (cellsI B) A.length
  have hsl1 := slice128d p A.length (by omega)
  have hsl2 := slice128 p (A.length + 1) m (by omega) (by omega)
  rw [show pa A.length = A.length from if_neg (by omega)] at hsl1
  rw [show pa (A.length + 1) = A.length + 1 from if_neg (by omega), show ((A.length + 1 : Nat) : Int) = (A.length : Int) + 1 from rfl] at hsl2
  have hm1d : (w.setCell ⟨p, 128, none⟩ (.int .i64 (m : Int))).cell? ⟨p, 128, none⟩ = some (.int .i64 (m : Int)) := R1.dp
  have hIx : I64 x := hI x (by simp)
  have HI : ∀ y ∈ A ++ (B ++ [x]), I64 y := fun y hy => by
    rcases List.mem_append.1 hy with h | h
    · exact hI y (by simp [h])
    · rcases List.mem_append.1 h with h | h
      · exact hI y (by simp [h])
      · simp at h; subst h; exact hIx
  generalize hW1 : w.setCell ⟨p, 128, none⟩ (.int .i64 (m : Int)) = W1 at *
  generalize hW2 : W1.drew.setCells p A.length (cellsI B) = W2 at *
  have hm2d := R2.dp
  have R3 := (R2.far (Mod.refl [] _).drew).put (m - 1) (by omega) x
  have M3 := M2.drew.one (p := p) (by simp) (m - 1) (.int .i64 x)
  have e3 : (lay C A.length B).set (m - 1) x = lay C A.length (B ++ [x]) := by
    rw [show m - 1 = A.length + B.length by omega]
    exact lay_snoc (by omega)
  rw [e3] at R3
  have hfin : St (W2.drew.setCell ⟨p, m - 1, none⟩ (.int .i64 x)) p (A ++ (B ++ [x])) := by
    refine ⟨⟨lay C A.length (B ++ [x]), ?_, ?_⟩, HI⟩
    · rw [show (A ++ (B ++ [x])).length = m by simp <;> omega]
      exact R3
    · rw [List.length_append]
      exact lay_take hA (by simp; omega)
  have HF := Lib.hid (And.intro hfin M3)
  have hz := R2.c (m - 1) (by rw [lay_len (by omega)]; omega)
  have hzf := R2.f (m - 1)
  generalize (lay C A.length B)[m - 1]'(by rw [lay_len (by omega)]; omega) = z at hz
  obtain ⟨k, hk⟩ : ∃ k, k = m - 1 := ⟨_, rfl⟩
  rw [← hk] at HF hz hzf
  have hmk : IntKind.i64.wrap ((m : Int) - 1) = (k : Int) := by rw [show (m : Int) - 1 = (k : Int) by omega]; exact IntWalk.i64_in _ (by omega)
  obtain ⟨a, ha⟩ : ∃ a, a = A.length := ⟨_, rfl⟩
  have h1 : (0 : Int) ≤ (a : Int) := by omega
  have h2 : (a : Int) < 128 := by omega
  have h3 : (0 : Int) ≤ (k : Int) := by omega
  have h4 : (k : Int) < 128 := by omega
  have h5 : (m : Int) ≤ 128 := by omega
  have h6 : IntKind.i64.wrap ((a : Int) + 1) = (a : Int) + 1 := IntWalk.i64_in _ (by omega)
  rw [show ((A.length + B.length + 2 : Nat) : Int) = (m : Int) + 1 by omega] at hd
  rw [← ha] at hC hxc hcp hsl1 hsl2
  generalize 128 - (a + 1) = c1 at hcp hsl2
  generalize m - (a + 1) = nb at hcp hsl2
  have HW1 := Lib.hid hW1
  clear hR he hI e1 hl hm hget hx hB hA R1 M1 R1d R2 M2 hIx HI R3 M3 e3 hfin hk ha hW1 hW2 hlen
  go_enter Try.func33, Try.ntmps33
  go_wp2_with fail
  refine (hC.out).mono ?_
  rintro e w' ⟨rfl, rfl⟩
  go_upto_region 5 with fail
  rw [HW1.out]
  go_wp2_with fail
  go_region
  go_wp2_with fail
  go_region
  go_wp2
  go_ret
  exact ⟨rfl, HF.out⟩
end Go.Proofs.Ytjmbmhjhnoiclaa
