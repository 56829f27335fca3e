/- Layer 9 (package rhytonref09): the document's Back. Condition: the block is such a dictionary (Rd9). -/
import Derived.Test.YtldnpppbnakcoaaD9F
namespace Go.Proofs.Ytldnpppbnakcoaa
open Go.RowKit
set_option linter.unusedVariables false

/-- Is l one of k lists? -/
def inK (k : Int) (l : Int) : Bool := decide (1 ≤ l ∧ l ≤ k)
theorem inK_known (D : Di) (l : Int) : D.known l = inK (D.k : Int) l := rfl
/-- May the dictionary stand so again? -/
def Di.mayBack (D : Di) (a b : Int) : Bool := decide (0 ≤ a ∧ 1 ≤ b ∧ a ≤ (D.W.length : Int) ∧ b ≤ (D.k : Int)) && (D.W.take a.toNat).all fun x => decide (x.l ≤ b)
/-- What Back answers and leaves. -/
def backR (D : Di) (a b : Int) : Int × Di := if D.mayBack a b = true then (0, ⟨D.W.take a.toNat, b.toNat, D.O.filter (inK b), if inK b D.c = true then D.c else 1⟩) else (1, D)
theorem mayBack_bad {D : Di} {a b : Int} (h : ¬ (0 ≤ a ∧ 1 ≤ b ∧ a ≤ (D.W.length : Int) ∧ b ≤ (D.k : Int))) : backR D a b = (1, D) := by
  unfold backR Di.mayBack
  rw [decide_eq_false h]
  rfl
theorem mayBack_word {D : Di} {a b : Int} (i : Nat) (hi : i < D.W.length) (h1 : (i : Int) < a) (h2 : b < D.W[i].l) : backR D a b = (1, D) := by
  have e : (D.W.take a.toNat).all (fun x => decide (x.l ≤ b)) = false := by
    rw [List.all_eq_false]
    exact ⟨D.W[i], List.mem_take_iff_getElem.2 ⟨i, by omega, rfl⟩, by simp; omega⟩
  unfold backR Di.mayBack
  rw [e, Bool.and_false]
  rfl
theorem mayBack_ok {D : Di} {a b : Int} (h : 0 ≤ a ∧ 1 ≤ b ∧ a ≤ (D.W.length : Int) ∧ b ≤ (D.k : Int)) (h2 : ∀ i (hi : i < D.W.length), (i : Int) < a → D.W[i].l ≤ b) : backR D a b = (0, ⟨D.W.take a.toNat, b.toNat, D.O.filter (inK b), if inK b D.c = true then D.c else 1⟩) := by
  have e : (D.W.take a.toNat).all (fun x => decide (x.l ≤ b)) = true := by
    rw [List.all_eq_true]
    intro x hx
    obtain ⟨i, hi, rfl⟩ := List.mem_take_iff_getElem.1 hx
    exact decide_eq_true (h2 i (by omega) (by omega))
  unfold backR
  rw [if_pos (by unfold Di.mayBack; rw [decide_eq_true h, e]; rfl)]
theorem size_one9 (W : World) : (Go.sizeOf 76).run Try.prog W = .ok 4 W := by kernel_rfl
theorem addr_zero9 (x : Addr) : x.add 0 = x := by unfold Addr.add; simp
theorem words_upto (A : Option Addr) (len cap k : Nat) (hk : k ≤ cap) (W : World) :
    (Instr.sliceAt 36 (.slice A len cap) none (some (.int .i64 (k : Int))) none).run Try.prog W = .ok (.slice A k cap) W := by
  have ht := Try.underlying36
  have he : Try.prog.elem 36 = 76 := by simp [Program.elem, ht]
  have ht' : Try.prog.underlying 36 = some (.slice (Try.prog.elem 36)) := by rw [he]; exact ht
  rw [run_sliceAt_slice W 36 _ _ _ _ ht', run_slice_h W 36 A len cap ht' .i64 k (by omega) (by omega), he, size_one9]
  show Result.ok (sliced A 0 (k : Int).toNat cap 4) W = _
  unfold sliced
  have e1 : (if cap = 0 then A else A.map fun x => x.add (0 * 4)) = A := by
    split
    · rfl
    · cases A with
      | none => rfl
      | some x => show some (x.add (0 * 4)) = _; rw [Nat.zero_mul, addr_zero9]
  rw [e1, Int.toNat_natCast, Nat.sub_zero, Nat.sub_zero]
theorem rowD_cut {w : World} {e : TypeId} {k n cap : Nat} {A : Option Addr} {xs : List Value} (h : w.ownsRow 0 e k (.slice A n cap) n xs) (m : Nat) (hm : m ≤ n) : w.ownsRow 0 e k (.slice A m cap) m (xs.take (m * k)) := by
  have hle : m * k ≤ n * k := Nat.mul_le_mul_right k hm
  refine ⟨by rw [List.length_take, h.1]; exact Nat.min_eq_left hle, ?_⟩
  rcases h.2 with ⟨e, h0⟩ | ⟨g', cap', cur, e, hb, hg, h1, h2, h3, h4⟩
  · injection e with e1 e2 e3
    subst e1 e3
    have : m = 0 := by omega
    subst this
    exact Or.inl ⟨rfl, rfl⟩
  · injection e with e1 e2 e3
    subst e1 e3
    refine Or.inr ⟨g', _, cur, rfl, hb, hg, by omega, h2, h3, ?_⟩
    rw [← h4, List.take_take, Nat.min_eq_left hle]
/-- The words but the first m are gone. -/
theorem RdV.cutW {w W : World} {q n cap m : Nat} {A : Option Addr} {u : Value} {D : Di} (h : RdV w q (.slice A n cap) u D) (hn : n = D.W.length) (hm : m ≤ n) (hM : Mod [] w W) :
    RdV (W.setCell ⟨q, 0, none⟩ (.slice A m cap)) q (.slice A m cap) u { D with W := D.W.take m } ∧ TurnD (blocksD q (.slice A n cap) u) (blocksD q (.slice A m cap) u) w (W.setCell ⟨q, 0, none⟩ (.slice A m cap)) := by
  have h2 := h.mod hM (by simp)
  have hm5 : Mod [q] W (W.setCell ⟨q, 0, none⟩ (.slice A m cap)) := (Mod.refl [q] W).set (x := ⟨q, 0, none⟩) (Or.inl (by simp)) _
  have o : ∀ i, i ≠ 0 → (W.setCell ⟨q, 0, none⟩ (.slice A m cap)).cell? ⟨q, i, none⟩ = W.cell? ⟨q, i, none⟩ := fun i hi => by rw [World.cell?_setCell_other (h := by intro e; injection e with _ e; exact hi e.symm)]
  have hb : (Value.slice A m cap).ownBlock = (Value.slice A n cap).ownBlock := by cases A <;> rfl
  have hl : (D.W.take m).length = m := by rw [List.length_take]; omega
  have hr := h2.rv
  rw [← hn] at hr
  have hr := rowD_cut hr m hm
  rw [flatsW_take] at hr
  refine ⟨⟨World.cell?_setCell_same _ _ _ (h := h2.c0), (o 1 (by omega)).trans h2.c1, (o 2 (by omega)).trans h2.c2, (o 3 (by omega)).trans h2.c3, fun i => (World.frozen?_setCell _ _ _ _).trans (h2.f i), Nat.lt_of_lt_of_le h2.lp hm5.size, ?_, rowD_mod h2.ru hm5 fun g hg hp => h.su (by rw [hg]; simpa using hp), by rw [hb]; exact h.sv, h.su, by rw [hb]; exact h.suv, fun a ha => h.names a (List.mem_of_mem_take ha), by show (D.W.take m).length ≤ 2000; have := h.dw; omega, h.do_, h.dk⟩, ?_⟩
  · show World.ownsRow _ 0 _ 4 _ (D.W.take m).length (flatsW (D.W.take m))
    rw [hl]
    exact rowD_mod hr hm5 fun g hg hp => h.sv (by rw [← hb, hg]; simpa using hp)
  · unfold blocksD
    rw [hb]
    exact TurnD.of ((hM.up (by simp)).trans (hm5.up (by simp)))
theorem wpList_appI9 {w : World} {ops : Array Oper} {rest : List Oper} {o : Oper} {a : Act} {Q : Exit → Act → World → Prop} (hgd : o.guard = none) (s x : Operand)
    (ho : o.op = .call { callee := .builtin .append, args := #[s, x], argTypes := #[29, 29] })
    {base : Nat} {v : Value} {X : List Int} (h : w.ownsRow base 3 1 v X.length (intsV X)) (hb : base ≤ w.heap.size) (hl : X.length ≤ 1000000000) (b : Addr) (cp : Nat) (c : Int) (hc : w.cell? (b.add 0) = some (.int .i64 c))
    (v1 : a.eval s = v) (v2 : a.eval x = .slice (some b) 1 cp)
    (hK : ∀ v' w', w'.ownsRow base 3 1 v' (X ++ [c]).length (intsV (X ++ [c])) → Below base w w' → wpList Try.prog ops Q rest (a.put o.dst v') w') : wpList Try.prog ops Q (o :: rest) a w := by
  obtain ⟨i, hi, hz0, hz1, hz2⟩ := info_parts infoInt9
  have hm : maxLen = 9223372036854775807 := rfl
  obtain ⟨v', w', hr, h2, h3, _⟩ := run_append_own (P := Try.prog) w base 29 o.type 3 i (.int .i64 0) 1 8 Try.underlying29 hi hz0 hz1 hz2 rfl (by decide) _ _ _ h b 1 cp (intsV [c]) (by simp [intsV])
    (fun j u hj => by
      have hj' := (List.getElem?_eq_some_iff.1 hj).1
      have : j = 0 := by simpa [intsV] using hj'
      subst this
      rw [hc, ← hj]; simp [intsV]) (fun u hu => by obtain ⟨x, _, rfl⟩ := List.mem_map.1 hu; rfl) (by omega) (by omega) hb
  refine wpList_plain hgd fun K hk => ?_
  unfold Oper.wp execOp
  simp only [ho, resolve, invoke, builtin, Sem.run_bind, Sem.run_pure, Result.andThen_ok, List.map_toArray, List.map_cons, List.map_nil, v1, v2, hr]
  refine hk _ _ (hK v' w' ?_ ?_)
  · have e : (X ++ [c]).length = X.length + 1 := by simp
    have e2 : intsV (X ++ [c]) = intsV X ++ intsV [c] := by simp [intsV]
    rw [e, e2]
    exact h2
  · exact ⟨h3.os, h3.tape, h3.output, h3.size, fun k hk => h3.block k (Nat.lt_of_lt_of_le hk hb) fun e => by
      rcases h.2 with ⟨rfl, _⟩ | ⟨g, cap, cur, rfl, h2, _⟩
      · cases e
      · have e2 : k = g := by injection e
        omega⟩
end Go.Proofs.Ytldnpppbnakcoaa
