/- Layer 9: what DictNames needs: rows of texts appended to, words of one list, the last word of a name. No condition. -/
import Derived.Test.YtldnpppbnakcoaaD9Z
namespace Go.Proofs.Ytldnpppbnakcoaa
open Go.RowKit
set_option linter.unusedVariables false

theorem Sr.base {w : World} {b b' : Nat} {v : Value} {X : List ByteArray} (h : Sr w b v X) (hb : b' ≤ b) : Sr w b' v X :=
  ⟨h.1, h.2.elim Or.inl fun ⟨g, cap, cur, h1, h2, h3⟩ => Or.inr ⟨g, cap, cur, h1, Nat.le_trans hb h2, h3⟩⟩
theorem Sr.own {w : World} {b : Nat} {v : Value} {X : List ByteArray} (h : Sr w b v X) : ∀ g, v.ownBlock = some g → b ≤ g ∧ g < w.heap.size := fun g hg => World.ownsRow.lt h g hg
theorem Sr.lit (w : World) (base : Nat) (hb : base ≤ w.heap.size) (c : ByteArray) : Sr (w.alloc (.cells #[.string c] 9)) base (.slice (some ⟨w.heap.size, 0, none⟩) 1 1) [c] := by
  have := World.ownsRow_lit (base := base) (e := 9) (size := 1) w #[.string c] 1 hb (by decide) rfl
  exact this
theorem Sr.appN {w : World} {base : Nat} {v : Value} {X : List ByteArray} (h : Sr w base v X) (hb : base ≤ w.heap.size) {A : Option Addr} {n cap : Nat} {Y : List ByteArray} (hY : TxAt w A Y) (hn : n = Y.length) (hA : A = none → cap = 0) (hl : X.length + Y.length ≤ 1000000000) (ty : TypeId) :
    ∃ v' w', (Builtin.append_ #[43, 43] ty #[v, .slice A n cap]).run Try.prog w = .ok v' w' ∧ Sr w' base v' (X ++ Y) ∧ Below base w w' := by
  subst hn
  obtain ⟨i, hi, hz0, hz1, hz2⟩ := info_parts Try.infoStr
  have hm : maxLen = 9223372036854775807 := rfl
  cases A with
  | none =>
    have hY0 : Y = [] := List.eq_nil_of_length_eq_zero (by
      refine Nat.eq_zero_of_not_pos fun hp => ?_
      obtain ⟨_, _, e, _⟩ := hY 0 hp
      cases e)
    subst hY0
    have hcap := hA rfl
    subst hcap
    exact ⟨_, _, run_append_owned_none (P := Try.prog) (w := w) base 43 ty 9 i 1 Try.underlying43 hi _ _ _ h, by rw [List.append_nil]; exact h, Below.refl _ _⟩
  | some a =>
    obtain ⟨v', w', h1, h2, h3, h4⟩ := run_append_own (P := Try.prog) w base 43 ty 9 i (.string ⟨#[]⟩) 1 16 Try.underlying43 hi hz0 hz1 hz2 rfl (by decide) _ _ _ h a Y.length cap (strV Y) (by simp [strV])
      (fun j u hj => by
        have hj' : j < Y.length := by
          have := (List.getElem?_eq_some_iff.1 hj).1
          simpa [strV] using this
        obtain ⟨b, o, e, hc⟩ := hY j hj'
        injection e with e
        subst e
        rw [WideShapes.add_plain, hc, ← hj]
        simp [strV, hj']) (fun u hu => by obtain ⟨x, _, rfl⟩ := List.mem_map.1 hu; rfl) (by omega) (by omega) hb
    refine ⟨v', w', h1, ?_, ?_⟩
    · unfold Sr
      have e : (X ++ Y).length = X.length + Y.length := by simp
      have e2 : strV (X ++ Y) = strV X ++ strV Y := by simp [strV]
      rw [e, e2]
      exact h2
    · exact ⟨h3.os, h3.tape, h3.output, h3.size, fun k hk => h3.block k (Nat.lt_of_lt_of_le hk hb) fun e => by
        rcases h.2 with ⟨rfl, _⟩ | ⟨g, cap, cur, rfl, h2, _⟩
        · cases e
        · have e2 : k = g := by injection e
          omega⟩
theorem wpList_appTN {w : World} {ops : Array Oper} {rest : List Oper} {o : Oper} {a : Act} {Q : Exit → Act → World → Prop} (hgd : o.guard = none) (s x : Operand)
    (ho : o.op = .call { callee := .builtin .append, args := #[s, x], argTypes := #[43, 43] })
    {base : Nat} {v : Value} {X : List ByteArray} (h : Sr w base v X) (hb : base ≤ w.heap.size) {A : Option Addr} {n cap : Nat} {Y : List ByteArray} (hY : TxAt w A Y) (hn : n = Y.length) (hA : A = none → cap = 0) (hl : X.length + Y.length ≤ 1000000000)
    (v1 : a.eval s = v) (v2 : a.eval x = .slice A n cap)
    (hK : ∀ v' w', Sr w' base v' (X ++ Y) → Below base w w' → wpList Try.prog ops Q rest (a.put o.dst v') w') : wpList Try.prog ops Q (o :: rest) a w := by
  obtain ⟨v', w', hr, h2, h3⟩ := h.appN hb hY hn hA hl o.type
  refine wpList_plain hgd fun K hk => ?_
  unfold Oper.wp execOp
  simp only [ho, resolve, invoke, builtin, Sem.run_bind, Sem.run_pure, Result.andThen_ok, List.map_toArray, List.map_cons, List.map_nil, v1, v2, hr]
  exact hk _ _ (hK v' w' h2 h3)
/-- Words of list 1, numbered from 0 on. -/
def mkW (X : List (List UInt8)) : List We := X.zipIdx.map fun p => ⟨p.1, (p.2 : Int), false, 1⟩
theorem mkW_len (X : List (List UInt8)) : (mkW X).length = X.length := by simp [mkW]
theorem mkW_get (X : List (List UInt8)) (i : Nat) (h : i < (mkW X).length) : (mkW X)[i] = ⟨X[i]'(by rw [mkW_len] at h; exact h), (i : Int), false, 1⟩ := by simp [mkW]
theorem mkW_add (X : List (List UInt8)) (x : List UInt8) : mkW (X ++ [x]) = mkW X ++ [⟨x, (X.length : Int), false, 1⟩] := by simp [mkW, List.zipIdx_append]
def dictX (X : List (List UInt8)) : Di := ⟨mkW X, 1, [1], 1⟩
theorem dictX_add (X : List (List UInt8)) (x : List UInt8) (h1 : 1 ≤ x.length) (h2 : x.length ≤ 31) (h3 : X.length < 2000) : addR (dictX X) x (X.length : Int) = (0, dictX (X ++ [x])) := by
  unfold addR dictX
  rw [if_neg (by omega), if_neg (by omega), if_neg (by show ¬ 2000 ≤ (mkW X).length; rw [mkW_len]; omega), mkW_add]
theorem mkW_l (X : List (List UInt8)) : ∀ a ∈ mkW X, a.l = 1 := fun a ha => by
  obtain ⟨p, _, rfl⟩ := List.mem_map.1 ha
  rfl
theorem names_mk (X : List (List UInt8)) : namesW (mkW X) 1 = X.reverse.map str := by
  unfold namesW
  rw [List.filter_eq_self.2 fun a ha => by simp [mkW_l X a (by simpa using ha)]]
  rw [List.map_reverse, List.map_reverse]
  congr 1
  apply List.ext_getElem
  · simp [mkW_len]
  · intro i h1 h2
    simp [mkW]
theorem names_mk_no (X : List (List UInt8)) (l : Int) (hl : l ≠ 1) : namesW (mkW X) l = [] := by
  unfold namesW
  rw [List.filter_eq_nil_iff.2 fun a ha => by simp [mkW_l X a (by simpa using ha)]; omega]
  rfl
/-- The last word of a name, which a word has. -/
theorem inW_last (W : List We) (l : Int) (n : List UInt8) (k : Nat) (hk : k < W.length) (h : isW l n W[k] = true) : ∃ j, k ≤ j ∧ ∃ hj : j < W.length, inW W l n = some W[j] ∧ isW l n W[j] = true := by
  by_cases hx : ∃ t, k < t ∧ ∃ ht : t < W.length, isW l n W[t] = true
  · obtain ⟨t, hkt, ht, hw⟩ := hx
    obtain ⟨j, h1, h2, h3⟩ := inW_last W l n t ht hw
    exact ⟨j, by omega, h2, h3⟩
  · exact ⟨k, Nat.le_refl _, hk, inW_at W l n k hk h fun j hj hkj => by
      cases hw : isW l n W[j] with
      | false => rfl
      | true => exact absurd ⟨j, hkj, hj, hw⟩ hx, h⟩
termination_by W.length - k
theorem find_mk (X : List (List UInt8)) (k : Nat) (hk : k < X.length) : ∃ j, k ≤ j ∧ ∃ hj : j < X.length, findW (mkW X) [1] X[k] = some ⟨X[j], (j : Int), false, 1⟩ ∧ X[j].length = X[k].length := by
  have hk2 : k < (mkW X).length := by rw [mkW_len]; exact hk
  obtain ⟨j, h1, hj, h2, h3⟩ := inW_last (mkW X) 1 X[k] k hk2 (by rw [mkW_get]; simp [isW])
  have hj2 : j < X.length := by rw [mkW_len] at hj; exact hj
  refine ⟨j, h1, hj2, ?_, ?_⟩
  · unfold findW
    rw [List.findSome?_cons, h2, mkW_get]
  · rw [mkW_get] at h3
    have h4 : foldL X[j] = foldL X[k] := by simpa [isW] using h3
    have := congrArg List.length h4
    rwa [foldL_len, foldL_len] at this
theorem find_mk_none (X : List (List UInt8)) (h : ∀ n ∈ X, 1 ≤ n.length) : findW (mkW X) [1] [] = none := by
  refine findW_none fun j hj => inW_none fun a ha => ?_
  obtain ⟨i, hi, rfl⟩ := List.getElem_of_mem ha
  have hi2 : i < X.length := by rw [mkW_len] at hi; exact hi
  rw [mkW_get]
  have h1 := h _ (List.getElem_mem hi2)
  have : foldL X[i] ≠ foldL [] := fun e => by
    have := congrArg List.length e
    rw [foldL_len, foldL_len] at this
    simp at this
    rw [this] at h1
    simp at h1
  simp [isW, this]
end Go.Proofs.Ytldnpppbnakcoaa
