/- Layer 13: two states, apart; what is done does not hang on what is below. Condition: the states are such. -/
import Derived.Test.YtegcecpmdgljpaaGreatDoorVC
namespace Go.Proofs.YtegcecpmdgljpaaGreatDoor
open Go.RowKit
set_option linter.unusedVariables false

/-- The call has turned the state so. -/
def SDid (a : Ad) (T : List Nat) (w : World) (v : Value) (C : List Int) (μ : Mu) (e : Ending) (w' : World) : Prop := e = .returned v ∧ ∃ T', Tn T T' w w' ∧ Stt w' a T' C μ
section
variable {w : World} {a : Ad} {T : List Nat} {C : List Int} {μ : Mu}
theorem Stt.put (h : Stt w a T C μ) {A : Option Addr} {n : Nat} (cap : Nat) {X : List Int} (hs : Sl w A X) (hn : n = X.length) (hI : ∀ x ∈ X, I64 x) (hm : n ≤ 9223372036854775807) :
    Calls Tryz.prog 13 #[Pt a.p, .slice A n cap] w (SDid a T w (.int .i64 (putL X C).1) (putL X C).2 μ) :=
  (put_calls h.st cap hs hn hI hm).mono fun e w' ⟨e1, s, k⟩ => ⟨e1, T, .of_mod k (by simp; exact h.ts.2.1), h.stack k s⟩
end
/-- Two states, apart, new since w0. -/
def Lv2 (w0 w : World) (a : Ad) (C : List Int) (μ : Mu) (b : Ad) (D : List Int) (ν : Mu) : Prop := ∃ T U, Stt w a T C μ ∧ Stt w b U D ν ∧ Mod [] w0 w ∧ (∀ x ∈ T, w0.heap.size ≤ x) ∧ (∀ x ∈ U, w0.heap.size ≤ x) ∧ (∀ x ∈ T, x ∉ U) ∧ (∀ x ∈ T, x < b.lo ∨ b.hi ≤ x) ∧ (∀ x ∈ U, x < a.lo ∨ a.hi ≤ x)
section
variable {w0 w w' : World} {a b : Ad} {C D : List Int} {μ ν : Mu}
theorem Lv2.swap (h : Lv2 w0 w a C μ b D ν) : Lv2 w0 w b D ν a C μ := by
  obtain ⟨T, U, h1, h2, m, hT, hU, hd, k1, k2⟩ := h
  exact ⟨U, T, h2, h1, m, hU, hT, fun x hx hy => hd x hy hx, k2, k1⟩
theorem Lv2.mod (h : Lv2 w0 w a C μ b D ν) : Mod [] w0 w := by obtain ⟨_, _, _, _, m, _⟩ := h; exact m
theorem Lv2.stepA {T T' U : List Nat} {C' : List Int} {μ' : Mu} (h : Stt w a T C μ) (h2 : Stt w b U D ν) (m : Mod [] w0 w) (hT : ∀ x ∈ T, w0.heap.size ≤ x) (hU : ∀ x ∈ U, w0.heap.size ≤ x) (hd : ∀ x ∈ T, x ∉ U) (k1 : ∀ x ∈ T, x < b.lo ∨ b.hi ≤ x) (k2 : ∀ x ∈ U, x < a.lo ∨ a.hi ≤ x)
    (tn : Tn T T' w w') (h' : Stt w' a T' C' μ') : Lv2 w0 w' a C' μ' b D ν := by
  refine ⟨T', U, h', h2.other tn.m hd k1 h.gt, m.then tn.m (fun x hx => Or.inr (hT x hx)), fun x hx => (tn.new x hx).elim (hT x) fun k => Nat.le_trans m.size k, hU, fun x hx hy => ?_, fun x hx => ?_, k2⟩
  · rcases tn.new x hx with e | e
    · exact hd x e hy
    · have := h2.tl x hy; omega
  · rcases tn.new x hx with e | e
    · exact k1 x e
    · exact Or.inr (Nat.le_trans h2.hi e)
theorem Lv2.far (h : Lv2 w0 w a C μ b D ν) (k : Mod [] w w') : Lv2 w0 w' a C μ b D ν := by
  obtain ⟨T, U, h1, h2, m, hT, hU, hd, k1, k2⟩ := h
  exact .stepA h1 h2 m hT hU hd k1 k2 (Tn.far k) (h1.far k)
theorem Lv2.one (h : Lv2 w0 w a C μ b D ν) : Lv w0 w a [] C μ := by
  obtain ⟨T, U, h1, h2, m, hT, _⟩ := h
  exact ⟨T, h1, m, hT, by simp⟩
end
end Go.Proofs.YtegcecpmdgljpaaGreatDoor
