/- Layer 15: steps, told one by one: what each instruction and word leads to. Plain. No condition. Layer 15: EngineDeep, plain: calls one within the other; the example. Plain. No condition. Layer 15: definitions that may be, told by how many loops are open. Plain. No condition. -/
import Derived.Test.YtifnkmddinoneaaGreatDoorChecked
import Derived.WalkKit
import Derived.WalkLawsBesides
import Derived.WalkSpells
import Derived.Lib.Hide
import Derived.Laws.OwnMore
import Derived.Laws.IdiomCopy
import Derived.Deep.RegionLaw
import Ieee.Arith
import Derived.Laws.FloatBits
import Derived.Laws.Cover2
import Derived.Laws.FloatArith
import Derived.Laws.Externs
import Derived.Laws.BitsAllLaws
import Derived.Shelf.Strings.Builder1
import Derived.Shelf.Strings.Builder2
import Derived.Shelf.Small.Bits
import Derived.Shelf.Strings.BuilderF
import Derived.Shelf.Strconv.Itoa0
import Derived.Shelf.Strconv.Itoa1
import Derived.Shelf.LaysM
import Derived.Shelf.Strconv.Itoa2
import Derived.Shelf.Strconv.Itoa3
import Derived.Shelf.Strings.Prefix
import Derived.Shelf.Bits.Mul64
import Derived.Shelf.Strings.Repeat
import Derived.Test.YtifnkmddinoneaaGreatDoorProg
import Derived.Shelf.Spec.TrailingZeros
import Derived.Lib.AppendIntMem
import Derived.Maps.RangeRun
import Derived.Carry
import Derived.Laws.EntriesVeiled
import Derived.Deep.Cut
import Derived.Deep.DeepCutAuto
import Derived.Deep.QuietTactic
import Derived.BigQuiet
import Derived.Deep.RegionHeld3
import Derived.Lib.SliceRun
import Derived.Lib.OthersKept
import Derived.Laws.IdiomStrings
import Derived.Lib.LazyBuf
import Derived.Laws.BytesArg
import Derived.Lib.AppendStr
import Derived.Maps.AppendAt
import Derived.Test.YtifnkmddinoneaaGreatDoorCBAQ
import Derived.Test.YtifnkmddinoneaaGreatDoorCBAN
import Derived.Test.YtifnkmddinoneaaGreatDoorCBAJ
import Derived.Test.YtifnkmddinoneaaGreatDoorCBAH
import Derived.Test.YtifnkmddinoneaaGreatDoorCBAC
import Derived.Test.YtifnkmddinoneaaGreatDoorCBAA
import Derived.Test.YtifnkmddinoneaaGreatDoorCBAB
import Derived.Test.YtifnkmddinoneaaGreatDoorCBAI
import Derived.Test.YtifnkmddinoneaaGreatDoorCBAL
import Derived.Test.YtifnkmddinoneaaGreatDoorCBAK
import Derived.Test.YtifnkmddinoneaaGreatDoorCBAM
import Derived.Test.YtifnkmddinoneaaGreatDoorCBAP
import Derived.Test.YtifnkmddinoneaaGreatDoorCBAO
import Derived.Laws.MakeOwn
import Derived.Deep.LoopGhost
import Derived.Deep.CutRange
import Derived.Test.YtifnkmddinoneaaGreatDoorCBAE
import Derived.Test.YtifnkmddinoneaaGreatDoorCBAD
import Derived.Test.YtifnkmddinoneaaGreatDoorCBBQ
set_option maxRecDepth 100000
namespace Go.Proofs.YtifnkmddinoneaaGreatDoor
open Go.RowKit
set_option linter.unusedVariables false
section
variable {W : List Wd} {D : List (List L10.Xi)} {F : List L14.Fm} {d i nx : Int} {C : List Int} {μ : Mu} {I : List L8.Sc} {M : Nat}
theorem nxt_call {a w : Int} {s : Sv} {E' : Es} (h : InsD D d i ⟨2, a, w⟩) (hF : NoW F) (hx : Xec a ⟨W, D, F, d, i + 1, 0, C, μ, I, M⟩ s E') : Nxt ⟨W, D, F, d, i, 0, C, μ, I, M⟩ s E' := by
  have hd : d ≠ 0 := by have := h.1; omega
  obtain ⟨r0, h1, h2⟩ := hx
  have e1 : primE ⟨W, D, F, d, i, 0, C, μ, I, M⟩ = primW a ⟨W, D, F, d, i + 1, 0, C, μ, I, M⟩ := by
    unfold primE
    rw [if_neg (by simp), if_neg (by dsimp only; have := hF; unfold NoW at this; omega), if_pos hd, h.at]
    rfl
  refine ⟨r0, fun n hn => h1 n (by rw [← e1]; exact hn), fun r hr => ?_⟩
  unfold stepE
  rw [if_neg (by simp), if_neg (by dsimp only; have := hF; unfold NoW at this; omega), if_pos hd, h.at]
  dsimp only
  unfold instructE
  rw [if_pos rfl]
  exact h2 r fun hne => hr (by rw [e1]; exact hne)
theorem nxt_wait {q : L14.Fm} (hk : q.k = 6 ∨ q.k = 7) : Nxt ⟨W, D, F ++ [q], d, i, 0, C, μ, I, M⟩ (3, q.k, 0) ⟨W, D, F ++ [q], d, i, 0, C, μ, I, M⟩ := by
  have hF := topKind_app F q
  refine ⟨(0, [], μ), fun n hn => ?_, fun r _ => ?_⟩
  · unfold primE at hn
    rw [if_neg (by simp), if_pos (by dsimp only; rw [hF]; exact hk)] at hn
    cases hn
  · unfold stepE
    rw [if_neg (by simp), if_pos (by dsimp only; rw [hF]; exact hk)]
    dsimp only
    rw [hF]
theorem popL_not {q : L14.Fm} (h : q.k ≠ 4) : L14.popL 4 (F ++ [q]) = F ++ [q] := by simp [L14.popL, L14.topK, h]
end
section
variable {W : List Wd} {D : List (List L10.Xi)} {F : List L14.Fm} {d i nx : Int} {C : List Int} {μ : Mu} {I : List L8.Sc} {M : Nat}
theorem xec_prim {n m u : Int} {C' : List Int} (h : WdN W n ⟨1, m, u⟩) (ho : OpS m C C') : Xec n ⟨W, D, F, d, i, nx, C, μ, I, M⟩ ranS ⟨W, D, F, d, i, nx, C', μ, I, M⟩ := by
  have e1 : primW n ⟨W, D, F, d, i, nx, C, μ, I, M⟩ = some m := by rw [primW_of h]; rfl
  refine ⟨(0, C', μ), fun m' hm => ⟨C', ?_, rfl⟩, fun r hr => ?_⟩
  · rw [e1] at hm; injection hm with hm; subst hm; exact ho
  · have hr := hr (by rw [e1]; simp)
    subst hr
    unfold execE
    rw [h.at]
    dsimp only
    rw [if_pos rfl]
    exact after_ok
theorem xec_ctl {n m u : Int} {s : Sv} {E' : Es} (h : WdN W n ⟨2, m, u⟩) (he : after (ctlE m ⟨W, D, F, d, i, nx, C, μ, I, M⟩) = (s, E')) : Xec n ⟨W, D, F, d, i, nx, C, μ, I, M⟩ s E' := by
  refine xec_not h (by simp) fun r => ?_
  unfold execE
  rw [h.at]
  dsimp only
  rw [if_neg (by decide), if_pos rfl]
  exact he
theorem xec_deep {n k u : Int} {l : List L10.Xi} {s : Sv} {E' : Es} (h : WdN W n ⟨5, k, u⟩) (h1 : 1 ≤ k) (hl : D[(k - 1).toNat]? = some l) (hF : 128 ≤ F.length) (ht : throwE (-5) ⟨W, D, F, d, i, nx, C, μ, I, M⟩ = (s, E')) : Xec n ⟨W, D, F, d, i, nx, C, μ, I, M⟩ s E' := by
  refine xec_not h (by simp) fun r => ?_
  unfold execE
  rw [h.at]
  dsimp only
  rw [if_neg (by decide), if_neg (by decide), if_neg (by decide), if_pos rfl]
  unfold callE
  rw [code_of h1 hl]
  simp only [Option.isSome_some, if_true]
  rw [if_pos (by omega)]
  unfold after
  rw [if_neg (by simp)]
  exact ht
theorem ctl_catch {z : Int} {x : Wd} (h : WdN W z x) (hl : F.length + 2 ≤ 128) : after (ctlE 8 ⟨W, D, F, d, i, nx, C ++ [z], μ, I, M⟩) = (ranS, ⟨W, D, F ++ [⟨1, d, i, 0, 0, []⟩, ⟨5, C.length, I.length, inE I, 0, []⟩], 0, 0, z, C, μ, I, M⟩) := by
  unfold ctlE
  rw [if_neg (by decide), if_neg (by decide), if_neg (by decide), if_neg (by decide), if_neg (by decide), if_neg (by decide), if_neg (by decide), if_pos rfl]
  unfold popWord
  dsimp only
  rw [show (C ++ [z]).getLast? = some z by simp]
  dsimp only
  rw [h.at]
  simp only [Option.isSome_some, if_true]
  rw [if_neg (by omega), after_ok]
  simp
theorem throw_to {e a b x y : Int} {l : List Int} {B : List L14.Fm} (hB : ∀ q ∈ B, q.k ≠ 5) : throwE e ⟨W, D, F ++ ⟨5, a, b, x, y, l⟩ :: B, d, i, nx, C, μ, I, M⟩ = (ranS, ⟨W, D, F, 0, 0, 0, (putL [e] (cutL (clamp a) C)).2, μ, thrown ⟨5, a, b, x, y, l⟩ I, M⟩) := by
  obtain ⟨_, h2, h3⟩ := L14.catch_is (A := F) (q := ⟨5, a, b, x, y, l⟩) (B := B) rfl fun q hq => by unfold L14.isCatch; simpa using hB q hq
  unfold throwE
  dsimp only
  rw [h3, h2]
end
end Go.Proofs.YtifnkmddinoneaaGreatDoor
namespace Go.Proofs.YtifnkmddinoneaaGreatDoor
open Go.RowKit
set_option linter.unusedVariables false
def dDeep : List L10.Xi := [⟨2, 28, 0⟩, ⟨4, 4, 0⟩, ⟨2, 5, 0⟩, ⟨2, 181, 0⟩, ⟨15, 0, 0⟩]
def frD : L14.Fm := ⟨1, 1, 4, 0, 0, []⟩
structure WDeep (W : List Wd) : Prop where
  dup : WdN W 28 ⟨1, 28, 0⟩
  dec : WdN W 5 ⟨1, 5, 0⟩
  catch_ : WdN W 115 ⟨2, 8, 0⟩
  self : WdN W 181 ⟨5, 1, 0⟩
section
variable {W : List Wd} {μ : Mu} {M : Nat} {F : List L14.Fm}
theorem noW_rep (hF : NoW F) (j : Nat) : NoW (F ++ List.replicate j frD) := by
  cases j with
  | zero => simpa using hF
  | succ j => rw [List.replicate_succ', ← List.append_assoc]; exact NoW.app _ _ (by simp [frD])
theorem deep_fall (hW : WDeep W) (hF : NoW F) {m : Int} (hm : m ≠ 0) : Pth 3 ⟨W, [dDeep], F, 1, 0, 0, [m], μ, [], M⟩ ⟨W, [dDeep], F, 1, 3, 0, [wrap64 (m - 1)], μ, [], M⟩ := by
  refine Pth.cons (nxt_call (a := 28) (w := 0) (insD1 (by decide) rfl) hF (xec_prim hW.dup (OpS.dup [] m (by simp)))) ?_
  refine Pth.cons (i_zero (C := [m]) (x := m) (a := 4) (w := 0) (insD1 (by decide) rfl) hF) ?_
  rw [if_neg hm]
  exact (nxt_call (a := 5) (w := 0) (insD1 (by decide) rfl) hF (xec_prim hW.dec (OpS.dec [] m (by simp)))).pth
theorem deep_down1 (hW : WDeep W) (hF : NoW F) {m : Int} (hm : m ≠ 0) (hl : F.length < 128) : Pth 4 ⟨W, [dDeep], F, 1, 0, 0, [m], μ, [], M⟩ ⟨W, [dDeep], F ++ [frD], 1, 0, 0, [wrap64 (m - 1)], μ, [], M⟩ :=
  (deep_fall hW hF hm).snoc (nxt_call (a := 181) (w := 0) (insD1 (by decide) rfl) hF (xec_colon hW.self (by decide) rfl hl))
theorem deep_down (hW : WDeep W) (hF : NoW F) (n : Nat) (hn : n ≤ 1000) : ∀ j : Nat, j ≤ n → F.length + j ≤ 128 → Pth (4 * j) ⟨W, [dDeep], F, 1, 0, 0, [(n : Int)], μ, [], M⟩ ⟨W, [dDeep], F ++ List.replicate j frD, 1, 0, 0, [(n : Int) - j], μ, [], M⟩
  | 0, _, _ => by simp [Pth]
  | j + 1, hj, hl => by
    have h1 := (deep_down hW hF n hn j (by omega) (by omega)).trans (deep_down1 hW (noW_rep hF j) (m := (n : Int) - j) (by omega) (by simp; omega))
    refine h1.cast (by omega) ?_
    rw [List.replicate_succ', ← List.append_assoc, show wrap64 ((n : Int) - j - 1) = (n : Int) - (j + 1 : Nat) by unfold wrap64; omega]
theorem deep_exit (hF : NoW F) (hk : L14.popL 4 F = F) {C : List Int} : Nxt ⟨W, [dDeep], F, 1, 4, 0, C, μ, [], M⟩ ranS ⟨W, [dDeep], F, 0, 0, 0, C, μ, [], M⟩ := by
  have := i_exit (W := W) (D := [dDeep]) (F := F) (d := 1) (i := 4) (C := C) (μ := μ) (I := []) (M := M) (a := 0) (w := 0) (insD1 (by decide) rfl) hF
  rwa [hk] at this
theorem pop_rep (hk : L14.popL 4 F = F) (j : Nat) : L14.popL 4 (F ++ List.replicate j frD) = F ++ List.replicate j frD := by
  cases j with
  | zero => simpa using hk
  | succ j => rw [List.replicate_succ', ← List.append_assoc]; exact popL_not (by simp [frD])
theorem deep_up (hF : NoW F) (hk : L14.popL 4 F = F) {C : List Int} : ∀ j : Nat, Pth (2 * j) ⟨W, [dDeep], F ++ List.replicate j frD, 0, 0, 0, C, μ, [], M⟩ ⟨W, [dDeep], F, 0, 0, 0, C, μ, [], M⟩
  | 0 => by simp [Pth]
  | j + 1 => by
    have h1 : Nxt (⟨W, [dDeep], F ++ List.replicate (j + 1) frD, 0, 0, 0, C, μ, [], M⟩ : Es) ranS ⟨W, [dDeep], F ++ List.replicate j frD, 1, 4, 0, C, μ, [], M⟩ := by
      rw [List.replicate_succ', ← List.append_assoc]
      exact nxt_return
    exact (Pth.cons h1 (Pth.cons (deep_exit (noW_rep hF j) (pop_rep hk j)) (deep_up hF hk j))).cast (by omega) rfl
def frT : L14.Fm := ⟨6, 0, 0, 0, 0, []⟩
theorem deep_start (hW : WDeep W) (n : Int) : Pth 2 ⟨W, [dDeep], [frT], 0, 0, 115, [n, 181], μ, [], M⟩ ⟨W, [dDeep], [frT, frC, ⟨5, 1, 0, 0, 0, []⟩, frC], 1, 0, 0, [n], μ, [], M⟩ := by
  refine Pth.cons (nxt_next (by decide) (xec_ctl hW.catch_ (ctl_catch (C := [n]) (z := 181) hW.self (by decide)))) ?_
  exact (nxt_next (by decide) (xec_colon hW.self (by decide) rfl (by simp))).pth
theorem deep_end {x y : Int} : Pth 1 ⟨W, [dDeep], [frT, frC], 0, 0, 0, [x, y], μ, [], M⟩ ⟨W, [dDeep], [frT], 0, 0, 0, [x, y], μ, [], M⟩ := (nxt_return (F := [frT])).pth
theorem deep_wait {C : List Int} : Nxt ⟨W, [dDeep], [frT], 0, 0, 0, C, μ, [], M⟩ (3, 6, 0) ⟨W, [dDeep], [frT], 0, 0, 0, C, μ, [], M⟩ := nxt_wait (F := []) (q := frT) (Or.inl rfl)
theorem deep_all (hW : WDeep W) (n : Nat) (hn : n ≤ 124) : ∃ k, k < 2000 ∧ Pth k ⟨W, [dDeep], [frT], 0, 0, 115, [(n : Int), 181], μ, [], M⟩ ⟨W, [dDeep], [frT], 0, 0, 0, [0, 0], μ, [], M⟩ := by
  have hF : NoW [frT, frC, ⟨5, 1, 0, 0, 0, []⟩, frC] := by simp [NoW, topKind, frC]
  have hk : L14.popL 4 [frT, frC, ⟨5, 1, 0, 0, 0, []⟩, frC] = [frT, frC, ⟨5, 1, 0, 0, 0, []⟩, frC] := by simp [L14.popL, L14.topK, frC]
  have h1 := (deep_start (μ := μ) (M := M) hW n).trans (deep_down hW hF n (by omega) n (Nat.le_refl n) (by simp; omega))
  rw [Int.sub_self] at h1
  have h2 := h1.snoc (nxt_call (a := 28) (w := 0) (insD1 (by decide) rfl) (noW_rep hF n) (xec_prim hW.dup (OpS.dup [] 0 (by simp))))
  have h3 := h2.snoc (i_zero (C := [0]) (x := 0) (a := 4) (w := 0) (insD1 (by decide) rfl) (noW_rep hF n))
  rw [if_pos rfl] at h3
  have h4 := (h3.snoc (deep_exit (noW_rep hF n) (pop_rep hk n))).trans (deep_up hF hk n)
  have h5 := h4.snoc (nxt_return (F := [frT, frC, ⟨5, 1, 0, 0, 0, []⟩]))
  have h6 := h5.snoc (nxt_caught (F := [frT, frC]) (C := [0]) (by decide))
  exact ⟨_, by omega, h6.trans deep_end⟩
theorem deep_too (hW : WDeep W) (n : Nat) (h1 : 125 ≤ n) (hn : n ≤ 1000) : ∃ k x, k < 2000 ∧ Pth k ⟨W, [dDeep], [frT], 0, 0, 115, [(n : Int), 181], μ, [], M⟩ ⟨W, [dDeep], [frT], 0, 0, 0, [x, -5], μ, [], M⟩ := by
  have hF : NoW [frT, frC, ⟨5, 1, 0, 0, 0, []⟩, frC] := by simp [NoW, topKind, frC]
  have h1 := (deep_start (μ := μ) (M := M) hW n).trans (deep_down hW hF n hn 124 (by omega) (by simp))
  have h2 := h1.trans (deep_fall hW (noW_rep hF 124) (m := (n : Int) - (124 : Nat)) (by omega))
  generalize wrap64 ((n : Int) - (124 : Nat) - 1) = x at h2
  have ht : throwE (-5) ⟨W, [dDeep], [frT, frC, ⟨5, 1, 0, 0, 0, []⟩, frC] ++ List.replicate 124 frD, 1, 3 + 1, 0, [x], μ, [], M⟩ = (ranS, ⟨W, [dDeep], [frT, frC], 0, 0, 0, [x, -5], μ, [], M⟩) := by
    have := throw_to (W := W) (D := [dDeep]) (F := [frT, frC]) (d := 1) (i := 3 + 1) (nx := 0) (C := [x]) (μ := μ) (I := []) (M := M) (e := -5) (a := 1) (b := 0) (x := 0) (y := 0) (l := []) (B := frC :: List.replicate 124 frD) (by simp [frC, frD])
    exact this
  have h3 := h2.snoc (nxt_call (a := 181) (w := 0) (insD1 (by decide) rfl) (noW_rep hF 124) (xec_deep hW.self (by decide) rfl (by simp) ht))
  exact ⟨_, x, by omega, h3.trans deep_end⟩
end
end Go.Proofs.YtifnkmddinoneaaGreatDoor
namespace Go.Proofs.YtifnkmddinoneaaGreatDoor
open Go.RowKit
set_option linter.unusedVariables false
section
variable {loc n words a w : Int} {k : Nat}
theorem flat_call (hk : (k : Int) + 1 < n) (ha : 1 ≤ a ∧ a ≤ words) : FlatI loc n words k ⟨2, a, 0⟩ := ⟨by simp [L10.waysX]; omega, fit_of (by decide) (by decide) (by simp [L10.kindX, L10.spanX]; omega) (Or.inr rfl)⟩
end
theorem may_deep : L10.MayP dDeep 181 := may_flat (by decide) rfl (by
  refine .cons (flat_call (by decide) (by decide)) (.cons (flat_zero (by decide) (by decide)) (.cons (flat_call (by decide) (by decide)) (.cons (flat_call (by decide) (by decide)) (.cons flat_exit .nil)))))
end Go.Proofs.YtifnkmddinoneaaGreatDoor
