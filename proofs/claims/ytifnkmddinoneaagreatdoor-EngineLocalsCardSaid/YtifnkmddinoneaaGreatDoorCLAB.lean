/- Layer 15: steps, told one by one: what each instruction and word leads to. Plain. No condition. Layer 15: EngineDeep, plain: calls one within the other; the example. Plain. No condition. Layer 15: definitions that may be, told by how many loops are open. Plain. No condition. Layer 15: EngineLocals, plain. Plain. No condition. -/
import Derived.Test.YtifnkmddinoneaaGreatDoorChecked
import Derived.WalkKit
import Derived.WalkLawsBesides
import Derived.WalkSpells
import Derived.Lib.Hide
import Derived.Laws.OwnMore
import Derived.Laws.IdiomCopy
import Derived.Deep.RegionLaw
import Ieee.Arith
import Derived.Laws.FloatBits
import Derived.Laws.Cover2
import Derived.Laws.FloatArith
import Derived.Laws.Externs
import Derived.Laws.BitsAllLaws
import Derived.Shelf.Strings.Builder1
import Derived.Shelf.Strings.Builder2
import Derived.Shelf.Small.Bits
import Derived.Shelf.Strings.BuilderF
import Derived.Shelf.Strconv.Itoa0
import Derived.Shelf.Strconv.Itoa1
import Derived.Shelf.LaysM
import Derived.Shelf.Strconv.Itoa2
import Derived.Shelf.Strconv.Itoa3
import Derived.Shelf.Strings.Prefix
import Derived.Shelf.Bits.Mul64
import Derived.Shelf.Strings.Repeat
import Derived.Test.YtifnkmddinoneaaGreatDoorProg
import Derived.Shelf.Spec.TrailingZeros
import Derived.Lib.AppendIntMem
import Derived.Maps.RangeRun
import Derived.Carry
import Derived.Laws.EntriesVeiled
import Derived.Deep.Cut
import Derived.Deep.DeepCutAuto
import Derived.Deep.QuietTactic
import Derived.BigQuiet
import Derived.Deep.RegionHeld3
import Derived.Lib.SliceRun
import Derived.Lib.OthersKept
import Derived.Laws.IdiomStrings
import Derived.Lib.LazyBuf
import Derived.Laws.BytesArg
import Derived.Lib.AppendStr
import Derived.Maps.AppendAt
import Derived.Test.YtifnkmddinoneaaGreatDoorCBAQ
import Derived.Test.YtifnkmddinoneaaGreatDoorCBAN
import Derived.Test.YtifnkmddinoneaaGreatDoorCBAJ
import Derived.Test.YtifnkmddinoneaaGreatDoorCBAH
import Derived.Test.YtifnkmddinoneaaGreatDoorCBAC
import Derived.Test.YtifnkmddinoneaaGreatDoorCBAA
import Derived.Test.YtifnkmddinoneaaGreatDoorCBAB
import Derived.Test.YtifnkmddinoneaaGreatDoorCBAI
import Derived.Test.YtifnkmddinoneaaGreatDoorCBAL
import Derived.Test.YtifnkmddinoneaaGreatDoorCBAK
import Derived.Test.YtifnkmddinoneaaGreatDoorCBAM
import Derived.Test.YtifnkmddinoneaaGreatDoorCBAP
import Derived.Test.YtifnkmddinoneaaGreatDoorCBAO
import Derived.Laws.MakeOwn
import Derived.Deep.LoopGhost
import Derived.Deep.CutRange
import Derived.Test.YtifnkmddinoneaaGreatDoorCBAE
import Derived.Test.YtifnkmddinoneaaGreatDoorCBAD
import Derived.Test.YtifnkmddinoneaaGreatDoorCBBQ
set_option maxRecDepth 100000
namespace Go.Proofs.YtifnkmddinoneaaGreatDoor
open Go.RowKit
set_option linter.unusedVariables false
section
variable {W : List Wd} {D : List (List L10.Xi)} {F : List L14.Fm} {d i nx : Int} {C : List Int} {μ : Mu} {I : List L8.Sc} {M : Nat}
theorem nxt_call {a w : Int} {s : Sv} {E' : Es} (h : InsD D d i ⟨2, a, w⟩) (hF : NoW F) (hx : Xec a ⟨W, D, F, d, i + 1, 0, C, μ, I, M⟩ s E') : Nxt ⟨W, D, F, d, i, 0, C, μ, I, M⟩ s E' := by
  have hd : d ≠ 0 := by have := h.1; omega
  obtain ⟨r0, h1, h2⟩ := hx
  have e1 : primE ⟨W, D, F, d, i, 0, C, μ, I, M⟩ = primW a ⟨W, D, F, d, i + 1, 0, C, μ, I, M⟩ := by
    unfold primE
    rw [if_neg (by simp), if_neg (by dsimp only; have := hF; unfold NoW at this; omega), if_pos hd, h.at]
    rfl
  refine ⟨r0, fun n hn => h1 n (by rw [← e1]; exact hn), fun r hr => ?_⟩
  unfold stepE
  rw [if_neg (by simp), if_neg (by dsimp only; have := hF; unfold NoW at this; omega), if_pos hd, h.at]
  dsimp only
  unfold instructE
  rw [if_pos rfl]
  exact h2 r fun hne => hr (by rw [e1]; exact hne)
theorem frameE_ok {q : L14.Fm} (hF : F.length < 128) : frameE q ⟨W, D, F, d, i, nx, C, μ, I, M⟩ = (0, ⟨W, D, F ++ [q], d, i, nx, C, μ, I, M⟩) := by
  unfold frameE L14.pushE L14.pushL
  dsimp only
  rw [if_neg (by omega), if_neg (by omega)]
theorem i_locals {a w : Int} {X : List Int} (h : InsD D d i ⟨12, a, w⟩) (hF : NoW F) (ha : a = (X.length : Int)) (hl : F.length < 128) : Nxt ⟨W, D, F, d, i, 0, C ++ X, μ, I, M⟩ ranS ⟨W, D, F ++ [⟨4, 0, 0, 0, 0, X⟩], d, i + 1, 0, C, μ, I, M⟩ := by
  refine nxt_ins h hF (by simp) ?_
  unfold insE
  rw [if_neg (by simp), if_neg (by simp), if_neg (by simp), if_neg (by simp), if_neg (by simp), if_neg (by simp), if_neg (by simp), if_neg (by simp), if_neg (by simp), if_neg (by simp), if_pos rfl]
  rw [taking_ok (X := X) (by dsimp only; omega) rfl (frameE_ok hl)]
  exact after_ok
theorem localL_app {a : Nat} {X : List Int} {p q x y : Int} (ha : a < X.length) : L14.localL (a : Int) (F ++ [⟨4, p, q, x, y, X⟩]) = some (X[a]'ha) := by
  rw [show F ++ [(⟨4, p, q, x, y, X⟩ : L14.Fm)] = F ++ (⟨4, p, q, x, y, X⟩ : L14.Fm) :: [] from rfl, L14.local_is (by rfl) (by simp), if_pos ⟨rfl, by omega, by simpa using ha⟩]
  simp [ha]
theorem i_local {a : Nat} {w : Int} {X : List Int} {p q x y : Int} (h : InsD D d i ⟨13, (a : Int), w⟩) (ha : a < X.length) (hC : C.length < 128) : Nxt ⟨W, D, F ++ [⟨4, p, q, x, y, X⟩], d, i, 0, C, μ, I, M⟩ ranS ⟨W, D, F ++ [⟨4, p, q, x, y, X⟩], d, i + 1, 0, C ++ [X[a]'ha], μ, I, M⟩ := by
  refine nxt_ins h (NoW.app _ _ ⟨by simp, by simp⟩) (by simp) ?_
  unfold insE
  rw [if_neg (by simp), if_neg (by simp), if_neg (by simp), if_neg (by simp), if_neg (by simp), if_neg (by simp), if_neg (by simp), if_neg (by simp), if_neg (by simp), if_neg (by simp), if_neg (by simp), if_pos rfl]
  dsimp only
  rw [localL_app ha]
  dsimp only
  unfold pushE
  dsimp only
  rw [putL_one hC]
  exact after_ok
theorem i_to {a : Nat} {w z : Int} {X : List Int} {p q x y : Int} (h : InsD D d i ⟨14, (a : Int), w⟩) (ha : a < X.length) : Nxt ⟨W, D, F ++ [⟨4, p, q, x, y, X⟩], d, i, 0, C ++ [z], μ, I, M⟩ ranS ⟨W, D, F ++ [⟨4, p, q, x, y, X.set a z⟩], d, i + 1, 0, C, μ, I, M⟩ := by
  refine nxt_ins h (NoW.app _ _ ⟨by simp, by simp⟩) (by simp) ?_
  unfold insE
  rw [if_neg (by simp), if_neg (by simp), if_neg (by simp), if_neg (by simp), if_neg (by simp), if_neg (by simp), if_neg (by simp), if_neg (by simp), if_neg (by simp), if_neg (by simp), if_neg (by simp), if_neg (by simp), if_pos rfl]
  have hs : L14.setL (a : Int) z (F ++ [⟨4, p, q, x, y, X⟩]) = F ++ [⟨4, p, q, x, y, X.set a z⟩] := by
    rw [show F ++ [(⟨4, p, q, x, y, X⟩ : L14.Fm)] = F ++ (⟨4, p, q, x, y, X⟩ : L14.Fm) :: [] from rfl, L14.set_is (by rfl) (by simp), if_pos ⟨rfl, by omega, by simpa using ha⟩]
    simp
  rw [taking_ok (n := 1) (X := [z]) (E' := ⟨W, D, F ++ [⟨4, p, q, x, y, X.set a z⟩], d, i + 1, 0, C, μ, I, M⟩) (e := 0) rfl rfl (by dsimp only [List.headD]; rw [localL_app ha, hs]; rfl)]
  exact after_ok
theorem popL_is {q : L14.Fm} (h : q.k = 4) : L14.popL 4 (F ++ [q]) = F := by simp [L14.popL, L14.topK, h]
end
section
variable {W : List Wd} {D : List (List L10.Xi)} {F : List L14.Fm} {d i nx : Int} {C : List Int} {μ : Mu} {I : List L8.Sc} {M : Nat}
end
end Go.Proofs.YtifnkmddinoneaaGreatDoor
namespace Go.Proofs.YtifnkmddinoneaaGreatDoor
open Go.RowKit
set_option linter.unusedVariables false
theorem insD2 {l k : List L10.Xi} {D : List (List L10.Xi)} {i : Int} {x : L10.Xi} (h0 : 0 ≤ i) (h : l[i.toNat]? = some x) : InsD (k :: l :: D) 2 i x := ⟨by decide, h0, l, rfl, h⟩
section
variable {W : List Wd} {μ : Mu} {M : Nat} {F : List L14.Fm}
end
end Go.Proofs.YtifnkmddinoneaaGreatDoor
namespace Go.Proofs.YtifnkmddinoneaaGreatDoor
open Go.RowKit
set_option linter.unusedVariables false
section
variable {loc n words a w : Int} {k : Nat}
theorem flat_call (hk : (k : Int) + 1 < n) (ha : 1 ≤ a ∧ a ≤ words) : FlatI loc n words k ⟨2, a, 0⟩ := ⟨by simp [L10.waysX]; omega, fit_of (by decide) (by decide) (by simp [L10.kindX, L10.spanX]; omega) (Or.inr rfl)⟩
theorem flat_local (hk : (k : Int) + 1 < n) (ha : 0 ≤ a ∧ a ≤ wrap64 (loc - 1)) : FlatI loc n words k ⟨13, a, 0⟩ := ⟨by simp [L10.waysX]; omega, fit_of (by decide) (by decide) (by simp [L10.kindX, L10.spanX]; omega) (Or.inr rfl)⟩
theorem flat_to (hk : (k : Int) + 1 < n) (ha : 0 ≤ a ∧ a ≤ wrap64 (loc - 1)) : FlatI loc n words k ⟨14, a, 0⟩ := ⟨by simp [L10.waysX]; omega, fit_of (by decide) (by decide) (by simp [L10.kindX, L10.spanX]; omega) (Or.inr rfl)⟩
theorem flat_locals (hn : 1 < n) (ha : 1 ≤ a ∧ a ≤ 16) : FlatI loc n words 0 ⟨12, a, 0⟩ := ⟨by simp [L10.waysX]; omega, by
  unfold L10.fitX L10.isOpX
  simp [L10.kindX, L10.spanX]; omega⟩
end
end Go.Proofs.YtifnkmddinoneaaGreatDoor
namespace Go.Proofs.YtifnkmddinoneaaGreatDoor
open Go.RowKit
set_option linter.unusedVariables false
def dIn : List L10.Xi := [⟨12, 1, 0⟩, ⟨1, 0, 77⟩, ⟨14, 0, 0⟩, ⟨15, 0, 0⟩]
def dLoc (n : Nat) (k x : Int) : List L10.Xi := [⟨12, (n : Int), 0⟩, ⟨1, 0, x⟩, ⟨14, k, 0⟩, ⟨1, 0, 5⟩, ⟨2, 181, 0⟩]
def locsL (n : Nat) : List L10.Xi := (List.range n).map fun (i : Nat) => ⟨13, (i : Int), 0⟩
theorem may_inner (words : Int) : L10.MayP dIn words := by
  have e : L10.locX dIn = 1 := rfl
  refine may_flat (by decide) rfl ?_
  rw [e]
  exact .cons (flat_locals (by decide) (by decide)) (.cons (flat_lit (by decide)) (.cons (flat_to (by decide) (by simp [wrap64])) (.cons flat_exit .nil)))
theorem flat_locs {loc words : Int} {n : Nat} (m a : Nat) (h : (a + m : Int) < n) (hl : (m : Int) ≤ wrap64 (loc - 1) + 1) : FlatL loc n words a (locsL m) := fun k x hx => by
  unfold locsL at hx
  rw [List.getElem?_map] at hx
  by_cases hk : k < m
  · rw [List.getElem?_range hk] at hx
    simp at hx
    subst hx
    exact flat_local (by omega) (by omega)
  · rw [List.getElem?_eq_none (by simp; omega)] at hx
    simp at hx
theorem may_locals {n k : Nat} {x : Int} (h1 : 1 ≤ n) (h16 : n ≤ 16) (hk : k < n) (words : Int) (hw : 181 ≤ words) : L10.MayP (dLoc n k x ++ locsL n ++ [⟨15, 0, 0⟩]) words := by
  have e : L10.locX (dLoc n k x ++ locsL n ++ [⟨15, 0, 0⟩]) = n := rfl
  have hl : (dLoc n k x ++ locsL n ++ [⟨15, 0, 0⟩] : List L10.Xi).length = n + 6 := by simp [dLoc, locsL]
  have hw1 : wrap64 ((n : Int) - 1) = (n : Int) - 1 := by unfold wrap64; omega
  refine may_flat (by omega) (last_exit _) ?_
  rw [e, hl]
  refine .app (.app ?_ (flat_locs n _ (by simp [dLoc]; omega) (by omega))) (.cons flat_exit .nil)
  exact .cons (flat_locals (by omega) (by omega)) (.cons (flat_lit (by omega)) (.cons (flat_to (by omega) (by omega)) (.cons (flat_lit (by omega)) (.cons (flat_call (by omega) (by omega)) .nil))))
section
variable {W : List Wd} {μ : Mu} {I : List L8.Sc} {M : Nat} {D : List (List L10.Xi)} {F : List L14.Fm} {d : Int} {C : List Int}
theorem locals_path {p q x y : Int} {X : List Int} (a : Nat) (hX : X.length ≤ 16) (h : LiesD D d a (locsL X.length)) : ∀ m : Nat, m ≤ X.length → Pth m ⟨W, D, F ++ [⟨4, p, q, x, y, X⟩], d, (a : Int), 0, [], μ, I, M⟩ ⟨W, D, F ++ [⟨4, p, q, x, y, X⟩], d, ((a + m : Nat) : Int), 0, X.take m, μ, I, M⟩
  | 0, _ => by simp [Pth]
  | m + 1, hm => by
    have h1 := locals_path (p := p) (q := q) (x := x) (y := y) a hX h m (by omega)
    have hi : (locsL X.length)[m]? = some ⟨13, (m : Int), 0⟩ := by
      unfold locsL
      rw [List.getElem?_map, List.getElem?_range (by omega)]; rfl
    refine (h1.snoc (i_local (h.ins m hi rfl) (by omega) (by simp; omega))).cast rfl ?_
    congr 1
    rw [List.take_succ_eq_append_getElem (by omega)]
theorem locals_all {w x : Int} {X : List Int} {k : Nat} (h1 : 1 ≤ X.length) (h16 : X.length ≤ 16) (hk : k < X.length) (hw : w ≠ 0) (hc : WdN W w ⟨5, 2, 0⟩) (hi : WdN W 181 ⟨5, 1, 0⟩) :
    ∃ n, n < 200 ∧ Pth n ⟨W, [dIn, dLoc X.length k x ++ locsL X.length ++ [⟨15, 0, 0⟩]], [], 0, 0, w, X, μ, I, M⟩ ⟨W, [dIn, dLoc X.length k x ++ locsL X.length ++ [⟨15, 0, 0⟩]], [], 0, 0, 0, X.set k x, μ, I, M⟩ := by
  obtain ⟨D, hD⟩ : ∃ D, D = [dIn, dLoc X.length k x ++ locsL X.length ++ [⟨15, 0, 0⟩]] := ⟨_, rfl⟩
  have hL : LiesD D 2 0 (dLoc X.length k x ++ locsL X.length ++ [⟨15, 0, 0⟩]) := fun j y hy => by rw [hD]; exact insD2 (by omega) (by simpa using hy)
  have hN : LiesD D 1 0 dIn := fun j y hy => by rw [hD]; exact insD1 (by omega) (by simpa using hy)
  have hd1 : D[(1 - 1 : Int).toNat]? = some dIn := by rw [hD]; rfl
  obtain ⟨l2, hd2⟩ : ∃ l, D[(2 - 1 : Int).toNat]? = some l := ⟨_, by rw [hD]; rfl⟩
  rw [← hD]
  clear hD
  obtain ⟨hA, hZ⟩ := hL.app
  obtain ⟨hA, hB⟩ := hA.app
  have hF : NoW [frC] := by simp [NoW, topKind, frC]
  have s1 := nxt_next (W := W) (D := D) (d := 0) (i := 0) (C := X) (μ := μ) (I := I) (M := M) hw (xec_colon (F := []) hc (by decide) hd2 (by decide))
  have s2 := i_locals (W := W) (F := [frC]) (C := []) (X := X) (μ := μ) (I := I) (M := M) (hA.ins 0 rfl (i := 0) rfl) hF rfl (by decide)
  have s3 := i_lit (W := W) (F := [frC] ++ [⟨4, 0, 0, 0, 0, X⟩]) (C := []) (μ := μ) (I := I) (M := M) (hA.ins 1 rfl (i := 0 + 1) rfl) (NoW.app _ _ (by simp)) (by decide)
  have s4 := i_to (W := W) (F := [frC]) (p := 0) (q := 0) (x := 0) (y := 0) (C := []) (z := x) (X := X) (a := k) (μ := μ) (I := I) (M := M) (hA.ins 2 rfl (i := 0 + 1 + 1) rfl) hk
  have hF2 : NoW ([frC] ++ [⟨4, 0, 0, 0, 0, X.set k x⟩]) := NoW.app _ _ (by simp)
  have s5 := i_lit (W := W) (F := [frC] ++ [⟨4, 0, 0, 0, 0, X.set k x⟩]) (C := []) (μ := μ) (I := I) (M := M) (hA.ins 3 rfl (i := 0 + 1 + 1 + 1) rfl) hF2 (by decide)
  have s6 := nxt_call (W := W) (F := [frC] ++ [⟨4, 0, 0, 0, 0, X.set k x⟩]) (C := [] ++ [5]) (μ := μ) (I := I) (M := M) (hA.ins 4 rfl (i := 0 + 1 + 1 + 1 + 1) rfl) hF2 (xec_colon hi (by decide) hd1 (by simp))
  obtain ⟨G, hG⟩ : ∃ G, G = [frC] ++ [⟨4, 0, 0, 0, 0, X.set k x⟩] ++ [(⟨1, 2, 0 + 1 + 1 + 1 + 1 + 1, 0, 0, []⟩ : L14.Fm)] := ⟨_, rfl⟩
  have hGl : G.length < 128 := by rw [hG]; simp
  have hGn : NoW G := by rw [hG]; exact NoW.app _ _ (by simp)
  have s7 := i_locals (W := W) (F := G) (C := []) (X := [5]) (μ := μ) (I := I) (M := M) (hN.ins 0 rfl (i := 0) rfl) hGn rfl hGl
  have s8 := i_lit (W := W) (F := G ++ [⟨4, 0, 0, 0, 0, [5]⟩]) (C := []) (μ := μ) (I := I) (M := M) (hN.ins 1 rfl (i := 0 + 1) rfl) (NoW.app _ _ (by simp)) (by decide)
  have s9 := i_to (W := W) (F := G) (p := 0) (q := 0) (x := 0) (y := 0) (C := []) (z := 77) (X := [5]) (a := 0) (μ := μ) (I := I) (M := M) (hN.ins 2 rfl (i := 0 + 1 + 1) rfl) (by decide)
  have s10 := i_exit (W := W) (F := G ++ [⟨4, 0, 0, 0, 0, [5].set 0 77⟩]) (C := []) (μ := μ) (I := I) (M := M) (hN.ins 3 rfl (i := 0 + 1 + 1 + 1) rfl) (NoW.app _ _ (by simp))
  rw [popL_is (by rfl)] at s10
  have p1 := Pth.cons s1 (Pth.cons s2 (Pth.cons s3 (Pth.cons s4 (Pth.cons s5 s6.pth))))
  rw [← hG] at p1
  have p2 := p1.trans (Pth.cons s7 (Pth.cons s8 (Pth.cons s9 s10.pth)))
  rw [hG] at p2
  have p3 := p2.snoc nxt_return
  rw [if_neg (by decide)] at p3
  have hXl : (X.set k x).length = X.length := List.length_set
  have p4 := p3.trans (locals_path (W := W) (F := [frC]) (p := 0) (q := 0) (x := 0) (y := 0) (X := X.set k x) (μ := μ) (I := I) (M := M) (D := D) (d := 2) 5 (by omega) (by rw [hXl]; exact hB) X.length (by omega))
  rw [List.take_of_length_le (by omega)] at p4
  have s11 := i_exit (W := W) (F := [frC] ++ [⟨4, 0, 0, 0, 0, X.set k x⟩]) (C := X.set k x) (μ := μ) (I := I) (M := M) (hZ.ins 0 rfl (i := ((5 + X.length : Nat) : Int)) (by simp [dLoc, locsL]; omega)) hF2
  rw [popL_is (by rfl)] at s11
  exact ⟨_, by omega, (p4.snoc s11).snoc (nxt_return (F := []))⟩
end
end Go.Proofs.YtifnkmddinoneaaGreatDoor
