/- Layer 15: an engine that is new since a world; its calls. No condition. Layer 15: the document's example. Condition: the library's tables are there (Good, L10.Good). Layer 15: EngineLocals's walk. Condition: the arguments are a slice of cells, a byte and a cell; the listed variables hold what they hold. -/
import Derived.Test.YtifnkmddinoneaaGreatDoorChecked
import Derived.WalkKit
import Derived.WalkLawsBesides
import Derived.WalkSpells
import Derived.Lib.Hide
import Derived.Laws.OwnMore
import Derived.Laws.IdiomCopy
import Derived.Deep.RegionLaw
import Ieee.Arith
import Derived.Laws.FloatBits
import Derived.Laws.Cover2
import Derived.Laws.FloatArith
import Derived.Laws.Externs
import Derived.Laws.BitsAllLaws
import Derived.Shelf.Strings.Builder1
import Derived.Shelf.Strings.Builder2
import Derived.Shelf.Small.Bits
import Derived.Shelf.Strings.BuilderF
import Derived.Shelf.Strconv.Itoa0
import Derived.Shelf.Strconv.Itoa1
import Derived.Shelf.LaysM
import Derived.Shelf.Strconv.Itoa2
import Derived.Shelf.Strconv.Itoa3
import Derived.Shelf.Strings.Prefix
import Derived.Shelf.Bits.Mul64
import Derived.Shelf.Strings.Repeat
import Derived.Test.YtifnkmddinoneaaGreatDoorProg
import Derived.Shelf.Spec.TrailingZeros
import Derived.Lib.AppendIntMem
import Derived.Maps.RangeRun
import Derived.Carry
import Derived.Laws.EntriesVeiled
import Derived.Deep.Cut
import Derived.Deep.DeepCutAuto
import Derived.Deep.QuietTactic
import Derived.BigQuiet
import Derived.Deep.RegionHeld3
import Derived.Lib.SliceRun
import Derived.Lib.OthersKept
import Derived.Laws.IdiomStrings
import Derived.Lib.LazyBuf
import Derived.Laws.BytesArg
import Derived.Lib.AppendStr
import Derived.Maps.AppendAt
import Derived.Deep.LoopGhost
import Derived.Lib.MinMax
import Derived.RangeFuncNested
import Derived.RangeFuncBound
import Derived.RangeFuncCalls
import Derived.RangeFuncLeaves
import Derived.RangeFuncWrites
import Derived.Shelf.Abstract
import Derived.Shelf.RegionOpen
import Derived.OwnWalkIn
import Derived.TacticsInMore
import Derived.LoopNIn
import Derived.LoopIn
import Derived.Laws.MakeOwn
import Derived.Deep.CutRange
import Derived.Great.BuildSlice
import Derived.Deep.CutBlock
import Derived.Shelf.Spec.BitsCarry
import Derived.Lib.ItoaNum
import Derived.Laws.Bits64b
import Derived.Laws.Concat
import Derived.ProofKit
import Derived.OpenShut
import Derived.Test.YtifnkmddinoneaaGreatDoorCBBN
import Derived.Test.YtifnkmddinoneaaGreatDoorCBBF
import Derived.Test.YtifnkmddinoneaaGreatDoorCBBE
import Derived.Test.YtifnkmddinoneaaGreatDoorCBBA
import Derived.Test.YtifnkmddinoneaaGreatDoorCBAZ
import Derived.Test.YtifnkmddinoneaaGreatDoorCBAY
import Derived.Test.YtifnkmddinoneaaGreatDoorCBAX
import Derived.Test.YtifnkmddinoneaaGreatDoorCBAW
import Derived.Test.YtifnkmddinoneaaGreatDoorCBAV
import Derived.Test.YtifnkmddinoneaaGreatDoorCBAQ
import Derived.Test.YtifnkmddinoneaaGreatDoorCBAN
import Derived.Test.YtifnkmddinoneaaGreatDoorCBAJ
import Derived.Test.YtifnkmddinoneaaGreatDoorCBAH
import Derived.Test.YtifnkmddinoneaaGreatDoorCBAC
import Derived.Test.YtifnkmddinoneaaGreatDoorCBAA
import Derived.Test.YtifnkmddinoneaaGreatDoorCBAB
import Derived.Test.YtifnkmddinoneaaGreatDoorCBAI
import Derived.Test.YtifnkmddinoneaaGreatDoorCBAL
import Derived.Test.YtifnkmddinoneaaGreatDoorCBAK
import Derived.Test.YtifnkmddinoneaaGreatDoorCBAM
import Derived.Test.YtifnkmddinoneaaGreatDoorCBAP
import Derived.Test.YtifnkmddinoneaaGreatDoorCBAO
import Derived.Test.YtifnkmddinoneaaGreatDoorCBAU
import Derived.Test.YtifnkmddinoneaaGreatDoorCBAT
import Derived.Test.YtifnkmddinoneaaGreatDoorCBAS
import Derived.Test.YtifnkmddinoneaaGreatDoorCBAR
import Derived.Test.YtifnkmddinoneaaGreatDoorCBBD
import Derived.Test.YtifnkmddinoneaaGreatDoorCBBC
import Derived.Test.YtifnkmddinoneaaGreatDoorCBBB
import Derived.Test.YtifnkmddinoneaaGreatDoorCBAE
import Derived.Test.YtifnkmddinoneaaGreatDoorCBAD
import Derived.Test.YtifnkmddinoneaaGreatDoorCBBM
import Derived.Test.YtifnkmddinoneaaGreatDoorCBBL
import Derived.Test.YtifnkmddinoneaaGreatDoorCBBJ
import Derived.Test.YtifnkmddinoneaaGreatDoorCBBG
import Derived.Test.YtifnkmddinoneaaGreatDoorCBBI
import Derived.Test.YtifnkmddinoneaaGreatDoorCBBH
import Derived.Test.YtifnkmddinoneaaGreatDoorCBBK
import Derived.Test.YtifnkmddinoneaaGreatDoorCLAB
import Derived.Test.YtifnkmddinoneaaGreatDoorCBBO
import Derived.Test.YtifnkmddinoneaaGreatDoorCBBP
import Derived.Test.YtifnkmddinoneaaGreatDoorCBBQ
import Derived.Test.YtifnkmddinoneaaGreatDoorCBBR
set_option maxRecDepth 100000
namespace Go.Proofs.YtifnkmddinoneaaGreatDoor
open Go.RowKit
set_option linter.unusedVariables false
section
variable {w0 w w' : World} {A : Ag} {K : List (Nat × Option Obj)} {E E1 E2 : Es}
theorem Lw.frames (h : Lw w0 w A K E) : Calls Tryz.prog 17 #[Pt A.g] w fun e w' => e = .returned (Pt A.f) ∧ w = w' := h.quiet fun T h => gframes_calls h
theorem Lw.fdepth (h : Lw w0 w A K E) (n : Nat) (hn : E.F.length = n) : Calls Tryz.prog 22 #[Pt A.f] w fun e w' => e = .returned (.int .i64 (n : Int)) ∧ w = w' := h.quiet fun T h => h.fdepth n hn
theorem Lw.put (h : Lw w0 w A K E) {B : Option Addr} {n : Nat} (cap : Nat) {X : List Int} (hs : Sl w B X) (hn : n = X.length) (hI : ∀ x ∈ X, I64 x) (hm : n ≤ 9223372036854775807) :
    Calls Tryz.prog 16 #[Pt A.a.p, .slice B n cap] w (Lw.Did w0 A K { E with C := (putL X E.C).2 } (.int .i64 (putL X E.C).1)) := h.plays fun T h => h.sput cap hs hn hI hm
end
end Go.Proofs.YtifnkmddinoneaaGreatDoor
namespace Go.Proofs.YtifnkmddinoneaaGreatDoor
open Go.RowKit
set_option linter.unusedVariables false
theorem wd15_nth {x : Wd} {r : List Wd} {i : Nat} (h : r[i]? = some x) {n : Int} (hn : n = 181 + (i : Int)) : WdN ((builtE 180).W ++ r) n x := ⟨by omega, by
  rw [show (n - 1).toNat = 180 + i by omega, List.getElem?_append_right (by rw [built_len]; omega), built_len, Nat.add_sub_cancel_left]
  exact h⟩
end Go.Proofs.YtifnkmddinoneaaGreatDoor
namespace Go.Proofs.YtifnkmddinoneaaGreatDoor
open Go.RowKit
set_option linter.unusedVariables false
theorem in_ok : ∀ x ∈ dIn, OkX x := by
  intro x hx
  simp [dIn] at hx
  rcases hx with rfl | rfl | rfl | rfl <;> exact okX_of _ (by decide) (by decide) (by unfold I64; decide)
theorem locs_succ (j : Nat) : locsL (j + 1) = locsL j ++ [⟨13, (j : Int), 0⟩] := by simp [locsL, List.range_succ]
theorem locs_len (j : Nat) : (locsL j).length = j := by simp [locsL]
theorem dloc_ok {n k : Nat} {x : Int} (hn : n ≤ 16) (hk : k < n) (hx : I64 x) : ∀ y ∈ dLoc n k x ++ locsL n ++ [⟨15, 0, 0⟩], OkX y := by
  intro y hy
  rcases List.mem_append.1 hy with hy | hy
  · rcases List.mem_append.1 hy with hy | hy
    · simp [dLoc] at hy
      rcases hy with rfl | rfl | rfl | rfl | rfl <;> refine okX_of _ (by simp) ⟨?_, ?_⟩ ?_ <;> first | exact hx | (unfold I64; simp; done) | (dsimp only; omega)
    · unfold locsL at hy
      obtain ⟨i, hi, rfl⟩ := List.mem_map.1 hy
      have hi := List.mem_range.1 hi
      exact okX_of _ (by simp) ⟨by dsimp only; omega, by dsimp only; omega⟩ (by unfold I64; simp)
  · rw [List.mem_singleton.1 hy]; exact okX_of _ (by decide) (by decide) (by unfold I64; decide)
theorem Xc.set {w : World} {base b n c : Nat} {X : List Int} (h : Xc w base (.slice (some ⟨b, 0, none⟩) n c) X) (q : Nat) (hq : q < X.length) (x : Int) : Xc (w.setCell ⟨b, q, none⟩ (.int .i64 x)) base (.slice (some ⟨b, 0, none⟩) n c) (X.set q x) := by
  refine ⟨by simp [cellsI], ?_⟩
  rcases h.2 with ⟨e, _⟩ | ⟨g, cap, cur, e, h2, h3, h4, h5, h6, h7⟩
  · cases e
  · injection e with e1 e2 e3
    injection e1 with e1
    injection e1 with e1 _ _
    subst e1 e2 e3
    have s1 := heap_setCell_same w b q _ _ (.int .i64 x) h3
    refine Or.inr ⟨b, c, _, by rw [List.length_set], h2, s1, by rw [List.length_set]; exact h4, h5, by simpa using h6, ?_⟩
    rw [List.length_set]
    have e9 : cellsI (X.set q x) = (cellsI X).set q (.int .i64 x) := by simp [cellsI]
    rw [e9, ← h7]
    simp [List.take_set]
set_option maxRecDepth 100000 in
set_option maxHeartbeats 8000000 in
theorem locals_walk {w : World} (hg : Good w) (g10 : L10.Good w) (A1 : Option Addr) (len c1 : Nat) (zs : List Int) (hr : RowIn .i64 w A1 len c1 zs) (a0 : Int) (ha : (Lit.int .u8 a0).wf = true) (x : Int) (hx : (Lit.int .i64 x).wf = true) :
    Calls Tryz.prog 6 #[.slice A1 len c1, .int .u8 a0, .int .i64 x] w fun e w' => e = .returned (.bool true) ∧ Mod [] w w' := by
  obtain ⟨Y, k, hc⟩ := hr.came 16
  have hminl : min (len : Int) 16 = (k : Int) := by have := hc.e; omega
  have hk16 : k ≤ 16 := by have := hc.e; omega
  have hs2 := hc.h
  have ha8 := bounds_u8 ha
  obtain ⟨c, rfl⟩ := Int.eq_ofNat_of_zero_le ha8.1
  have hx64 := i64_of_wf hx
  have H0 := Lib.hid (shown15 w hg g10)
  have HG := Lib.hid (And.intro hg (And.intro g10 (And.intro hc hx64)))
  have hc255 : c ≤ 255 := by omega
  clear hg g10 hr hc ha ha8 hx hx64
  go_enter Tryz.func6, Tryz.ntmps6
  go_wp2_with fail
  refine (H0.out).mono ?_
  rintro e w1 ⟨rfl, m1⟩
  have H1 := Lib.hid (lw_built m1 (HG.out.1.mod m1 (by simp)))
  clear H0 m1
  go_wp2_with fail
  refine (H1.out).mono ?_
  rintro e w2 ⟨A, ⟨rfl, h2⟩, m2⟩
  by_cases hk0 : k = 0
  · subst hk0
    have HM := Lib.hid h2.mod
    clear h2 m2 H1
    go_wp2_with fail
    go_ret
    exact ⟨rfl, HM.out⟩
  · have hkb : ((k : Int) == 0) = false := by simp; omega
    have hkn : ¬ (k : Int) = 0 := by omega
    have hkn2 : ¬ k = 0 := hk0
    obtain ⟨q, hq⟩ : ∃ q, q = c % k := ⟨_, rfl⟩
    have hqk : q < k := by rw [hq]; exact Nat.mod_lt _ (by omega)
    have wc : wrap64 (c : Int) = (c : Int) := by unfold wrap64; omega
    have hm1 : (c : Int) % (k : Int) = (q : Int) := by rw [hq]; rfl
    have hm2 : (c : Int).tmod (k : Int) = (q : Int) := by rw [Int.tmod_eq_emod_of_nonneg (by omega)]; exact hm1
    have wq : wrap64 (q : Int) = (q : Int) := by unfold wrap64; omega
    have H2 : RowKit.Hid (∀ W, Mod [] (w2.alloc (.cells #[.int .u8 12, .int .i64 1, .int .i64 0, .int .u8 1, .int .i64 0, .int .i64 77, .int .u8 14, .int .i64 0, .int .i64 0, .int .u8 15, .int .i64 0, .int .i64 0] 61)) W → Calls Tryz.prog 12 #[Pt A.g, .agg #[.slice (some ⟨w2.heap.size, 0, none⟩) 4 4]] W (Lw.Did w A [] ⟨(builtE 180).W, [dIn], [], 0, 0, 0, [], mu0 1024, [], 0⟩ (.tuple #[.int .i64 1, .int .i64 0]))) :=
      Lib.hid (fun W kk => h2.deflit HG.out.2.1 dIn (may_inner _) in_ok (by decide) _ rfl 4 rfl kk)
    have HQ := Lib.hid (And.intro hqk hk0)
    clear h2 m2 H1 hq hqk hk0
    go_wp2_with fail
    refine (H2.out _ (Mod.refl _ _)).mono ?_
    rintro e w3 ⟨rfl, h3⟩
    have H3 : RowKit.Hid (∀ W, Mod [] w3 W → Calls Tryz.prog 13 #[Pt A.g, .agg #[.int .i64 5, .int .i64 1, .int .i64 0]] W (Lw.Did w A [] ⟨(builtE 180).W ++ [⟨5, 1, 0⟩], [dIn], [], 0, 0, 0, [], mu0 1024, [], 0⟩ (.tuple #[.int .i64 181, .int .i64 0]))) := Lib.hid (fun W kk => by
      have h9 := (h3.far kk).add ⟨5, 1, 0⟩ (Or.inr (Or.inl ⟨Or.inl rfl, rfl⟩)) ⟨by decide, by decide, by unfold I64; decide, by unfold I64; decide, by decide⟩ (by show (builtE 180).W.length < 600; rw [built_len]; omega)
      rw [show ((⟨(builtE 180).W, [dIn], [], 0, 0, 0, [], mu0 1024, [], 0⟩ : Es).W.length : Int) + 1 = 181 by show ((builtE 180).W.length : Int) + 1 = 181; rw [built_len]; rfl] at h9
      exact h9)
    clear h3 H2
    go_wp2_with fail
    refine (H3.out _ (Mod.refl _ _)).mono ?_
    rintro e w4 ⟨rfl, h4⟩
    have H4 := Lib.hid h4
    clear h4 H3
    have HRow := Lib.hid (show Rows2 w4 (w4.alloc (.cells #[.int .u8 12, .int .i64 (k : Int), .int .i64 0, .int .u8 1, .int .i64 0, .int .i64 x, .int .u8 14, .int .i64 (q : Int), .int .i64 0, .int .u8 1, .int .i64 0, .int .i64 5, .int .u8 2, .int .i64 181, .int .i64 0] 61)) (.slice (some ⟨w4.heap.size, 0, none⟩) 5 5) (dLoc k q x ++ locsL 0) (.slice none 0 0) [] from
      ⟨L10.Xr.lit w4 w4.heap.size (Nat.le_refl _) (dLoc k q x) (by simp [dLoc]) _ rfl, Xc.nil _ _, fun g _ hh => (by cases hh), (Mod.refl [] w4).alloc _⟩)
    go_wp2_with fail
    clear hm1 hm2 wc
    go_loopw [15, 71] (fun vc y wr => ∃ j : Nat, y = .int .i64 (j : Int) ∧ j ≤ k ∧ RowKit.Hid (Rows2 w4 wr vc (dLoc k q x ++ locsL j) (.slice none 0 0) [])) (fun _ y _ => k + 1 - (intOf y).toNat)
    case atStart => exact ⟨0, rfl, by omega, HRow⟩
    case round =>
      obtain ⟨j, rfl, hj, hi⟩ := hrel
      obtain ⟨⟨Ac, cc, rfl⟩, _⟩ := hi.out.shape
      have hl : (dLoc k q x ++ locsL j).length = 5 + j := by rw [List.length_append, locs_len]; simp [dLoc]
      obtain ⟨n, hn⟩ : ∃ n, n = (dLoc k q x ++ locsL j).length := ⟨_, rfl⟩
      rw [← hn] at hi ⊢
      by_cases hlt : j < k
      · have hjI : (j : Int) < (k : Int) := by omega
        have wj : wrap64 ((j : Int) + 1) = (j : Int) + 1 := IntWalk.wrap64_in _ (by omega)
        obtain ⟨A3, m3, c3, w3, r3, e3, R3⟩ := hi.out.ins [⟨13, (j : Int), 0⟩] (by rw [hl]; simp; omega) #[.int .u8 13, .int .i64 (j : Int), .int .i64 0] rfl 1 rfl
        have HR := Lib.hid R3
        clear hi hn hl R3 e3 HRow
        go_wp2_with fail
        go_roundw
        case rel =>
          refine ⟨j + 1, by go_num, by omega, Lib.hid ?_⟩
          rw [locs_succ, ← List.append_assoc]
          exact HR.out
        case measure => simp [intOf]; omega
      · have hjI : ¬ (j : Int) < (k : Int) := by omega
        have hjk : j = k := by omega
        subst hjk
        obtain ⟨A3, m3, c3, w5, r3, e3, R3⟩ := hi.out.ins [⟨15, 0, 0⟩] (by rw [hl]; simp; omega) #[.int .u8 15, .int .i64 0, .int .i64 0] rfl 1 rfl
        have hkk := HQ.out
        have H5 : RowKit.Hid (Calls Tryz.prog 12 #[Pt A.g, .agg #[.slice A3 m3 c3]] w5 (Lw.Did w A [] ⟨(builtE 180).W ++ [⟨5, 1, 0⟩], [dIn, dLoc j q x ++ locsL j ++ [⟨15, 0, 0⟩]], [], 0, 0, 0, [], mu0 1024, [], 0⟩ (.tuple #[.int .i64 2, .int .i64 0]))) :=
          Lib.hid ((R3.define H4.out HG.out.2.1 (may_locals (by omega) hk16 hkk.1 _ (by rw [List.length_append, built_len]; simp)) (dloc_ok hk16 hkk.1 HG.out.2.2.2) (by show 1 < 300; omega)).mono fun e w' ⟨h1, h2⟩ => ⟨h1, h2.less (by simp)⟩)
        clear hi hn hl R3 e3 hkk HRow
        go_wp2_with fail
        refine (H5.out).mono ?_
        rintro e w6 ⟨rfl, h6⟩
        have H6 : RowKit.Hid (∀ W, Mod [] w6 W → Calls Tryz.prog 13 #[Pt A.g, .agg #[.int .i64 5, .int .i64 2, .int .i64 0]] W (Lw.Did w A [] ⟨(builtE 180).W ++ [⟨5, 1, 0⟩, ⟨5, 2, 0⟩], [dIn, dLoc j q x ++ locsL j ++ [⟨15, 0, 0⟩]], [], 0, 0, 0, [], mu0 1024, [], 0⟩ (.tuple #[.int .i64 182, .int .i64 0]))) := Lib.hid (fun W kk => by
          have h9 := (h6.far kk).add ⟨5, 2, 0⟩ (Or.inr (Or.inl ⟨Or.inl rfl, rfl⟩)) ⟨by decide, by decide, by unfold I64; decide, by unfold I64; decide, by decide⟩ (by show ((builtE 180).W ++ [(⟨5, 1, 0⟩ : Wd)]).length < 600; rw [List.length_append, built_len]; simp)
          rw [show ((⟨(builtE 180).W ++ [⟨5, 1, 0⟩], [dIn, dLoc j q x ++ locsL j ++ [⟨15, 0, 0⟩]], [], 0, 0, 0, [], mu0 1024, [], 0⟩ : Es).W.length : Int) + 1 = 182 by show (((builtE 180).W ++ [(⟨5, 1, 0⟩ : Wd)]).length : Int) + 1 = 182; rw [List.length_append, built_len]; rfl] at h9
          refine h9.mono fun e w' ⟨q1, q2⟩ => ⟨q1, ?_⟩
          have q3 := q2
          dsimp only at q3
          rw [List.append_assoc] at q3
          exact q3)
        clear h6 H5
        go_wp2_with fail
        refine (H6.out _ (Mod.refl _ _)).mono ?_
        rintro e w7 ⟨rfl, h7⟩
        have H7 := Lib.hid fun W (kk : Mod [] w7 W) => (h7.far kk).state
        have H8 := Lib.hid fun W (kk : Mod [] w7 W) => (h7.far kk).stack
        have H9 : RowKit.Hid (∀ W, Mod [] w7 W → Calls Tryz.prog 16 #[Pt A.a.p, .slice A1 j c1] W (Lw.Did w A [] ⟨(builtE 180).W ++ [⟨5, 1, 0⟩, ⟨5, 2, 0⟩], [dIn, dLoc j q x ++ locsL j ++ [⟨15, 0, 0⟩]], [], 0, 0, 0, Y, mu0 1024, [], 0⟩ (.int .i64 0))) := Lib.hid (fun W kk => by
          have hc := HG.out.2.2.1
          have h9 := (h7.far kk).put c1 (hc.s.far (h7.far kk).mod) hc.n.symm hc.i (by have := hc.c; have := hc.m; omega)
          have e9 : putL Y [] = (0, Y) := by rw [putL_ok (by have := hc.n; simp; omega)]; rfl
          have e8 : (⟨(builtE 180).W ++ [⟨5, 1, 0⟩, ⟨5, 2, 0⟩], [dIn, dLoc j q x ++ locsL j ++ [⟨15, 0, 0⟩]], [], 0, 0, 0, [], mu0 1024, [], 0⟩ : Es).C = [] := rfl
          rw [e8, e9] at h9
          exact h9)
        clear h7 H6
        go_wp2_with fail
        refine (H7.out _ (Mod.refl _ _)).mono ?_
        rintro e w8 ⟨rfl, rfl⟩
        go_wp2_with fail
        refine (H8.out _ (Mod.refl _ _)).mono ?_
        rintro e w8 ⟨rfl, rfl⟩
        go_wp2_with fail
        refine (H9.out _ (Mod.refl _ _)).mono ?_
        rintro e w8 ⟨rfl, h8⟩
        have H10 := Lib.hid (h8.exec 182 (add_isSome (wd15_nth (i := 1) rfl rfl)))
        clear h8 H7 H8 H9
        go_wp2_with fail
        refine (H10.out).mono ?_
        rintro e w9 ⟨rfl, h9⟩
        have H11 := Lib.hid (show Lw w w9 A [] ⟨(builtE 180).W ++ [⟨5, 1, 0⟩, ⟨5, 2, 0⟩], [dIn, dLoc j q x ++ locsL j ++ [⟨15, 0, 0⟩]], [], 0, 0, 182, Y, mu0 1024, [], 0⟩ from h9)
        clear h9 H10
        obtain ⟨bW, sW, cW, w10, rW, hXc, hbL, hbW, hmW⟩ : ∃ b c m w', (appCel 25 #[.slice (some ⟨w9.heap.size, 0, none⟩) 0 0, .slice A1 j c1]).run Tryz.prog (w9.alloc (.cells #[] 33)) = .ok (.slice (some ⟨b, 0, none⟩) j c) w' ∧ Xc w' w9.heap.size (.slice (some ⟨b, 0, none⟩) j c) Y ∧ w9.heap.size ≤ b ∧ Mod [] w9 w' ∧ m = 0 := by
          have hc := HG.out.2.2.1
          have hjp : 0 < j := by have := HQ.out.2; omega
          obtain ⟨b1, o1, y1, hA1, _⟩ := hc.at_ (Mod.refl [] w) hjp
          have ma := (Mod.refl [] w9).alloc (.cells #[] 33)
          have hx0 : Xc (w9.alloc (.cells #[] 33)) w9.heap.size (.slice (some ⟨w9.heap.size, 0, none⟩) 0 0) [] := by
            have := World.ownsRow_lit (base := w9.heap.size) (e := 33) (size := 1) w9 #[] 0 (Nat.le_refl _) (by omega) rfl
            simpa [Xc, cellsI] using this
          have hsl := hc.s.far (H11.out.mod.trans ma)
          rw [hA1] at hsl
          obtain ⟨A', m', c', w', h1, h2, h3, h4, h5⟩ := hx0.app ma.size Y (by have := hc.n; simp; omega) 25 ⟨b1, o1, none⟩ j c1 hc.n.symm hsl.src
          rw [List.nil_append] at h3
          obtain rfl : m' = j := by rw [h2]; simp
          rcases h3.2 with ⟨e, h0⟩ | ⟨g, cap, cur, e, hg, _⟩
          · have := hc.n; omega
          · injection e with e1 e2 e3
            subst e1 e3
            refine ⟨g, c', 0, w', by rw [hA1]; exact h1, h3, hg, ma.then h4 fun y hy => Or.inr ?_, rfl⟩
            simp [Value.ownBlock] at hy
            omega
        have hqj := HQ.out.1
        have hjY := HG.out.2.2.1.n
        obtain ⟨y0, z0⟩ : (∃ u, w10.cell? ⟨bW, q, none⟩ = some u) ∧ w10.frozen? ⟨bW, q, none⟩ = false := by
          refine ⟨?_, ?_⟩
          · have := World.ownsRow.cellAt (base := w9.heap.size) (e := 33) (size := 1) (n := Y.length) (xs := cellsI Y) (cap := sW) (g := bW) (w := w10) (by have hr := hXc; unfold Xc at hr; rw [show (Value.slice (some ⟨bW, 0, none⟩) j sW) = .slice (some ⟨bW, 0, none⟩) Y.length sW by rw [hjY]] at hr; exact hr) q (by omega)
            rw [this]
            exact ⟨_, List.getElem?_eq_getElem (by simp [cellsI]; omega)⟩
          · rcases hXc.2 with ⟨e, _⟩ | ⟨g, cap, cur, e, _, h3, _⟩
            · cases e
            · injection e with e _ _
              injection e with e
              injection e with e _ _
              subst e
              simp [World.frozen?, h3]
        obtain ⟨v0, y0⟩ := y0
        have hlb : bW < w10.heap.size := World.block_lt_of_cell? _ _ y0
        have HS : RowKit.Hid (Xc (w10.setCell ⟨bW, q, none⟩ (.int .i64 x)) w9.heap.size (.slice (some ⟨bW, 0, none⟩) j sW) (Y.set q x) ∧ Mod [] w9 (w10.setCell ⟨bW, q, none⟩ (.int .i64 x)) ∧ w9.heap.size ≤ bW ∧ bW < (w10.setCell ⟨bW, q, none⟩ (.int .i64 x)).heap.size) :=
          Lib.hid ⟨hXc.set q (by omega) x, hbW.then (L14.set_mod w10 bW q (.int .i64 x)) fun y hy => Or.inr (by rw [List.mem_singleton.1 hy]; exact hbL), hbL, Nat.lt_of_lt_of_le hlb (L14.set_mod w10 bW q (.int .i64 x)).size⟩
        have hqI : (q : Int) < (j : Int) := by omega
        obtain ⟨k6, l6, p6⟩ := locals_all (W := (builtE 180).W ++ [⟨5, 1, 0⟩, ⟨5, 2, 0⟩]) (μ := mu0 1024) (I := []) (M := 0) (w := 182) (x := x) (X := Y) (k := q) (by omega) (by omega) (by omega) (by decide) (wd15_nth (i := 1) rfl rfl) (wd15_nth (i := 0) rfl rfl)
        rw [hjY] at p6
        have h12 := H11.out.hold HS.out.2.1 HS.out.2.2.1 HS.out.2.2.2
        have H12 := Lib.hid (Lw.run (E := ⟨(builtE 180).W ++ [⟨5, 1, 0⟩, ⟨5, 2, 0⟩], [dIn, dLoc j q x ++ locsL j ++ [⟨15, 0, 0⟩]], [], 0, 0, 182, Y, mu0 1024, [], 0⟩) h12 p6 nxt_halt (by decide) 200 l6 (by decide))
        unfold stV at H12
        dsimp only at H12
        have HL := Lib.hid (And.intro hk16 hjY)
        clear hXc hbW hmW hlb hqj hjY p6 l6 h12 H11
        go_wp2_with fail
        refine (H12.out).mono ?_
        rintro e w12 ⟨rfl, h12⟩
        have HA := Lib.hid h12.state
        have HB := Lib.hid h12.stack
        obtain ⟨N8, hN8⟩ : ∃ N, N = (Y.set q x).length := ⟨_, rfl⟩
        have HC : RowKit.Hid (Calls Tryz.prog 32 #[Pt A.a.p] w12 fun e w' => ∃ b c, e = .returned (.slice (some ⟨b, 0, none⟩) N8 c) ∧ RowKit.Hid (Calls Tryz.prog 35 #[.slice (some ⟨b, 0, none⟩) N8 c, .slice (some ⟨bW, 0, none⟩) j sW] w' fun e w9 => e = .returned (.bool true) ∧ Mod [] w' w9) ∧ RowKit.Hid (Mod [] w w') ∧ RowKit.Hid (∀ W, Mod [] w' W → Calls Tryz.prog 17 #[Pt A.g] W fun e w9 => e = .returned (Pt A.f) ∧ W = w9) ∧ RowKit.Hid (∀ W, Mod [] w' W → Calls Tryz.prog 22 #[Pt A.f] W fun e w9 => e = .returned (.int .i64 0) ∧ W = w9)) :=
          Lib.hid (h12.all.mono fun e w' ⟨b, c, he, ho, hb, hl, hm⟩ => ⟨b, c, by rw [hN8]; exact he, Lib.hid (by
            have hx := Xc.sl (show Xc w' w9.heap.size (.slice (some ⟨bW, 0, none⟩) j sW) (Y.set q x) from row_kept HS.out.1 fun g hg => by
              obtain rfl : bW = g := by simpa [Value.ownBlock] using hg
              exact hl.kept (List.mem_cons_of_mem _ (List.mem_cons_self ..)))
            exact same_true ho.sl hx.1 hN8 hx.2.1 (by rw [List.length_set]; have := HL.out; omega)), Lib.hid hl.mod, Lib.hid fun W kk => (hl.far kk).frames, Lib.hid fun W kk => (hl.far kk).fdepth 0 rfl⟩)
        clear h12 H12 hN8
        go_wp2_with fail
        refine (HA.out).mono ?_
        rintro e w13 ⟨rfl, rfl⟩
        go_wp2_with fail
        refine (HB.out).mono ?_
        rintro e w13 ⟨rfl, rfl⟩
        go_wp2_with fail
        refine (HC.out).mono ?_
        rintro e w14 ⟨b8, c8, rfl, HX, HM, HF, HP⟩
        clear HA HB HC
        go_wp2_with fail
        refine (HX.out).mono ?_
        rintro e w15 ⟨rfl, m9⟩
        have HF2 := Lib.hid (HF.out _ m9)
        have HP2 := Lib.hid (HP.out _ m9)
        have HM9 := Lib.hid (HM.out.trans m9)
        clear m9 HX HF HP HM
        go_wp2_with fail
        refine (HF2.out).mono ?_
        rintro e w16 ⟨rfl, rfl⟩
        go_wp2_with fail
        refine (HP2.out).mono ?_
        rintro e w16 ⟨rfl, rfl⟩
        clear HF2 HP2
        go_wp2
        go_ret
        exact ⟨rfl, HM9.out⟩
end Go.Proofs.YtifnkmddinoneaaGreatDoor
