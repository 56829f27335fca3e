/- Layer 15: the number of a word of the table (xt). Condition: its place in the table. -/
import Derived.Test.YtifnkmddinoneaaGreatDoorChecked
import Derived.WalkKit
import Derived.WalkLawsBesides
import Derived.WalkSpells
import Derived.Lib.Hide
import Derived.Laws.OwnMore
import Derived.Laws.IdiomCopy
import Derived.Deep.RegionLaw
import Ieee.Arith
import Derived.Laws.FloatBits
import Derived.Laws.Cover2
import Derived.Laws.FloatArith
import Derived.Laws.Externs
import Derived.Laws.BitsAllLaws
import Derived.Shelf.Strings.Builder1
import Derived.Shelf.Strings.Builder2
import Derived.Shelf.Small.Bits
import Derived.Shelf.Strings.BuilderF
import Derived.Shelf.Strconv.Itoa0
import Derived.Shelf.Strconv.Itoa1
import Derived.Shelf.LaysM
import Derived.Shelf.Strconv.Itoa2
import Derived.Shelf.Strconv.Itoa3
import Derived.Shelf.Strings.Prefix
import Derived.Shelf.Bits.Mul64
import Derived.Shelf.Strings.Repeat
import Derived.Test.YtifnkmddinoneaaGreatDoorProg
import Derived.Shelf.Spec.TrailingZeros
import Derived.Lib.AppendIntMem
import Derived.Maps.RangeRun
import Derived.Carry
import Derived.Laws.EntriesVeiled
import Derived.Deep.Cut
import Derived.Deep.DeepCutAuto
import Derived.Deep.QuietTactic
import Derived.BigQuiet
import Derived.Deep.RegionHeld3
import Derived.Lib.SliceRun
import Derived.Lib.OthersKept
import Derived.Laws.IdiomStrings
import Derived.Lib.LazyBuf
import Derived.Laws.BytesArg
import Derived.Lib.AppendStr
import Derived.Maps.AppendAt
import Derived.Deep.LoopGhost
import Derived.Lib.MinMax
import Derived.RangeFuncNested
import Derived.RangeFuncBound
import Derived.RangeFuncCalls
import Derived.RangeFuncLeaves
import Derived.RangeFuncWrites
import Derived.Shelf.Abstract
import Derived.Shelf.RegionOpen
import Derived.OwnWalkIn
import Derived.TacticsInMore
import Derived.LoopNIn
import Derived.LoopIn
import Derived.Laws.MakeOwn
import Derived.Deep.CutRange
import Derived.Great.BuildSlice
import Derived.Test.YtifnkmddinoneaaGreatDoorCBBF
import Derived.Test.YtifnkmddinoneaaGreatDoorCBBE
import Derived.Test.YtifnkmddinoneaaGreatDoorCBBA
import Derived.Test.YtifnkmddinoneaaGreatDoorCBAZ
import Derived.Test.YtifnkmddinoneaaGreatDoorCBAY
import Derived.Test.YtifnkmddinoneaaGreatDoorCBAX
import Derived.Test.YtifnkmddinoneaaGreatDoorCBAW
import Derived.Test.YtifnkmddinoneaaGreatDoorCBAV
import Derived.Test.YtifnkmddinoneaaGreatDoorCBAQ
import Derived.Test.YtifnkmddinoneaaGreatDoorCBAN
import Derived.Test.YtifnkmddinoneaaGreatDoorCBAJ
import Derived.Test.YtifnkmddinoneaaGreatDoorCBAH
import Derived.Test.YtifnkmddinoneaaGreatDoorCBAC
import Derived.Test.YtifnkmddinoneaaGreatDoorCBAA
import Derived.Test.YtifnkmddinoneaaGreatDoorCBAB
import Derived.Test.YtifnkmddinoneaaGreatDoorCBAI
import Derived.Test.YtifnkmddinoneaaGreatDoorCBAL
import Derived.Test.YtifnkmddinoneaaGreatDoorCBAK
import Derived.Test.YtifnkmddinoneaaGreatDoorCBAM
import Derived.Test.YtifnkmddinoneaaGreatDoorCBAP
import Derived.Test.YtifnkmddinoneaaGreatDoorCBAO
import Derived.Test.YtifnkmddinoneaaGreatDoorCBAU
import Derived.Test.YtifnkmddinoneaaGreatDoorCBAT
import Derived.Test.YtifnkmddinoneaaGreatDoorCBAS
import Derived.Test.YtifnkmddinoneaaGreatDoorCBAR
import Derived.Test.YtifnkmddinoneaaGreatDoorCBBD
import Derived.Test.YtifnkmddinoneaaGreatDoorCBBC
import Derived.Test.YtifnkmddinoneaaGreatDoorCBBB
import Derived.Test.YtifnkmddinoneaaGreatDoorCDAB
import Derived.Test.YtifnkmddinoneaaGreatDoorCBAE
import Derived.Test.YtifnkmddinoneaaGreatDoorCBAD
set_option maxRecDepth 100000
namespace Go.Proofs.YtifnkmddinoneaaGreatDoor
open Go.RowKit
set_option linter.unusedVariables false
set_option maxRecDepth 100000 in
set_option maxHeartbeats 4000000 in
theorem xt_calls (w : World) (s : List UInt8) (k : Nat) (hk : k < 180) (hs : ∀ x, L12.tab[k]? = some x → x.s = s) (hb : ∀ i x, i < k → L12.tab[i]? = some x → x.s ≠ s) : Calls Tryz.prog 34 #[.string (str s)] w fun e w' => e = .returned (.int .i64 ((k : Int) + 1)) ∧ Mod [] w w' := by
  have A1 := Lib.hid fun W => L12.rall_calls W
  obtain ⟨U, hU⟩ : ∃ U, U = str s := ⟨_, rfl⟩
  rw [← hU]
  have HU := Lib.hid (And.intro hU (And.intro hs hb))
  clear hU hs hb
  go_enter Tryz.func34, Tryz.ntmps34
  go_wp2_with fail
  refine (A1.out _).mono ?_
  rintro e w2 ⟨v, rfl, er, m2⟩
  obtain ⟨A, c, rfl, hE⟩ := er.at
  rw [L12.tab_len]
  have HE := Lib.hid hE
  have M2 := Lib.hid m2
  clear m2 er hE A1
  go_wp2_with fail
  go_loopw [7] (fun y wr => ∃ j : Nat, y = .int .i64 (j : Int) ∧ j ≤ k ∧ RowKit.Hid (Mod [] w2 wr)) (fun y _ => 181 - (intOf y).toNat)
  case atStart => exact ⟨0, rfl, by omega, Lib.hid (Mod.refl _ _)⟩
  case round =>
    obtain ⟨j, rfl, hj, hi⟩ := hrel
    have hjI : (j : Int) < 180 := by omega
    have hjX : j < L12.tab.length := by rw [L12.tab_len]; omega
    obtain ⟨b, rfl, g0, g1, g2, g3, g4⟩ := (HE.out.far hi.out) j hjX
    have ht : L12.tab[j]? = some L12.tab[j] := List.getElem?_eq_getElem hjX
    generalize L12.tab[j] = x at *
    have wj : wrap64 ((j : Int) + 1) = (j : Int) + 1 := IntWalk.wrap64_in _ (by omega)
    obtain ⟨N, hN⟩ : ∃ N, N = str x.s := ⟨_, rfl⟩
    rw [← hN] at g0
    have m3 : Mod [] wr (wr.alloc (.cells #[.string N, .int .i64 x.k, .int .i64 (x.n : Int), .bool x.now, .bool x.only] 79)) := (Mod.refl [] wr).alloc _
    have HI := Lib.hid (hi.out.trans m3)
    by_cases e : j = k
    · subst e
      have he : (N.toList == U.toList) = true := by rw [hN, HU.out.1, HU.out.2.1 x ht]; exact L12.str_eql s
      clear hi hN ht m3
      go_wp2_with fail
      go_ret
      exact ⟨rfl, M2.out.trans HI.out⟩
    · have he : (N.toList == U.toList) = false := by rw [hN, HU.out.1]; exact L12.str_nel (HU.out.2.2 j x (by omega) ht)
      clear hi hN ht m3
      go_wp2_with fail
      go_roundw
      case rel => exact ⟨j + 1, by go_num, by omega, HI⟩
      case measure => simp [intOf]; omega
end Go.Proofs.YtifnkmddinoneaaGreatDoor
