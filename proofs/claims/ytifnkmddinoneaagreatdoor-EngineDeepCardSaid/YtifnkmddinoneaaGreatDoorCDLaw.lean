/- EngineDeep: for all arguments given, the call returns true and the arguments read as before, where the listed variables hold what the program's text lays: and that tie is proved. No other condition. -/
import Derived.Test.YtifnkmddinoneaaGreatDoorRows
import Derived.Test.YtifnkmddinoneaaGreatDoorTie
import Derived.Test.YtifnkmddinoneaaGreatDoorCards
import Derived.Test.YtifnkmddinoneaaGreatDoorChecked
import Derived.WalkKit
import Derived.WalkLawsBesides
import Derived.WalkSpells
import Derived.Lib.Hide
import Ieee.Arith
import Derived.Laws.FloatBits
import Derived.Laws.Cover2
import Derived.Laws.FloatArith
import Derived.Laws.Externs
import Derived.Laws.BitsAllLaws
import Derived.Shelf.Strings.Builder1
import Derived.Shelf.Strings.Builder2
import Derived.Shelf.Small.Bits
import Derived.Shelf.Strings.BuilderF
import Derived.Shelf.Strconv.Itoa0
import Derived.Shelf.Strconv.Itoa1
import Derived.Shelf.LaysM
import Derived.Shelf.Strconv.Itoa2
import Derived.Shelf.Strconv.Itoa3
import Derived.Shelf.Strings.Prefix
import Derived.Shelf.Bits.Mul64
import Derived.Shelf.Strings.Repeat
import Derived.Test.YtifnkmddinoneaaGreatDoorProg
import Derived.Shelf.Spec.TrailingZeros
import Derived.Lib.AppendIntMem
import Derived.Laws.OwnMore
import Derived.Laws.IdiomCopy
import Derived.Deep.RegionLaw
import Derived.Lib.SliceRun
import Derived.Maps.AppendAt
import Derived.Laws.MakeOwn
import Derived.Deep.LoopGhost
import Derived.Deep.Cut
import Derived.Lib.LazyBuf
import Derived.BigQuiet
import Derived.ProofKit
import Derived.OpenShut
import Derived.ChangeMaps5
import Derived.LaidMore
import Derived.LaidLaws
import Derived.Stop.LaidErr
import Derived.Lib.LaidTab
import Derived.Lib.SmallJoins
import Derived.Shelf.Vars
import Derived.Deep.Slices
import Derived.Deep.DeepHandedRow
import Derived.SevenTiedAt
import Derived.ChangeOld
import Derived.Below
import Derived.Test.YtifnkmddinoneaaGreatDoorCBAF
import Derived.Test.YtifnkmddinoneaaGreatDoorCBAC
import Derived.Test.YtifnkmddinoneaaGreatDoorCBAA
import Derived.Test.YtifnkmddinoneaaGreatDoorCBAB
import Derived.Test.YtifnkmddinoneaaGreatDoorCBAE
import Derived.Test.YtifnkmddinoneaaGreatDoorCBAD
import Derived.Test.YtifnkmddinoneaaGreatDoorCDAA
import Derived.Test.YtifnkmddinoneaaGreatDoorCDAE
set_option maxRecDepth 100000
namespace Go.Proofs.YtifnkmddinoneaaGreatDoor.engineDeep
open Go.ChangeShapes Go.WideShapes Go.ChangeAt Go.RowKit Go.ChangeMaps
set_option linter.unusedVariables false

theorem own : ownKnob Tryz.prog.godebug = none := by kernel_rfl
theorem laidOut : laidOutB Tryz.prog = true := by kernel_rfl
set_option maxRecDepth 100000 in
set_option maxHeartbeats 4000000 in
theorem lifted (os : Os) (started : os.Started) (H : Type) (enc : TypeId × Value → H) :
    ReturnsInHanded {} Tryz.checked os 9 .any ((OpenSpec.ofChange Rows.engineDeepSpec).preRow enc Tryz.prog Tryz.f9 [] false Rows.engineDeepRow.laid) (Rows.engineDeepSpec.post enc Tryz.prog Tryz.f9 false true false false) := by
  refine returnsInHanded_of_row (C := Tryz.checked) (s := OpenSpec.ofChange Rows.engineDeepSpec) (F := fun _ _ _ => 0) (laid := Rows.engineDeepRow.laid) own started (by kernel_rfl) Tryz.func9
    (ChangeSpec.witness_shaped (enc := enc) (C := Tryz.checked) (os := os) (X := fun w _ => laidMetH Tryz.prog Rows.engineDeepRow.laid w) false (World.doorLaid Tryz.prog 65 os) #[.int .u8 0] 8 rfl (door_shaped os _) (by kernel_rfl) (by kernel_rfl) (by kernel_rfl) (door_met4 os _)) ?_
  intro W base args ds gs before hval0 hW _ _ _ hL hsh _
  have hval : ∀ (j : Nat) t v, Tryz.f9.params[j]? = some t → args[j]? = some v → Value.okWide Tryz.prog W .any base t v := hval0
  have hW' := hW
  obtain ⟨p, q, hA0, hV0, rfl, hfz, hnd⟩ := hW
  have hA : DataW.TrodAll enc Tryz.prog W 0 (fun _ => true) true Tryz.f9.params.toList args.toList ds p := hA0
  have hV : DataW.TrodVars enc Tryz.prog W (fun _ => true) [] gs q := hV0
  rw [Tryz.params9] at hA hval
  obtain ⟨v0, vs0, d0, ds0, p0, q0, hargs, rfl, rfl, h0, r0⟩ := trodAll_cons hA
  obtain ⟨rfl, rfl, rfl⟩ := trodAll_nil r0
  obtain rfl : args = #[v0] := by cases args; simp_all
  obtain ⟨rfl, rfl⟩ := trodVars_none hV
  have k0 := h0
  have lt0 : ∀ x ∈ p0, x.block < W.heap.size := by obtain ⟨m, hm⟩ := k0; exact DataW.trod_lt m _ _ _ hm
  obtain ⟨b0, rfl, rfl, rfl, w0⟩ := open_int Tryz.underlying5 (hval 0 5 v0 rfl rfl) h0
  clear hA0 hval0
  have hgood : Good W ∧ L10.Good W := good_of_laid hL
  simp only [List.append_nil] at hW'
  refine (deep_walk hgood.1 hgood.2 b0 w0).mono fun e W' ⟨he, hx⟩ => ?_
  have bel := hx.below
  subst he
  exact ⟨_, rfl, _, _, _, [], _, [], hW', trodAll_mk1 (shut_bool Tryz.underlying4 _), (trodAll_cons_mk (Below.trod laidOut (by kernel_rfl) (of_decide_eq_true (by kernel_rfl)) k0 bel lt0) trodAll_mk0), rfl, bel.frame _, fun h => by cases h⟩
theorem over : Rows.engineDeepRow.holds Tryz.pinned (OpenSpec.ofChange Rows.engineDeepSpec) :=
  OpenClaim.holds_of_wide 9 Tryz.f9 rfl rfl rfl rfl rfl rfl rfl ⟨rfl, rfl, rfl, rfl, rfl⟩ rfl rfl rfl rfl rfl fnamed Tryz.func9 joined
    instanced wrapped
    (fun os started H enc _ => lifted os started H enc)
theorem plain_types : ∀ (j : Nat) t, Tryz.f9.params[j]? = some t → Tryz.prog.wantsStandIn t = false := fun j t ht => by
  rw [Tryz.params9] at ht
  have h := Array.mem_of_getElem? ht
  have k : (#[5] : Array TypeId).all (fun t => !Tryz.prog.wantsStandIn t) = true := by kernel_rfl
  have := Array.all_eq_true_iff_forall_mem.1 k t h
  simpa using this
theorem proved : Rows.EngineDeepCardSaid :=
  Claim7.holds_tied_plain_at .later [] [.data, .data, .data, .data] true (true, "ce0f2b5de0405c625a639c1a342959adda17fa2dfebf46affe7e9befdf4cdcc9") false
    over (fun _ h => by cases h) wfText (fun _ h => by cases h) engineDeep_row_tie rfl ⟨rfl, rfl⟩ main15 rfl
    (fun f fn hf hfn => by
      obtain rfl : f = 9 := (Option.some.inj (fnamed.symm.trans hf)).symm
      obtain rfl : fn = Tryz.f9 := (Option.some.inj (Tryz.func9.symm.trans hfn)).symm
      exact ⟨looks15, plain_types⟩)
    goes
#print axioms proved
end Go.Proofs.YtifnkmddinoneaaGreatDoor.engineDeep
