/- Layer 14: FramePlays. No condition. -/
import Derived.Test.YtacmidlhfcnkiaaHV
import Derived.Test.YtacmidlhfcnkiaaHR
namespace Go.Proofs.Ytacmidlhfcnkiaa
open Go.RowKit

theorem plays_walk (w : World) (A : Option Addr) (len cap : Nat) (R : ActsIn w A len cap) :
    Calls Try.prog 3 #[.slice A len cap] w fun e w' => e = .returned (.bool true) ∧ Mod [] w w' :=
  plays_of (does_all fun h u hu f s n x => does_set h u hu f s n x) w A len cap R
end Go.Proofs.Ytacmidlhfcnkiaa
