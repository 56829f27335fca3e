/- Layer 9: the program's endWith; the rows of pointers cleared and cut. Condition: as each says. -/
import Derived.Test.YtldnpppbnakcoaaBA
namespace Go.Proofs.Ytldnpppbnakcoaa
open Go.RowKit
set_option linter.unusedVariables false

def updF (f : Int → Option Nat) (l : Int) (o : Option Nat) : Int → Option Nat := fun n => if n = l then o else f n
/-- A delete: a name, so that the walk lays nothing open. -/
def delMap (ty : TypeId) (xs : Array Value) : Sem Value := Builtin.delete_ #[66, 3] ty xs
@[go_sem ↓ high] theorem builtin_delMap (ty : TypeId) (cs : Array Bool) (xs : Array Value) : builtin .delete #[66, 3] ty cs xs = (do pure (.value (← delMap ty xs))) := rfl
theorem end_calls {w : World} {p b : Nat} {f : Int → Option Nat} (c1 : w.cell? ⟨p, 1, none⟩ = some (.map (some b))) (mp : MapP w b f) (l : Int) (o : Option Nat) :
    Calls Try.prog 55 #[PtD p, .int .i64 l, ptO o] w fun e w' => (∃ v, e = .returned v) ∧ MapP w' b (updF f l o) ∧ Mod [b] w w' := by
  cases o with
  | none =>
    have hd : ∀ ty, ∃ w', (delMap ty #[.map (some b), .int .i64 l]).run Try.prog w = .ok (.tuple #[]) w' ∧ MapP w' b (updF f l none) ∧ Mod [b] w w' := fun ty => mp.cut (P := Try.prog) Try.underlying66 Try.underlying3 l 3 ty
    obtain ⟨w', h1, h2, h3⟩ := hd 0
    have H := Lib.hid (And.intro h2 h3)
    clear hd mp h2 h3
    show Calls Try.prog 55 #[PtD p, .int .i64 l, .pointer none] w _
    go_enter Try.func55, Try.ntmps55
    go_wp2_with fail
    refine bodyPost_ret (results_none rfl _ _ _) rfl ?_
    exact ⟨⟨_, rfl⟩, H.out.1, H.out.2⟩
  | some q =>
    obtain ⟨w', h1, h2, h3⟩ := mp.put (P := Try.prog) Try.underlying66 Try.underlying3 l q
    have H := Lib.hid (And.intro (show MapP w' b (updF f l (some q)) from h2) h3)
    clear mp h2 h3
    show Calls Try.prog 55 #[PtD p, .int .i64 l, PtW q] w _
    go_enter Try.func55, Try.ntmps55
    go_wp2_with fail
    go_end0
    exact ⟨⟨_, rfl⟩, H.out.1, H.out.2⟩
theorem row_clear {e : TypeId} {g n cap : Nat} {xs : List Value} (z : Value) : ∀ (c o : Nat) {w : World}, w.ownsRow 0 e 1 (.slice (some ⟨g, 0, none⟩) n cap) n xs → xs.length ≤ o → (w.setCells g o (List.replicate c z)).ownsRow 0 e 1 (.slice (some ⟨g, 0, none⟩) n cap) n xs
  | 0, _, _, h, _ => h
  | c + 1, o, w, h, ho => by
    have h1 := (World.ownsRow.stored h o z).1
    rw [List.set_eq_of_length_le ho] at h1
    exact row_clear z c (o + 1) (w := w.setCell ⟨g, o, none⟩ z) (by simpa using h1) (by omega)
end Go.Proofs.Ytldnpppbnakcoaa
