/- Layer 13: maps.Copy: what is copied is there behind it, in whatever order it came. Condition: the two maps share no key. -/
import Derived.Laws.EntriesVeiled
import Derived.Test.YtifnkmddinoneaaGreatDoorCBAC
set_option maxRecDepth 100000
namespace Go.Proofs.YtifnkmddinoneaaGreatDoor
open Go.RowKit
set_option linter.unusedVariables false

/-- An operation as a value: how many cells it takes, and a function. -/
def IsOp (v : Value) : Prop := ∃ (k : Int) (F : FuncId) (x y : Array Value), v = .agg #[.int .i64 k, .func (.func F) x y]
theorem orV_upd {f g : Int → Option Value} {k : Int} {v : Value} (h : f k = none) : orV f (updV g k v) = updV (orV f g) k v := by
  funext n
  unfold orV updV
  by_cases hn : n = k
  · subst hn; simp [h]
  · simp [hn]
theorem orV_no {f g : Int → Option Value} {k : Int} (h : f k = none) (hg : g k = none) : orV f g k = none := by simp [orV, h, hg]
theorem next_ty (v : Value) (ty ty' : TypeId) : Instr.next v false ty = Instr.next v false ty' := rfl
set_option maxHeartbeats 2000000 in
set_option maxRecDepth 10000 in
theorem copy_calls {w : World} {bd bs : Nat} {f g : Int → Option Value} (hd : MapV w bd f) (hs : MapV w bs g) (hne : bd ≠ bs) (hop : ∀ n v, g n = some v → IsOp v ∧ f n = none) :
    Calls Tryz.prog 74 #[.map (some bd), .map (some bs)] w fun e w' => e = .returned (.tuple #[]) ∧ MapV w' bd (orV f g) ∧ Mod [bd] w w' := by
  obtain ⟨o, hrun, n0, hit⟩ := hs.range (P := Tryz.prog) Tryz.underlying96
  have hd0 := hd.far ((Mod.refl [] w).alloc o)
  have hm0 : Mod [bd] w (w.alloc o) := (Mod.refl _ w).alloc o
  obtain ⟨r, hr⟩ : ∃ r, r = w.heap.size := ⟨_, rfl⟩
  have hbd := hd.lt
  have hbs := hs.lt
  rw [← hr] at hrun hit hbd hbs
  have HR := Lib.hid hr
  have HO := Lib.hid hop
  clear hr hop hd hs
  go_enter Tryz.func74, Tryz.ntmps74
  go_wp2
  go_loopw [11] (fun _ wr => ∃ (h : Int → Option Value) (n : Nat), Iter wr bs r g h n ∧ MapV wr bd (orV f h) ∧ Mod [bd] w wr) (fun _ wr => iterLeft wr bs r)
  case atStart => exact ⟨_, n0, hit, by rw [show orV f (fun _ => none) = f by funext n; unfold orV; cases f n <;> rfl]; exact hd0, hm0⟩
  case round =>
    obtain ⟨h, n, hi, hmv, hm⟩ := hrel
    rcases hi.next (P := Tryz.prog) 4 with ⟨rfl, hx⟩ | ⟨k, v, w1, hgk, hhk, hx, hen, ⟨m, hmn, hi1⟩, hm1⟩
    · have hx' : ∀ ty, (Instr.next (.pointer (some ⟨r, 0, none⟩)) false ty).run Tryz.prog wr = _ := fun ty => (congrArg (fun s => Sem.run Tryz.prog s wr) (next_ty _ ty 4)).trans hx
      go_wp2
      go_end0
      exact ⟨rfl, hmv, hm⟩
    · have hx' : ∀ ty, (Instr.next (.pointer (some ⟨r, 0, none⟩)) false ty).run Tryz.prog wr = _ := fun ty => (congrArg (fun s => Sem.run Tryz.prog s wr) (next_ty _ ty 4)).trans hx
      obtain ⟨⟨kk, F, x, y, rfl⟩, hfk⟩ := HO.out k v hgk
      have hbr : bd ≠ r := by rw [HR.out]; have := hbd; rw [HR.out] at this; omega
      have hl1 := hi1.lt
      have mv1 := hmv.mod hm1 (by simpa using hbr)
      have M1 := hm.far1 hm1 (Nat.le_of_eq HR.out.symm)
      generalize hW : w1.alloc (.cells #[.int .i64 kk, .func (.func F) x y] 142) = W2
      have mA : Mod [] w1 W2 := hW ▸ (Mod.refl [] w1).alloc _
      obtain ⟨w3, hput, mv3, M3⟩ := (mv1.far mA).put (P := Tryz.prog) Tryz.underlying96 Tryz.underlying3 k (.agg #[.int .i64 kk, .func (.func F) x y]) (orV_no hfk hhk)
      have hi3 := (hi1.mod mA (by simp) (by simp)).mod M3 (by simpa using Ne.symm hne) (by simpa using Ne.symm hbr)
      have mT := (M1.far mA).then M3 (by simp)
      have hc0 : W2.cell? ⟨w1.heap.size, 0, none⟩ = some (.int .i64 kk) := by rw [← hW, World.cell?_alloc_new]; rfl
      have hc1 : W2.cell? ⟨w1.heap.size, 1, none⟩ = some (.func (.func F) x y) := by rw [← hW, World.cell?_alloc_new]; rfl
      rw [← orV_upd hfk] at mv3
      have HH := Lib.hid (And.intro hi3 (And.intro mv3 (And.intro mT (And.intro hi1.left_eq (And.intro hi.left_eq hmn)))))
      clear hi hmv hm hi1 mv1 M1 mv3 M3 hi3 mT hx hm1
      go_wp2
      go_roundw
      case rel => exact ⟨_, m, HH.out.1, HH.out.2.1, HH.out.2.2.1⟩
      case measure => rw [HH.out.1.left_eq, HH.out.2.2.2.2.1]; exact HH.out.2.2.2.2.2
end Go.Proofs.YtifnkmddinoneaaGreatDoor
