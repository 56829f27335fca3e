/- Layer 13: what the operations on the memory do. Condition: what the memory's own calls answer is given. Layer 13: the methods on the memory: adding, pairs of cells, counted bytes; the cell, the byte at a place; where data is given out. Condition: what the memory's own calls answer is given. -/
import Derived.Test.YtegcecpmdgljpaaGreatDoorUO
namespace Go.Proofs.YtegcecpmdgljpaaGreatDoor
open Go.RowKit
set_option linter.unusedVariables false

/-- A byte of a cell. -/
def bt (x : Int) : UInt8 := UInt8.ofNat (x % 256).toNat
theorem bt_is (x : Int) : IntKind.u8.wrap x = ((bt x).toNat : Int) := by
  have h : IntKind.u8.wrap x = x % 256 := by simp [IntKind.wrap, IntKind.bits, IntKind.signed]
  rw [h]
  unfold bt
  rw [UInt8.toNat_ofNat']
  omega
/-- f at the memory answers v and leaves the bytes B', h'. -/
def MT (f : FuncId) (xs : List Value) (v : Value) (B : List UInt8) (h : Int) (B' : List UInt8) (h' : Int) : Prop :=
  ∀ W p q, Mm W p q B h → Calls Tryz.prog f (Pt p :: xs).toArray W fun e w' => e = .returned v ∧ Mm w' p q B' h' ∧ Mod [p, q] W w'
theorem MT.kept {f : FuncId} {xs : List Value} {v : Value} {B B' : List UInt8} {h h' : Int} (H : ∀ W p q, Mm W p q B h → Calls Tryz.prog f (Pt p :: xs).toArray W fun e w' => e = .returned v ∧ Mm w' p q B' h' ∧ Kept p q W w') : MT f xs v B h B' h' := fun W p q m =>
  (H W p q m).mono fun e w' ⟨a, b, c⟩ => ⟨a, b, c.mod⟩
theorem MT.same {f : FuncId} {xs : List Value} {v : Value} {B : List UInt8} {h : Int} (H : ∀ W p q, Mm W p q B h → Calls Tryz.prog f (Pt p :: xs).toArray W fun e w' => e = .returned v ∧ W = w') : MT f xs v B h B h := fun W p q m =>
  (H W p q m).mono fun e w' ⟨a, b⟩ => ⟨a, b ▸ m, b ▸ Mod.refl _ _⟩
/-- A method of the state ended with an error er. -/
def MethE (a : Ad) (T : List Nat) (W : World) (er : Int) (R : List Int) (μ : Mu) (e : Ending) (w' : World) : Prop := ∃ T', e = .returned (.int .i64 er) ∧ Tn T T' W w' ∧ Stt w' a T' R μ
theorem Stt.mt {w : World} {a : Ad} {T : List Nat} {C : List Int} {μ : Mu} (h : Stt w a T C μ) {w' : World} {B' : List UInt8} {h' : Int} (hm : Mm w' a.m a.q B' h') (k : Mod [a.m, a.q] w w') : Tn T T w w' ∧ Stt w' a T C { μ with B := B', h := h' } :=
  ⟨.of_mod k (by simp; exact ⟨h.ts.2.2.1, h.ts.2.2.2⟩), h.mem k hm⟩
set_option maxHeartbeats 4000000 in
set_option maxRecDepth 100000 in
theorem act_74_of (x y : Int) (er : Int) (B1 : List UInt8) (h1 : Int) (μ : Mu) (H : MT 66 [.int .i64 y, .int .i64 x] (.int .i64 er) μ.B μ.h B1 h1) : Uni 74 2 [x, y] μ [] er { μ with B := B1, h := h1 } := fun a R => act_self rfl fun w T b c bx h ho hb hlo hbx hc => by
  have c0 : w.cell? ⟨b, 0, none⟩ = some (.int .i64 x) := ho.cell 0 (by simp)
  have c1 : w.cell? ⟨b, 1, none⟩ = some (.int .i64 y) := ho.cell 1 (by simp)
  have hW : Mod [] w w.drew := (Mod.refl [] w).drew
  have h0 := h.far hW
  have s1 := h.c1
  have HC := Lib.hid (H w.drew a.m a.q h0.mm)
  have nb : b ∉ [a.m, a.q] := by simp; exact ⟨fun e => hb (e ▸ h.ts.2.2.1), fun e => hb (e ▸ h.ts.2.2.2)⟩
  have nx : bx ∉ [a.m, a.q] := by simp; exact ⟨fun e => hbx (e ▸ h.ts.2.2.1), fun e => hbx (e ▸ h.ts.2.2.2)⟩
  have ns : a.s ∉ [a.m, a.q] := by simp; exact ⟨h.ne.2.1, h.ne.2.2.1⟩
  have HH := Lib.hid h0
  clear ho H h0 h
  go_enter Tryz.func128, Tryz.ntmps128
  go_wp2_with fail
  go_region_held3 (fun W => W.cell? ⟨bx, 0, none⟩ = some (Pt a.s) ∧ W.cell? ⟨a.s, 1, none⟩ = some (Pt a.m) ∧ W.cell? ⟨b, 0, none⟩ = some (.int .i64 x) ∧ W.cell? ⟨b, 1, none⟩ = some (.int .i64 y)) (first | with_reducible exact ⟨hW.cell (x := ⟨bx, 0, none⟩) (by simp) hc, hW.cell (x := ⟨a.s, 1, none⟩) (by simp) s1, hW.cell (x := ⟨b, 0, none⟩) (by simp) c0, hW.cell (x := ⟨b, 1, none⟩) (by simp) c1⟩ | with_reducible exact ⟨hm2.cell (x := ⟨bx, 0, none⟩) nx (hW.cell (x := ⟨bx, 0, none⟩) (by simp) hc), hm2.cell (x := ⟨a.s, 1, none⟩) ns (hW.cell (x := ⟨a.s, 1, none⟩) (by simp) s1), hm2.cell (x := ⟨b, 0, none⟩) nb (hW.cell (x := ⟨b, 0, none⟩) (by simp) c0), hm2.cell (x := ⟨b, 1, none⟩) nb (hW.cell (x := ⟨b, 1, none⟩) (by simp) c1)⟩ | fail)
    (first | ((with_reducible refine (HC.out).mono ?_); rintro e w2 ⟨rfl, hmm, hm2⟩) | fail)
  go_wp2
  go_ret2
  obtain ⟨tn, h2⟩ := HH.out.mt hmm hm2
  exact ⟨none, 0, 0, T, rfl, rfl, Sl.nil _ _, (Tn.far hW).trans tn, h2⟩
set_option maxHeartbeats 4000000 in
set_option maxRecDepth 100000 in
theorem act_76_of (x y : Int) (er : Int) (B1 : List UInt8) (h1 : Int) (μ : Mu) (H : MT 132 [.int .i64 y, .int .u8 ((bt x).toNat : Int)] (.int .i64 er) μ.B μ.h B1 h1) : Uni 76 2 [x, y] μ [] er { μ with B := B1, h := h1 } := fun a R => act_self rfl fun w T b c bx h ho hb hlo hbx hc => by
  have c0 : w.cell? ⟨b, 0, none⟩ = some (.int .i64 x) := ho.cell 0 (by simp)
  have c1 : w.cell? ⟨b, 1, none⟩ = some (.int .i64 y) := ho.cell 1 (by simp)
  have hW : Mod [] w w.drew := (Mod.refl [] w).drew
  have h0 := h.far hW
  have hbt := bt_is x
  have s1 := h.c1
  have HC := Lib.hid (H w.drew a.m a.q h0.mm)
  have nb : b ∉ [a.m, a.q] := by simp; exact ⟨fun e => hb (e ▸ h.ts.2.2.1), fun e => hb (e ▸ h.ts.2.2.2)⟩
  have nx : bx ∉ [a.m, a.q] := by simp; exact ⟨fun e => hbx (e ▸ h.ts.2.2.1), fun e => hbx (e ▸ h.ts.2.2.2)⟩
  have ns : a.s ∉ [a.m, a.q] := by simp; exact ⟨h.ne.2.1, h.ne.2.2.1⟩
  have HH := Lib.hid h0
  clear ho H h0 h
  go_enter Tryz.func131, Tryz.ntmps131
  go_wp2_with fail
  go_region_held3 (fun W => W.cell? ⟨bx, 0, none⟩ = some (Pt a.s) ∧ W.cell? ⟨a.s, 1, none⟩ = some (Pt a.m) ∧ W.cell? ⟨b, 0, none⟩ = some (.int .i64 x) ∧ W.cell? ⟨b, 1, none⟩ = some (.int .i64 y)) (first | with_reducible exact ⟨hW.cell (x := ⟨bx, 0, none⟩) (by simp) hc, hW.cell (x := ⟨a.s, 1, none⟩) (by simp) s1, hW.cell (x := ⟨b, 0, none⟩) (by simp) c0, hW.cell (x := ⟨b, 1, none⟩) (by simp) c1⟩ | with_reducible exact ⟨hm2.cell (x := ⟨bx, 0, none⟩) nx (hW.cell (x := ⟨bx, 0, none⟩) (by simp) hc), hm2.cell (x := ⟨a.s, 1, none⟩) ns (hW.cell (x := ⟨a.s, 1, none⟩) (by simp) s1), hm2.cell (x := ⟨b, 0, none⟩) nb (hW.cell (x := ⟨b, 0, none⟩) (by simp) c0), hm2.cell (x := ⟨b, 1, none⟩) nb (hW.cell (x := ⟨b, 1, none⟩) (by simp) c1)⟩ | fail)
    (first | ((with_reducible refine (HC.out).mono ?_); rintro e w2 ⟨rfl, hmm, hm2⟩) | fail)
  go_wp2
  go_ret2
  obtain ⟨tn, h2⟩ := HH.out.mt hmm hm2
  exact ⟨none, 0, 0, T, rfl, rfl, Sl.nil _ _, (Tn.far hW).trans tn, h2⟩
set_option maxHeartbeats 4000000 in
set_option maxRecDepth 100000 in
theorem act_80_of (x y z : Int) (er : Int) (B1 : List UInt8) (h1 : Int) (μ : Mu) (H : MT 140 [.int .i64 x, .int .i64 y, .int .u8 ((bt z).toNat : Int)] (.int .i64 er) μ.B μ.h B1 h1) : Uni 80 3 [x, y, z] μ [] er { μ with B := B1, h := h1 } := fun a R => act_self rfl fun w T b c bx h ho hb hlo hbx hc => by
  have c0 : w.cell? ⟨b, 0, none⟩ = some (.int .i64 x) := ho.cell 0 (by simp)
  have c1 : w.cell? ⟨b, 1, none⟩ = some (.int .i64 y) := ho.cell 1 (by simp)
  have c2 : w.cell? ⟨b, 2, none⟩ = some (.int .i64 z) := ho.cell 2 (by simp)
  have hW : Mod [] w w.drew := (Mod.refl [] w).drew
  have h0 := h.far hW
  have hbt := bt_is z
  have s1 := h.c1
  have HC := Lib.hid (H w.drew a.m a.q h0.mm)
  have nb : b ∉ [a.m, a.q] := by simp; exact ⟨fun e => hb (e ▸ h.ts.2.2.1), fun e => hb (e ▸ h.ts.2.2.2)⟩
  have nx : bx ∉ [a.m, a.q] := by simp; exact ⟨fun e => hbx (e ▸ h.ts.2.2.1), fun e => hbx (e ▸ h.ts.2.2.2)⟩
  have ns : a.s ∉ [a.m, a.q] := by simp; exact ⟨h.ne.2.1, h.ne.2.2.1⟩
  have HH := Lib.hid h0
  clear ho H h0 h
  go_enter Tryz.func139, Tryz.ntmps139
  go_wp2_with fail
  go_region_held3 (fun W => W.cell? ⟨bx, 0, none⟩ = some (Pt a.s) ∧ W.cell? ⟨a.s, 1, none⟩ = some (Pt a.m) ∧ W.cell? ⟨b, 0, none⟩ = some (.int .i64 x) ∧ W.cell? ⟨b, 1, none⟩ = some (.int .i64 y) ∧ W.cell? ⟨b, 2, none⟩ = some (.int .i64 z)) (first | with_reducible exact ⟨hW.cell (x := ⟨bx, 0, none⟩) (by simp) hc, hW.cell (x := ⟨a.s, 1, none⟩) (by simp) s1, hW.cell (x := ⟨b, 0, none⟩) (by simp) c0, hW.cell (x := ⟨b, 1, none⟩) (by simp) c1, hW.cell (x := ⟨b, 2, none⟩) (by simp) c2⟩ | with_reducible exact ⟨hm2.cell (x := ⟨bx, 0, none⟩) nx (hW.cell (x := ⟨bx, 0, none⟩) (by simp) hc), hm2.cell (x := ⟨a.s, 1, none⟩) ns (hW.cell (x := ⟨a.s, 1, none⟩) (by simp) s1), hm2.cell (x := ⟨b, 0, none⟩) nb (hW.cell (x := ⟨b, 0, none⟩) (by simp) c0), hm2.cell (x := ⟨b, 1, none⟩) nb (hW.cell (x := ⟨b, 1, none⟩) (by simp) c1), hm2.cell (x := ⟨b, 2, none⟩) nb (hW.cell (x := ⟨b, 2, none⟩) (by simp) c2)⟩ | fail)
    (first | ((with_reducible refine (HC.out).mono ?_); rintro e w2 ⟨rfl, hmm, hm2⟩) | fail)
  go_wp2
  go_ret2
  obtain ⟨tn, h2⟩ := HH.out.mt hmm hm2
  exact ⟨none, 0, 0, T, rfl, rfl, Sl.nil _ _, (Tn.far hW).trans tn, h2⟩
set_option maxHeartbeats 4000000 in
set_option maxRecDepth 100000 in
theorem act_81_of (x y z : Int) (er : Int) (B1 : List UInt8) (h1 : Int) (μ : Mu) (H : MT 142 [.int .i64 x, .int .i64 y, .int .i64 z] (.int .i64 er) μ.B μ.h B1 h1) : Uni 81 3 [x, y, z] μ [] er { μ with B := B1, h := h1 } := fun a R => act_self rfl fun w T b c bx h ho hb hlo hbx hc => by
  have c0 : w.cell? ⟨b, 0, none⟩ = some (.int .i64 x) := ho.cell 0 (by simp)
  have c1 : w.cell? ⟨b, 1, none⟩ = some (.int .i64 y) := ho.cell 1 (by simp)
  have c2 : w.cell? ⟨b, 2, none⟩ = some (.int .i64 z) := ho.cell 2 (by simp)
  have hW : Mod [] w w.drew := (Mod.refl [] w).drew
  have h0 := h.far hW
  have s1 := h.c1
  have HC := Lib.hid (H w.drew a.m a.q h0.mm)
  have nb : b ∉ [a.m, a.q] := by simp; exact ⟨fun e => hb (e ▸ h.ts.2.2.1), fun e => hb (e ▸ h.ts.2.2.2)⟩
  have nx : bx ∉ [a.m, a.q] := by simp; exact ⟨fun e => hbx (e ▸ h.ts.2.2.1), fun e => hbx (e ▸ h.ts.2.2.2)⟩
  have ns : a.s ∉ [a.m, a.q] := by simp; exact ⟨h.ne.2.1, h.ne.2.2.1⟩
  have HH := Lib.hid h0
  clear ho H h0 h
  go_enter Tryz.func141, Tryz.ntmps141
  go_wp2_with fail
  go_region_held3 (fun W => W.cell? ⟨bx, 0, none⟩ = some (Pt a.s) ∧ W.cell? ⟨a.s, 1, none⟩ = some (Pt a.m) ∧ W.cell? ⟨b, 0, none⟩ = some (.int .i64 x) ∧ W.cell? ⟨b, 1, none⟩ = some (.int .i64 y) ∧ W.cell? ⟨b, 2, none⟩ = some (.int .i64 z)) (first | with_reducible exact ⟨hW.cell (x := ⟨bx, 0, none⟩) (by simp) hc, hW.cell (x := ⟨a.s, 1, none⟩) (by simp) s1, hW.cell (x := ⟨b, 0, none⟩) (by simp) c0, hW.cell (x := ⟨b, 1, none⟩) (by simp) c1, hW.cell (x := ⟨b, 2, none⟩) (by simp) c2⟩ | with_reducible exact ⟨hm2.cell (x := ⟨bx, 0, none⟩) nx (hW.cell (x := ⟨bx, 0, none⟩) (by simp) hc), hm2.cell (x := ⟨a.s, 1, none⟩) ns (hW.cell (x := ⟨a.s, 1, none⟩) (by simp) s1), hm2.cell (x := ⟨b, 0, none⟩) nb (hW.cell (x := ⟨b, 0, none⟩) (by simp) c0), hm2.cell (x := ⟨b, 1, none⟩) nb (hW.cell (x := ⟨b, 1, none⟩) (by simp) c1), hm2.cell (x := ⟨b, 2, none⟩) nb (hW.cell (x := ⟨b, 2, none⟩) (by simp) c2)⟩ | fail)
    (first | ((with_reducible refine (HC.out).mono ?_); rintro e w2 ⟨rfl, hmm, hm2⟩) | fail)
  go_wp2
  go_ret2
  obtain ⟨tn, h2⟩ := HH.out.mt hmm hm2
  exact ⟨none, 0, 0, T, rfl, rfl, Sl.nil _ _, (Tn.far hW).trans tn, h2⟩
set_option maxHeartbeats 4000000 in
set_option maxRecDepth 100000 in
theorem act_83_of (x : Int) (er : Int) (B1 : List UInt8) (h1 : Int) (μ : Mu) (H : MT 65 [.int .i64 x] (.int .i64 er) μ.B μ.h B1 h1) : Uni 83 1 [x] μ [] er { μ with B := B1, h := h1 } := fun a R => act_self rfl fun w T b c bx h ho hb hlo hbx hc => by
  have c0 : w.cell? ⟨b, 0, none⟩ = some (.int .i64 x) := ho.cell 0 (by simp)
  have hW : Mod [] w w.drew := (Mod.refl [] w).drew
  have h0 := h.far hW
  have s1 := h.c1
  have HC := Lib.hid (H w.drew a.m a.q h0.mm)
  have nb : b ∉ [a.m, a.q] := by simp; exact ⟨fun e => hb (e ▸ h.ts.2.2.1), fun e => hb (e ▸ h.ts.2.2.2)⟩
  have nx : bx ∉ [a.m, a.q] := by simp; exact ⟨fun e => hbx (e ▸ h.ts.2.2.1), fun e => hbx (e ▸ h.ts.2.2.2)⟩
  have ns : a.s ∉ [a.m, a.q] := by simp; exact ⟨h.ne.2.1, h.ne.2.2.1⟩
  have HH := Lib.hid h0
  clear ho H h0 h
  go_enter Tryz.func148, Tryz.ntmps148
  go_wp2_with fail
  go_region_held3 (fun W => W.cell? ⟨bx, 0, none⟩ = some (Pt a.s) ∧ W.cell? ⟨a.s, 1, none⟩ = some (Pt a.m) ∧ W.cell? ⟨b, 0, none⟩ = some (.int .i64 x)) (first | with_reducible exact ⟨hW.cell (x := ⟨bx, 0, none⟩) (by simp) hc, hW.cell (x := ⟨a.s, 1, none⟩) (by simp) s1, hW.cell (x := ⟨b, 0, none⟩) (by simp) c0⟩ | with_reducible exact ⟨hm2.cell (x := ⟨bx, 0, none⟩) nx (hW.cell (x := ⟨bx, 0, none⟩) (by simp) hc), hm2.cell (x := ⟨a.s, 1, none⟩) ns (hW.cell (x := ⟨a.s, 1, none⟩) (by simp) s1), hm2.cell (x := ⟨b, 0, none⟩) nb (hW.cell (x := ⟨b, 0, none⟩) (by simp) c0)⟩ | fail)
    (first | ((with_reducible refine (HC.out).mono ?_); rintro e w2 ⟨rfl, hmm, hm2⟩) | fail)
  go_wp2
  go_ret2
  obtain ⟨tn, h2⟩ := HH.out.mt hmm hm2
  exact ⟨none, 0, 0, T, rfl, rfl, Sl.nil _ _, (Tn.far hW).trans tn, h2⟩
set_option maxHeartbeats 4000000 in
set_option maxRecDepth 100000 in
theorem act_84_of (x : Int) (er : Int) (B1 : List UInt8) (h1 : Int) (μ : Mu) (H : MT 40 [.int .i64 x] (.int .i64 er) μ.B μ.h B1 h1) : Uni 84 1 [x] μ [] er { μ with B := B1, h := h1 } := fun a R => act_self rfl fun w T b c bx h ho hb hlo hbx hc => by
  have c0 : w.cell? ⟨b, 0, none⟩ = some (.int .i64 x) := ho.cell 0 (by simp)
  have hW : Mod [] w w.drew := (Mod.refl [] w).drew
  have h0 := h.far hW
  have s1 := h.c1
  have HC := Lib.hid (H w.drew a.m a.q h0.mm)
  have nb : b ∉ [a.m, a.q] := by simp; exact ⟨fun e => hb (e ▸ h.ts.2.2.1), fun e => hb (e ▸ h.ts.2.2.2)⟩
  have nx : bx ∉ [a.m, a.q] := by simp; exact ⟨fun e => hbx (e ▸ h.ts.2.2.1), fun e => hbx (e ▸ h.ts.2.2.2)⟩
  have ns : a.s ∉ [a.m, a.q] := by simp; exact ⟨h.ne.2.1, h.ne.2.2.1⟩
  have HH := Lib.hid h0
  clear ho H h0 h
  go_enter Tryz.func149, Tryz.ntmps149
  go_wp2_with fail
  go_region_held3 (fun W => W.cell? ⟨bx, 0, none⟩ = some (Pt a.s) ∧ W.cell? ⟨a.s, 1, none⟩ = some (Pt a.m) ∧ W.cell? ⟨b, 0, none⟩ = some (.int .i64 x)) (first | with_reducible exact ⟨hW.cell (x := ⟨bx, 0, none⟩) (by simp) hc, hW.cell (x := ⟨a.s, 1, none⟩) (by simp) s1, hW.cell (x := ⟨b, 0, none⟩) (by simp) c0⟩ | with_reducible exact ⟨hm2.cell (x := ⟨bx, 0, none⟩) nx (hW.cell (x := ⟨bx, 0, none⟩) (by simp) hc), hm2.cell (x := ⟨a.s, 1, none⟩) ns (hW.cell (x := ⟨a.s, 1, none⟩) (by simp) s1), hm2.cell (x := ⟨b, 0, none⟩) nb (hW.cell (x := ⟨b, 0, none⟩) (by simp) c0)⟩ | fail)
    (first | ((with_reducible refine (HC.out).mono ?_); rintro e w2 ⟨rfl, hmm, hm2⟩) | fail)
  go_wp2
  go_ret2
  obtain ⟨tn, h2⟩ := HH.out.mt hmm hm2
  exact ⟨none, 0, 0, T, rfl, rfl, Sl.nil _ _, (Tn.far hW).trans tn, h2⟩
set_option maxHeartbeats 4000000 in
set_option maxRecDepth 100000 in
theorem act_85_of (x : Int) (er : Int) (B1 : List UInt8) (h1 : Int) (μ : Mu) (H : MT 151 [.int .u8 ((bt x).toNat : Int)] (.int .i64 er) μ.B μ.h B1 h1) : Uni 85 1 [x] μ [] er { μ with B := B1, h := h1 } := fun a R => act_self rfl fun w T b c bx h ho hb hlo hbx hc => by
  have c0 : w.cell? ⟨b, 0, none⟩ = some (.int .i64 x) := ho.cell 0 (by simp)
  have hW : Mod [] w w.drew := (Mod.refl [] w).drew
  have h0 := h.far hW
  have hbt := bt_is x
  have s1 := h.c1
  have HC := Lib.hid (H w.drew a.m a.q h0.mm)
  have nb : b ∉ [a.m, a.q] := by simp; exact ⟨fun e => hb (e ▸ h.ts.2.2.1), fun e => hb (e ▸ h.ts.2.2.2)⟩
  have nx : bx ∉ [a.m, a.q] := by simp; exact ⟨fun e => hbx (e ▸ h.ts.2.2.1), fun e => hbx (e ▸ h.ts.2.2.2)⟩
  have ns : a.s ∉ [a.m, a.q] := by simp; exact ⟨h.ne.2.1, h.ne.2.2.1⟩
  have HH := Lib.hid h0
  clear ho H h0 h
  go_enter Tryz.func150, Tryz.ntmps150
  go_wp2_with fail
  go_region_held3 (fun W => W.cell? ⟨bx, 0, none⟩ = some (Pt a.s) ∧ W.cell? ⟨a.s, 1, none⟩ = some (Pt a.m) ∧ W.cell? ⟨b, 0, none⟩ = some (.int .i64 x)) (first | with_reducible exact ⟨hW.cell (x := ⟨bx, 0, none⟩) (by simp) hc, hW.cell (x := ⟨a.s, 1, none⟩) (by simp) s1, hW.cell (x := ⟨b, 0, none⟩) (by simp) c0⟩ | with_reducible exact ⟨hm2.cell (x := ⟨bx, 0, none⟩) nx (hW.cell (x := ⟨bx, 0, none⟩) (by simp) hc), hm2.cell (x := ⟨a.s, 1, none⟩) ns (hW.cell (x := ⟨a.s, 1, none⟩) (by simp) s1), hm2.cell (x := ⟨b, 0, none⟩) nb (hW.cell (x := ⟨b, 0, none⟩) (by simp) c0)⟩ | fail)
    (first | ((with_reducible refine (HC.out).mono ?_); rintro e w2 ⟨rfl, hmm, hm2⟩) | fail)
  go_wp2
  go_ret2
  obtain ⟨tn, h2⟩ := HH.out.mt hmm hm2
  exact ⟨none, 0, 0, T, rfl, rfl, Sl.nil _ _, (Tn.far hW).trans tn, h2⟩
set_option maxHeartbeats 4000000 in
set_option maxRecDepth 100000 in
theorem act_86_of (er : Int) (B1 : List UInt8) (h1 : Int) (μ : Mu) (H : MT 153 [] (.int .i64 er) μ.B μ.h B1 h1) : Uni 86 0 [] μ [] er { μ with B := B1, h := h1 } := fun a R => act_self rfl fun w T b c bx h ho hb hlo hbx hc => by
  have hW : Mod [] w w := Mod.refl [] w
  have h0 := h.far hW
  have s1 := h.c1
  have HC := Lib.hid (H w a.m a.q h0.mm)
  have nb : b ∉ [a.m, a.q] := by simp; exact ⟨fun e => hb (e ▸ h.ts.2.2.1), fun e => hb (e ▸ h.ts.2.2.2)⟩
  have nx : bx ∉ [a.m, a.q] := by simp; exact ⟨fun e => hbx (e ▸ h.ts.2.2.1), fun e => hbx (e ▸ h.ts.2.2.2)⟩
  have ns : a.s ∉ [a.m, a.q] := by simp; exact ⟨h.ne.2.1, h.ne.2.2.1⟩
  have HH := Lib.hid h0
  clear ho H h0 h
  go_enter Tryz.func152, Tryz.ntmps152
  go_wp2_with fail
  refine (HC.out).mono ?_
  rintro e w2 ⟨rfl, hmm, hm2⟩
  go_wp2
  go_ret2
  obtain ⟨tn, h2⟩ := HH.out.mt hmm hm2
  exact ⟨none, 0, 0, T, rfl, rfl, Sl.nil _ _, (Tn.far hW).trans tn, h2⟩
set_option maxHeartbeats 4000000 in
set_option maxRecDepth 100000 in
theorem act_100_of (er : Int) (B1 : List UInt8) (h1 : Int) (μ : Mu) (H : MT 66 [.int .i64 0, .int .i64 10] (.int .i64 er) μ.B μ.h B1 h1) : Uni 100 0 [] μ [] er { μ with B := B1, h := h1 } := fun a R => act_self rfl fun w T b c bx h ho hb hlo hbx hc => by
  have hW : Mod [] w w := Mod.refl [] w
  have h0 := h.far hW
  have s1 := h.c1
  have HC := Lib.hid (H w a.m a.q h0.mm)
  have nb : b ∉ [a.m, a.q] := by simp; exact ⟨fun e => hb (e ▸ h.ts.2.2.1), fun e => hb (e ▸ h.ts.2.2.2)⟩
  have nx : bx ∉ [a.m, a.q] := by simp; exact ⟨fun e => hbx (e ▸ h.ts.2.2.1), fun e => hbx (e ▸ h.ts.2.2.2)⟩
  have ns : a.s ∉ [a.m, a.q] := by simp; exact ⟨h.ne.2.1, h.ne.2.2.1⟩
  have HH := Lib.hid h0
  clear ho H h0 h
  go_enter Tryz.func145, Tryz.ntmps145
  go_wp2_with fail
  refine (HC.out).mono ?_
  rintro e w2 ⟨rfl, hmm, hm2⟩
  go_wp2
  go_ret2
  obtain ⟨tn, h2⟩ := HH.out.mt hmm hm2
  exact ⟨none, 0, 0, T, rfl, rfl, Sl.nil _ _, (Tn.far hW).trans tn, h2⟩
set_option maxHeartbeats 4000000 in
set_option maxRecDepth 100000 in
theorem act_101_of (er : Int) (B1 : List UInt8) (h1 : Int) (μ : Mu) (H : MT 66 [.int .i64 0, .int .i64 16] (.int .i64 er) μ.B μ.h B1 h1) : Uni 101 0 [] μ [] er { μ with B := B1, h := h1 } := fun a R => act_self rfl fun w T b c bx h ho hb hlo hbx hc => by
  have hW : Mod [] w w := Mod.refl [] w
  have h0 := h.far hW
  have s1 := h.c1
  have HC := Lib.hid (H w a.m a.q h0.mm)
  have nb : b ∉ [a.m, a.q] := by simp; exact ⟨fun e => hb (e ▸ h.ts.2.2.1), fun e => hb (e ▸ h.ts.2.2.2)⟩
  have nx : bx ∉ [a.m, a.q] := by simp; exact ⟨fun e => hbx (e ▸ h.ts.2.2.1), fun e => hbx (e ▸ h.ts.2.2.2)⟩
  have ns : a.s ∉ [a.m, a.q] := by simp; exact ⟨h.ne.2.1, h.ne.2.2.1⟩
  have HH := Lib.hid h0
  clear ho H h0 h
  go_enter Tryz.func146, Tryz.ntmps146
  go_wp2_with fail
  refine (HC.out).mono ?_
  rintro e w2 ⟨rfl, hmm, hm2⟩
  go_wp2
  go_ret2
  obtain ⟨tn, h2⟩ := HH.out.mt hmm hm2
  exact ⟨none, 0, 0, T, rfl, rfl, Sl.nil _ _, (Tn.far hW).trans tn, h2⟩
set_option maxHeartbeats 4000000 in
set_option maxRecDepth 100000 in
theorem act_77_of (x y : Int) (er : Int) (μ μ1 : Mu) (H : ∀ W a T R, Stt W a T R μ → Calls Tryz.prog 134 #[Pt a.s, .int .i64 y, .int .i64 x] W (MethE a T W er R μ1)) : Uni 77 2 [x, y] μ [] er μ1 := fun a R => act_self rfl fun w T b c bx h ho hb hlo hbx hc => by
  have c0 : w.cell? ⟨b, 0, none⟩ = some (.int .i64 x) := ho.cell 0 (by simp)
  have c1 : w.cell? ⟨b, 1, none⟩ = some (.int .i64 y) := ho.cell 1 (by simp)
  have hW : Mod [] w w.drew := (Mod.refl [] w).drew
  have h0 := h.far hW
  have HC := Lib.hid (H w.drew a T R h0)
  have nb := hb
  have nx := hbx
  have HH := Lib.hid h0
  clear ho H h0 h
  go_enter Tryz.func133, Tryz.ntmps133
  go_wp2_with fail
  go_region_held3 (fun W => W.cell? ⟨bx, 0, none⟩ = some (Pt a.s) ∧ W.cell? ⟨b, 0, none⟩ = some (.int .i64 x) ∧ W.cell? ⟨b, 1, none⟩ = some (.int .i64 y)) (first | with_reducible exact ⟨hW.cell (x := ⟨bx, 0, none⟩) (by simp) hc, hW.cell (x := ⟨b, 0, none⟩) (by simp) c0, hW.cell (x := ⟨b, 1, none⟩) (by simp) c1⟩ | with_reducible exact ⟨hm2.cell (x := ⟨bx, 0, none⟩) nx (hW.cell (x := ⟨bx, 0, none⟩) (by simp) hc), hm2.cell (x := ⟨b, 0, none⟩) nb (hW.cell (x := ⟨b, 0, none⟩) (by simp) c0), hm2.cell (x := ⟨b, 1, none⟩) nb (hW.cell (x := ⟨b, 1, none⟩) (by simp) c1)⟩ | fail)
    (first | ((with_reducible refine (HC.out).mono ?_); rintro e w2 ⟨T', rfl, tn, h2⟩; have hm2 := tn.m) | fail)
  go_wp2
  go_ret2
  exact ⟨none, 0, 0, T', rfl, rfl, Sl.nil _ _, (Tn.far hW).trans tn, h2⟩
set_option maxHeartbeats 4000000 in
set_option maxRecDepth 100000 in
theorem act_79_of (x y z : Int) (er : Int) (μ μ1 : Mu) (H : ∀ W a T R, Stt W a T R μ → Calls Tryz.prog 138 #[Pt a.s, .int .i64 z, .int .i64 x, .int .i64 y] W (MethE a T W er R μ1)) : Uni 79 3 [x, y, z] μ [] er μ1 := fun a R => act_self rfl fun w T b c bx h ho hb hlo hbx hc => by
  have c0 : w.cell? ⟨b, 0, none⟩ = some (.int .i64 x) := ho.cell 0 (by simp)
  have c1 : w.cell? ⟨b, 1, none⟩ = some (.int .i64 y) := ho.cell 1 (by simp)
  have c2 : w.cell? ⟨b, 2, none⟩ = some (.int .i64 z) := ho.cell 2 (by simp)
  have hW : Mod [] w w.drew := (Mod.refl [] w).drew
  have h0 := h.far hW
  have HC := Lib.hid (H w.drew a T R h0)
  have nb := hb
  have nx := hbx
  have HH := Lib.hid h0
  clear ho H h0 h
  go_enter Tryz.func137, Tryz.ntmps137
  go_wp2_with fail
  go_region_held3 (fun W => W.cell? ⟨bx, 0, none⟩ = some (Pt a.s) ∧ W.cell? ⟨b, 0, none⟩ = some (.int .i64 x) ∧ W.cell? ⟨b, 1, none⟩ = some (.int .i64 y) ∧ W.cell? ⟨b, 2, none⟩ = some (.int .i64 z)) (first | with_reducible exact ⟨hW.cell (x := ⟨bx, 0, none⟩) (by simp) hc, hW.cell (x := ⟨b, 0, none⟩) (by simp) c0, hW.cell (x := ⟨b, 1, none⟩) (by simp) c1, hW.cell (x := ⟨b, 2, none⟩) (by simp) c2⟩ | with_reducible exact ⟨hm2.cell (x := ⟨bx, 0, none⟩) nx (hW.cell (x := ⟨bx, 0, none⟩) (by simp) hc), hm2.cell (x := ⟨b, 0, none⟩) nb (hW.cell (x := ⟨b, 0, none⟩) (by simp) c0), hm2.cell (x := ⟨b, 1, none⟩) nb (hW.cell (x := ⟨b, 1, none⟩) (by simp) c1), hm2.cell (x := ⟨b, 2, none⟩) nb (hW.cell (x := ⟨b, 2, none⟩) (by simp) c2)⟩ | fail)
    (first | ((with_reducible refine (HC.out).mono ?_); rintro e w2 ⟨T', rfl, tn, h2⟩; have hm2 := tn.m) | fail)
  go_wp2
  go_ret2
  exact ⟨none, 0, 0, T', rfl, rfl, Sl.nil _ _, (Tn.far hW).trans tn, h2⟩
set_option maxHeartbeats 4000000 in
set_option maxRecDepth 100000 in
theorem act_78_of (x : Int) (P : List Int) (er : Int) (μ μ1 : Mu) (H : ∀ W a T R, Stt W a T R μ → Calls Tryz.prog 136 #[Pt a.s, .int .i64 x] W (Acted a T W ⟨P, er, R, μ1⟩)) : Uni 78 1 [x] μ P er μ1 := fun a R => act_self rfl fun w T b c bx h ho hb hlo hbx hc => by
  have c0 : w.cell? ⟨b, 0, none⟩ = some (.int .i64 x) := ho.cell 0 (by simp)
  have hW : Mod [] w w.drew := (Mod.refl [] w).drew
  have h0 := h.far hW
  have HC := Lib.hid (H w.drew a T R h0)
  have nb := hb
  have nx := hbx
  have HH := Lib.hid h0
  clear ho H h0 h
  go_enter Tryz.func135, Tryz.ntmps135
  go_wp2_with fail
  go_region_held3 (fun W => W.cell? ⟨bx, 0, none⟩ = some (Pt a.s) ∧ W.cell? ⟨b, 0, none⟩ = some (.int .i64 x)) (first | with_reducible exact ⟨hW.cell (x := ⟨bx, 0, none⟩) (by simp) hc, hW.cell (x := ⟨b, 0, none⟩) (by simp) c0⟩ | with_reducible exact ⟨hm2.cell (x := ⟨bx, 0, none⟩) nx (hW.cell (x := ⟨bx, 0, none⟩) (by simp) hc), hm2.cell (x := ⟨b, 0, none⟩) nb (hW.cell (x := ⟨b, 0, none⟩) (by simp) c0)⟩ | fail)
    (first | ((with_reducible refine (HC.out).mono ?_); rintro e w2 ⟨A, m, cap, T', rfl, hmx, hsl, tn, h2⟩; have hm2 := tn.m) | fail)
  go_wp2
  go_ret2
  exact ⟨_, _, _, T', rfl, rfl, hsl, (Tn.far hW).trans tn, h2⟩
set_option maxHeartbeats 4000000 in
set_option maxRecDepth 100000 in
theorem act_89_of (x : Int) (P : List Int) (er : Int) (μ μ1 : Mu) (H : ∀ W a T R, Stt W a T R μ → Calls Tryz.prog 144 #[Pt a.s, .int .i64 x] W (Acted a T W ⟨P, er, R, μ1⟩)) : Uni 89 1 [x] μ P er μ1 := fun a R => act_self rfl fun w T b c bx h ho hb hlo hbx hc => by
  have c0 : w.cell? ⟨b, 0, none⟩ = some (.int .i64 x) := ho.cell 0 (by simp)
  have hW : Mod [] w w.drew := (Mod.refl [] w).drew
  have h0 := h.far hW
  have HC := Lib.hid (H w.drew a T R h0)
  have nb := hb
  have nx := hbx
  have HH := Lib.hid h0
  clear ho H h0 h
  go_enter Tryz.func143, Tryz.ntmps143
  go_wp2_with fail
  go_region_held3 (fun W => W.cell? ⟨bx, 0, none⟩ = some (Pt a.s) ∧ W.cell? ⟨b, 0, none⟩ = some (.int .i64 x)) (first | with_reducible exact ⟨hW.cell (x := ⟨bx, 0, none⟩) (by simp) hc, hW.cell (x := ⟨b, 0, none⟩) (by simp) c0⟩ | with_reducible exact ⟨hm2.cell (x := ⟨bx, 0, none⟩) nx (hW.cell (x := ⟨bx, 0, none⟩) (by simp) hc), hm2.cell (x := ⟨b, 0, none⟩) nb (hW.cell (x := ⟨b, 0, none⟩) (by simp) c0)⟩ | fail)
    (first | ((with_reducible refine (HC.out).mono ?_); rintro e w2 ⟨A, m, cap, T', rfl, hmx, hsl, tn, h2⟩; have hm2 := tn.m) | fail)
  go_wp2
  go_ret2
  exact ⟨_, _, _, T', rfl, rfl, hsl, (Tn.far hW).trans tn, h2⟩
end Go.Proofs.YtegcecpmdgljpaaGreatDoor

namespace Go.Proofs.YtegcecpmdgljpaaGreatDoor
open Go.RowKit
set_option linter.unusedVariables false

theorem q_ne {e : Int} (h : e ≠ 0) : (e == 0) = false ∧ (e != 0) = true := by
  have h1 : (e == 0) = false := by rw [beq_eq_false_iff_ne]; exact h
  exact ⟨h1, by unfold bne; rw [h1]; rfl⟩
section
variable {W : World} {a : Ad} {T : List Nat} {R : List Int} {μ : Mu}
theorem addto_err {y x v e : Int} (H : MT 46 [.int .i64 y] (.tuple #[.int .i64 v, .int .i64 e]) μ.B μ.h μ.B μ.h) (he : e ≠ 0) (h : Stt W a T R μ) :
    Calls Tryz.prog 134 #[Pt a.s, .int .i64 y, .int .i64 x] W (MethE a T W e R μ) := by
  obtain ⟨q1, q2⟩ := q_ne he
  have s1 := h.c1
  have HC := Lib.hid (H W a.m a.q h.mm)
  have HH := Lib.hid h
  clear H h he
  go_enter Tryz.func134, Tryz.ntmps134
  go_wp2_with fail
  refine (HC.out).mono ?_
  rintro e' w2 ⟨rfl, hmm, hm2⟩
  go_wp2
  go_ret
  obtain ⟨tn, h2⟩ := HH.out.mt hmm hm2
  exact ⟨T, rfl, tn, h2⟩
theorem addto_ok {y x v er : Int} {B1 : List UInt8} {h1 : Int} (H : MT 46 [.int .i64 y] (.tuple #[.int .i64 v, .int .i64 0]) μ.B μ.h μ.B μ.h) (K : MT 66 [.int .i64 y, .int .i64 (wrap64 (v + x))] (.int .i64 er) μ.B μ.h B1 h1) (h : Stt W a T R μ) :
    Calls Tryz.prog 134 #[Pt a.s, .int .i64 y, .int .i64 x] W (MethE a T W er R { μ with B := B1, h := h1 }) := by
  have s1 := h.c1
  have HC := Lib.hid (H W a.m a.q h.mm)
  have HH := Lib.hid h
  obtain ⟨u, hu⟩ : ∃ u, u = wrap64 (v + x) := ⟨_, rfl⟩
  rw [← hu] at K
  have HU := Lib.hid hu
  have HK := Lib.hid K
  clear H h K
  go_enter Tryz.func134, Tryz.ntmps134
  go_wp2_with fail
  refine (HC.out).mono ?_
  rintro e' w2 ⟨rfl, hmm, hm2⟩
  obtain ⟨tn, h2⟩ := HH.out.mt hmm hm2
  have s2 := h2.c1
  have H2 := Lib.hid (And.intro tn h2)
  have HC2 := Lib.hid (HK.out w2 a.m a.q h2.mm)
  clear tn h2 HC hmm hm2 HK
  go_wp2_with fail
  rw [← hu]
  refine (HC2.out).mono ?_
  rintro e' w3 ⟨rfl, hmm, hm3⟩
  go_wp2
  go_ret
  obtain ⟨tn3, h3⟩ := H2.out.2.mt hmm hm3
  exact ⟨T, rfl, H2.out.1.trans tn3, h3⟩
theorem gettwo_err {x v e : Int} (H : MT 46 [.int .i64 (wrap64 (x + 8))] (.tuple #[.int .i64 v, .int .i64 e]) μ.B μ.h μ.B μ.h) (he : e ≠ 0) (h : Stt W a T R μ) :
    Calls Tryz.prog 136 #[Pt a.s, .int .i64 x] W (Acted a T W ⟨[], e, R, μ⟩) := by
  obtain ⟨q1, q2⟩ := q_ne he
  have s1 := h.c1
  obtain ⟨u, hu⟩ : ∃ u, u = wrap64 (x + 8) := ⟨_, rfl⟩
  rw [← hu] at H
  have HC := Lib.hid (H W a.m a.q h.mm)
  have HH := Lib.hid h
  clear H h he
  go_enter Tryz.func136, Tryz.ntmps136
  go_wp2_with fail
  rw [← hu]
  refine (HC.out).mono ?_
  rintro e' w2 ⟨rfl, hmm, hm2⟩
  go_wp2
  go_ret2
  obtain ⟨tn, h2⟩ := HH.out.mt hmm hm2
  exact ⟨none, 0, 0, T, rfl, rfl, Sl.nil _ _, tn, h2⟩
theorem gettwo_ok {x v u e : Int} (H : MT 46 [.int .i64 (wrap64 (x + 8))] (.tuple #[.int .i64 v, .int .i64 0]) μ.B μ.h μ.B μ.h) (K : MT 46 [.int .i64 x] (.tuple #[.int .i64 u, .int .i64 e]) μ.B μ.h μ.B μ.h) (h : Stt W a T R μ) :
    Calls Tryz.prog 136 #[Pt a.s, .int .i64 x] W (Acted a T W ⟨[v, u], e, R, μ⟩) := by
  have s1 := h.c1
  obtain ⟨z, hz⟩ : ∃ u, u = wrap64 (x + 8) := ⟨_, rfl⟩
  rw [← hz] at H
  have HC := Lib.hid (H W a.m a.q h.mm)
  have HH := Lib.hid h
  have HK := Lib.hid K
  clear H h K
  go_enter Tryz.func136, Tryz.ntmps136
  go_wp2_with fail
  rw [← hz]
  refine (HC.out).mono ?_
  rintro e' w2 ⟨rfl, hmm, hm2⟩
  obtain ⟨tn, h2⟩ := HH.out.mt hmm hm2
  have s2 := h2.c1
  have H2 := Lib.hid (And.intro tn h2)
  have HC2 := Lib.hid (HK.out w2 a.m a.q h2.mm)
  clear tn h2 HC hmm hm2 HK
  go_wp2_with fail
  refine (HC2.out).mono ?_
  rintro e' w3 ⟨rfl, hmm, hm3⟩
  go_wp2
  go_ret2
  obtain ⟨tn3, h3⟩ := H2.out.2.mt hmm hm3
  exact ⟨_, _, _, T, rfl, rfl, sl_two _ _ _ _, (H2.out.1.trans tn3).trans (Tn.far (far_alloc _ _)), h3.far (far_alloc _ _)⟩
/-- Two cells are put: whether the first can be is asked first. -/
theorem puttwo_e1 {y x z v e : Int} (H : MT 46 [.int .i64 y] (.tuple #[.int .i64 v, .int .i64 e]) μ.B μ.h μ.B μ.h) (he : e ≠ 0) (h : Stt W a T R μ) :
    Calls Tryz.prog 138 #[Pt a.s, .int .i64 y, .int .i64 x, .int .i64 z] W (MethE a T W e R μ) := by
  obtain ⟨q1, q2⟩ := q_ne he
  have s1 := h.c1
  have HC := Lib.hid (H W a.m a.q h.mm)
  have HH := Lib.hid h
  clear H h he
  go_enter Tryz.func138, Tryz.ntmps138
  go_wp2_with fail
  refine (HC.out).mono ?_
  rintro e' w2 ⟨rfl, hmm, hm2⟩
  go_wp2
  go_ret
  obtain ⟨tn, h2⟩ := HH.out.mt hmm hm2
  exact ⟨T, rfl, tn, h2⟩
theorem puttwo_e2 {y x z v e : Int} (H : MT 46 [.int .i64 y] (.tuple #[.int .i64 v, .int .i64 0]) μ.B μ.h μ.B μ.h) (K : MT 66 [.int .i64 (wrap64 (y + 8)), .int .i64 x] (.int .i64 e) μ.B μ.h μ.B μ.h) (he : e ≠ 0) (h : Stt W a T R μ) :
    Calls Tryz.prog 138 #[Pt a.s, .int .i64 y, .int .i64 x, .int .i64 z] W (MethE a T W e R μ) := by
  obtain ⟨q1, q2⟩ := q_ne he
  have s1 := h.c1
  obtain ⟨z8, hz⟩ : ∃ u, u = wrap64 (y + 8) := ⟨_, rfl⟩
  rw [← hz] at K
  have HC := Lib.hid (H W a.m a.q h.mm)
  have HH := Lib.hid h
  have HK := Lib.hid K
  clear H h K he
  go_enter Tryz.func138, Tryz.ntmps138
  go_wp2_with fail
  refine (HC.out).mono ?_
  rintro e' w2 ⟨rfl, hmm, hm2⟩
  obtain ⟨tn, h2⟩ := HH.out.mt hmm hm2
  have s2 := h2.c1
  have H2 := Lib.hid (And.intro tn h2)
  have HC2 := Lib.hid (HK.out w2 a.m a.q h2.mm)
  clear tn h2 HC hmm hm2 HK
  go_wp2_with fail
  rw [← hz]
  refine (HC2.out).mono ?_
  rintro e' w3 ⟨rfl, hmm, hm3⟩
  go_wp2
  go_ret
  obtain ⟨tn3, h3⟩ := H2.out.2.mt hmm hm3
  exact ⟨T, rfl, H2.out.1.trans tn3, h3⟩
theorem puttwo_ok {y x z v er : Int} {B1 B2 : List UInt8} {h1 h2 : Int} (H : MT 46 [.int .i64 y] (.tuple #[.int .i64 v, .int .i64 0]) μ.B μ.h μ.B μ.h) (K : MT 66 [.int .i64 (wrap64 (y + 8)), .int .i64 x] (.int .i64 0) μ.B μ.h B1 h1) (L : MT 66 [.int .i64 y, .int .i64 z] (.int .i64 er) B1 h1 B2 h2) (h : Stt W a T R μ) :
    Calls Tryz.prog 138 #[Pt a.s, .int .i64 y, .int .i64 x, .int .i64 z] W (MethE a T W er R { μ with B := B2, h := h2 }) := by
  have s1 := h.c1
  obtain ⟨z8, hz⟩ : ∃ u, u = wrap64 (y + 8) := ⟨_, rfl⟩
  rw [← hz] at K
  have HC := Lib.hid (H W a.m a.q h.mm)
  have HH := Lib.hid h
  have HK := Lib.hid (And.intro K L)
  clear H h K L
  go_enter Tryz.func138, Tryz.ntmps138
  go_wp2_with fail
  refine (HC.out).mono ?_
  rintro e' w2 ⟨rfl, hmm, hm2⟩
  obtain ⟨tn, h2⟩ := HH.out.mt hmm hm2
  have s2 := h2.c1
  have H2 := Lib.hid (And.intro tn h2)
  have HC2 := Lib.hid (HK.out.1 w2 a.m a.q h2.mm)
  clear tn h2 HC hmm hm2
  go_wp2_with fail
  rw [← hz]
  refine (HC2.out).mono ?_
  rintro e' w3 ⟨rfl, hmm, hm3⟩
  obtain ⟨tn3, h3⟩ := H2.out.2.mt hmm hm3
  have s3 := h3.c1
  have H3 := Lib.hid (And.intro tn3 h3)
  have HC3 := Lib.hid (HK.out.2 w3 a.m a.q h3.mm)
  clear tn3 h3 HC2 hmm hm3
  go_wp2_with fail
  refine (HC3.out).mono ?_
  rintro e' w4 ⟨rfl, hmm, hm4⟩
  go_wp2
  go_ret
  obtain ⟨tn4, h4⟩ := H3.out.2.mt hmm hm4
  exact ⟨T, rfl, (H2.out.1.trans H3.out.1).trans tn4, h4⟩
theorem count_of {x e : Int} {c : UInt8} (H : MT 130 [.int .i64 x] (.tuple #[.int .u8 (c.toNat : Int), .int .i64 e]) μ.B μ.h μ.B μ.h) (h : Stt W a T R μ) :
    Calls Tryz.prog 144 #[Pt a.s, .int .i64 x] W (Acted a T W ⟨[wrap64 (x + 1), (c.toNat : Int)], e, R, μ⟩) := by
  have s1 := h.c1
  have HC := Lib.hid (H W a.m a.q h.mm)
  have HH := Lib.hid h
  have hcn : (c.toNat : Int) < 256 := by have := c.toNat_lt; omega
  have hw : wrap64 (c.toNat : Int) = (c.toNat : Int) := by unfold wrap64; omega
  obtain ⟨u, hu⟩ : ∃ u, u = wrap64 (x + 1) := ⟨_, rfl⟩
  rw [← hu]
  clear H h
  go_enter Tryz.func144, Tryz.ntmps144
  go_wp2_with fail
  refine (HC.out).mono ?_
  rintro e' w2 ⟨rfl, hmm, hm2⟩
  obtain ⟨tn, h2⟩ := HH.out.mt hmm hm2
  have H2 := Lib.hid (And.intro tn h2)
  clear tn h2 HC hmm hm2
  go_wp2
  go_ret2
  exact ⟨_, _, _, T, rfl, rfl, by first | exact sl_two _ _ _ _ | (rw [hu]; exact sl_two _ _ _ _), H2.out.1.trans (Tn.far (far_alloc _ _)), H2.out.2.far (far_alloc _ _)⟩
end
theorem act_73_of (x v e : Int) (μ : Mu) (H : MT 46 [.int .i64 x] (.tuple #[.int .i64 v, .int .i64 e]) μ.B μ.h μ.B μ.h) (H' : ∀ W p q, Mm W p q μ.B μ.h → Calls Tryz.prog 46 #[Pt p, .int .i64 x] W fun e' w' => e' = .returned (.tuple #[.int .i64 v, .int .i64 e]) ∧ W = w') : Uni 73 1 [x] μ [v] e μ := fun a R => by
  refine act_one (G := 185) (d := .bound 46) rfl ?_
  rintro w T b c bx dv h ho hb hc rfl
  exact (ofcell_does ho hc (fun xs W => by kernel_rfl) (p := #[Pt a.m]) (q := #[]) (fun W hW => (H' W a.m a.q (h.far hW).mm).mono fun e' w' ⟨k1, k2⟩ => ⟨k1, k2 ▸ hW⟩)).mono fun e w' hg => hg.acted h
set_option maxRecDepth 100000 in
theorem act_75_of (x e : Int) (c8 : UInt8) (μ : Mu) (H' : ∀ W p q, Mm W p q μ.B μ.h → Calls Tryz.prog 130 #[Pt p, .int .i64 x] W fun e' w' => e' = .returned (.tuple #[.int .u8 (c8.toNat : Int), .int .i64 e]) ∧ W = w') : Uni 75 1 [x] μ [(c8.toNat : Int)] e μ := fun a R => by
  refine act_one (G := 185) (d := .box 129 (Pt a.s)) rfl ?_
  rintro w T b c bx dv h ho hb hc ⟨b2, _, h2, rfl⟩
  refine (ofcell_does ho hc (fun xs W => by kernel_rfl) (p := #[]) (q := #[Pt b2]) (y := (c8.toNat : Int)) (er := e) (fun W hW => ?_)).mono fun e w' hg => hg.acted h
  have hc := hW.cell (x := ⟨b2, 0, none⟩) (by simp) h2
  have hs := h.far hW
  have s1 := hs.c1
  have HC := Lib.hid (H' W a.m a.q hs.mm)
  have hcn : (c8.toNat : Int) < 256 := by have := c8.toNat_lt; omega
  have hw : wrap64 (c8.toNat : Int) = (c8.toNat : Int) := by unfold wrap64; omega
  have HW := Lib.hid hW
  clear H' hs h ho hb h2 hW
  show Calls Tryz.prog _ #[.int .i64 x, Pt b2] W _
  go_enter Tryz.func129, Tryz.ntmps129
  go_wp2_with fail
  refine (HC.out).mono ?_
  rintro e' w2 ⟨rfl, rfl⟩
  go_wp2
  go_ret2
  exact ⟨rfl, HW.out⟩
set_option maxRecDepth 100000 in
theorem act_82 (μ : Mu) : Uni 82 0 [] μ [μ.h] 0 μ := fun a R => act_self rfl fun w T b c bx h ho hb hlo hbx hc => by
  have s1 := h.c1
  have HC := Lib.hid (here_calls h.mm)
  have HH := Lib.hid h
  clear h ho
  go_enter Tryz.func147, Tryz.ntmps147
  go_wp2_with fail
  refine (HC.out).mono ?_
  rintro e' w2 ⟨rfl, rfl⟩
  go_wp2
  go_ret2
  exact ⟨_, _, _, T, rfl, rfl, sl_one _ _ _, Tn.far (far_alloc _ _), HH.out.far (far_alloc _ _)⟩
end Go.Proofs.YtegcecpmdgljpaaGreatDoor
