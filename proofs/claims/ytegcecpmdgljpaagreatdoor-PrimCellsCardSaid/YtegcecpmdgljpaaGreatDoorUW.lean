/- Layer 13: what the operations that make a number's text do. Condition: cells are cells. -/
import Derived.Test.YtegcecpmdgljpaaGreatDoorUV
namespace Go.Proofs.YtegcecpmdgljpaaGreatDoor
open Go.RowKit
set_option linter.unusedVariables false

set_option maxHeartbeats 4000000 in
set_option maxRecDepth 100000 in
theorem act_102_of (P : List Int) (er : Int) (μ μ1 : Mu) (H : ∀ W a T R, Stt W a T R μ → Calls Tryz.prog 173 #[Pt a.s] W (Acted a T W ⟨P, er, R, μ1⟩)) : Uni 102 0 [] μ P er μ1 := fun a R => act_self rfl fun w T b c bx h ho hb hlo hbx hc => by
  have hW : Mod [] w w := Mod.refl [] w
  have h0 := h.far hW
  have HC := Lib.hid (H w a T R h0)
  have nb := hb
  have nx := hbx
  have HH := Lib.hid h0
  clear ho H h0 h
  go_enter Tryz.func172, Tryz.ntmps172
  go_wp2_with fail
  refine (HC.out).mono ?_
  rintro e w2 ⟨A, m, cap, T', rfl, hmx, hsl, tn, h2⟩
  have hm2 := tn.m
  go_wp2
  go_ret2
  exact ⟨_, _, _, T', rfl, rfl, hsl, (Tn.far hW).trans tn, h2⟩
set_option maxHeartbeats 4000000 in
set_option maxRecDepth 100000 in
theorem act_103_of (x y : Int) (P : List Int) (er : Int) (μ μ1 : Mu) (H : ∀ W a T R, Stt W a T R μ → Calls Tryz.prog 175 #[Pt a.s, .agg #[.int .i64 x, .int .i64 y]] W (Acted a T W ⟨P, er, R, μ1⟩)) : Uni 103 2 [x, y] μ P (er) (μ1) := fun a R => act_self rfl fun w T b c bx h ho hb hlo hbx hc => by
  have c0 : w.cell? ⟨b, 0, none⟩ = some (.int .i64 x) := ho.cell 0 (by simp)
  have c1 : w.cell? ⟨b, 1, none⟩ = some (.int .i64 y) := ho.cell 1 (by simp)
  have hm : Mod [] w w.drew := (Mod.refl [] w).drew
  have HC := Lib.hid (fun W (hW : Mod [] w W) => (H W a T R (h.far hW) : Calls Tryz.prog 175 #[Pt a.s, .agg #[.int .i64 x, .int .i64 y]] W (Acted a T W ⟨P, er, R, μ1⟩)))
  have HP := Lib.hid (pairof_calls (n := 2) (c := c) (o := 0) c0 c1 (by omega) (by omega))
  have nb := hb
  have nx := hbx
  clear ho h
  go_enter Tryz.func174, Tryz.ntmps174
  go_wp2_with fail
  go_region_held3 (fun W => W.cell? ⟨bx, 0, none⟩ = some (Pt a.s) ∧ W.cell? ⟨b, 0, none⟩ = some (.int .i64 x) ∧ W.cell? ⟨b, 1, none⟩ = some (.int .i64 y)) (first | with_reducible exact ⟨hm.cell (x := ⟨bx, 0, none⟩) (by simp) hc, hm.cell (x := ⟨b, 0, none⟩) (by simp) c0, hm.cell (x := ⟨b, 1, none⟩) (by simp) c1⟩ | with_reducible exact ⟨hm2.cell (x := ⟨bx, 0, none⟩) nx (hm.cell (x := ⟨bx, 0, none⟩) (by simp) hc), hm2.cell (x := ⟨b, 0, none⟩) nb (hm.cell (x := ⟨b, 0, none⟩) (by simp) c0), hm2.cell (x := ⟨b, 1, none⟩) nb (hm.cell (x := ⟨b, 1, none⟩) (by simp) c1)⟩ | fail)
    (first | ((with_reducible refine (HP.out _ hm).mono ?_); rintro e w2 ⟨rfl, hm⟩) | ((with_reducible refine (HC.out _ hm).mono ?_); rintro e w3 ⟨A, m, cap, T', rfl, hmx, hsl, tn, h2⟩; have hm2 := tn.m) | fail)
  go_wp2
  go_ret2
  exact ⟨_, _, _, T', rfl, rfl, hsl, (Tn.far hm).trans tn, h2⟩
set_option maxHeartbeats 4000000 in
set_option maxRecDepth 100000 in
theorem act_104_of (x y : Int) (P : List Int) (er : Int) (μ μ1 : Mu) (H : ∀ W a T R, Stt W a T R μ → Calls Tryz.prog 177 #[Pt a.s, .agg #[.int .i64 x, .int .i64 y]] W (Acted a T W ⟨P, er, R, μ1⟩)) : Uni 104 2 [x, y] μ P (er) (μ1) := fun a R => act_self rfl fun w T b c bx h ho hb hlo hbx hc => by
  have c0 : w.cell? ⟨b, 0, none⟩ = some (.int .i64 x) := ho.cell 0 (by simp)
  have c1 : w.cell? ⟨b, 1, none⟩ = some (.int .i64 y) := ho.cell 1 (by simp)
  have hm : Mod [] w w.drew := (Mod.refl [] w).drew
  have HC := Lib.hid (fun W (hW : Mod [] w W) => (H W a T R (h.far hW) : Calls Tryz.prog 177 #[Pt a.s, .agg #[.int .i64 x, .int .i64 y]] W (Acted a T W ⟨P, er, R, μ1⟩)))
  have HP := Lib.hid (pairof_calls (n := 2) (c := c) (o := 0) c0 c1 (by omega) (by omega))
  have nb := hb
  have nx := hbx
  clear ho h
  go_enter Tryz.func176, Tryz.ntmps176
  go_wp2_with fail
  go_region_held3 (fun W => W.cell? ⟨bx, 0, none⟩ = some (Pt a.s) ∧ W.cell? ⟨b, 0, none⟩ = some (.int .i64 x) ∧ W.cell? ⟨b, 1, none⟩ = some (.int .i64 y)) (first | with_reducible exact ⟨hm.cell (x := ⟨bx, 0, none⟩) (by simp) hc, hm.cell (x := ⟨b, 0, none⟩) (by simp) c0, hm.cell (x := ⟨b, 1, none⟩) (by simp) c1⟩ | with_reducible exact ⟨hm2.cell (x := ⟨bx, 0, none⟩) nx (hm.cell (x := ⟨bx, 0, none⟩) (by simp) hc), hm2.cell (x := ⟨b, 0, none⟩) nb (hm.cell (x := ⟨b, 0, none⟩) (by simp) c0), hm2.cell (x := ⟨b, 1, none⟩) nb (hm.cell (x := ⟨b, 1, none⟩) (by simp) c1)⟩ | fail)
    (first | ((with_reducible refine (HP.out _ hm).mono ?_); rintro e w2 ⟨rfl, hm⟩) | ((with_reducible refine (HC.out _ hm).mono ?_); rintro e w3 ⟨A, m, cap, T', rfl, hmx, hsl, tn, h2⟩; have hm2 := tn.m) | fail)
  go_wp2
  go_ret2
  exact ⟨_, _, _, T', rfl, rfl, hsl, (Tn.far hm).trans tn, h2⟩
set_option maxHeartbeats 4000000 in
set_option maxRecDepth 100000 in
theorem act_105 (x : Int) (μ : Mu) : Uni 105 1 [x] μ [] (holdE μ) (holdM μ (bt x)) := fun a R => act_self rfl fun w T b c bx h ho hb hlo hbx hc => by
  have c0 : w.cell? ⟨b, 0, none⟩ = some (.int .i64 x) := ho.cell 0 (by simp)
  have hm : Mod [] w w.drew := (Mod.refl [] w).drew
  have HC := Lib.hid (fun W (hW : Mod [] w W) => (hold_calls (bt x) (h.far hW) : Calls Tryz.prog 179 #[Pt a.s, .string (str [bt x])] W (MethE a T W (holdE μ) R (holdM μ (bt x)))))
  have HP := Lib.hid (chr_calls x w)
  have nb := hb
  have nx := hbx
  clear ho h
  go_enter Tryz.func178, Tryz.ntmps178
  go_wp2_with fail
  go_region_held3 (fun W => W.cell? ⟨bx, 0, none⟩ = some (Pt a.s) ∧ W.cell? ⟨b, 0, none⟩ = some (.int .i64 x)) (first | with_reducible exact ⟨hm.cell (x := ⟨bx, 0, none⟩) (by simp) hc, hm.cell (x := ⟨b, 0, none⟩) (by simp) c0⟩ | with_reducible exact ⟨hm2.cell (x := ⟨bx, 0, none⟩) nx (hm.cell (x := ⟨bx, 0, none⟩) (by simp) hc), hm2.cell (x := ⟨b, 0, none⟩) nb (hm.cell (x := ⟨b, 0, none⟩) (by simp) c0)⟩ | fail)
    (first | ((with_reducible refine (HP.out _ hm).mono ?_); rintro e w2 ⟨rfl, hm⟩) | ((with_reducible refine (HC.out _ hm).mono ?_); rintro e w3 ⟨T', rfl, tn, h2⟩; have hm2 := tn.m) | fail)
  go_wp2
  go_ret2
  exact ⟨none, 0, 0, T', rfl, rfl, Sl.nil _ _, (Tn.far hm).trans tn, h2⟩
set_option maxHeartbeats 4000000 in
set_option maxRecDepth 100000 in
theorem act_106_of (x : Int) (er : Int) (μ μ1 : Mu) (H : ∀ W a T R, Stt W a T R μ → Calls Tryz.prog 181 #[Pt a.s, .int .i64 x] W (MethE a T W er R μ1)) : Uni 106 1 [x] μ [] er μ1 := fun a R => act_self rfl fun w T b c bx h ho hb hlo hbx hc => by
  have c0 : w.cell? ⟨b, 0, none⟩ = some (.int .i64 x) := ho.cell 0 (by simp)
  have hW : Mod [] w w.drew := (Mod.refl [] w).drew
  have h0 := h.far hW
  have HC := Lib.hid (H w.drew a T R h0)
  have nb := hb
  have nx := hbx
  have HH := Lib.hid h0
  clear ho H h0 h
  go_enter Tryz.func180, Tryz.ntmps180
  go_wp2_with fail
  go_region_held3 (fun W => W.cell? ⟨bx, 0, none⟩ = some (Pt a.s) ∧ W.cell? ⟨b, 0, none⟩ = some (.int .i64 x)) (first | with_reducible exact ⟨hW.cell (x := ⟨bx, 0, none⟩) (by simp) hc, hW.cell (x := ⟨b, 0, none⟩) (by simp) c0⟩ | with_reducible exact ⟨hm2.cell (x := ⟨bx, 0, none⟩) nx (hW.cell (x := ⟨bx, 0, none⟩) (by simp) hc), hm2.cell (x := ⟨b, 0, none⟩) nb (hW.cell (x := ⟨b, 0, none⟩) (by simp) c0)⟩ | fail)
    (first | ((with_reducible refine (HC.out).mono ?_); rintro e w2 ⟨T', rfl, tn, h2⟩; have hm2 := tn.m) | fail)
  go_wp2
  go_ret2
  exact ⟨none, 0, 0, T', rfl, rfl, Sl.nil _ _, (Tn.far hW).trans tn, h2⟩
set_option maxHeartbeats 4000000 in
set_option maxRecDepth 100000 in
theorem act_107_of (x y : Int) (P : List Int) (er : Int) (μ μ1 : Mu) (H : ∀ W a T R, Stt W a T R μ → Calls Tryz.prog 183 #[Pt a.s] W (Acted a T W ⟨P, er, R, μ1⟩)) : Uni 107 2 [x, y] μ P er μ1 := fun a R => act_self rfl fun w T b c bx h ho hb hlo hbx hc => by
  have c0 : w.cell? ⟨b, 0, none⟩ = some (.int .i64 x) := ho.cell 0 (by simp)
  have c1 : w.cell? ⟨b, 1, none⟩ = some (.int .i64 y) := ho.cell 1 (by simp)
  have hW : Mod [] w w := Mod.refl [] w
  have h0 := h.far hW
  have HC := Lib.hid (H w a T R h0)
  have nb := hb
  have nx := hbx
  have HH := Lib.hid h0
  clear ho H h0 h
  go_enter Tryz.func182, Tryz.ntmps182
  go_wp2_with fail
  refine (HC.out).mono ?_
  rintro e w2 ⟨A, m, cap, T', rfl, hmx, hsl, tn, h2⟩
  have hm2 := tn.m
  go_wp2
  go_ret2
  exact ⟨_, _, _, T', rfl, rfl, hsl, (Tn.far hW).trans tn, h2⟩
end Go.Proofs.YtegcecpmdgljpaaGreatDoor
