/- Layer 13: what the operations that tell do. Condition: cells are cells. -/
import Derived.Test.YtegcecpmdgljpaaGreatDoorUR
namespace Go.Proofs.YtegcecpmdgljpaaGreatDoor
open Go.RowKit Ieee
set_option linter.unusedVariables false

theorem real_text (x : Int) : ∃ L : List UInt8, L.length ≤ 100 ∧ ∀ W, Good W → Calls Tryz.prog 163 #[.int .i64 x] W fun e w' => e = .returned (.string (str L)) ∧ Far W w' := by
  rcases fbits_split x with n | ⟨s, r, hx, hi⟩
  · exact ⟨[110, 97, 110], by decide, fun W g => text_nan x n W⟩
  · refine ⟨realText s r, ?_, fun W g => text_word x s r hx hi W g⟩
    have := body_len r hi
    unfold realText
    split <;> simp <;> omega
set_option maxHeartbeats 4000000 in
set_option maxRecDepth 100000 in
theorem act_90 (x : Int) (μ : Mu) : Uni 90 1 [x] μ [] (0) ({ μ with O := sayL μ.O (str [bt x]) }) := fun a R => act_self rfl fun w T b c bx h ho hb hlo hbx hc => by
  have c0 : w.cell? ⟨b, 0, none⟩ = some (.int .i64 x) := ho.cell 0 (by simp)
  have hm : Mod [] w w.drew := (Mod.refl [] w).drew
  have HC := Lib.hid (fun W (hW : Mod [] w W) => (saym_calls _ (by rw [str_size]; simp) (h.far hW) : Calls Tryz.prog 155 #[Pt a.s, .string (str [bt x])] W (Acted a T W ⟨[], 0, R, { μ with O := sayL μ.O (str [bt x]) }⟩)))
  have HP := Lib.hid (chr_calls x w)
  have nb := hb
  have nx := hbx
  clear ho h
  go_enter Tryz.func154, Tryz.ntmps154
  go_wp2_with fail
  go_region_held3 (fun W => W.cell? ⟨bx, 0, none⟩ = some (Pt a.s) ∧ W.cell? ⟨b, 0, none⟩ = some (.int .i64 x)) (first | with_reducible exact ⟨hm.cell (x := ⟨bx, 0, none⟩) (by simp) hc, hm.cell (x := ⟨b, 0, none⟩) (by simp) c0⟩ | with_reducible exact ⟨hm2.cell (x := ⟨bx, 0, none⟩) nx (hm.cell (x := ⟨bx, 0, none⟩) (by simp) hc), hm2.cell (x := ⟨b, 0, none⟩) nb (hm.cell (x := ⟨b, 0, none⟩) (by simp) c0)⟩ | fail)
    (first | ((with_reducible refine (HP.out _ hm).mono ?_); rintro e w2 ⟨rfl, hm⟩) | ((with_reducible refine (HC.out _ hm).mono ?_); rintro e w3 ⟨A, m, cap, T', rfl, hmx, hsl, tn, h2⟩; have hm2 := tn.m) | fail)
  go_wp2
  go_ret2
  exact ⟨_, _, _, T', rfl, rfl, hsl, (Tn.far hm).trans tn, h2⟩
set_option maxHeartbeats 4000000 in
set_option maxRecDepth 100000 in
theorem act_91_of (x : Int) (hx : I64 x) (P : List Int) (er : Int) (μ μ1 : Mu) (H : ∀ W a T R, Stt W a T R μ → Calls Tryz.prog 158 #[Pt a.s, .agg #[.int .i64 (lo x), .int .i64 (hi x)]] W (Acted a T W ⟨P, er, R, μ1⟩)) : Uni 91 1 [x] μ P (er) (μ1) := fun a R => act_self rfl fun w T b c bx h ho hb hlo hbx hc => by
  have c0 : w.cell? ⟨b, 0, none⟩ = some (.int .i64 x) := ho.cell 0 (by simp)
  have hm : Mod [] w w.drew := (Mod.refl [] w).drew
  have HC := Lib.hid (fun W (hW : Mod [] w W) => (H W a T R (h.far hW) : Calls Tryz.prog 158 #[Pt a.s, .agg #[.int .i64 (lo x), .int .i64 (hi x)]] W (Acted a T W ⟨P, er, R, μ1⟩)))
  have HP := Lib.hid ((Rt.ext (fun W => of_calls W x hx W (Ext.refl W)) : Rt w _ _ _))
  have nb := hb
  have nx := hbx
  clear ho h
  go_enter Tryz.func157, Tryz.ntmps157
  go_wp2_with fail
  go_region_held3 (fun W => W.cell? ⟨bx, 0, none⟩ = some (Pt a.s) ∧ W.cell? ⟨b, 0, none⟩ = some (.int .i64 x)) (first | with_reducible exact ⟨hm.cell (x := ⟨bx, 0, none⟩) (by simp) hc, hm.cell (x := ⟨b, 0, none⟩) (by simp) c0⟩ | with_reducible exact ⟨hm2.cell (x := ⟨bx, 0, none⟩) nx (hm.cell (x := ⟨bx, 0, none⟩) (by simp) hc), hm2.cell (x := ⟨b, 0, none⟩) nb (hm.cell (x := ⟨b, 0, none⟩) (by simp) c0)⟩ | fail)
    (first | ((with_reducible refine (HP.out _ hm).mono ?_); rintro e w2 ⟨rfl, hm⟩) | ((with_reducible refine (HC.out _ hm).mono ?_); rintro e w3 ⟨A, m, cap, T', rfl, hmx, hsl, tn, h2⟩; have hm2 := tn.m) | fail)
  go_wp2
  go_ret2
  exact ⟨_, _, _, T', rfl, rfl, hsl, (Tn.far hm).trans tn, h2⟩
set_option maxHeartbeats 4000000 in
set_option maxRecDepth 100000 in
theorem act_92_of (x : Int) (P : List Int) (er : Int) (μ μ1 : Mu) (H : ∀ W a T R, Stt W a T R μ → Calls Tryz.prog 158 #[Pt a.s, .agg #[.int .i64 x, .int .i64 0]] W (Acted a T W ⟨P, er, R, μ1⟩)) : Uni 92 1 [x] μ P (er) (μ1) := fun a R => act_self rfl fun w T b c bx h ho hb hlo hbx hc => by
  have c0 : w.cell? ⟨b, 0, none⟩ = some (.int .i64 x) := ho.cell 0 (by simp)
  have hm : Mod [] w w.drew := (Mod.refl [] w).drew
  have HC := Lib.hid (fun W (hW : Mod [] w W) => (H W a T R (h.far hW) : Calls Tryz.prog 158 #[Pt a.s, .agg #[.int .i64 x, .int .i64 0]] W (Acted a T W ⟨P, er, R, μ1⟩)))
  have nb := hb
  have nx := hbx
  clear ho h
  go_enter Tryz.func159, Tryz.ntmps159
  go_wp2_with fail
  go_region_held3 (fun W => W.cell? ⟨bx, 0, none⟩ = some (Pt a.s) ∧ W.cell? ⟨b, 0, none⟩ = some (.int .i64 x)) (first | with_reducible exact ⟨hm.cell (x := ⟨bx, 0, none⟩) (by simp) hc, hm.cell (x := ⟨b, 0, none⟩) (by simp) c0⟩ | with_reducible exact ⟨hm2.cell (x := ⟨bx, 0, none⟩) nx (hm.cell (x := ⟨bx, 0, none⟩) (by simp) hc), hm2.cell (x := ⟨b, 0, none⟩) nb (hm.cell (x := ⟨b, 0, none⟩) (by simp) c0)⟩ | fail)
    (first | ((with_reducible refine (HC.out _ hm).mono ?_); rintro e w3 ⟨A, m, cap, T', rfl, hmx, hsl, tn, h2⟩; have hm2 := tn.m) | fail)
  go_wp2
  go_ret2
  exact ⟨_, _, _, T', rfl, rfl, hsl, (Tn.far hm).trans tn, h2⟩
set_option maxHeartbeats 4000000 in
set_option maxRecDepth 100000 in
theorem act_93_of (x y : Int) (P : List Int) (er : Int) (μ μ1 : Mu) (H : ∀ W a T R, Stt W a T R μ → Calls Tryz.prog 158 #[Pt a.s, .agg #[.int .i64 x, .int .i64 y]] W (Acted a T W ⟨P, er, R, μ1⟩)) : Uni 93 2 [x, y] μ P (er) (μ1) := fun a R => act_self rfl fun w T b c bx h ho hb hlo hbx hc => by
  have c0 : w.cell? ⟨b, 0, none⟩ = some (.int .i64 x) := ho.cell 0 (by simp)
  have c1 : w.cell? ⟨b, 1, none⟩ = some (.int .i64 y) := ho.cell 1 (by simp)
  have hm : Mod [] w w.drew := (Mod.refl [] w).drew
  have HC := Lib.hid (fun W (hW : Mod [] w W) => (H W a T R (h.far hW) : Calls Tryz.prog 158 #[Pt a.s, .agg #[.int .i64 x, .int .i64 y]] W (Acted a T W ⟨P, er, R, μ1⟩)))
  have HP := Lib.hid (pairof_calls (n := 2) (c := c) (o := 0) c0 c1 (by omega) (by omega))
  have nb := hb
  have nx := hbx
  clear ho h
  go_enter Tryz.func160, Tryz.ntmps160
  go_wp2_with fail
  go_region_held3 (fun W => W.cell? ⟨bx, 0, none⟩ = some (Pt a.s) ∧ W.cell? ⟨b, 0, none⟩ = some (.int .i64 x) ∧ W.cell? ⟨b, 1, none⟩ = some (.int .i64 y)) (first | with_reducible exact ⟨hm.cell (x := ⟨bx, 0, none⟩) (by simp) hc, hm.cell (x := ⟨b, 0, none⟩) (by simp) c0, hm.cell (x := ⟨b, 1, none⟩) (by simp) c1⟩ | with_reducible exact ⟨hm2.cell (x := ⟨bx, 0, none⟩) nx (hm.cell (x := ⟨bx, 0, none⟩) (by simp) hc), hm2.cell (x := ⟨b, 0, none⟩) nb (hm.cell (x := ⟨b, 0, none⟩) (by simp) c0), hm2.cell (x := ⟨b, 1, none⟩) nb (hm.cell (x := ⟨b, 1, none⟩) (by simp) c1)⟩ | fail)
    (first | ((with_reducible refine (HP.out _ hm).mono ?_); rintro e w2 ⟨rfl, hm⟩) | ((with_reducible refine (HC.out _ hm).mono ?_); rintro e w3 ⟨A, m, cap, T', rfl, hmx, hsl, tn, h2⟩; have hm2 := tn.m) | fail)
  go_wp2
  go_ret2
  exact ⟨_, _, _, T', rfl, rfl, hsl, (Tn.far hm).trans tn, h2⟩
set_option maxHeartbeats 4000000 in
set_option maxRecDepth 100000 in
theorem act_94_of (x : Int) (L : List UInt8) (hL : L.length ≤ 100) (HT : ∀ W, Good W → Calls Tryz.prog 163 #[.int .i64 x] W fun e w' => e = .returned (.string (str L)) ∧ Far W w') (μ : Mu) : Uni 94 1 [x] μ [] 0 { μ with O := sayL μ.O (str (L ++ [32])) } := by
  have hadd : ∀ V', (Op.stringOp .add (str L) ⟨#[32]⟩).run Tryz.prog V' = .ok (.string (str (L ++ [32]))) V' := fun V' => by
    rw [run_string_add_sum (P := Tryz.prog) (w := V') _ _ (by rw [str_size]; have : (⟨#[32]⟩ : ByteArray).size = 1 := rfl; omega)]
    have : str L ++ ⟨#[32]⟩ = str (L ++ [32]) := str_append L [32]
    rw [this]
  have hn : (str (L ++ [32])).size ≤ 9223372036854775807 := by rw [str_size]; simp; omega
  obtain ⟨S1, hS1⟩ : ∃ S, S = str L := ⟨_, rfl⟩
  obtain ⟨S2, hS2⟩ : ∃ S, S = str (L ++ [32]) := ⟨_, rfl⟩
  rw [← hS1] at hadd HT
  rw [← hS2] at hadd hn ⊢
  have HN := Lib.hid hn
  clear hS1 hS2 hL hn
  exact fun a R => act_self rfl fun w T b c bx h ho hb hlo hbx hc => by
    have c0 : w.cell? ⟨b, 0, none⟩ = some (.int .i64 x) := ho.cell 0 (by simp)
    have hm : Mod [] w w.drew := (Mod.refl [] w).drew
    have HC := Lib.hid (fun W (hW : Mod [] w W) => (saym_calls S2 HN.out (h.far hW) : Calls Tryz.prog 155 #[Pt a.s, .string S2] W (Acted a T W ⟨[], 0, R, { μ with O := sayL μ.O S2 }⟩)))
    have HP := Lib.hid ((fun W hW => (HT W (h.far hW).good).mono fun e w2 ⟨k1, k2⟩ => ⟨k1, hW.far (Mod.of_below k2)⟩ : Rt w 163 #[.int .i64 x] (.string S1)))
    have nb := hb
    have nx := hbx
    clear ho h HT
    go_enter Tryz.func162, Tryz.ntmps162
    go_wp2_with fail
    go_region_held3 (fun W => W.cell? ⟨bx, 0, none⟩ = some (Pt a.s) ∧ W.cell? ⟨b, 0, none⟩ = some (.int .i64 x)) (first | with_reducible exact ⟨hm.cell (x := ⟨bx, 0, none⟩) (by simp) hc, hm.cell (x := ⟨b, 0, none⟩) (by simp) c0⟩ | with_reducible exact ⟨hm2.cell (x := ⟨bx, 0, none⟩) nx (hm.cell (x := ⟨bx, 0, none⟩) (by simp) hc), hm2.cell (x := ⟨b, 0, none⟩) nb (hm.cell (x := ⟨b, 0, none⟩) (by simp) c0)⟩ | fail)
      (first | ((with_reducible refine (HP.out _ hm).mono ?_); rintro e w2 ⟨rfl, hm⟩) | ((with_reducible refine (HC.out _ hm).mono ?_); rintro e w3 ⟨A, m, cap, T', rfl, hmx, hsl, tn, h2⟩; have hm2 := tn.m) | fail)
    go_wp2
    go_ret2
    exact ⟨_, _, _, T', rfl, rfl, hsl, (Tn.far hm).trans tn, h2⟩
set_option maxHeartbeats 4000000 in
set_option maxRecDepth 100000 in
theorem act_95 (μ : Mu) : Uni 95 0 [] μ [] (0) ({ μ with O := sayL μ.O (⟨#[10]⟩) }) := fun a R => act_self rfl fun w T b c bx h ho hb hlo hbx hc => by
  have hm : Mod [] w w := Mod.refl [] w
  have HC := Lib.hid (fun W (hW : Mod [] w W) => (saym_calls ⟨#[10]⟩ (by have : (⟨#[10]⟩ : ByteArray).size = 1 := rfl; omega) (h.far hW) : Calls Tryz.prog 155 #[Pt a.s, .string ⟨#[10]⟩] W (Acted a T W ⟨[], 0, R, { μ with O := sayL μ.O (⟨#[10]⟩) }⟩)))
  have nb := hb
  have nx := hbx
  clear ho h
  go_enter Tryz.func164, Tryz.ntmps164
  go_wp2_with fail
  refine (HC.out _ hm).mono ?_
  rintro e w3 ⟨A, m, cap, T', rfl, hmx, hsl, tn, h2⟩
  have hm2 := tn.m
  go_wp2
  go_ret2
  exact ⟨_, _, _, T', rfl, rfl, hsl, (Tn.far hm).trans tn, h2⟩
set_option maxHeartbeats 4000000 in
set_option maxRecDepth 100000 in
theorem act_96 (μ : Mu) : Uni 96 0 [] μ [] (0) ({ μ with O := sayL μ.O (⟨#[32]⟩) }) := fun a R => act_self rfl fun w T b c bx h ho hb hlo hbx hc => by
  have hm : Mod [] w w := Mod.refl [] w
  have HC := Lib.hid (fun W (hW : Mod [] w W) => (saym_calls ⟨#[32]⟩ (by have : (⟨#[32]⟩ : ByteArray).size = 1 := rfl; omega) (h.far hW) : Calls Tryz.prog 155 #[Pt a.s, .string ⟨#[32]⟩] W (Acted a T W ⟨[], 0, R, { μ with O := sayL μ.O (⟨#[32]⟩) }⟩)))
  have nb := hb
  have nx := hbx
  clear ho h
  go_enter Tryz.func165, Tryz.ntmps165
  go_wp2_with fail
  refine (HC.out _ hm).mono ?_
  rintro e w3 ⟨A, m, cap, T', rfl, hmx, hsl, tn, h2⟩
  have hm2 := tn.m
  go_wp2
  go_ret2
  exact ⟨_, _, _, T', rfl, rfl, hsl, (Tn.far hm).trans tn, h2⟩
set_option maxHeartbeats 4000000 in
set_option maxRecDepth 100000 in
theorem act_97 (x : Int) (μ : Mu) : Uni 97 1 [x] μ [] (0) ({ μ with O := sayL μ.O (str (List.replicate (blanksN x) 32)) }) := fun a R => act_self rfl fun w T b c bx h ho hb hlo hbx hc => by
  have c0 : w.cell? ⟨b, 0, none⟩ = some (.int .i64 x) := ho.cell 0 (by simp)
  have hm : Mod [] w w.drew := (Mod.refl [] w).drew
  have HC := Lib.hid (fun W (hW : Mod [] w W) => (saym_calls _ (by rw [str_size]; simp [blanksN]; omega) (h.far hW) : Calls Tryz.prog 155 #[Pt a.s, .string (str (List.replicate (blanksN x) 32))] W (Acted a T W ⟨[], 0, R, { μ with O := sayL μ.O (str (List.replicate (blanksN x) 32)) }⟩)))
  have HP := Lib.hid (blanks_calls x w)
  have nb := hb
  have nx := hbx
  clear ho h
  go_enter Tryz.func166, Tryz.ntmps166
  go_wp2_with fail
  go_region_held3 (fun W => W.cell? ⟨bx, 0, none⟩ = some (Pt a.s) ∧ W.cell? ⟨b, 0, none⟩ = some (.int .i64 x)) (first | with_reducible exact ⟨hm.cell (x := ⟨bx, 0, none⟩) (by simp) hc, hm.cell (x := ⟨b, 0, none⟩) (by simp) c0⟩ | with_reducible exact ⟨hm2.cell (x := ⟨bx, 0, none⟩) nx (hm.cell (x := ⟨bx, 0, none⟩) (by simp) hc), hm2.cell (x := ⟨b, 0, none⟩) nb (hm.cell (x := ⟨b, 0, none⟩) (by simp) c0)⟩ | fail)
    (first | ((with_reducible refine (HP.out _ hm).mono ?_); rintro e w2 ⟨rfl, hm⟩) | ((with_reducible refine (HC.out _ hm).mono ?_); rintro e w3 ⟨A, m, cap, T', rfl, hmx, hsl, tn, h2⟩; have hm2 := tn.m) | fail)
  go_wp2
  go_ret2
  exact ⟨_, _, _, T', rfl, rfl, hsl, (Tn.far hm).trans tn, h2⟩
set_option maxHeartbeats 4000000 in
set_option maxRecDepth 100000 in
theorem act_98_of (x y : Int) (P : List Int) (er : Int) (μ μ1 : Mu) (H : ∀ W a T R, Stt W a T R μ → Calls Tryz.prog 169 #[Pt a.s, .int .i64 x, .int .i64 y] W (Acted a T W ⟨P, er, R, μ1⟩)) : Uni 98 2 [x, y] μ P (er) (μ1) := fun a R => act_self rfl fun w T b c bx h ho hb hlo hbx hc => by
  have c0 : w.cell? ⟨b, 0, none⟩ = some (.int .i64 x) := ho.cell 0 (by simp)
  have c1 : w.cell? ⟨b, 1, none⟩ = some (.int .i64 y) := ho.cell 1 (by simp)
  have hm : Mod [] w w.drew := (Mod.refl [] w).drew
  have HC := Lib.hid (fun W (hW : Mod [] w W) => (H W a T R (h.far hW) : Calls Tryz.prog 169 #[Pt a.s, .int .i64 x, .int .i64 y] W (Acted a T W ⟨P, er, R, μ1⟩)))
  have nb := hb
  have nx := hbx
  clear ho h
  go_enter Tryz.func168, Tryz.ntmps168
  go_wp2_with fail
  go_region_held3 (fun W => W.cell? ⟨bx, 0, none⟩ = some (Pt a.s) ∧ W.cell? ⟨b, 0, none⟩ = some (.int .i64 x) ∧ W.cell? ⟨b, 1, none⟩ = some (.int .i64 y)) (first | with_reducible exact ⟨hm.cell (x := ⟨bx, 0, none⟩) (by simp) hc, hm.cell (x := ⟨b, 0, none⟩) (by simp) c0, hm.cell (x := ⟨b, 1, none⟩) (by simp) c1⟩ | with_reducible exact ⟨hm2.cell (x := ⟨bx, 0, none⟩) nx (hm.cell (x := ⟨bx, 0, none⟩) (by simp) hc), hm2.cell (x := ⟨b, 0, none⟩) nb (hm.cell (x := ⟨b, 0, none⟩) (by simp) c0), hm2.cell (x := ⟨b, 1, none⟩) nb (hm.cell (x := ⟨b, 1, none⟩) (by simp) c1)⟩ | fail)
    (first | ((with_reducible refine (HC.out _ hm).mono ?_); rintro e w3 ⟨A, m, cap, T', rfl, hmx, hsl, tn, h2⟩; have hm2 := tn.m) | fail)
  go_wp2
  go_ret2
  exact ⟨_, _, _, T', rfl, rfl, hsl, (Tn.far hm).trans tn, h2⟩
end Go.Proofs.YtegcecpmdgljpaaGreatDoor
