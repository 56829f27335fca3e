/- Layer 8 (package source): a text that is being read, where it lies. Condition: texts of at most 2^62 bytes. -/
import Derived.Test.YtmbcjphgjdffmaaS8B
namespace Go.Proofs.Ytmbcjphgjdffmaa
open Go.RowKit
set_option linter.unusedVariables false

/-- What lies at place o of block b: a text, and the place at which it is read. -/
structure Rd (w : World) (b o : Nat) (T : List UInt8) (i : Nat) : Prop where
  c0 : w.cell? ⟨b, o, none⟩ = some (.string (str T))
  c1 : w.cell? ⟨b, o + 1, none⟩ = some (.int .i64 (i : Int))
  f : w.frozen? ⟨b, o + 1, none⟩ = false
theorem Rd.far {w w' : World} {b o : Nat} {T : List UInt8} {i : Nat} (h : Rd w b o T i) (k : Mod [] w w') : Rd w' b o T i :=
  ⟨k.cell (by simp) h.c0, k.cell (by simp) h.c1, (k.frozen (by simp) (World.block_lt_of_cell? w _ h.c1)).trans h.f⟩
/-- f answers v, and the place is j then; else nothing of old has turned. -/
def Reads (b o : Nat) (w : World) (v : Value) (j : Nat) (e : Ending) (w' : World) : Prop := e = .returned v ∧ ∃ w1, Mod [] w w1 ∧ w' = w1.setCell ⟨b, o + 1, none⟩ (.int .i64 (j : Int))
def Been (b o : Nat) (w : World) (j : Nat) (wx : World) : Prop := ∃ w1, Mod [] w w1 ∧ wx = w1.setCell ⟨b, o + 1, none⟩ (.int .i64 (j : Int))
set_option maxHeartbeats 2000000 in
theorem rd_word {w : World} {b o : Nat} {T : List UInt8} {i : Nat} (h : Rd w b o T i) (hl : T.length ≤ 4611686018427387904) :
    Calls Try.prog 21 #[.pointer (some ⟨b, o, none⟩)] w (Reads b o w (.string (str (wordL T i).1)) (wordL T i).2) := by
  have H := Lib.hid (fun W => word_calls T hl (i : Int) W)
  have h0 := h.c0
  have h1 := h.c1
  have hf := h.f
  have hm : Mod [] w w.drew := (Mod.refl [] w).drew
  have HR := Lib.hid h
  obtain ⟨S, hS⟩ : ∃ S, S = str T := ⟨_, rfl⟩
  obtain ⟨s1, hs1⟩ : ∃ s, s = str (wordL T i).1 := ⟨_, rfl⟩
  obtain ⟨j, hj⟩ : ∃ j, j = (wordL T i).2 := ⟨_, rfl⟩
  rw [← hS] at H h0
  rw [← hs1, ← hj] at H ⊢
  have HS := Lib.hid hS
  clear hS hs1 hj h
  unfold Reads
  go_enter Try.func21, Try.ntmps21
  go_wp2_with fail
  go_cut [2] (fun u wx => u = .string s1 ∧ Been b o w j wx)
  · go_region_with (first | (go_at_call 25; refine (H.out _).mono ?_; rintro e w1 ⟨rfl, hx⟩; have R1 := (HR.out.far hm).far hx; have k1 := R1.c1; have kf := R1.f; have hx1 := hm.trans hx; clear hx) | fail)
    all_goals
      go_wp2_with fail
      go_meet
      exact ⟨rfl, w1, hx1, rfl⟩
  · obtain ⟨rfl, hb⟩ := hcut
    have HB := Lib.hid hb
    clear hb h0 h1 hf
    go_wp2_with fail
    go_ret
    exact ⟨rfl, HB.out⟩
theorem rd_seek {w : World} {b o : Nat} {T : List UInt8} {i : Nat} (h : Rd w b o T i) (n : Int) (hl : T.length ≤ 4611686018427387904) (hn : I64 n) :
    Calls Try.prog 23 #[.pointer (some ⟨b, o, none⟩), .int .i64 n] w fun e w' => e = .returned (.tuple #[]) ∧ w' = w.setCell ⟨b, o + 1, none⟩ (.int .i64 ((heldN T.length n : Nat) : Int)) := by
  have h0 := h.c0
  have h1 := h.c1
  have hf := h.f
  have e : ((heldN T.length n : Nat) : Int) = min (max n 0) (T.length : Int) := by unfold heldN; omega
  rw [e, ← str_size T]
  obtain ⟨S, hS⟩ : ∃ S, S = str T := ⟨_, rfl⟩
  rw [← hS] at h0 ⊢
  clear h hS e
  go_enter Try.func23, Try.ntmps23
  go_wp2
  all_goals exact bodyPost_end (v := .tuple #[]) (results_none rfl _ _ _) rfl ⟨rfl, by congr 2; omega⟩
theorem rd_has {w : World} {b o : Nat} {T : List UInt8} {i : Nat} (h : Rd w b o T i) (n : Int) (hl : T.length ≤ 4611686018427387904) (hn : I64 n) :
    Calls Try.prog 22 #[.pointer (some ⟨b, o, none⟩), .int .i64 n] w fun e w' => e = .returned (.bool (decide (0 ≤ n ∧ n ≤ (T.length : Int)))) ∧ w = w' := by
  have h0 := h.c0
  rw [← str_size T]
  obtain ⟨S, hS⟩ : ∃ S, S = str T := ⟨_, rfl⟩
  rw [← hS] at h0 ⊢
  clear h hS
  go_enter Try.func22, Try.ntmps22
  go_wp2
  all_goals
    go_ret
    first | (simp [*]; done) | (simp [*]; omega)
end Go.Proofs.Ytmbcjphgjdffmaa
