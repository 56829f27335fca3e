/- Layer 12: the document's rows of names. No condition. -/
import Derived.Test.YtgmdagjaigbajaaTH
import Derived.Great.BuildSlice
namespace Go.Proofs.Ytgmdagjaigbajaa
open Go.RowKit
set_option linter.unusedVariables false

def strCells (N : List (List UInt8)) : Array Value := (N.map fun s => Value.string (str s)).toArray
/-- A row of texts that is laid down. -/
theorem lit_tx (w : World) (N : List (List UInt8)) : TxAt (w.alloc (.cells (strCells N) 9)) (some ⟨w.heap.size, 0, none⟩) (N.map str) := fun i hi => by
  have hi2 : i < N.length := by simpa using hi
  refine ⟨_, _, rfl, ?_⟩
  rw [Nat.zero_add, World.cell?_alloc_new]
  simp [strCells, hi2]
def NmP (w : World) (N : List (List UInt8)) (e : Ending) (w' : World) : Prop := ∃ A c, e = .returned (.slice A N.length c) ∧ TxAt w' A (N.map str) ∧ Mod [] w w' ∧ ∀ a, A = some a → w.heap.size ≤ a.block
theorem nm_end (w : World) (N : List (List UInt8)) (n : Nat) (hn : n = N.length) : NmP w N (.returned (.slice (some ⟨w.heap.size, 0, none⟩) n n)) (w.alloc (.cells (strCells N) 9)) := by
  subst hn
  exact ⟨_, _, rfl, lit_tx w N, (Mod.refl [] w).alloc _, fun a h => by injection h with h; rw [← h]; exact Nat.le_refl _⟩
theorem info_str12 : ∃ ie z, Try.prog.info? 9 = some ie ∧ ie.zero = some z ∧ ie.size = 1 ∧ z = .string ⟨#[]⟩ := by
  obtain ⟨i, hi, hz0, hz1, hz2⟩ := info_parts Try.infoStr
  exact ⟨i, _, hi, hz0, hz1, rfl⟩
/-- A literal row of texts, as one step. -/
theorem wpList_texts {ops : Array Oper} {rest : List Oper} {o : Oper} {a : Act} {w : World} {Q : Exit → Act → World → Prop} (hg : o.guard = none) (len : Nat) (parts : Array (Nat × Operand)) (ho : o.op = .buildSlice 39 len parts)
    (N : List (List UInt8)) (hpos : ¬ len = 0) (hlen : len ≤ 1000)
    (hf : Instr.fill (fun i => some (i * 1, 1)) ((Array.range (len * 1)).map ((Value.string ⟨#[]⟩).cells[· % (Value.string ⟨#[]⟩).cells.size]!)) (parts.map fun (i, x) => (i, a.eval x)).toList = some (strCells N))
    (h : wpList Try.prog ops Q rest (a.put o.dst (.slice (some ⟨w.heap.size, 0, none⟩) len len)) (w.alloc (.cells (strCells N) 9))) : wpList Try.prog ops Q (o :: rest) a w := by
  obtain ⟨ie, z, h1, h2, h3, rfl⟩ := info_str12
  exact wpList_buildSlice hg 39 9 len parts ho (strCells N) ie _ Try.underlying39 h1 h2 (by rw [h3]; omega) (by rw [h3]; omega) (by rw [h3]; exact hf) h
set_option maxRecDepth 100000 in
set_option maxHeartbeats 4000000 in
theorem names_prim (w : World) : Calls Try.prog 19 #[.int .i64 1] w (NmP w primN) := by
  go_enter Try.func19, Try.ntmps19
  go_upto_region 3 with fail
  go_wp2_with (refine wpList_texts rfl 107 _ rfl primN (by decide) (by decide) (by kernel_rfl) ?_)
  go_ret
  exact nm_end w primN 107 rfl
set_option maxRecDepth 100000 in
set_option maxHeartbeats 4000000 in
theorem names_ctl (w : World) : Calls Try.prog 19 #[.int .i64 2] w (NmP w ctlN) := by
  go_enter Try.func19, Try.ntmps19
  go_upto_region 5 with fail
  go_wp2_with (refine wpList_texts rfl 9 _ rfl ctlN (by decide) (by decide) (by kernel_rfl) ?_)
  go_ret
  exact nm_end w ctlN 9 rfl
set_option maxRecDepth 100000 in
set_option maxHeartbeats 4000000 in
theorem names_flow (w : World) : Calls Try.prog 19 #[.int .i64 3] w (NmP w flowN) := by
  go_enter Try.func19, Try.ntmps19
  go_upto_region 7 with fail
  go_wp2_with (refine wpList_texts rfl 17 _ rfl flowN (by decide) (by decide) (by kernel_rfl) ?_)
  go_ret
  exact nm_end w flowN 17 rfl
set_option maxRecDepth 100000 in
set_option maxHeartbeats 4000000 in
theorem names_host (w : World) : Calls Try.prog 19 #[.int .i64 4] w (NmP w hostN) := by
  go_enter Try.func19, Try.ntmps19
  go_upto_region 9 with fail
  go_wp2_with (refine wpList_texts rfl 47 _ rfl hostN (by decide) (by decide) (by kernel_rfl) ?_)
  go_ret
  exact nm_end w hostN 47 rfl
set_option maxHeartbeats 4000000 in
theorem names_none (w : World) (k : Int) (h1 : k ≠ 1) (h2 : k ≠ 2) (h3 : k ≠ 3) (h4 : k ≠ 4) : Calls Try.prog 19 #[.int .i64 k] w (NmP w []) := by
  have k1 : (k == 1) = false := by rw [beq_eq_false_iff_ne]; exact h1
  have k2 : (k == 2) = false := by rw [beq_eq_false_iff_ne]; exact h2
  have k3 : (k == 3) = false := by rw [beq_eq_false_iff_ne]; exact h3
  have k4 : (k == 4) = false := by rw [beq_eq_false_iff_ne]; exact h4
  clear h1 h2 h3 h4
  go_enter Try.func19, Try.ntmps19
  go_wp2_with fail
  go_ret
  exact ⟨none, _, rfl, tx_none w, Mod.refl [] w, fun a h => by cases h⟩
theorem rnames_calls (w : World) (k : Int) : Calls Try.prog 19 #[.int .i64 k] w (NmP w (namesK k)) := by
  by_cases h1 : k = 1
  · subst h1; exact names_prim w
  by_cases h2 : k = 2
  · subst h2; exact names_ctl w
  by_cases h3 : k = 3
  · subst h3; exact names_flow w
  by_cases h4 : k = 4
  · subst h4; exact names_host w
  have := names_none w k h1 h2 h3 h4
  unfold namesK
  rw [if_neg h1, if_neg h2, if_neg h3, if_neg h4]
  exact this
set_option maxHeartbeats 4000000 in
theorem rname_calls (k n : Int) (hn : I64 n) (w : World) : Calls Try.prog 13 #[.int .i64 k, .int .i64 n] w fun e w' => e = .returned (.string (str (nameT k n))) ∧ Mod [] w w' := by
  have G1 := Lib.hid (rnames_calls w k)
  have hnl := names_len k
  unfold I64 at hn
  by_cases h1 : n < 1
  · rw [nameT_low h1]
    have d1 : decide (n < 1) = true := decide_eq_true h1
    go_enter Try.func13, Try.ntmps13
    go_wp2_with fail
    refine (G1.out).mono ?_
    rintro e w1 ⟨A1, c1, rfl, t1, m1, _⟩
    have M1 := Lib.hid m1
    obtain ⟨n1, hn1⟩ : ∃ n, n = (namesK k).length := ⟨_, rfl⟩
    rw [← hn1] at hnl ⊢
    clear m1 hn1 t1
    go_wp2_with fail
    go_ret
    exact ⟨rfl, M1.out⟩
  · by_cases h2 : ((namesK k).length : Int) < n
    · rw [nameT_far h2]
      have d1 : decide (n < 1) = false := decide_eq_false h1
      go_enter Try.func13, Try.ntmps13
      go_wp2_with fail
      refine (G1.out).mono ?_
      rintro e w1 ⟨A1, c1, rfl, t1, m1, _⟩
      have M1 := Lib.hid m1
      obtain ⟨n1, hn1⟩ : ∃ n, n = (namesK k).length := ⟨_, rfl⟩
      rw [← hn1] at hnl h2 ⊢
      have d2 : decide ((n1 : Int) < n) = true := decide_eq_true h2
      clear m1 hn1 t1
      go_wp2_with fail
      go_ret
      exact ⟨rfl, M1.out⟩
    · obtain ⟨j, hj⟩ : ∃ j : Nat, n = (j : Int) + 1 := ⟨(n - 1).toNat, by omega⟩
      have hjl : j < (namesK k).length := by omega
      rw [nameT_get hj hjl]
      have hs : wrap64 (n - 1) = (j : Int) := by rw [IntWalk.wrap64_in _ (by omega)]; omega
      have HS := Lib.hid (show ∃ S, S = str (namesK k)[j] from ⟨_, rfl⟩)
      have ej : j = n.toNat - 1 := by omega
      obtain ⟨S, hS⟩ := HS.out
      rw [← hS]
      have HSS := Lib.hid hS
      have EJ := Lib.hid ej
      clear hS HS hj ej
      go_enter Try.func13, Try.ntmps13
      go_wp2_with fail
      refine (G1.out).mono ?_
      rintro e w1 ⟨A1, c1, rfl, t1, m1, _⟩
      have M1 := Lib.hid m1
      obtain ⟨b, o, rfl, hc⟩ := tx_get t1 j hjl
      rw [← HSS.out, EJ.out] at hc
      obtain ⟨n1, hn1⟩ : ∃ n, n = (namesK k).length := ⟨_, rfl⟩
      rw [← hn1] at hnl h2 ⊢
      have hjI : (j : Int) < (n1 : Int) := by omega
      have d1 : decide (n < 1) = false := decide_eq_false (by omega)
      have d2 : decide ((n1 : Int) < n) = false := decide_eq_false (by omega)
      clear m1 hn1 t1
      go_wp2_with fail
      go_ret
      exact ⟨rfl, M1.out⟩
end Go.Proofs.Ytgmdagjaigbajaa
