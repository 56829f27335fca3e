/- Layer 6: an act done to both stacks: cells are put. Conditions: both stacks have the same cells; numbers are of their kinds. -/
import Derived.Test.YtjmbmhjhnoiclaaS6ZA
import Derived.Test.YtjmbmhjhnoiclaaS6V
namespace Go.Proofs.Ytjmbmhjhnoiclaa
open Go.RowKit
set_option linter.unusedVariables false

/-- The first i of n cells, from x on, and zeros. -/
def fillL (x : Int) (n i : Nat) : List Int := (List.range n).map fun j => if j < i then wrap64 (x + (j : Int)) else 0
theorem fillL_len (x : Int) (n i : Nat) : (fillL x n i).length = n := by simp [fillL]
theorem fillL_succ (x : Int) (n i : Nat) (h : i < n) : (fillL x n i).set i (wrap64 (x + (i : Int))) = fillL x n (i + 1) := by
  apply List.ext_getElem
  · simp [fillL]
  · intro j h1 h2
    simp [fillL] at h1 h2 ⊢
    rw [List.getElem_set]
    by_cases e : i = j
    · subst e
      simp
    · rw [if_neg e]
      simp
      by_cases h3 : j < i
      · rw [if_pos h3, if_pos (by omega)]
      · rw [if_neg h3, if_neg (by omega)]
theorem fillL_zero (x : Int) (n : Nat) : fillL x n 0 = List.replicate n 0 := by
  apply List.ext_getElem
  · simp [fillL]
  · intro j h1 h2
    simp [fillL]
theorem fillL_i64 (x : Int) (n i : Nat) : ∀ y ∈ fillL x n i, I64 y := fun y hy => by
  simp [fillL] at hy
  obtain ⟨j, _, rfl⟩ := hy
  split
  · exact i64_wrap _
  · unfold I64; omega
theorem make_cells (n : Nat) (hn : n ≤ 1000) (W : World) : (Instr.makeSlice 27 (.int .i64 (n : Int)) (.int .i64 (n : Int))).run Try.prog W = .ok (.slice (some ⟨W.heap.size, 0, none⟩) n n) (W.alloc (.cells (cellsI (List.replicate n 0)).toArray 31)) := by
  obtain ⟨i, hi, hz0, hz1, hz2⟩ := info_parts Try.infoCell
  have h := run_make (P := Try.prog) W 27 31 i (.int .i64 0) Try.underlying27 hi hz0 .i64 .i64 (n : Int) (n : Int) (by omega) (by omega) (by rw [hz2]; omega) (by omega)
  have e : madeCells (Value.cells (.int .i64 0)) n = (cellsI (List.replicate n 0)).toArray := by
    apply Array.toList_inj.1
    show (madeCells #[.int .i64 0] n).toList = _
    rw [toList_madeCells_one]
    simp [cellsI]
  rw [hz1, Int.toNat_natCast, Nat.mul_one, e] at h
  exact h
set_option maxHeartbeats 4000000 in
set_option maxRecDepth 100000 in
theorem does_put {w V W : World} {p q : Nat} {L : List Int} (t : Tm w V W p q L L) (k o x : Int) (hk : 0 ≤ k ∧ k ≤ 255) (hk2 : k % 8 = 3) (ho : I64 o) (hx : I64 x) :
    Calls Try.prog 13 #[Pt p, Pt q, .agg #[.int .u8 k, .int .i64 o, .int .i64 x]] W (Dd w V p q) := by
  have act0 := Act3.last W k o x 33
  have ma := (Mod.refl [] W).alloc (.cells #[.int .u8 k, .int .i64 o, .int .i64 x] 33)
  have TA := Lib.hid (t.far ma)
  have TD := Lib.hid (t.far ma.drew)
  have hp := Nat.ne_of_gt t.s.lp
  have hq : W.heap.size ≠ q := by obtain ⟨A, cap, hr⟩ := t.r; exact Nat.ne_of_gt hr.lq
  have HPQ := Lib.hid (And.intro hp hq)
  have HX := Lib.hid hx
  have HO := Lib.hid ho
  have c0 := act0.c0
  have c1 := act0.c1
  have c2 := act0.c2
  obtain ⟨n, hn, hn7⟩ := and_nat 31 (by decide) o
  rw [show ((31 : Nat) : Int) = 31 from rfl] at hn
  clear t ma ho hx hp hq act0
  go_enter Try.func13, Try.ntmps13
  have hmk := make_cells n (by omega)
  go_wp2_with fail
  have hR : Ow ((W.alloc (.cells #[.int .u8 k, .int .i64 o, .int .i64 x] 33)).alloc (.cells (cellsI (List.replicate n 0)).toArray 31)) (W.heap.size + 1) (fillL x n 0) n := by
    have := Ow.new (W.alloc (.cells #[.int .u8 k, .int .i64 o, .int .i64 x] 33)) (List.replicate n 0) (by unfold maxLen; simp; omega)
    rw [size_alloc', List.length_replicate] at this
    rw [fillL_zero]
    exact this
  have hM := (Mod.refl [] (W.alloc (.cells #[.int .u8 k, .int .i64 o, .int .i64 x] 33))).alloc (.cells (cellsI (List.replicate n 0)).toArray 31)
  have hsz : (W.alloc (.cells #[.int .u8 k, .int .i64 o, .int .i64 x] 33)).heap.size = W.heap.size + 1 := size_alloc' _ _
  obtain ⟨b, hb⟩ : ∃ b, b = W.heap.size + 1 := ⟨_, rfl⟩
  rw [← hb] at hR hsz ⊢
  generalize (W.alloc (.cells #[.int .u8 k, .int .i64 o, .int .i64 x] 33)).alloc (.cells (cellsI (List.replicate n 0)).toArray 31) = W2 at hR hM ⊢
  have H0 := Lib.hid (And.intro hR hM)
  generalize W.alloc (.cells #[.int .u8 k, .int .i64 o, .int .i64 x] 33) = W1 at TA TD c0 c1 c2 hM hsz H0
  have HSZ := Lib.hid hsz
  have HB := Lib.hid hb
  have C2 := Lib.hid c2
  clear hR hM hsz hb c0 c1 c2 hmk TD hn
  go_loopw [85] (fun i wr => ∃ j : Nat, j ≤ n ∧ i = .int .i64 (j : Int) ∧ RowKit.Hid (Ow wr b (fillL x n j) n ∧ Mod [] W1 wr)) (fun i _ => n - (intOf i).toNat)
  case atStart => exact ⟨0, by omega, rfl, H0⟩
  case round =>
    clear H0
    obtain ⟨j, hj, rfl, HT⟩ := hrel
    by_cases hlt : j < n
    · have hc := HT.out.1.cell j (by rw [fillL_len]; exact hlt)
      have hf := HT.out.1.free j
      have c2r := HT.out.2.cell (by simp) C2.out
      generalize (fillL x n j)[j]'(by rw [fillL_len]; exact hlt) = y at hc
      have g1 : (0 : Int) ≤ (j : Int) := by omega
      have g2 : (j : Int) < (n : Int) := by omega
      go_wp2_with fail
      go_roundw
      case rel =>
        refine ⟨j + 1, by omega, by go_num, Lib.hid ⟨?_, ?_⟩⟩
        · rw [← fillL_succ x n j hlt]
          exact HT.out.1.put j (by rw [fillL_len]; exact hlt) _
        · exact HT.out.2.far1 ((Mod.refl [b] wr).one (p := b) (by simp) j _) (by rw [HSZ.out]; exact Nat.le_refl _)
      case measure => simp [intOf]; omega
    · have hjn : j = n := by omega
      subst hjn
      have T1 := Lib.hid (TA.out.far HT.out.2)
      have O1 := Lib.hid HT.out.1
      have hbp : b ≠ p := by have := TA.out.s.lp; rw [HSZ.out] at this; omega
      have HBP := Lib.hid hbp
      clear HT hj hlt hbp
      go_wp2_with fail
      refine (T1.out.put1 j O1.out.sl (by rw [fillL_len]) (fillL_i64 x j j) (by omega)).mono ?_
      rintro e w3 ⟨rfl, h3, m3⟩
      have O3 := Lib.hid (O1.out.mod m3 (by simpa using HBP.out))
      obtain ⟨r, hr⟩ : ∃ r, r = putL (fillL x j j) L := ⟨_, rfl⟩
      have HR := Lib.hid hr
      rw [← hr] at h3 ⊢
      have T3 := Lib.hid h3
      clear h3 m3 hr O1 T1
      go_wp2_with fail
      refine (T3.out.put2 O3.out.sl (by rw [fillL_len]) (by simp) (fun y hy => by injection hy with hy; subst hy; exact O3.out.lt) (fillL_i64 x j j) (by omega)).mono ?_
      rintro e w4 ⟨rfl, h4, m4⟩
      rw [← HR.out] at h4 ⊢
      have T4 := Lib.hid h4
      clear h4 m4
      go_wp2
      go_ret
      exact ⟨ret_true (by simp), _, T4.out⟩
theorem does_any {w V W : World} {p q : Nat} {L : List Int} (t : Tm w V W p q L L) (k o x : Int) (hk : 0 ≤ k ∧ k ≤ 255) (ho : I64 o) (hx : I64 x) :
    Calls Try.prog 13 #[Pt p, Pt q, .agg #[.int .u8 k, .int .i64 o, .int .i64 x]] W (Dd w V p q) := by
  have hc : k % 8 = 0 ∨ k % 8 = 1 ∨ k % 8 = 2 ∨ k % 8 = 3 ∨ k % 8 = 4 ∨ k % 8 = 5 ∨ k % 8 = 6 ∨ k % 8 = 7 := by omega
  rcases hc with e | e | e | e | e | e | e | e
  · exact does_push t k o x hk e ho hx
  · exact does_pop t k o x hk e ho hx
  · exact does_take t k o x hk e ho hx
  · exact does_put t k o x hk e ho hx
  · exact does_cut t k o x hk e ho hx
  · exact does_do5 t k o x hk e ho hx
  · exact does_do6 t k o x hk e ho hx
  · exact does_do7 t k o x hk e ho hx
end Go.Proofs.Ytjmbmhjhnoiclaa
