/- Layer 9: what DictHides needs: texts in great letters, dictionaries of one list, Back beside other blocks. No condition. -/
import Derived.Test.YtldnpppbnakcoaaBI
namespace Go.Proofs.Ytldnpppbnakcoaa
open Go.RowKit
set_option linter.unusedVariables false

theorem Du.back {w0 w : World} {p : Nat} {U : List Nat} {D : Di} (h : Du w0 w p U D) (a b : Int) : Calls Try.prog 25 #[PtD p, .agg #[.int .i64 a, .int .i64 b]] w (Dus w0 p U (.int .i64 (backR D a b).1) (backR D a b).2 w) := du_of h fun T g => pback_calls g a b
def capC (c : UInt8) : UInt8 := if 97 ≤ c.toNat ∧ c.toNat ≤ 122 then c - 32 else c
def capL (l : List UInt8) : List UInt8 := l.map capC
theorem capC_nat (c : UInt8) : (capC c).toNat = if 97 ≤ c.toNat ∧ c.toNat ≤ 122 then c.toNat - 32 else c.toNat := by
  unfold capC
  split
  · rename_i h
    rw [UInt8.toNat_sub_of_le _ _ (by rw [UInt8.le_iff_toNat_le]; show 32 ≤ c.toNat; omega)]
    rfl
  · rfl
theorem fold_cap (c : UInt8) : foldC (capC c) = foldC c := by
  apply UInt8.toNat_inj.1
  rw [foldC_nat, foldC_nat, capC_nat]
  split <;> rename_i h
  · split <;> rename_i h2
    · rw [if_neg (by omega)]; omega
    · omega
  · rfl
theorem foldL_cap (l : List UInt8) : foldL (capL l) = foldL l := by
  unfold foldL capL
  rw [List.map_map]
  congr 1
  funext c
  exact fold_cap c
theorem capL_len (L : List UInt8) : (capL L).length = L.length := by simp [capL]
theorem cap_set (L : List UInt8) (k : Nat) (h : k < L.length) : ((capL L).take k ++ L.drop k).set k (capC L[k]) = (capL L).take (k + 1) ++ L.drop (k + 1) := by
  have h1 : ((capL L).take k).length = k := by rw [List.length_take, capL_len]; omega
  rw [List.set_append_right _ _ (by omega), h1, Nat.sub_self, List.drop_eq_getElem_cons h, List.set_cons_zero, List.take_succ_eq_append_getElem (by rw [capL_len]; exact h), List.append_assoc]
  simp [capL]
theorem cap_keep (L : List UInt8) (k : Nat) (h : k < L.length) (e : capC L[k] = L[k]) : (capL L).take k ++ L.drop k = (capL L).take (k + 1) ++ L.drop (k + 1) := by
  rw [List.drop_eq_getElem_cons h, List.take_succ_eq_append_getElem (by rw [capL_len]; exact h), List.append_assoc]
  congr 1
  simp [capL, e]
theorem cap_at (L : List UInt8) (k : Nat) (h : k < L.length) : ((capL L).take k ++ L.drop k)[k]? = some L[k] := by
  rw [List.getElem?_append_right (by simp; omega), List.length_take, capL_len, Nat.min_eq_left (by omega), Nat.sub_self]
  simp [h]
/-- A dictionary of one list. -/
def one (W : List We) : Di := ⟨W, 1, [1], 1⟩
def addW (W : List We) (s : List UInt8) (x : Int) : List We := if s.length = 0 ∨ 31 < s.length ∨ 2000 ≤ W.length then W else W ++ [⟨s, x, false, 1⟩]
theorem addR_one (W : List We) (s : List UInt8) (x : Int) : (addR (one W) s x).2 = one (addW W s x) := by
  unfold addR addW one
  by_cases h1 : s.length = 0
  · rw [if_pos h1, if_pos (Or.inl h1)]
  · by_cases h2 : 31 < s.length
    · rw [if_neg h1, if_pos h2, if_pos (Or.inr (Or.inl h2))]
    · by_cases h3 : 2000 ≤ W.length
      · rw [if_neg h1, if_neg h2, if_pos h3, if_pos (Or.inr (Or.inr h3))]
      · rw [if_neg h1, if_neg h2, if_neg h3, if_neg (by omega)]
theorem addW_len (W : List We) (s : List UInt8) (x : Int) : (addW W s x).length ≤ W.length + 1 := by
  unfold addW
  split
  · omega
  · simp
theorem addW_l {W : List We} (h : ∀ a ∈ W, a.l = 1) (s : List UInt8) (x : Int) : ∀ a ∈ addW W s x, a.l = 1 := by
  unfold addW
  split
  · exact h
  · intro a ha
    rcases List.mem_append.1 ha with ha | ha
    · exact h a ha
    · rw [List.mem_singleton.1 ha]
theorem addR_empty (W : List We) (s : List UInt8) (x : Int) (h : s.length = 0) : addR (one W) s x = (-16, one W) := by
  unfold addR
  rw [if_pos h]
theorem addR_long (W : List We) (s : List UInt8) (x : Int) (h : 31 < s.length) : addR (one W) s x = (-19, one W) := by
  unfold addR
  rw [if_neg (by omega), if_pos h]
theorem addR_good (W : List We) (s : List UInt8) (x : Int) (h1 : 1 ≤ s.length) (h2 : s.length ≤ 31) (h3 : W.length < 2000) : addR (one W) s x = (0, one (W ++ [⟨s, x, false, 1⟩])) := by
  unfold addR one
  rw [if_neg (by omega), if_neg (by omega), if_neg (show ¬ 2000 ≤ W.length by omega)]
theorem findW_one (W : List We) (n : List UInt8) : findW W [1] n = inW W 1 n := by
  unfold findW
  rw [List.findSome?_cons]
  cases inW W 1 n <;> rfl
theorem inW_top (W : List We) (a : We) (n : List UInt8) (h1 : a.l = 1) (h2 : foldL a.n = foldL n) : findW (W ++ [a]) [1] n = some a := by
  rw [findW_one]
  unfold inW
  rw [List.reverse_append, List.reverse_singleton, List.singleton_append, List.find?_cons]
  have : isW 1 n a = true := by simp [isW, h1, h2]
  rw [this]
theorem nowR_one (W : List We) (a : We) : nowR (one (W ++ [a])) = (0, one (W ++ [{ a with now := true }])) := by
  unfold nowR one
  simp
theorem backR_one (W V : List We) (hW : ∀ a ∈ W, a.l = 1) : backR (one (W ++ V)) (W.length : Int) 1 = (0, one W) := by
  unfold backR one
  have h : (⟨W ++ V, 1, [1], 1⟩ : Di).mayBack (W.length : Int) 1 = true := by
    unfold Di.mayBack
    rw [Int.toNat_natCast, List.take_left, Bool.and_eq_true]
    refine ⟨by simp; omega, ?_⟩
    rw [List.all_eq_true]
    intro a ha
    rw [hW a ha]
    rfl
  rw [if_pos h, Int.toNat_natCast, List.take_left]
  rfl
/-- What Find answers, whatever it is. -/
theorem resE_is (o : Option We) : ∃ (N : ByteArray) (x : Int) (b is : Bool), resE o = .tuple #[.agg #[.string N, .int .i64 x, .bool b], .bool is] := by
  cases o with
  | none => exact ⟨_, _, _, _, rfl⟩
  | some a => exact ⟨_, _, _, _, rfl⟩
theorem Bs.keep {w w' : World} {g : Nat} {X : List UInt8} {U : List Nat} (h : Bs w g X) (k : Keep U w w') (hg : g ∈ U) : Bs w' g X :=
  ⟨fun j hj => k.cell hg (h.cell j hj), fun j hj => (k.frozen hg h.lt).trans (h.free j hj), Nat.lt_of_lt_of_le h.lt k.size⟩
theorem nonempty_str {s : List UInt8} (h : 1 ≤ s.length) : (str s).toList.isEmpty = false := by
  rw [ByteArray.toList_eq, List.isEmpty_eq_false_iff]
  intro e
  have h3 : (str s).data.toList.length = s.length := by simp [str]
  rw [e] at h3
  have h3 : 0 = s.length := h3
  omega
/-- A dictionary beside a word, a mark and a row of bytes. -/
structure Hd (w1 w : World) (p b1 b2 g : Nat) (D : Di) (N : ByteArray) (nx : Int) (nb : Bool) (m : Int) (X : List UInt8) : Prop where
  d : Du w1 w p [b1, b2, g] D
  e0 : w.cell? ⟨b1, 0, none⟩ = some (.string N)
  e1 : w.cell? ⟨b1, 1, none⟩ = some (.int .i64 nx)
  e2 : w.cell? ⟨b1, 2, none⟩ = some (.bool nb)
  c0 : w.cell? ⟨b2, 0, none⟩ = some (.int .i64 m)
  c1 : w.cell? ⟨b2, 1, none⟩ = some (.int .i64 1)
  bs : Bs w g X
  n1 : b1 ≠ g
  n2 : b2 ≠ g
  g0 : w1.heap.size ≤ g
theorem Hd.turn {w1 w w' : World} {p b1 b2 g : Nat} {D D' : Di} {N : ByteArray} {nx : Int} {nb : Bool} {m : Int} {X : List UInt8} (h : Hd w1 w p b1 b2 g D N nx nb m X) (d : Du w1 w' p [b1, b2, g] D') (k : Keep [b1, b2, g] w w') : Hd w1 w' p b1 b2 g D' N nx nb m X :=
  ⟨d, k.cell (by simp) h.e0, k.cell (by simp) h.e1, k.cell (by simp) h.e2, k.cell (by simp) h.c0, k.cell (by simp) h.c1, h.bs.keep k (by simp), h.n1, h.n2, h.g0⟩
theorem Hd.far {w1 w w' : World} {p b1 b2 g : Nat} {D : Di} {N : ByteArray} {nx : Int} {nb : Bool} {m : Int} {X : List UInt8} (h : Hd w1 w p b1 b2 g D N nx nb m X) (k : Mod [] w w') : Hd w1 w' p b1 b2 g D N nx nb m X := h.turn (h.d.far k) (Keep.of k)
theorem Hd.set {w1 w : World} {p b1 b2 g : Nat} {D : Di} {N : ByteArray} {nx : Int} {nb : Bool} {m : Int} {X : List UInt8} (h : Hd w1 w p b1 b2 g D N nx nb m X) (i : Nat) (c : UInt8) (hi : i < X.length) : Hd w1 (w.setCell ⟨g, i, none⟩ (.int .u8 (c.toNat : Int))) p b1 b2 g D N nx nb m (X.set i c) := by
  have hm : Mod [g] w (w.setCell ⟨g, i, none⟩ (.int .u8 (c.toNat : Int))) := (Mod.refl [g] w).set (x := ⟨g, i, none⟩) (Or.inl (by simp)) _
  have h1 : b1 ∉ [g] := by simpa using h.n1
  have h2 : b2 ∉ [g] := by simpa using h.n2
  exact ⟨h.d.store hm (by simp) (by simpa using h.g0), hm.cell h1 h.e0, hm.cell h1 h.e1, hm.cell h1 h.e2, hm.cell h2 h.c0, hm.cell h2 h.c1, h.bs.set i c hi, h.n1, h.n2, h.g0⟩
end Go.Proofs.Ytldnpppbnakcoaa
