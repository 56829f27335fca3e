/- Layer 14 (package frame): Cut. Condition: the block is frames (Fr). -/
import Derived.Test.YtacmidlhfcnkiaaGE
import Derived.Lib.SliceRun
namespace Go.Proofs.Ytacmidlhfcnkiaa
open Go.RowKit
set_option linter.unusedVariables false

theorem size_frame (W : World) : (Go.sizeOf TF).run Try.prog W = .ok 6 W := by kernel_rfl
def zeros (n : Nat) : List Value := (Builtin.zeroCells zC n).toList
theorem zeros_len (n : Nat) : (zeros n).length = n * 6 := by simp [zeros, Builtin.zeroCells]
theorem zeros_one (n : Nat) : ∀ u ∈ zeros n, u.oneCell' = true := fun u hu => by
  simp only [zeros, Builtin.zeroCells, Array.toList_map, List.mem_map] at hu
  obtain ⟨i, _, rfl⟩ := hu
  have hi : i % zC.size < 6 := Nat.mod_lt _ (by decide)
  generalize i % zC.size = j at hi
  have : j = 0 ∨ j = 1 ∨ j = 2 ∨ j = 3 ∨ j = 4 ∨ j = 5 := by omega
  rcases this with rfl | rfl | rfl | rfl | rfl | rfl <;> rfl
theorem run_clear6 (W : World) (g o c c' : Nat) (hc0 : 0 < c) (hc : ∀ j, j < c * 6 → (W.cell? ⟨g, o + j, none⟩).isSome = true) (hf : ∀ j, j < c * 6 → W.frozen? ⟨g, o + j, none⟩ = false) (ty : TypeId) :
    (Builtin.clear_ #[27] ty #[.slice (some ⟨g, o, none⟩) c c']).run Try.prog W = .ok (.tuple #[]) (W.setCells g o (zeros c)) := by
  have hst := run_storeCells_cells (P := Try.prog) g o (zeros c) 0 W (by simpa [zeros_len] using hc) (by simpa [zeros_len] using hf) (zeros_one c)
  simp only [Nat.add_zero] at hst
  obtain ⟨m, rfl⟩ : ∃ m, c = m + 1 := ⟨c - 1, by omega⟩
  have hz : (Value.agg zC).cells = zC := rfl
  unfold zeros at hst ⊢
  simp [Builtin.clear_, run_underlying Try.underlying27, hz, hst]
theorem row_sets {e : TypeId} {k g n cap : Nat} {xs : List Value} : ∀ (vs : List Value) (o : Nat) {w : World}, w.ownsRow 0 e k (.slice (some ⟨g, 0, none⟩) n cap) n xs → xs.length ≤ o → (w.setCells g o vs).ownsRow 0 e k (.slice (some ⟨g, 0, none⟩) n cap) n xs
  | [], _, _, h, _ => h
  | v :: r, o, w, h, ho => by
    have h1 := (World.ownsRow.stored h o v).1
    rw [List.set_eq_of_length_le ho] at h1
    exact row_sets r (o + 1) (w := w.setCell ⟨g, o, none⟩ v) (by simpa using h1) (by omega)
theorem addr_zeroF (y : Addr) : y.add 0 = y := by
  unfold Addr.add
  split <;> simp_all
theorem upto_frames (A : Option Addr) (len cap k : Nat) (hk : k ≤ cap) (W : World) :
    (Instr.sliceAt 27 (.slice A len cap) none (some (.int .i64 (k : Int))) none).run Try.prog W = .ok (.slice A k cap) W := by
  have ht := Try.underlying27
  have he : Try.prog.elem 27 = TF := by simp [Program.elem, ht]
  have ht' : Try.prog.underlying 27 = some (.slice (Try.prog.elem 27)) := by rw [he]; exact ht
  rw [run_sliceAt_slice W 27 _ _ _ _ ht', run_slice_h W 27 A len cap ht' .i64 k (by omega) (by omega), he, size_frame]
  show Result.ok (sliced A 0 (k : Int).toNat cap 6) W = _
  unfold sliced
  have e1 : (if cap = 0 then A else A.map fun x => x.add (0 * 6)) = A := by
    split
    · rfl
    · cases A with
      | none => rfl
      | some x => show some (x.add (0 * 6)) = _; rw [Nat.zero_mul, addr_zeroF]
  rw [e1, Int.toNat_natCast, Nat.sub_zero, Nat.sub_zero]
theorem from_frames (A : Option Addr) (n cap x : Nat) (hx : x ≤ n) (hn : n ≤ cap) : ∃ A' c', (∀ W, (Instr.sliceAt 27 (.slice A n cap) (some (.int .i64 (x : Int))) none none).run Try.prog W = .ok (.slice A' (n - x) c') W) ∧ (x < n → ∀ g, A = some ⟨g, 0, none⟩ → A' = some ⟨g, x * 6, none⟩) := by
  have ht := Try.underlying27
  have he : Try.prog.elem 27 = TF := by simp [Program.elem, ht]
  have ht' : Try.prog.underlying 27 = some (.slice (Try.prog.elem 27)) := by rw [he]; exact ht
  refine ⟨if cap = x then A else A.map fun y => y.add (x * 6), cap - x, fun W => ?_, ?_⟩
  · rw [run_sliceAt_slice W 27 _ _ _ _ ht', run_slice_l W 27 A n cap ht' .i64 x (by omega) (by omega), he, size_frame]
    rfl
  · intro hlt g hg
    subst hg
    have : cap ≠ x := by omega
    simp [this, WideShapes.add_plain]
/-- The row of frames from x on is cleared. -/
theorem clear_frames {W : World} {A A' : Option Addr} {n cap c' x c : Nat} {O : List (Fm × Value)} (rv : W.ownsRow 0 TF 6 (.slice A n cap) n (flatG O)) (hx : x ≤ n) (hc : c = n - x) (hA : x < n → ∀ g, A = some ⟨g, 0, none⟩ → A' = some ⟨g, x * 6, none⟩) (ty : TypeId) :
    ∃ W3, (Builtin.clear_ #[27] ty #[.slice A' c c']).run Try.prog W = .ok (.tuple #[]) W3 ∧ W3.ownsRow 0 TF 6 (.slice A x cap) x (flatG (O.take x)) ∧ Mod (Value.slice A n cap).ownBlock.toList W W3 := by
  have hl : (flatG O).length = n * 6 := rv.1
  have hlO : O.length = n := by rw [flatG_len] at hl; omega
  have hcut := row_cut rv x hx
  rw [flatG_take] at hcut
  by_cases h0 : x < n
  · obtain ⟨g, rfl⟩ : ∃ g, A = some ⟨g, 0, none⟩ := by
      rcases rv.2 with ⟨e, h⟩ | ⟨g, cp, cur, e, _⟩
      · omega
      · injection e with e1; exact ⟨g, e1⟩
    have e1 := hA h0 g rfl
    subst e1
    refine ⟨W.setCells g (x * 6) (zeros c), run_clear6 W g (x * 6) c c' (by omega) (fun j hj => ?_) (fun j hj => rv.frozenAt _) ty, row_sets (zeros c) (x * 6) hcut (by rw [flatG_len]; simp; omega), (Mod.refl _ W).sets (by simp [Value.ownBlock]) _ _⟩
    rw [rv.cellAt (x * 6 + j) (by omega)]
    have : x * 6 + j < (flatG O).length := by omega
    simp [this]
  · obtain rfl : x = n := by omega
    obtain rfl : c = 0 := by omega
    refine ⟨W, ?_, hcut, Mod.refl _ _⟩
    cases A' <;> simp [Builtin.clear_, run_underlying Try.underlying27]
/-- A clear of frames: a name. -/
def clrF (ty : TypeId) (xs : Array Value) : Sem Value := Builtin.clear_ #[27] ty xs
@[go_sem ↓ high] theorem builtin_clrF (ty : TypeId) (cs : Array Bool) (xs : Array Value) : builtin .clear #[27] ty cs xs = (do pure (.value (← clrF ty xs))) := rfl
set_option maxHeartbeats 2000000 in
theorem cut_calls {w : World} {p : Nat} {T : List Nat} {L : List Fm} (h : Fr TP w p T L) (m : Int) : Calls Try.prog 18 #[Pt p, .int .i64 m] w fun e w' => (∃ r, e = .returned r) ∧ ∃ T', Fr TP w' p T' (cutL m L) ∧ Turn T T' w w' := by
  obtain ⟨v, O, h, rfl, rfl, hsm⟩ := h
  have HS := Lib.hid (fun r (hr : r ∈ cutL m (O.map Prod.fst)) => hsm r (List.mem_of_mem_take hr) : ∀ r ∈ cutL m (O.map Prod.fst), r.l.length ≤ 1000)
  obtain ⟨A0, cap0, rfl, _, hle, _⟩ := h.slice
  obtain ⟨n, hn⟩ : ∃ n, n = O.length := ⟨_, rfl⟩
  rw [← hn] at h hle ⊢
  obtain ⟨x, hx⟩ : ∃ x : Nat, x = min m.toNat n := ⟨_, rfl⟩
  have hxn : x ≤ n := by omega
  have hcut : cutL m (O.map Prod.fst) = (O.take x).map Prod.fst := by
    unfold cutL
    rw [← List.map_take]
    by_cases h1 : m.toNat ≤ n
    · rw [show x = m.toNat by omega]
    · rw [List.take_of_length_le (by omega), List.take_of_length_le (by omega)]
  have hmin : min (max m 0) (n : Int) = (x : Int) := by omega
  obtain ⟨A', c', hfr, hA'⟩ := from_frames A0 n cap0 x hxn (by omega)
  obtain ⟨c, hc⟩ : ∃ c, c = n - x := ⟨_, rfl⟩
  rw [← hc] at hfr
  have hrow : w.ownsRow 0 TF 6 (.slice A0 n cap0) n (flatG O) := by have := h.row; rw [← hn] at this; exact this
  obtain ⟨W3, hclr, hrow3, hm3⟩ := clear_frames (c' := c') hrow hxn hc hA' 0
  have nb : p ∉ (Value.slice A0 n cap0).ownBlock.toList := fun hx => h.np.1 (by simpa using hx)
  have c0 := h.c0
  have c3 := hm3.cell (x := ⟨p, 0, none⟩) nb c0
  have f3 := (hm3.frozen (x := ⟨p, 0, none⟩) nb h.lp).trans (h.f 0)
  have hup := upto_frames A0 n cap0 x (by omega)
  obtain ⟨r1, r2⟩ := h.shrunk hm3 hrow3 (by omega)
  have HR := Lib.hid (And.intro r1 r2)
  have hclr' : (clrF 0 #[.slice A' c c']).run Try.prog w = .ok (.tuple #[]) W3 := hclr
  rw [hcut] at HS ⊢
  clear h hsm hle hx hxn hcut hA' hrow hclr hrow3 hm3 nb r1 r2 hc hn
  go_enter Try.func18, Try.ntmps18
  go_wp2_with fail
  go_end0
  exact ⟨⟨_, rfl⟩, _, ⟨_, _, HR.out.1, rfl, rfl, HS.out⟩, HR.out.2⟩
end Go.Proofs.Ytacmidlhfcnkiaa
