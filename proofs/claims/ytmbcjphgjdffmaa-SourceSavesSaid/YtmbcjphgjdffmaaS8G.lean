/- Layer 8 (package source): sources are closed and cut off. Condition: the block is an input (Inp). -/
import Derived.Test.YtmbcjphgjdffmaaS8F
namespace Go.Proofs.Ytmbcjphgjdffmaa
open Go.RowKit
set_option linter.unusedVariables false

theorem row_sets {w : World} {e : TypeId} {k g n cap : Nat} : ∀ (vs : List Value) (o : Nat) (w : World) (xs : List Value), w.ownsRow 0 e k (.slice (some ⟨g, 0, none⟩) n cap) n xs → ∃ ys, (w.setCells g o vs).ownsRow 0 e k (.slice (some ⟨g, 0, none⟩) n cap) n ys ∧ ys.take o = xs.take o := by
  intro vs
  induction vs with
  | nil => intro o w xs h; exact ⟨xs, h, rfl⟩
  | cons v r ih =>
    intro o w xs h
    obtain ⟨ys, h1, h2⟩ := ih (o + 1) (w.setCell ⟨g, o, none⟩ v) (xs.set o v) (h.stored o v).1
    refine ⟨ys, h1, ?_⟩
    have := congrArg (List.take o) h2
    rw [List.take_take, List.take_take, Nat.min_eq_left (by omega)] at this
    rw [this, List.take_set_of_le (Nat.le_refl _)]
theorem row_cut {w : World} {e : TypeId} {k g n cap : Nat} {xs : List Value} (h : w.ownsRow 0 e k (.slice (some ⟨g, 0, none⟩) n cap) n xs) (m : Nat) (hm : m ≤ n) : w.ownsRow 0 e k (.slice (some ⟨g, 0, none⟩) m cap) m (xs.take (m * k)) := by
  have hle : m * k ≤ n * k := Nat.mul_le_mul_right k hm
  refine ⟨by rw [List.length_take, h.1]; exact Nat.min_eq_left hle, ?_⟩
  rcases h.2 with ⟨e, _⟩ | ⟨g', cap', cur, e, hb, hg, h1, h2, h3, h4⟩
  · cases e
  · injection e with e1 e2 e3
    injection e1 with e1
    injection e1 with e1 _
    subst e1 e3
    refine Or.inr ⟨g, cap, cur, rfl, hb, hg, by omega, h2, h3, ?_⟩
    rw [← h4, List.take_take, Nat.min_eq_left hle]
theorem run_clearR {w : World} {g n cap : Nat} {xs : List Value} (h : w.ownsRow 0 50 3 (.slice (some ⟨g, 0, none⟩) n cap) n xs) (k c : Nat) (hk : k < n) (ty : TypeId) :
    ∃ w' ys, (Builtin.clear_ #[44] ty #[.slice (some ⟨g, k * 3, none⟩) (n - k) c]).run Try.prog w = .ok (.tuple #[]) w' ∧ w'.ownsRow 0 50 3 (.slice (some ⟨g, 0, none⟩) n cap) n ys ∧ ys.take (k * 3) = xs.take (k * 3) ∧ Mod [g] w w' := by
  have hz : (Value.agg #[.string ⟨#[]⟩, .int .i64 0, .int .i64 0]).cells = #[.string ⟨#[]⟩, .int .i64 0, .int .i64 0] := rfl
  obtain ⟨zs, hzs⟩ : ∃ zs, zs = (Builtin.zeroCells (Value.agg #[.string ⟨#[]⟩, .int .i64 0, .int .i64 0]).cells (n - k)).toList := ⟨_, rfl⟩
  have hlen : zs.length = (n - k) * 3 := by rw [hzs]; simp [Builtin.zeroCells, hz]
  have hone : ∀ v ∈ zs, v.oneCell' = true := fun v hv => by
    rw [hzs] at hv
    simp [Builtin.zeroCells, hz] at hv
    obtain ⟨i, _, rfl⟩ := hv
    have : i % 3 < 3 := Nat.mod_lt _ (by omega)
    rcases (show i % 3 = 0 ∨ i % 3 = 1 ∨ i % 3 = 2 by omega) with e | e | e <;> rw [e] <;> rfl
  have hst := run_storeCells_cells (P := Try.prog) g (k * 3) zs 0 w (fun j hj => by
    rw [Nat.add_zero, h.cellAt _ (by rw [hlen] at hj; omega)]
    have : k * 3 + j < xs.length := by rw [h.1]; rw [hlen] at hj; omega
    simp [this]) (fun j hj => h.frozenAt _) hone
  simp only [Nat.add_zero] at hst
  obtain ⟨ys, hr, ht⟩ := row_sets (w := w) zs (k * 3) w xs h
  refine ⟨_, ys, ?_, hr, ht, (Mod.refl [g] w).sets (by simp) zs (k * 3)⟩
  obtain ⟨m, hm⟩ : ∃ m, n - k = m + 1 := ⟨n - k - 1, by omega⟩
  rw [hm] at hzs ⊢
  simp [Builtin.clear_, run_underlying Try.underlying44, ← hzs, hst]
theorem size_src (W : World) : (Go.sizeOf 50).run Try.prog W = .ok 3 W := by kernel_rfl
theorem slice_from (g n cap k : Nat) (hk : k < n) (hn : n ≤ cap) (W : World) : (Instr.sliceAt 44 (.slice (some ⟨g, 0, none⟩) n cap) (some (.int .i64 (k : Int))) none none).run Try.prog W = .ok (.slice (some ⟨g, k * 3, none⟩) (n - k) (cap - k)) W := by
  have ht := Try.underlying44
  have he : Try.prog.elem 44 = 50 := by simp [Program.elem, ht]
  have ht' : Try.prog.underlying 44 = some (.slice (Try.prog.elem 44)) := by rw [he]; exact ht
  rw [run_sliceAt_slice W 44 _ _ _ _ ht', run_slice_l W 44 (some ⟨g, 0, none⟩) n cap ht' .i64 k (by omega) (by omega), he, size_src]
  show Result.ok (sliced (some ⟨g, 0, none⟩) (k : Int).toNat n cap 3) W = _
  unfold sliced
  rw [Int.toNat_natCast, if_neg (by omega)]
  simp [Addr.add]
  omega
theorem slice_to (g n cap k : Nat) (hk : k ≤ cap) (W : World) : (Instr.sliceAt 44 (.slice (some ⟨g, 0, none⟩) n cap) none (some (.int .i64 (k : Int))) none).run Try.prog W = .ok (.slice (some ⟨g, 0, none⟩) k cap) W := by
  have ht := Try.underlying44
  have he : Try.prog.elem 44 = 50 := by simp [Program.elem, ht]
  have ht' : Try.prog.underlying 44 = some (.slice (Try.prog.elem 44)) := by rw [he]; exact ht
  rw [run_sliceAt_slice W 44 _ _ _ _ ht', run_slice_h W 44 (some ⟨g, 0, none⟩) n cap ht' .i64 k (by omega) (by omega), he, size_src]
  show Result.ok (sliced (some ⟨g, 0, none⟩) 0 (k : Int).toNat cap 3) W = _
  unfold sliced
  rw [Int.toNat_natCast, Nat.zero_mul]
  split <;> simp [Addr.add]
/-- What is behind the first k is gone. -/
theorem cutted {w W : World} {p g n cap k : Nat} {L : List Sc} {M : Nat} {ys : List Value} (h : InpV w p (.slice (some ⟨g, 0, none⟩) n cap) L M) (hn : n = L.length) (hk : k ≤ n) (hr : W.ownsRow 0 50 3 (.slice (some ⟨g, 0, none⟩) n cap) n ys) (ht : ys.take (k * 3) = (flats L).take (k * 3)) (hm : Mod [g] w W) :
    InpV (W.setCell ⟨p, 0, none⟩ (.slice (some ⟨g, 0, none⟩) k cap)) p (.slice (some ⟨g, 0, none⟩) k cap) (L.take k) M ∧ Turn [p, g] [p, g] w (W.setCell ⟨p, 0, none⟩ (.slice (some ⟨g, 0, none⟩) k cap)) := by
  have hne : p ∉ [g] := by
    have := h.sep
    intro e
    exact this (by simp at e; rw [e]; rfl)
  have hm5 : Mod [p] W (W.setCell ⟨p, 0, none⟩ (.slice (some ⟨g, 0, none⟩) k cap)) := (Mod.refl [p] W).set (x := ⟨p, 0, none⟩) (Or.inl (by simp)) _
  have hl : (L.take k).length = k := by rw [List.length_take]; omega
  have hrow := row_cut hr k hk
  rw [ht, flats_take] at hrow
  refine ⟨⟨World.cell?_setCell_same _ _ _ (h := hm.cell (x := ⟨p, 0, none⟩) hne h.c0), ?_, fun i => (World.frozen?_setCell _ _ _ _).trans ((hm.frozen (x := ⟨p, i, none⟩) hne h.lp).trans (h.f i)), Nat.lt_of_lt_of_le h.lp (Nat.le_trans hm.size hm5.size), ?_, h.sep, fun x hx => h.ok x (List.mem_of_mem_take hx), by have := h.dep; omega⟩, Turn.of ((hm.up (by simp)).trans (hm5.up (by simp)))⟩
  · rw [World.cell?_setCell_other (h := by simp)]
    exact hm.cell (x := ⟨p, 1, none⟩) hne h.c1
  · rw [hl]
    exact row_mod hrow hm5 fun x hx => by
      injection hx with hx
      intro hp
      exact hne (by simp at hp; rw [← hp, ← hx]; simp)
theorem cut_same {v : Value} {w : World} {D n : Int} (hd : Calls Try.prog 16 #[v] w fun e w' => e = .returned (.int .i64 D) ∧ w = w') (h : D ≤ max n 0) (hn : I64 n) :
    Calls Try.prog 17 #[v, .int .i64 n] w fun e w' => e = .returned (.tuple #[]) ∧ w = w' := by
  have H := Lib.hid hd
  clear hd
  by_cases h0 : 0 ≤ n
  · have h1 : D ≤ n := by omega
    clear h
    go_enter Try.func17, Try.ntmps17
    go_wp2_with fail
    all_goals
      refine (H.out).mono ?_
      rintro e w1 ⟨rfl, rfl⟩
      go_wp2_with fail
      exact bodyPost_ret (v := .tuple #[]) (results_none rfl _ _ _) rfl ⟨rfl, rfl⟩
  · have h1 : D ≤ 0 := by omega
    clear h
    go_enter Try.func17, Try.ntmps17
    go_wp2_with fail
    all_goals
      refine (H.out).mono ?_
      rintro e w1 ⟨rfl, rfl⟩
      go_wp2_with fail
      exact bodyPost_ret (v := .tuple #[]) (results_none rfl _ _ _) rfl ⟨rfl, rfl⟩
theorem cut_less {w : World} {p : Nat} {S : List Nat} {L : List Sc} {M : Nat} (h : Inp w p S L M) (n : Int) (k : Nat) (hk : max n 0 = (k : Int)) (hl : k < L.length) (hn : I64 n) :
    Calls Try.prog 17 #[Pt p, .int .i64 n] w (Plays p S (.tuple #[]) (L.take k) M w) := by
  have H := Lib.hid (depth_calls h)
  obtain ⟨v, h, rfl⟩ := h
  obtain ⟨g, cap, hv⟩ : ∃ g cap, v = .slice (some ⟨g, 0, none⟩) L.length cap := by
    rcases h.row.2 with ⟨_, h0⟩ | ⟨g, cap, cur, e, _⟩
    · omega
    · exact ⟨g, cap, e⟩
  subst hv
  have hcap : L.length ≤ cap := by
    rcases h.row.2 with ⟨e, _⟩ | ⟨g', cap', cur, e, _, _, hh, _⟩
    · cases e
    · injection e with _ _ e; omega
  have hdep := h.dep
  obtain ⟨W, ys, hc, hr, ht, hm⟩ := run_clearR h.row k (cap - k) hl 0
  obtain ⟨m, hmL⟩ : ∃ m, m = L.length := ⟨_, rfl⟩
  have s1 := slice_from g m cap k (by omega) (by omega)
  have s2 := slice_to g m cap k (by omega)
  have hfin := cutted h rfl (by omega) hr ht hm
  have hne : p ∉ [g] := by
    have := h.sep
    intro e
    exact this (by simp at e; rw [e]; rfl)
  have h0 := h.c0
  have g0 := hm.cell (x := ⟨p, 0, none⟩) hne h.c0
  have gf0 := (hm.frozen (x := ⟨p, 0, none⟩) hne h.lp).trans (h.f 0)
  have HF := Lib.hid hfin
  rw [← hmL] at H h0 g0 hc hl hcap hdep
  have e1 : ¬ ((m : Int) ≤ (k : Int)) := by omega
  have hkb : (k : Int) ≤ 8 := by omega
  clear h hr ht hm hfin hne hmL
  unfold Plays
  by_cases hn0 : 0 ≤ n
  · obtain rfl : n = (k : Int) := by omega
    clear hk
    go_enter Try.func17, Try.ntmps17
    go_wp2_with fail
    all_goals
      refine (H.out).mono ?_
      rintro e w1 ⟨rfl, rfl⟩
      go_wp2_with fail
      exact bodyPost_end (v := .tuple #[]) (results_none rfl _ _ _) rfl ⟨rfl, _, ⟨_, HF.out.1, rfl⟩, HF.out.2⟩
  · obtain rfl : k = 0 := by omega
    simp only [Nat.zero_mul, Nat.sub_zero] at hc s1
    simp only [Int.cast_ofNat_Int] at s1 s2
    clear hk
    go_enter Try.func17, Try.ntmps17
    go_wp2_with fail
    all_goals
      refine (H.out).mono ?_
      rintro e w1 ⟨rfl, rfl⟩
      go_wp2_with fail
      exact bodyPost_end (v := .tuple #[]) (results_none rfl _ _ _) rfl ⟨rfl, _, ⟨_, HF.out.1, rfl⟩, HF.out.2⟩
theorem cut_ok {w : World} {p : Nat} {S : List Nat} {L : List Sc} {M : Nat} (h : Inp w p S L M) (n : Int) (hn : I64 n) :
    Calls Try.prog 17 #[Pt p, .int .i64 n] w (Plays p S (.tuple #[]) (L.take (heldN L.length n)) M w) := by
  by_cases hl : (max n 0).toNat < L.length
  · have e : heldN L.length n = (max n 0).toNat := by unfold heldN; omega
    rw [e]
    exact cut_less h n _ (by omega) hl hn
  · have e : heldN L.length n = L.length := by unfold heldN; omega
    rw [e, List.take_length]
    refine (cut_same (depth_calls h) (by omega) hn).mono ?_
    rintro e w1 ⟨rfl, rfl⟩
    exact ⟨rfl, S, h, Turn.refl S w⟩
theorem close_none {v : Value} {w : World} (h : Nothing v w) : Calls Try.prog 14 #[v] w fun e w' => e = .returned (.int .i64 2) ∧ w = w' := by
  have H := Lib.hid (h w (Mod.refl [] w))
  clear h
  go_enter Try.func14, Try.ntmps14
  go_wp2_with fail
  refine (H.out).mono ?_
  rintro e w1 ⟨rfl, rfl⟩
  go_wp2_with fail
  go_ret
  exact ⟨rfl, rfl⟩
theorem close_ok {w : World} {p : Nat} {S : List Nat} {B : List Sc} {x : Sc} {M : Nat} (h : Inp w p S (B ++ [x]) M) :
    Calls Try.prog 14 #[Pt p] w (Plays p S (.int .i64 0) B M w) := by
  have H := Lib.hid (depth_calls h)
  have hdep : (B ++ [x]).length ≤ 8 := by obtain ⟨v, h, _⟩ := h; exact h.dep
  have hl : (B ++ [x]).length = B.length + 1 := by simp
  rw [hl] at H hdep
  have K := Lib.hid (cut_ok h (B.length : Int) (by unfold I64; omega))
  have e : (B ++ [x]).take (heldN (B ++ [x]).length (B.length : Int)) = B := by
    have : heldN (B ++ [x]).length (B.length : Int) = B.length := by rw [hl]; unfold heldN; omega
    rw [this, List.take_left]
  rw [e] at K
  obtain ⟨D, hD⟩ : ∃ D : Int, D = (B.length : Int) + 1 := ⟨_, rfl⟩
  have e1 : ((B.length + 1 : Nat) : Int) = D := by omega
  have e2 : (B.length : Int) = D - 1 := by omega
  rw [e1] at H
  rw [e2] at K
  have hz : ¬ (D = 0) := by omega
  have hb1 : 1 ≤ D := by omega
  have hb2 : D ≤ 8 := by omega
  clear h e hl hdep hD e1 e2
  unfold Plays
  go_enter Try.func14, Try.ntmps14
  go_wp2_with fail
  refine (H.out).mono ?_
  rintro e w1 ⟨rfl, rfl⟩
  go_wp2_with fail
  refine (K.out).mono ?_
  rintro e w1 ⟨rfl, hp⟩
  have HP := Lib.hid hp
  clear hp
  go_wp2_with fail
  go_ret
  exact ⟨rfl, HP.out⟩
end Go.Proofs.Ytmbcjphgjdffmaa
