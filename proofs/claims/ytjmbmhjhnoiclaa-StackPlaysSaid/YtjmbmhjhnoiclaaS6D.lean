/- Layer 6 (package stack): one cell taken; a stack made n cells deep. Condition: the block is a stack (St). -/
import Derived.Test.YtjmbmhjhnoiclaaS6C
import Derived.Lib.SliceRun
namespace Go.Proofs.Ytjmbmhjhnoiclaa
open Go.RowKit
set_option linter.unusedVariables false

theorem pop_none {w : World} {p : Nat} (h : St w p []) :
    Calls Try.prog 22 #[Pt p] w fun e w' => e = .returned (.tuple #[.int .i64 0, .int .i64 (-4)]) ∧ w = w' := by
  have hT := Lib.hid (take_under h 1 (by unfold I64; omega) (by simp))
  clear h
  go_enter Try.func22, Try.ntmps22
  go_wp2_with ((with_reducible refine (hT.out).mono ?_); rintro e w' ⟨rfl, rfl⟩)
  go_ret2
  exact ⟨rfl, rfl⟩
theorem pop_some {w : World} {p : Nat} {R : List Int} {x : Int} (h : St w p (R ++ [x])) :
    Calls Try.prog 22 #[Pt p] w (Turns p w (.tuple #[.int .i64 x, .int .i64 0]) R) := by
  have hT := take_ok h 1 (by simp)
  have e1 : (R ++ [x]).length - 1 = R.length := by simp
  unfold Taken at hT
  rw [e1, List.drop_left, List.take_left] at hT
  have HT := Lib.hid hT
  clear hT h e1
  go_enter Try.func22, Try.ntmps22
  go_wp2_with fail
  refine (HT.out).mono ?_
  rintro e w1 ⟨b, c, rfl, ho, hbb, hs, hm⟩
  have hc : w1.cell? ⟨b, 0, none⟩ = some (.int .i64 x) := ho.cell 0 (by simp)
  have HS := Lib.hid (And.intro hs hm)
  clear ho hbb hs hm HT
  go_wp2
  go_ret2
  exact ⟨rfl, HS.out⟩
/-- n cells: those that there are, and zeros for what is missing. -/
def cutL (n : Nat) (L : List Int) : List Int := L.take n ++ List.replicate (n - L.length) 0
theorem cutL_len (n : Nat) (L : List Int) : (cutL n L).length = n := by unfold cutL; simp; omega
theorem Try.zeroCell : ∀ w, (zeroValue 31).run Try.prog w = .ok (.int .i64 0) w := fun w => by kernel_rfl
theorem Raw.clear {w : World} {p : Nat} {C : List Int} {d : Nat} (h : Raw w p C d) (o n : Nat) (cap : Nat) (hb : o + n ≤ 128) (ty : TypeId) :
    (Builtin.clear_ #[27] ty #[.slice (some ⟨p, pa o, none⟩) n cap]).run Try.prog w = .ok (.tuple #[]) (w.setCells p o (cellsI (List.replicate n 0))) := by
  have hlen := h.len
  by_cases h0 : n = 0
  · subst h0
    simp [Builtin.clear_, run_underlying Try.underlying27, cellsI]
    rfl
  · rw [show pa o = o from if_neg (by omega)]
    have e : cellsI (List.replicate n 0) = List.replicate n (.int .i64 0) := by simp [cellsI]
    rw [e]
    exact Lib.run_clear_slice (P := Try.prog) w 27 31 ty (.int .i64 0) Try.underlying27 Try.zeroCell rfl rfl p o n cap (by omega) (fun j hj => by rw [h.c (o + j) (by omega)]; rfl) (fun j hj => h.f _)
theorem St.cutTo {W : World} {p : Nat} {C L : List Int} {t : Nat} (h : Raw W p (lay C (min L.length t) (List.replicate (t - min L.length t) 0)) L.length) (hc : C.length = 128) (e : C.take L.length = L) (hL : ∀ x ∈ L, I64 x) (ht : t ≤ 128) (hn : L.length ≤ 128) :
    St (W.setCell ⟨p, 128, none⟩ (.int .i64 (t : Int))) p (cutL t L) := by
  refine ⟨⟨lay C (min L.length t) (List.replicate (t - min L.length t) 0), ?_, ?_⟩, ?_⟩
  · rw [cutL_len]
    exact h.depth t ht
  · rw [cutL_len]
    unfold lay cutL
    by_cases hlt : L.length ≤ t
    · rw [Nat.min_eq_left hlt, e, List.take_of_length_le hlt, List.take_left' (by simp; omega)]
    · rw [Nat.min_eq_right (by omega), Nat.sub_self, show t - L.length = 0 by omega]
      simp only [List.replicate_zero, List.append_nil, List.length_nil, Nat.add_zero, List.take_append_drop]
      rw [← e, List.take_take, Nat.min_eq_left (by omega)]
  · unfold cutL
    refine all_app (fun x hx => hL x (List.mem_of_mem_take hx)) (fun x hx => ?_)
    rw [List.eq_of_mem_replicate hx]
    unfold I64
    omega
theorem cut_nil (n : Int) (w : World) :
    Calls Try.prog 21 #[.pointer none, .int .i64 n] w fun e w' => e = .returned (.tuple #[]) ∧ w = w' := by
  go_enter Try.func21, Try.ntmps21
  go_wp2
  exact bodyPost_ret (v := .tuple #[]) (results_none rfl _ _ _) rfl ⟨rfl, rfl⟩
def clamp (n : Int) : Nat := (min (max n 0) 128).toNat
set_option maxHeartbeats 1000000 in
theorem cut_calls {w : World} {p : Nat} {L : List Int} (h : St w p L) (n : Int) (hn : I64 n) :
    Calls Try.prog 21 #[Pt p, .int .i64 n] w (Turns p w (.tuple #[]) (cutL (clamp n) L)) := by
  have hd := h.depth
  have hl := h.n
  have hf := h.free 128
  obtain ⟨t, ht⟩ : ∃ t, t = clamp n := ⟨_, rfl⟩
  have ht1 : t ≤ 128 := by unfold clamp at ht; omega
  have hmin : ∀ (a b : Nat), min a b = if a ≤ b then a else b := fun a b => rfl
  obtain ⟨⟨C, hR, he⟩, hIL⟩ := h
  have hRd : Raw w.drew p C L.length := hR.far (Mod.refl [] w).drew
  obtain ⟨m, hm⟩ : ∃ m, m = min L.length t := ⟨_, rfl⟩
  have hmt : m ≤ t := by omega
  have hcl := hRd.clear m (t - m) (128 - m) (by omega)
  have hsl := slice128 p m t (by omega) (by omega)
  have hP := hRd.puts m (List.replicate (t - m) 0) (by simp; omega)
  have hM := (((Mod.refl [p] w).drew.sets (x := p) (by simp) (cellsI (List.replicate (t - m) 0)) m))
  generalize w.drew.setCells p m (cellsI (List.replicate (t - m) 0)) = W at *
  have hfin : St (W.setCell ⟨p, 128, none⟩ (.int .i64 (t : Int))) p (cutL t L) := by
    subst hm
    exact St.cutTo hP hR.len he hIL ht1 hl
  have HF := Lib.hid (And.intro hfin (hM.one (p := p) (by simp) 128 (.int .i64 (t : Int))))
  have hWd := hP.dp
  have hWf := hP.f 128
  rw [← ht]
  obtain ⟨d, hdd⟩ : ∃ d, d = L.length := ⟨_, rfl⟩
  rw [← hdd] at hd hl hWd hm
  have HT := Lib.hid ht
  have HMM := Lib.hid hm
  clear hdd hR hRd he hIL hP hM hmin hfin ht hm
  go_enter Try.func21, Try.ntmps21
  go_upto_region 2 with fail
  have hto : (if 128 < if n < 0 then 0 else n then 128 else if n < 0 then 0 else n) = (t : Int) := by
    rw [HT.out]
    unfold clamp
    repeat' split
    all_goals omega
  rw [hto]
  clear hto
  have hmn : (if t < d then (t : Int) else (d : Int)) = (m : Int) := by
    rw [HMM.out]
    split <;> omega
  go_region
  go_wp2
  all_goals exact bodyPost_end (v := .tuple #[]) (results_none rfl _ _ _) rfl ⟨rfl, HF.out⟩
end Go.Proofs.Ytjmbmhjhnoiclaa
