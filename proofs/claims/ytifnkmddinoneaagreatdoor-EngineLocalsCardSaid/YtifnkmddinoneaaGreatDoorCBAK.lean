/- Layer 6 (package stack): what is put, taken, told. Condition: the block is a stack (St). Layer 6 (package stack): one cell taken; a stack made n cells deep. Condition: the block is a stack (St). Layer 6 (package stack): the cell that is chosen; pick and roll. Condition: the block is a stack (St). Layer 6 (package stack): what an operation takes, and which of them it pushes. Condition: the block is a stack (St). Layer 6 (package stack): cells are taken and pushed by their places; all operations. Condition: the block is a stack (St). -/
import Derived.Deep.Cut
import Derived.Deep.DeepCutAuto
import Derived.Deep.QuietTactic
import Derived.BigQuiet
import Derived.Deep.RegionHeld3
import Derived.Test.YtifnkmddinoneaaGreatDoorCBAI
import Derived.Test.YtifnkmddinoneaaGreatDoorCBAA
import Derived.Lib.SliceRun
import Derived.Lib.OthersKept
set_option maxRecDepth 100000
namespace Go.Proofs.YtifnkmddinoneaaGreatDoor
open Go.RowKit
set_option linter.unusedVariables false

/-- f at xs answers v; the stack in block p then has the cells L; nothing else turned. -/
def Turns (p : Nat) (w : World) (v : Value) (L : List Int) (e : Ending) (w' : World) : Prop := e = .returned v ∧ St w' p L ∧ Mod [p] w w'
theorem depth_calls {w : World} {p : Nat} {L : List Int} (h : St w p L) :
    Calls Tryz.prog 23 #[Pt p] w fun e w' => e = .returned (.int .i64 (L.length : Int)) ∧ w = w' := by
  have hd := h.depth
  clear h
  go_enter Tryz.func23, Tryz.ntmps23
  go_wp2
  go_ret
  exact ⟨rfl, rfl⟩
theorem put_no {w : World} {p : Nat} {L : List Int} (h : St w p L) (A : Option Addr) (n cap : Nat) (hn : n ≤ 9223372036854775807) (hb : 128 < L.length + n) :
    Calls Tryz.prog 16 #[Pt p, .slice A n cap] w fun e w' => e = .returned (.int .i64 (-3)) ∧ w = w' := by
  have hd := h.depth
  have hl := h.n
  obtain ⟨d, hdd⟩ : ∃ d, d = L.length := ⟨_, rfl⟩
  rw [← hdd] at hd hl hb
  clear h hdd
  go_enter Tryz.func16, Tryz.ntmps16
  go_wp2
  go_ret
  exact ⟨rfl, rfl⟩
theorem sl_some {w : World} {A : Option Addr} {X : List Int} (h : Sl w A X) (hp : 0 < X.length) : ∃ b off, A = some ⟨b, off, none⟩ := by
  obtain ⟨b, off, e, _⟩ := h 0 hp
  exact ⟨b, off, e⟩
theorem Raw.copy {w : World} {p : Nat} {C : List Int} {d : Nat} (h : Raw w p C d) {A : Option Addr} {X : List Int} (hs : Sl w A X) {n : Nat} (cap : Nat) (hn : n = X.length) (hb : d + n ≤ 128) (ty : TypeId) :
    (Builtin.copy_ #[25, 25] ty #[.slice (some ⟨p, pa d, none⟩) (128 - d) (128 - d), .slice A n cap]).run Tryz.prog w = .ok (goInt n) (w.setCells p d (cellsI X)) := by
  subst hn
  by_cases h0 : X.length = 0
  · obtain rfl := List.eq_nil_of_length_eq_zero h0
    exact run_copy_none w _ _ ty 33 _ _ _ _ _ _ Tryz.underlying25 (by kernel_rfl) (by simp)
  · obtain ⟨b, off, rfl⟩ := sl_some hs (by omega)
    rw [show pa d = d from if_neg (by omega)]
    have hl := cellsI_len X
    have hlen := h.len
    have := run_copy_cells (P := Tryz.prog) w 25 25 ty 33 p d (128 - d) (128 - d) ⟨b, off, none⟩ X.length cap (cellsI X) Tryz.underlying25 (by kernel_rfl) (by rw [hl]; exact (Nat.min_eq_left (by omega)).symm) hs.src (fun j hj => by
      rw [h.c (d + j) (by omega)]; rfl) (fun j hj => h.f _) (one_cells X)
    rw [hl] at this
    exact this
theorem all_app {P : Int → Prop} {L X : List Int} (h : ∀ x ∈ L, P x) (k : ∀ x ∈ X, P x) : ∀ x ∈ L ++ X, P x := fun x hx => (List.mem_append.1 hx).elim (h x) (k x)
theorem St.grown {W : World} {p : Nat} {C L X : List Int} (h : Raw W p (lay C L.length X) L.length) (hc : C.length = 128) (e : C.take L.length = L) (hL : ∀ x ∈ L, I64 x) (hX : ∀ x ∈ X, I64 x) (hb : L.length + X.length ≤ 128) :
    St (W.setCell ⟨p, 128, none⟩ (.int .i64 ((L.length : Int) + (X.length : Int)))) p (L ++ X) := by
  refine ⟨⟨lay C L.length X, ?_, ?_⟩, all_app hL hX⟩
  · have := h.depth (L.length + X.length) hb
    rw [List.length_append]
    simpa using this
  · rw [List.length_append]
    exact lay_take e (by omega)
set_option maxHeartbeats 1000000 in
theorem put_ok {w : World} {p : Nat} {L : List Int} (h : St w p L) {A : Option Addr} {n : Nat} (cap : Nat) {X : List Int} (hs : Sl w A X) (hn : n = X.length) (hI : ∀ x ∈ X, I64 x) (hb : L.length + n ≤ 128) :
    Calls Tryz.prog 16 #[Pt p, .slice A n cap] w (Turns p w (.int .i64 0) (L ++ X)) := by
  have hd := h.depth
  have hf := h.free 128
  obtain ⟨⟨C, hR, he⟩, hIL⟩ := h
  have hRd : Raw w.drew p C L.length := hR.far (Mod.refl [] w).drew
  have hcp := hRd.copy (fun j hj => hs j hj : Sl w.drew A X) cap hn hb
  have hsl := slice128d p L.length (by omega)
  have hP := hRd.puts L.length X (by omega)
  have hM := (((Mod.refl [p] w).drew.sets (x := p) (by simp) (cellsI X) L.length))
  generalize w.drew.setCells p L.length (cellsI X) = W at *
  have HF := Lib.hid (And.intro (St.grown hP hR.len he hIL hI (by omega)) (hM.one (p := p) (by simp) 128 (.int .i64 ((L.length : Int) + (X.length : Int)))))
  have hWd := hP.dp
  have hWf := hP.f 128
  rw [← hn] at HF
  obtain ⟨d, hdd⟩ : ∃ d, d = L.length := ⟨_, rfl⟩
  rw [← hdd] at hd hb hcp hsl hWd HF
  clear hdd hR hRd he hIL hI hP hn hs hM
  go_enter Tryz.func16, Tryz.ntmps16
  go_wp2_with fail
  go_region
  go_wp2
  go_ret
  exact ⟨rfl, HF.out⟩
def putL (X L : List Int) : Int × List Int := if L.length + X.length ≤ 128 then (0, L ++ X) else (-3, L)
theorem putL_ok {X L : List Int} (h : L.length + X.length ≤ 128) : putL X L = (0, L ++ X) := if_pos h
theorem putL_no {X L : List Int} (h : ¬ L.length + X.length ≤ 128) : putL X L = (-3, L) := if_neg h
theorem put_calls {w : World} {p : Nat} {L : List Int} (h : St w p L) {A : Option Addr} {n : Nat} (cap : Nat) {X : List Int} (hs : Sl w A X) (hn : n = X.length) (hI : ∀ x ∈ X, I64 x) (hm : n ≤ 9223372036854775807) :
    Calls Tryz.prog 16 #[Pt p, .slice A n cap] w (Turns p w (.int .i64 (putL X L).1) (putL X L).2) := by
  by_cases hb : L.length + X.length ≤ 128
  · rw [putL_ok hb]
    exact put_ok h cap hs hn hI (by omega)
  · rw [putL_no hb]
    refine (put_no h A n cap hm (by omega)).mono ?_
    rintro e w' ⟨rfl, rfl⟩
    exact ⟨rfl, h, Mod.refl _ _⟩
theorem push_calls {w : World} {p : Nat} {L : List Int} (h : St w p L) (x : Int) (hx : I64 x) :
    Calls Tryz.prog 28 #[Pt p, .int .i64 x] w (Turns p w (.int .i64 (putL [x] L).1) (putL [x] L).2) := by
  have hM := (Mod.refl [] w).alloc (.cells #[.int .i64 x] 33)
  have hO : Sl (w.alloc (.cells #[.int .i64 x] 33)) (some ⟨w.heap.size, 0, none⟩) [x] := (Ow.new w [x] (by unfold maxLen; simp)).sl
  have hP := Lib.hid (put_calls (h.far hM) 1 hO (n := 1) rfl (by simpa using hx) (by omega))
  have HM := Lib.hid hM
  clear hO h hM
  obtain ⟨v, hv⟩ : ∃ v, v = (putL [x] L).1 := ⟨_, rfl⟩
  rw [← hv] at hP ⊢
  clear hv
  go_enter Tryz.func28, Tryz.ntmps28
  go_wp2_with fail
  refine (hP.out).mono ?_
  rintro e w' ⟨rfl, h1, h2⟩
  have H := Lib.hid (And.intro h1 h2)
  clear h1 h2
  go_wp2
  go_ret
  exact ⟨rfl, H.out.1, (HM.out.up (by simp)).trans H.out.2⟩
theorem take_under {w : World} {p : Nat} {L : List Int} (h : St w p L) (n : Int) (hn : I64 n) (hb : (L.length : Int) < n) :
    Calls Tryz.prog 257 #[Pt p, .int .i64 n] w fun e w' => e = .returned (.tuple #[.slice none 0 0, .int .i64 (-4)]) ∧ w = w' := by
  have hd := h.depth
  obtain ⟨d, hdd⟩ : ∃ d, d = L.length := ⟨_, rfl⟩
  rw [← hdd] at hd hb
  clear h hdd
  go_enter Tryz.func257, Tryz.ntmps257
  go_wp2
  go_ret2
  exact ⟨rfl, rfl⟩
def Taken (p : Nat) (w : World) (n : Nat) (L : List Int) (e : Ending) (w' : World) : Prop :=
  ∃ b c, e = .returned (.tuple #[.slice (some ⟨b, 0, none⟩) n c, .int .i64 0]) ∧ Ow w' b (L.drop (L.length - n)) c ∧ w.heap.size ≤ b ∧ St w' p (L.take (L.length - n)) ∧ Mod [p] w w'
theorem St.sl {w : World} {p : Nat} {L : List Int} (h : St w p L) (a n : Nat) (hb : a + n ≤ L.length) : Sl w (some ⟨p, pa a, none⟩) ((L.drop a).take n) := fun j hj => by
  have hj' : j < n ∧ j < L.length - a := by simp at hj; omega
  have := h.n
  refine ⟨p, a, ?_, ?_⟩
  · rw [show pa a = a from if_neg (by omega)]
  · rw [h.cell (a + j) (by omega)]
    simp
theorem St.cut {w : World} {p : Nat} {L : List Int} (h : St w p L) (d : Nat) (hd : d ≤ L.length) : St (w.setCell ⟨p, 128, none⟩ (.int .i64 (d : Int))) p (L.take d) := by
  obtain ⟨⟨C, hR, he⟩, hI⟩ := h
  have hn := hR.n
  have hl : (L.take d).length = d := by simp; omega
  refine ⟨⟨C, ?_, ?_⟩, fun x hx => hI x (List.mem_of_mem_take hx)⟩
  · rw [hl]; exact hR.depth d (by omega)
  · rw [hl, ← he, List.take_take, Nat.min_eq_left (by omega)]
set_option maxHeartbeats 1000000 in
theorem take_ok {w : World} {p : Nat} {L : List Int} (h : St w p L) (n : Nat) (hb : n ≤ L.length) :
    Calls Tryz.prog 257 #[Pt p, .int .i64 (n : Int)] w (Taken p w n L) := by
  have hd := h.depth
  have hf := h.free 128
  have hl := h.n
  have hsl := slice128 p (L.length - n) L.length (by omega) hl
  have hSd := h.far (Mod.refl [] w).drew
  have hcl := clone_calls (cap := 128 - (L.length - n)) (hSd.sl (L.length - n) n (by omega)) (n := L.length - (L.length - n)) (by simp; omega) _ rfl (by simp; omega)
  rw [show (L.drop (L.length - n)).take n = L.drop (L.length - n) from List.take_of_length_le (by simp; omega)] at hcl
  have HC := Lib.hid hcl
  have HS := Lib.hid hSd
  obtain ⟨l, hll⟩ : ∃ l, l = L.length - n := ⟨_, rfl⟩
  obtain ⟨d, hdd⟩ : ∃ d, d = L.length := ⟨_, rfl⟩
  have hln : (d : Int) - (n : Int) = (l : Int) := by omega
  have hln2 : IntKind.i64.wrap ((d : Int) - (n : Int)) = (l : Int) := by rw [← hln]; exact IntWalk.i64_in _ (by omega)
  have hld : l ≤ d := by omega
  have HD := Lib.hid (And.intro hdd hll)
  unfold Taken
  rw [← hll] at HC hsl ⊢
  rw [← hdd] at hd hb hl hsl HC
  have HLN := Lib.hid hln
  clear h hcl hSd hll hdd hln2
  go_enter Tryz.func257, Tryz.ntmps257
  go_wp2_with fail
  go_region_held3 (fun V => V.cell? ⟨p, 128, none⟩ = some (.int .i64 (d : Int))) (first | exact hd | (have := HS.out.depth; rw [← HD.out.1] at this; exact this) | assumption) (first | ((with_reducible refine (HC.out).mono ?_); rintro e w1 ⟨b, c, rfl, ho, hm, hbb⟩; have HO := Lib.hid ho; have HM := Lib.hid hm; have HB := Lib.hid hbb; have hS1 := HS.out.far hm; have hd1 := hS1.depth; rw [← HD.out.1] at hd1; have hf1 := hS1.free 128; have HS1 := Lib.hid hS1; clear ho hm hbb hS1))
  go_wp2
  go_ret2
  have hpb : p < b := Nat.lt_of_lt_of_le HS.out.lp HB.out
  have hdl : d - l = n := by omega
  have hM : Mod [p] w (w1.setCell ⟨p, 128, none⟩ (.int .i64 (l : Int))) := (((Mod.refl [] w).drew.trans (HM.out)).up (by simp)).one (by simp) 128 _
  refine ⟨b, c, by rw [← hdl]; rfl, HO.out.mod ((Mod.refl [p] w1).one (by simp) 128 _) (by simp; omega), HB.out, ?_, hM⟩
  exact HS1.out.cut l (by rw [← HD.out.1]; exact hld)
set_option maxHeartbeats 1000000 in
theorem all_calls {w : World} {p : Nat} {L : List Int} (h : St w p L) :
    Calls Tryz.prog 32 #[Pt p] w fun e w' => ∃ b c, e = .returned (.slice (some ⟨b, 0, none⟩) L.length c) ∧ Ow w' b L c ∧ w.heap.size ≤ b ∧ Mod [] w w' := by
  have hd := h.depth
  have hl := h.n
  have hsl := slice128u p L.length hl
  have hSd := h.far (Mod.refl [] w).drew
  have h0 := hSd.sl 0 L.length (by omega)
  rw [List.drop_zero, List.take_length, show pa 0 = 0 from rfl] at h0
  have HC := Lib.hid (clone_calls (cap := 128) h0 (n := L.length) rfl _ rfl (by omega))
  have HS := Lib.hid hSd.depth
  clear hSd h0 h
  go_enter Tryz.func32, Tryz.ntmps32
  go_wp2_with fail
  go_region_held3 (fun V => V.cell? ⟨p, 128, none⟩ = some (.int .i64 (L.length : Int))) (first | exact hd | exact HS.out | assumption) (first | ((with_reducible refine (HC.out).mono ?_); rintro e w1 ⟨b, c, rfl, ho, hm, hbb⟩; have HO := Lib.hid ho; have HM := Lib.hid hm; have HB := Lib.hid hbb; have hd1 := hm.cell (x := ⟨p, 128, none⟩) (by simp) HS.out; clear ho hm hbb))
  go_wp2
  go_ret
  exact ⟨b, c, rfl, HO.out, HB.out, (Mod.refl [] w).drew.trans HM.out⟩
end Go.Proofs.YtifnkmddinoneaaGreatDoor
namespace Go.Proofs.YtifnkmddinoneaaGreatDoor
open Go.RowKit
set_option linter.unusedVariables false

theorem pop_none {w : World} {p : Nat} (h : St w p []) :
    Calls Tryz.prog 237 #[Pt p] w fun e w' => e = .returned (.tuple #[.int .i64 0, .int .i64 (-4)]) ∧ w = w' := by
  have hT := Lib.hid (take_under h 1 (by unfold I64; omega) (by simp))
  clear h
  go_enter Tryz.func237, Tryz.ntmps237
  go_wp2_with ((with_reducible refine (hT.out).mono ?_); rintro e w' ⟨rfl, rfl⟩)
  go_ret2
  exact ⟨rfl, rfl⟩
theorem pop_some {w : World} {p : Nat} {R : List Int} {x : Int} (h : St w p (R ++ [x])) :
    Calls Tryz.prog 237 #[Pt p] w (Turns p w (.tuple #[.int .i64 x, .int .i64 0]) R) := by
  have hT := take_ok h 1 (by simp)
  have e1 : (R ++ [x]).length - 1 = R.length := by simp
  unfold Taken at hT
  rw [e1, List.drop_left, List.take_left] at hT
  have HT := Lib.hid hT
  clear hT h e1
  go_enter Tryz.func237, Tryz.ntmps237
  go_wp2_with fail
  refine (HT.out).mono ?_
  rintro e w1 ⟨b, c, rfl, ho, hbb, hs, hm⟩
  have hc : w1.cell? ⟨b, 0, none⟩ = some (.int .i64 x) := ho.cell 0 (by simp)
  have HS := Lib.hid (And.intro hs hm)
  clear ho hbb hs hm HT
  go_wp2
  go_ret2
  exact ⟨rfl, HS.out⟩
def cutL (n : Nat) (L : List Int) : List Int := L.take n ++ List.replicate (n - L.length) 0
theorem cutL_len (n : Nat) (L : List Int) : (cutL n L).length = n := by unfold cutL; simp; omega
theorem Tryz.zeroCell : ∀ w, (zeroValue 33).run Tryz.prog w = .ok (.int .i64 0) w := fun w => by kernel_rfl
theorem Raw.clear {w : World} {p : Nat} {C : List Int} {d : Nat} (h : Raw w p C d) (o n : Nat) (cap : Nat) (hb : o + n ≤ 128) (ty : TypeId) :
    (Builtin.clear_ #[25] ty #[.slice (some ⟨p, pa o, none⟩) n cap]).run Tryz.prog w = .ok (.tuple #[]) (w.setCells p o (cellsI (List.replicate n 0))) := by
  have hlen := h.len
  by_cases h0 : n = 0
  · subst h0
    simp [Builtin.clear_, run_underlying Tryz.underlying25, cellsI]
    rfl
  · rw [show pa o = o from if_neg (by omega)]
    have e : cellsI (List.replicate n 0) = List.replicate n (.int .i64 0) := by simp [cellsI]
    rw [e]
    exact Lib.run_clear_slice (P := Tryz.prog) w 25 33 ty (.int .i64 0) Tryz.underlying25 Tryz.zeroCell rfl rfl p o n cap (by omega) (fun j hj => by rw [h.c (o + j) (by omega)]; rfl) (fun j hj => h.f _)
theorem St.cutTo {W : World} {p : Nat} {C L : List Int} {t : Nat} (h : Raw W p (lay C (min L.length t) (List.replicate (t - min L.length t) 0)) L.length) (hc : C.length = 128) (e : C.take L.length = L) (hL : ∀ x ∈ L, I64 x) (ht : t ≤ 128) (hn : L.length ≤ 128) :
    St (W.setCell ⟨p, 128, none⟩ (.int .i64 (t : Int))) p (cutL t L) := by
  refine ⟨⟨lay C (min L.length t) (List.replicate (t - min L.length t) 0), ?_, ?_⟩, ?_⟩
  · rw [cutL_len]
    exact h.depth t ht
  · rw [cutL_len]
    unfold lay cutL
    by_cases hlt : L.length ≤ t
    · rw [Nat.min_eq_left hlt, e, List.take_of_length_le hlt, List.take_left' (by simp; omega)]
    · rw [Nat.min_eq_right (by omega), Nat.sub_self, show t - L.length = 0 by omega]
      simp only [List.replicate_zero, List.append_nil, List.length_nil, Nat.add_zero, List.take_append_drop]
      rw [← e, List.take_take, Nat.min_eq_left (by omega)]
  · unfold cutL
    refine all_app (fun x hx => hL x (List.mem_of_mem_take hx)) (fun x hx => ?_)
    rw [List.eq_of_mem_replicate hx]
    unfold I64
    omega
def clamp (n : Int) : Nat := (min (max n 0) 128).toNat
set_option maxHeartbeats 1000000 in
theorem cut_calls {w : World} {p : Nat} {L : List Int} (h : St w p L) (n : Int) (hn : I64 n) :
    Calls Tryz.prog 253 #[Pt p, .int .i64 n] w (Turns p w (.tuple #[]) (cutL (clamp n) L)) := by
  have hd := h.depth
  have hl := h.n
  have hf := h.free 128
  obtain ⟨t, ht⟩ : ∃ t, t = clamp n := ⟨_, rfl⟩
  have ht1 : t ≤ 128 := by unfold clamp at ht; omega
  have hmin : ∀ (a b : Nat), min a b = if a ≤ b then a else b := fun a b => rfl
  obtain ⟨⟨C, hR, he⟩, hIL⟩ := h
  have hRd : Raw w.drew p C L.length := hR.far (Mod.refl [] w).drew
  obtain ⟨m, hm⟩ : ∃ m, m = min L.length t := ⟨_, rfl⟩
  have hmt : m ≤ t := by omega
  have hcl := hRd.clear m (t - m) (128 - m) (by omega)
  have hsl := slice128 p m t (by omega) (by omega)
  have hP := hRd.puts m (List.replicate (t - m) 0) (by simp; omega)
  have hM := (((Mod.refl [p] w).drew.sets (x := p) (by simp) (cellsI (List.replicate (t - m) 0)) m))
  generalize w.drew.setCells p m (cellsI (List.replicate (t - m) 0)) = W at *
  have hfin : St (W.setCell ⟨p, 128, none⟩ (.int .i64 (t : Int))) p (cutL t L) := by
    subst hm
    exact St.cutTo hP hR.len he hIL ht1 hl
  have HF := Lib.hid (And.intro hfin (hM.one (p := p) (by simp) 128 (.int .i64 (t : Int))))
  have hWd := hP.dp
  have hWf := hP.f 128
  rw [← ht]
  obtain ⟨d, hdd⟩ : ∃ d, d = L.length := ⟨_, rfl⟩
  rw [← hdd] at hd hl hWd hm
  have HT := Lib.hid ht
  have HMM := Lib.hid hm
  clear hdd hR hRd he hIL hP hM hmin hfin ht hm
  go_enter Tryz.func253, Tryz.ntmps253
  go_upto_region 2 with fail
  have hto : (if 128 < if n < 0 then 0 else n then 128 else if n < 0 then 0 else n) = (t : Int) := by
    rw [HT.out]
    unfold clamp
    repeat' split
    all_goals omega
  rw [hto]
  clear hto
  have hmn : (if t < d then (t : Int) else (d : Int)) = (m : Int) := by
    rw [HMM.out]
    split <;> omega
  go_region
  go_wp2
  all_goals exact bodyPost_end (v := .tuple #[]) (results_none rfl _ _ _) rfl ⟨rfl, HF.out⟩
end Go.Proofs.YtifnkmddinoneaaGreatDoor
namespace Go.Proofs.YtifnkmddinoneaaGreatDoor
open Go.RowKit
set_option linter.unusedVariables false

/-- The cell that the uppermost chooses: what is below it, itself, what is between both. -/
def chosenAt (L : List Int) : Option (List Int × Int × List Int) :=
  if 0 < L.length ∧ 0 ≤ L.getLastD 0 ∧ L.getLastD 0 < (L.length : Int) - 1 then
    some (L.take (L.length - 2 - (L.getLastD 0).toNat), L.getD (L.length - 2 - (L.getLastD 0).toNat) 0, (L.drop (L.length - 1 - (L.getLastD 0).toNat)).dropLast)
  else none
theorem chosen_cases (L : List Int) : (chosenAt L = none ∧ (L = [] ∨ ∃ R u, L = R ++ [u] ∧ ¬ (0 ≤ u ∧ u < (R.length : Int)))) ∨ ∃ A x B, L = A ++ x :: (B ++ [(B.length : Int)]) ∧ chosenAt L = some (A, x, B) := by
  by_cases h0 : L = []
  · subst h0
    exact Or.inl ⟨rfl, Or.inl rfl⟩
  obtain ⟨R, u, rfl⟩ : ∃ R u, L = R ++ [u] := ⟨L.dropLast, L.getLast h0, (List.dropLast_concat_getLast h0).symm⟩
  have e1 : (R ++ [u]).getLastD 0 = u := by simp [List.getLastD_eq_getLast?]
  have e2 : (R ++ [u]).length = R.length + 1 := by simp
  by_cases h : 0 ≤ u ∧ u < (R.length : Int)
  · refine Or.inr ?_
    obtain ⟨m, rfl⟩ := Int.eq_ofNat_of_zero_le h.1
    have hm : m < R.length := by omega
    obtain ⟨A, x, B, rfl, hB⟩ : ∃ A x B, R = A ++ x :: B ∧ B.length = m := ⟨R.take (R.length - 1 - m), R[R.length - 1 - m], R.drop (R.length - 1 - m + 1), by
      rw [← List.drop_eq_getElem_cons (by omega), List.take_append_drop], by simp; omega⟩
    subst hB
    refine ⟨A, x, B, by simp, ?_⟩
    unfold chosenAt
    rw [e1, e2, if_pos ⟨by omega, by omega, by have := h.2; omega⟩, Int.toNat_natCast]
    have a1 : (A ++ x :: B).length + 1 - 2 - B.length = A.length := by simp
    have a2 : (A ++ x :: B).length + 1 - 1 - B.length = A.length + 1 := by simp; omega
    rw [a1, a2]
    simp
  · refine Or.inl ⟨?_, Or.inr ⟨R, u, rfl, h⟩⟩
    unfold chosenAt
    rw [e1, e2, if_neg (fun k => h ⟨k.2.1, by have := k.2.2; omega⟩)]
def pickL (L : List Int) : Int × List Int := match chosenAt L with
  | none => (-4, L)
  | some (A, x, B) => (0, A ++ x :: (B ++ [x]))
def rollL (L : List Int) : Int × List Int := match chosenAt L with
  | none => (-4, L)
  | some (A, x, B) => (0, A ++ (B ++ [x]))
theorem ret_pair6 {a b : Int} {v : Value} (h : a = b) : Ending.returned (.tuple #[.int .i64 a, v]) = .returned (.tuple #[.int .i64 b, v]) := by rw [h]
theorem chosen_none {w : World} {p : Nat} (h : St w p []) :
    Calls Tryz.prog 322 #[Pt p] w fun e w' => e = .returned (.tuple #[.int .i64 0, .int .i64 (-4)]) ∧ w = w' := by
  have hd := h.depth
  clear h
  go_enter Tryz.func322, Tryz.ntmps322
  go_wp2
  go_ret2
  exact ⟨rfl, rfl⟩
theorem chosen_no {w : World} {p : Nat} {R : List Int} {u : Int} (h : St w p (R ++ [u])) (hu : ¬ (0 ≤ u ∧ u < (R.length : Int))) :
    Calls Tryz.prog 322 #[Pt p] w fun e w' => e = .returned (.tuple #[.int .i64 0, .int .i64 (-4)]) ∧ w = w' := by
  have hd := h.depth
  have hl := h.n
  have hc := h.cell R.length (by simp)
  have hI : I64 u := h.2 u (by simp)
  simp only [List.length_append, List.length_singleton] at hd hl
  rw [List.getElem_concat_length rfl] at hc
  obtain ⟨d, hdd⟩ : ∃ d, d = R.length := ⟨_, rfl⟩
  rw [← hdd] at hd hl hc hu
  obtain ⟨v, hv, hv2⟩ : ∃ v : Int, IntKind.u64.wrap u = v ∧ (d : Int) ≤ v := ⟨_, rfl, by unfold I64 at hI; simp only [IntKind.wrap, IntKind.bits, IntKind.signed]; simp; omega⟩
  have hdw : IntKind.u64.wrap (d : Int) = (d : Int) := by simp only [IntKind.wrap, IntKind.bits, IntKind.signed]; simp; omega
  rw [show ((d + 1 : Nat) : Int) = (d : Int) + 1 from rfl] at hd
  clear h hdd hI hu
  go_enter Tryz.func322, Tryz.ntmps322
  go_wp2
  go_ret2
  exact ⟨rfl, rfl⟩
theorem chosen_ok {w : World} {p : Nat} {A B : List Int} {x : Int} (h : St w p (A ++ x :: (B ++ [(B.length : Int)]))) :
    Calls Tryz.prog 322 #[Pt p] w fun e w' => e = .returned (.tuple #[.int .i64 (A.length : Int), .int .i64 0]) ∧ w = w' := by
  have hd := h.depth
  have hl := h.n
  have hc := h.cell (A.length + B.length + 1) (by simp; omega)
  have e1 : (A ++ x :: (B ++ [(B.length : Int)])).length = A.length + B.length + 2 := by simp; omega
  have e2 : (A ++ x :: (B ++ [(B.length : Int)]))[A.length + B.length + 1]'(by omega) = (B.length : Int) := by
    rw [List.getElem_append_right (by omega)]
    simp [show A.length + B.length + 1 - A.length = B.length + 1 by omega]
  rw [e1] at hd hl
  rw [e2] at hc
  obtain ⟨a, ha⟩ : ∃ a, a = A.length := ⟨_, rfl⟩
  obtain ⟨b, hb⟩ : ∃ b, b = B.length := ⟨_, rfl⟩
  rw [← ha, ← hb] at hd hl hc
  rw [← ha]
  have hw1 : IntKind.u64.wrap (b : Int) = (b : Int) := by simp only [IntKind.wrap, IntKind.bits, IntKind.signed]; simp; omega
  obtain ⟨m, hm⟩ : ∃ m, m = a + b + 1 := ⟨_, rfl⟩
  rw [← hm] at hc
  rw [show ((a + b + 2 : Nat) : Int) = (m : Int) + 1 by omega] at hd
  have hw2 : IntKind.u64.wrap (m : Int) = (m : Int) := by simp only [IntKind.wrap, IntKind.bits, IntKind.signed]; simp; omega
  have hm2 : ¬ m ≤ b := by omega
  have hm3 : (m : Int) < 128 := by omega
  have HM := Lib.hid hm
  clear h e1 e2 ha hb hl hm
  go_enter Tryz.func322, Tryz.ntmps322
  set_option maxRecDepth 10000 in go_wp2
  go_ret2
  exact ⟨ret_pair6 (by have := HM.out; omega), rfl⟩
theorem pick_none {w : World} {p : Nat} (hc : Calls Tryz.prog 322 #[Pt p] w fun e w' => e = .returned (.tuple #[.int .i64 0, .int .i64 (-4)]) ∧ w = w') :
    Calls Tryz.prog 266 #[Pt p] w fun e w' => e = .returned (.int .i64 (-4)) ∧ w = w' := by
  have hC := Lib.hid hc
  clear hc
  go_enter Tryz.func266, Tryz.ntmps266
  go_wp2_with ((with_reducible refine (hC.out).mono ?_); rintro e w' ⟨rfl, rfl⟩)
  go_ret
  exact ⟨rfl, rfl⟩
theorem roll_none {w : World} {p : Nat} (hc : Calls Tryz.prog 322 #[Pt p] w fun e w' => e = .returned (.tuple #[.int .i64 0, .int .i64 (-4)]) ∧ w = w') :
    Calls Tryz.prog 267 #[Pt p] w fun e w' => e = .returned (.int .i64 (-4)) ∧ w = w' := by
  have hC := Lib.hid hc
  clear hc
  go_enter Tryz.func267, Tryz.ntmps267
  go_wp2_with ((with_reducible refine (hC.out).mono ?_); rintro e w' ⟨rfl, rfl⟩)
  go_ret
  exact ⟨rfl, rfl⟩
theorem St.setTop {w : World} {p : Nat} {R : List Int} {u : Int} (h : St w p (R ++ [u])) (x : Int) (hx : I64 x) : St (w.setCell ⟨p, R.length, none⟩ (.int .i64 x)) p (R ++ [x]) := by
  obtain ⟨⟨C, hR, he⟩, hI⟩ := h
  have hn := hR.n
  have hl := hR.len
  simp only [List.length_append, List.length_singleton] at hn he hR
  refine ⟨⟨C.set R.length x, ?_, ?_⟩, all_app (fun y hy => hI y (by simp [hy])) (by simpa using hx)⟩
  · simp only [List.length_append, List.length_singleton]
    exact hR.put R.length (by omega) x
  · simp only [List.length_append, List.length_singleton]
    rw [List.take_set, he, List.set_append_right _ _ (Nat.le_refl _)]
    simp
set_option maxHeartbeats 1000000 in
set_option maxRecDepth 10000 in
theorem pick_ok {w : World} {p : Nat} {A B : List Int} {x : Int} (h : St w p (A ++ x :: (B ++ [(B.length : Int)]))) :
    Calls Tryz.prog 266 #[Pt p] w (Turns p w (.int .i64 0) (A ++ x :: (B ++ [x]))) := by
  have hC := Lib.hid (chosen_ok h)
  have hd := h.depth
  have hl := h.n
  have hc := h.cell A.length (by simp)
  rw [List.getElem_append_right (by omega)] at hc
  simp only [Nat.sub_self, List.getElem_cons_zero] at hc
  have e0 : A ++ x :: (B ++ [(B.length : Int)]) = (A ++ x :: B) ++ [(B.length : Int)] := by simp
  have e0' : A ++ x :: (B ++ [x]) = (A ++ x :: B) ++ [x] := by simp
  have hI : I64 x := h.2 x (by simp)
  have e1 : (A ++ x :: (B ++ [(B.length : Int)])).length = (A ++ x :: B).length + 1 := by simp <;> omega
  have h1 := h.far (Mod.refl [] w).drew
  rw [e0] at h1
  have hft := h.free (A ++ x :: B).length
  have hct := h.cell (A ++ x :: B).length (by omega)
  have HF := Lib.hid (And.intro (h1.setTop x hI) (((Mod.refl [p] w).drew.one (p := p) (by simp) (A ++ x :: B).length (.int .i64 x))))
  rw [e1] at hd hl
  rw [e0']
  have ham : A.length < (A ++ x :: B).length := by simp <;> omega
  obtain ⟨m, hm⟩ : ∃ m, m = (A ++ x :: B).length := ⟨_, rfl⟩
  generalize (A ++ x :: (B ++ [(B.length : Int)]))[(A ++ x :: B).length]'(by omega) = z at hct
  rw [← hm] at hd hl HF hft hct ham
  obtain ⟨a, ha⟩ : ∃ a, a = A.length := ⟨_, rfl⟩
  rw [← ha] at hC hc ham
  rw [show ((m + 1 : Nat) : Int) = (m : Int) + 1 from rfl] at hd
  have ha1 : (0 : Int) ≤ (a : Int) := by omega
  have ha2 : (a : Int) < 128 := by omega
  have hm1 : (0 : Int) ≤ (m : Int) := by omega
  have hm2 : (m : Int) < 128 := by omega
  have hm3 : IntKind.i64.wrap ((m : Int) + 1 - 1) = (m : Int) := by rw [show (m : Int) + 1 - 1 = (m : Int) by omega]; exact IntWalk.i64_in _ (by omega)
  clear h h1 e0 e0' e1 hI hm ha
  go_enter Tryz.func266, Tryz.ntmps266
  go_wp2_with ((with_reducible refine (hC.out).mono ?_); rintro e w' ⟨rfl, rfl⟩)
  go_region
  go_wp2
  go_ret
  exact ⟨rfl, HF.out⟩
theorem Raw.move {w : World} {p : Nat} {C : List Int} {d : Nat} (h : Raw w p C d) (a : Nat) (B : List Int) (hB : ∀ j (hj : j < B.length), C[a + 1 + j]? = some B[j]) (hb : a + 1 + B.length ≤ 128) (n cap : Nat) (hn : n = B.length) (ty : TypeId) :
    (Builtin.copy_ #[25, 25] ty #[.slice (some ⟨p, a, none⟩) (128 - a) (128 - a), .slice (some ⟨p, a + 1, none⟩) n cap]).run Tryz.prog w = .ok (goInt n) (w.setCells p a (cellsI B)) := by
  subst hn
  have hl := cellsI_len B
  have hlen := h.len
  have := run_copy_cells (P := Tryz.prog) w 25 25 ty 33 p a (128 - a) (128 - a) ⟨p, a + 1, none⟩ B.length cap (cellsI B) Tryz.underlying25 (by kernel_rfl) (by rw [hl]; exact (Nat.min_eq_left (by omega)).symm) (fun j v hv => by
      have hj : j < B.length := by
        have := (List.getElem?_eq_some_iff.1 hv).1
        rwa [hl] at this
      have hp : (⟨p, a + 1, none⟩ : Addr).add j = ⟨p, a + 1 + j, none⟩ := by unfold Addr.add; split <;> simp_all
      have hg := hB j hj
      rw [List.getElem?_eq_getElem (by omega)] at hg
      injection hg with hg
      rw [hp, h.c (a + 1 + j) (by omega), ← hv, cellsI_get B j hj, hg]) (fun j hj => by rw [h.c (a + j) (by omega)]; rfl) (fun j hj => h.f _) (one_cells B)
  rw [hl] at this
  exact this
set_option maxHeartbeats 2000000 in
set_option maxRecDepth 10000 in
theorem roll_ok {w : World} {p : Nat} {A B : List Int} {x : Int} (h : St w p (A ++ x :: (B ++ [(B.length : Int)]))) :
    Calls Tryz.prog 267 #[Pt p] w (Turns p w (.int .i64 0) (A ++ (B ++ [x]))) := by
  have hC := Lib.hid (chosen_ok h)
  obtain ⟨⟨C, hR, he⟩, hI⟩ := h
  have hlen := hR.len
  have hd := hR.dp
  have hl := hR.n
  have e1 : (A ++ x :: (B ++ [(B.length : Int)])).length = A.length + B.length + 2 := by simp; omega
  rw [e1] at hR hd hl he
  obtain ⟨m, hm⟩ : ∃ m, m = A.length + B.length + 1 := ⟨_, rfl⟩
  have hget : ∀ i, i ≤ m → C[i]? = (A ++ x :: (B ++ [(B.length : Int)]))[i]? := fun i hi => by
    rw [← he, List.getElem?_take, if_pos (by omega)]
  have hx : C[A.length]? = some x := by rw [hget _ (by omega)]; simp
  have hB : ∀ j (hj : j < B.length), C[A.length + 1 + j]? = some B[j] := fun j hj => by
    rw [hget _ (by omega), List.getElem?_append_right (by omega), show A.length + 1 + j - A.length = j + 1 by omega, List.getElem?_cons_succ, List.getElem?_append_left hj, List.getElem?_eq_getElem hj]
  have hA : C.take A.length = A := by
    have : (C.take (A.length + B.length + 2)).take A.length = A := by rw [he]; simp
    rwa [List.take_take, Nat.min_eq_left (by omega)] at this
  have hf := hR.f 128
  have R1 := hR.depth m (by omega)
  have M1 := (Mod.refl [p] w).one (p := p) (by simp) 128 (.int .i64 (m : Int))
  have hxc : (w.setCell ⟨p, 128, none⟩ (.int .i64 (m : Int))).cell? ⟨p, A.length, none⟩ = some (.int .i64 x) := by
    rw [R1.c A.length (by omega)]
    rw [List.getElem?_eq_getElem (by omega)] at hx
    injection hx with hx
    rw [hx]
  have R1d := R1.far (Mod.refl [] _).drew
  have hcp := R1d.move A.length B hB (by omega) (m - (A.length + 1)) (128 - (A.length + 1)) (by omega)
  have R2 := R1d.puts A.length B (by omega)
  have M2 := M1.drew.sets (x := p) (by simp) (cellsI B) A.length
  have hsl1 := slice128d p A.length (by omega)
  have hsl2 := slice128 p (A.length + 1) m (by omega) (by omega)
  rw [show pa A.length = A.length from if_neg (by omega)] at hsl1
  rw [show pa (A.length + 1) = A.length + 1 from if_neg (by omega), show ((A.length + 1 : Nat) : Int) = (A.length : Int) + 1 from rfl] at hsl2
  have hm1d : (w.setCell ⟨p, 128, none⟩ (.int .i64 (m : Int))).cell? ⟨p, 128, none⟩ = some (.int .i64 (m : Int)) := R1.dp
  have hIx : I64 x := hI x (by simp)
  have HI : ∀ y ∈ A ++ (B ++ [x]), I64 y := fun y hy => by
    rcases List.mem_append.1 hy with h | h
    · exact hI y (by simp [h])
    · rcases List.mem_append.1 h with h | h
      · exact hI y (by simp [h])
      · simp at h; subst h; exact hIx
  generalize hW1 : w.setCell ⟨p, 128, none⟩ (.int .i64 (m : Int)) = W1 at *
  generalize hW2 : W1.drew.setCells p A.length (cellsI B) = W2 at *
  have hm2d := R2.dp
  have R3 := (R2.far (Mod.refl [] _).drew).put (m - 1) (by omega) x
  have M3 := M2.drew.one (p := p) (by simp) (m - 1) (.int .i64 x)
  have e3 : (lay C A.length B).set (m - 1) x = lay C A.length (B ++ [x]) := by
    rw [show m - 1 = A.length + B.length by omega]
    exact lay_snoc (by omega)
  rw [e3] at R3
  have hfin : St (W2.drew.setCell ⟨p, m - 1, none⟩ (.int .i64 x)) p (A ++ (B ++ [x])) := by
    refine ⟨⟨lay C A.length (B ++ [x]), ?_, ?_⟩, HI⟩
    · rw [show (A ++ (B ++ [x])).length = m by simp <;> omega]
      exact R3
    · rw [List.length_append]
      exact lay_take hA (by simp; omega)
  have HF := Lib.hid (And.intro hfin M3)
  have hz := R2.c (m - 1) (by rw [lay_len (by omega)]; omega)
  have hzf := R2.f (m - 1)
  generalize (lay C A.length B)[m - 1]'(by rw [lay_len (by omega)]; omega) = z at hz
  obtain ⟨k, hk⟩ : ∃ k, k = m - 1 := ⟨_, rfl⟩
  rw [← hk] at HF hz hzf
  have hmk : IntKind.i64.wrap ((m : Int) - 1) = (k : Int) := by rw [show (m : Int) - 1 = (k : Int) by omega]; exact IntWalk.i64_in _ (by omega)
  obtain ⟨a, ha⟩ : ∃ a, a = A.length := ⟨_, rfl⟩
  have h1 : (0 : Int) ≤ (a : Int) := by omega
  have h2 : (a : Int) < 128 := by omega
  have h3 : (0 : Int) ≤ (k : Int) := by omega
  have h4 : (k : Int) < 128 := by omega
  have h5 : (m : Int) ≤ 128 := by omega
  have h6 : IntKind.i64.wrap ((a : Int) + 1) = (a : Int) + 1 := IntWalk.i64_in _ (by omega)
  rw [show ((A.length + B.length + 2 : Nat) : Int) = (m : Int) + 1 by omega] at hd
  rw [← ha] at hC hxc hcp hsl1 hsl2
  generalize 128 - (a + 1) = c1 at hcp hsl2
  generalize m - (a + 1) = nb at hcp hsl2
  have HW1 := Lib.hid hW1
  clear hR he hI e1 hl hm hget hx hB hA R1 M1 R1d R2 M2 hIx HI R3 M3 e3 hfin hk ha hW1 hW2 hlen
  go_enter Tryz.func267, Tryz.ntmps267
  go_wp2_with fail
  refine (hC.out).mono ?_
  rintro e w' ⟨rfl, rfl⟩
  go_upto_region 5 with fail
  rw [HW1.out]
  go_wp2_with fail
  go_region
  go_wp2_with fail
  go_region
  go_wp2
  go_ret
  exact ⟨rfl, HF.out⟩
end Go.Proofs.YtifnkmddinoneaaGreatDoor
namespace Go.Proofs.YtifnkmddinoneaaGreatDoor
open Go.RowKit
set_option linter.unusedVariables false

/-- How many cells an operation takes, and which of them it pushes; z: the uppermost is 0. -/
def shapeL (op : Int) (z : Bool) : Nat × List Nat :=
  if op = 28 then (1, [0, 0]) else
  if op = 29 then (1, []) else
  if op = 30 then (2, [1, 0]) else
  if op = 31 then (2, [0, 1, 0]) else
  if op = 32 then (3, [1, 2, 0]) else
  if op = 33 then (2, [1]) else
  if op = 34 then (2, [1, 0, 1]) else
  if op = 36 then (2, [0, 1, 0, 1]) else
  if op = 37 then (2, []) else
  if op = 38 then (4, [2, 3, 0, 1]) else
  if op = 39 then (4, [0, 1, 2, 3, 0, 1]) else
  if op = 35 then (1, if z then [0] else [0, 0]) else (0, [])
def posS (ps : List Nat) : ByteArray := ⟨(ps.map fun i => UInt8.ofNat (48 + i)).toArray⟩
def topZ (L : List Int) : Bool := decide (L ≠ [] ∧ L.getLastD 0 = 0)
def EffR (t : Nat) (ps : List Nat) (w : World) (e : Ending) (w' : World) : Prop := e = .returned (.tuple #[.int .i64 (t : Int), .string (posS ps)]) ∧ Mod [] w w'
theorem shapeL_le (op : Int) (z : Bool) : (shapeL op z).1 ≤ 4 ∧ (∀ i ∈ (shapeL op z).2, i < (shapeL op z).1) ∧ (shapeL op z).2.length ≤ 6 ∧ ((shapeL op z).1 = 0 ↔ ¬ (28 ≤ op ∧ op ≤ 39)) := by
  have hc : op = 28 ∨ op = 29 ∨ op = 30 ∨ op = 31 ∨ op = 32 ∨ op = 33 ∨ op = 34 ∨ op = 35 ∨ op = 36 ∨ op = 37 ∨ op = 38 ∨ op = 39 ∨ ¬ (28 ≤ op ∧ op ≤ 39) := by omega
  rcases hc with h | h | h | h | h | h | h | h | h | h | h | h | h
  all_goals try (subst h; cases z <;> decide)
  unfold shapeL
  rw [if_neg (by omega)]
  rw [if_neg (by omega)]
  rw [if_neg (by omega)]
  rw [if_neg (by omega)]
  rw [if_neg (by omega)]
  rw [if_neg (by omega)]
  rw [if_neg (by omega)]
  rw [if_neg (by omega)]
  rw [if_neg (by omega)]
  rw [if_neg (by omega)]
  rw [if_neg (by omega)]
  rw [if_neg (by omega)]
  simp
  omega
theorem effect_28 (v : Value) (z : Bool) (w : World) : Calls Tryz.prog 268 #[v, .int .i64 28] w (EffR (shapeL 28 z).1 (shapeL 28 z).2 w) := by
  show Calls Tryz.prog 268 #[v, .int .i64 28] w (EffR 1 [0, 0] w)
  go_enter Tryz.func268, Tryz.ntmps268
  go_wp2
  go_ret2
  exact ⟨rfl, Mod.refl _ _⟩
theorem effect_29 (v : Value) (z : Bool) (w : World) : Calls Tryz.prog 268 #[v, .int .i64 29] w (EffR (shapeL 29 z).1 (shapeL 29 z).2 w) := by
  show Calls Tryz.prog 268 #[v, .int .i64 29] w (EffR 1 [] w)
  go_enter Tryz.func268, Tryz.ntmps268
  go_wp2
  go_ret2
  exact ⟨rfl, Mod.refl _ _⟩
theorem effect_30 (v : Value) (z : Bool) (w : World) : Calls Tryz.prog 268 #[v, .int .i64 30] w (EffR (shapeL 30 z).1 (shapeL 30 z).2 w) := by
  show Calls Tryz.prog 268 #[v, .int .i64 30] w (EffR 2 [1, 0] w)
  go_enter Tryz.func268, Tryz.ntmps268
  go_wp2
  go_ret2
  exact ⟨rfl, Mod.refl _ _⟩
theorem effect_31 (v : Value) (z : Bool) (w : World) : Calls Tryz.prog 268 #[v, .int .i64 31] w (EffR (shapeL 31 z).1 (shapeL 31 z).2 w) := by
  show Calls Tryz.prog 268 #[v, .int .i64 31] w (EffR 2 [0, 1, 0] w)
  go_enter Tryz.func268, Tryz.ntmps268
  go_wp2
  go_ret2
  exact ⟨rfl, Mod.refl _ _⟩
theorem effect_32 (v : Value) (z : Bool) (w : World) : Calls Tryz.prog 268 #[v, .int .i64 32] w (EffR (shapeL 32 z).1 (shapeL 32 z).2 w) := by
  show Calls Tryz.prog 268 #[v, .int .i64 32] w (EffR 3 [1, 2, 0] w)
  go_enter Tryz.func268, Tryz.ntmps268
  go_wp2
  go_ret2
  exact ⟨rfl, Mod.refl _ _⟩
theorem effect_33 (v : Value) (z : Bool) (w : World) : Calls Tryz.prog 268 #[v, .int .i64 33] w (EffR (shapeL 33 z).1 (shapeL 33 z).2 w) := by
  show Calls Tryz.prog 268 #[v, .int .i64 33] w (EffR 2 [1] w)
  go_enter Tryz.func268, Tryz.ntmps268
  go_wp2
  go_ret2
  exact ⟨rfl, Mod.refl _ _⟩
theorem effect_34 (v : Value) (z : Bool) (w : World) : Calls Tryz.prog 268 #[v, .int .i64 34] w (EffR (shapeL 34 z).1 (shapeL 34 z).2 w) := by
  show Calls Tryz.prog 268 #[v, .int .i64 34] w (EffR 2 [1, 0, 1] w)
  go_enter Tryz.func268, Tryz.ntmps268
  go_wp2
  go_ret2
  exact ⟨rfl, Mod.refl _ _⟩
theorem effect_36 (v : Value) (z : Bool) (w : World) : Calls Tryz.prog 268 #[v, .int .i64 36] w (EffR (shapeL 36 z).1 (shapeL 36 z).2 w) := by
  show Calls Tryz.prog 268 #[v, .int .i64 36] w (EffR 2 [0, 1, 0, 1] w)
  go_enter Tryz.func268, Tryz.ntmps268
  go_wp2
  go_ret2
  exact ⟨rfl, Mod.refl _ _⟩
theorem effect_37 (v : Value) (z : Bool) (w : World) : Calls Tryz.prog 268 #[v, .int .i64 37] w (EffR (shapeL 37 z).1 (shapeL 37 z).2 w) := by
  show Calls Tryz.prog 268 #[v, .int .i64 37] w (EffR 2 [] w)
  go_enter Tryz.func268, Tryz.ntmps268
  go_wp2
  go_ret2
  exact ⟨rfl, Mod.refl _ _⟩
theorem effect_38 (v : Value) (z : Bool) (w : World) : Calls Tryz.prog 268 #[v, .int .i64 38] w (EffR (shapeL 38 z).1 (shapeL 38 z).2 w) := by
  show Calls Tryz.prog 268 #[v, .int .i64 38] w (EffR 4 [2, 3, 0, 1] w)
  go_enter Tryz.func268, Tryz.ntmps268
  go_wp2
  go_ret2
  exact ⟨rfl, Mod.refl _ _⟩
theorem effect_39 (v : Value) (z : Bool) (w : World) : Calls Tryz.prog 268 #[v, .int .i64 39] w (EffR (shapeL 39 z).1 (shapeL 39 z).2 w) := by
  show Calls Tryz.prog 268 #[v, .int .i64 39] w (EffR 4 [0, 1, 2, 3, 0, 1] w)
  go_enter Tryz.func268, Tryz.ntmps268
  go_wp2
  go_ret2
  exact ⟨rfl, Mod.refl _ _⟩
theorem effect_none (v : Value) (op : Int) (h : ¬ (28 ≤ op ∧ op ≤ 39)) (z : Bool) (w : World) : Calls Tryz.prog 268 #[v, .int .i64 op] w (EffR (shapeL op z).1 (shapeL op z).2 w) := by
  have e : shapeL op z = (0, []) := by
    unfold shapeL
    rw [if_neg (by omega)]
    rw [if_neg (by omega)]
    rw [if_neg (by omega)]
    rw [if_neg (by omega)]
    rw [if_neg (by omega)]
    rw [if_neg (by omega)]
    rw [if_neg (by omega)]
    rw [if_neg (by omega)]
    rw [if_neg (by omega)]
    rw [if_neg (by omega)]
    rw [if_neg (by omega)]
    rw [if_neg (by omega)]
  rw [e]
  clear e
  have h28 : (op == 28) = false := by simp; omega
  have h29 : (op == 29) = false := by simp; omega
  have h30 : (op == 30) = false := by simp; omega
  have h31 : (op == 31) = false := by simp; omega
  have h32 : (op == 32) = false := by simp; omega
  have h33 : (op == 33) = false := by simp; omega
  have h34 : (op == 34) = false := by simp; omega
  have h35 : (op == 35) = false := by simp; omega
  have h36 : (op == 36) = false := by simp; omega
  have h37 : (op == 37) = false := by simp; omega
  have h38 : (op == 38) = false := by simp; omega
  have h39 : (op == 39) = false := by simp; omega
  clear h
  go_enter Tryz.func268, Tryz.ntmps268
  go_wp2
  go_ret2
  exact ⟨rfl, Mod.refl _ _⟩
theorem effect_35z {w : World} {p : Nat} {R : List Int} (h : St w p (R ++ [0])) : Calls Tryz.prog 268 #[Pt p, .int .i64 35] w (EffR 1 [0] w) := by
  have hd := h.depth
  have hl := h.n
  have hc := h.cell R.length (by simp)
  rw [List.getElem_concat_length rfl] at hc
  simp only [List.length_append, List.length_singleton] at hd hl
  obtain ⟨m, hm⟩ : ∃ m, m = R.length := ⟨_, rfl⟩
  rw [← hm] at hc hd hl
  rw [show ((m + 1 : Nat) : Int) = (m : Int) + 1 from rfl] at hd
  have h1 : (0 : Int) ≤ (m : Int) := by omega
  have h2 : (m : Int) < 128 := by omega
  have h3 : decide (0 < (m : Int) + 1) = true := decide_eq_true (by omega)
  have h4 : IntKind.i64.wrap ((m : Int) + 1 - 1) = (m : Int) := by rw [show (m : Int) + 1 - 1 = (m : Int) by omega]; exact IntWalk.i64_in _ (by omega)
  clear h hm
  go_enter Tryz.func268, Tryz.ntmps268
  go_wp2_with fail
  go_quiet (fail)
  go_wp2
  go_ret2
  exact ⟨rfl, (Mod.refl _ _).drewN _⟩
theorem effect_35n {w : World} {p : Nat} {R : List Int} {u : Int} (h : St w p (R ++ [u])) (hu : u ≠ 0) : Calls Tryz.prog 268 #[Pt p, .int .i64 35] w (EffR 1 [0, 0] w) := by
  have hd := h.depth
  have hl := h.n
  have hc := h.cell R.length (by simp)
  rw [List.getElem_concat_length rfl] at hc
  simp only [List.length_append, List.length_singleton] at hd hl
  obtain ⟨m, hm⟩ : ∃ m, m = R.length := ⟨_, rfl⟩
  rw [← hm] at hc hd hl
  rw [show ((m + 1 : Nat) : Int) = (m : Int) + 1 from rfl] at hd
  have h1 : (0 : Int) ≤ (m : Int) := by omega
  have h2 : (m : Int) < 128 := by omega
  have h3 : decide (0 < (m : Int) + 1) = true := decide_eq_true (by omega)
  have h4 : IntKind.i64.wrap ((m : Int) + 1 - 1) = (m : Int) := by rw [show (m : Int) + 1 - 1 = (m : Int) by omega]; exact IntWalk.i64_in _ (by omega)
  have h5 : (u == 0) = false := by simpa using hu
  clear h hm hu
  go_enter Tryz.func268, Tryz.ntmps268
  go_wp2_with fail
  go_quiet (fail)
  go_wp2
  go_ret2
  exact ⟨rfl, (Mod.refl _ _).drewN _⟩
theorem effect_35e {w : World} {p : Nat} (h : St w p []) : Calls Tryz.prog 268 #[Pt p, .int .i64 35] w (EffR 1 [0, 0] w) := by
  have hd : w.cell? ⟨p, 128, none⟩ = some (.int .i64 0) := h.depth
  clear h
  go_enter Tryz.func268, Tryz.ntmps268
  go_wp2_with fail
  go_quiet (fail)
  go_wp2
  go_ret2
  exact ⟨rfl, (Mod.refl _ _).drewN _⟩
theorem effect_calls {w : World} {p : Nat} {L : List Int} (h : St w p L) (op : Int) : Calls Tryz.prog 268 #[Pt p, .int .i64 op] w (EffR (shapeL op (topZ L)).1 (shapeL op (topZ L)).2 w) := by
  have hc : op = 28 ∨ op = 29 ∨ op = 30 ∨ op = 31 ∨ op = 32 ∨ op = 33 ∨ op = 34 ∨ op = 36 ∨ op = 37 ∨ op = 38 ∨ op = 39 ∨ op = 35 ∨ ¬ (28 ≤ op ∧ op ≤ 39) := by omega
  rcases hc with h1 | h1 | h1 | h1 | h1 | h1 | h1 | h1 | h1 | h1 | h1 | h1 | h1
  · subst h1; exact effect_28 _ _ w
  · subst h1; exact effect_29 _ _ w
  · subst h1; exact effect_30 _ _ w
  · subst h1; exact effect_31 _ _ w
  · subst h1; exact effect_32 _ _ w
  · subst h1; exact effect_33 _ _ w
  · subst h1; exact effect_34 _ _ w
  · subst h1; exact effect_36 _ _ w
  · subst h1; exact effect_37 _ _ w
  · subst h1; exact effect_38 _ _ w
  · subst h1; exact effect_39 _ _ w
  · subst h1
    by_cases h0 : L = []
    · subst h0
      exact effect_35e h
    · obtain ⟨R, u, rfl⟩ : ∃ R u, L = R ++ [u] := ⟨L.dropLast, L.getLast h0, (List.dropLast_concat_getLast h0).symm⟩
      by_cases hu : u = 0
      · subst hu
        rw [show topZ (R ++ [0]) = true by unfold topZ; simp [List.getLastD_eq_getLast?]]
        exact effect_35z h
      · rw [show topZ (R ++ [u]) = false by unfold topZ; simp [List.getLastD_eq_getLast?, hu]]
        exact effect_35n h hu
  · exact effect_none _ op h1 _ w
end Go.Proofs.YtifnkmddinoneaaGreatDoor
namespace Go.Proofs.YtifnkmddinoneaaGreatDoor
open Go.RowKit
set_option linter.unusedVariables false

/-- What takes t cells and pushes those at the places ps tells, and leaves. -/
def replL (t : Nat) (ps : List Nat) (L : List Int) : Int × List Int :=
  if L.length < t then (-4, L) else if 128 < L.length - t + ps.length then (-3, L) else (0, L.take (L.length - t) ++ ps.map fun i => (L.drop (L.length - t)).getD i 0)
theorem posS_size (ps : List Nat) : (posS ps).size = ps.length := by simp [posS, ByteArray.size]
theorem posS_get (ps : List Nat) (hp : ∀ i ∈ ps, i < 4) (k : Nat) (h : k < ps.length) : ((posS ps)[k]'(by rw [posS_size]; exact h)).toNat = 48 + ps[k] := by
  have h4 := hp _ (List.getElem_mem h)
  show ((posS ps).data[k]'_).toNat = _
  simp only [posS, List.getElem_toArray, List.getElem_map, UInt8.toNat_ofNat']
  omega
theorem posS_at {ps : List Nat} (hp : ∀ i ∈ ps, i < 4) {S : ByteArray} (hS : S = posS ps) : ∀ k (h : k < S.size) (h2 : k < ps.length), (S[k]).toNat = 48 + ps[k] := by
  subst hS
  exact fun k _ h2 => posS_get ps hp k h2
theorem repl_under {w : World} {p : Nat} {L : List Int} (h : St w p L) (t : Nat) (ps : List Nat) (ht : t ≤ 4) (hb : L.length < t) :
    Calls Tryz.prog 269 #[Pt p, .int .i64 (t : Int), .string (posS ps)] w fun e w' => e = .returned (.int .i64 (-4)) ∧ w = w' := by
  have hd := h.depth
  obtain ⟨S, hS⟩ : ∃ S, S = posS ps := ⟨_, rfl⟩
  rw [← hS]
  obtain ⟨d, hdd⟩ : ∃ d, d = L.length := ⟨_, rfl⟩
  rw [← hdd] at hd hb
  clear h hdd hS
  go_enter Tryz.func269, Tryz.ntmps269
  go_wp2
  go_ret
  exact ⟨rfl, rfl⟩
theorem repl_over {w : World} {p : Nat} {L : List Int} (h : St w p L) (t : Nat) (ps : List Nat) (ht : t ≤ 4) (h6 : ps.length ≤ 6) (hb : ¬ L.length < t) (hc : 128 < L.length - t + ps.length) :
    Calls Tryz.prog 269 #[Pt p, .int .i64 (t : Int), .string (posS ps)] w fun e w' => e = .returned (.int .i64 (-3)) ∧ w = w' := by
  have hd := h.depth
  have hl := h.n
  have hs := posS_size ps
  obtain ⟨S, hS⟩ : ∃ S, S = posS ps := ⟨_, rfl⟩
  rw [← hS] at hs ⊢
  obtain ⟨d, hdd⟩ : ∃ d, d = L.length := ⟨_, rfl⟩
  rw [← hdd] at hd hb hc hl
  have h1 : (128 : Int) < (d : Int) - (t : Int) + (S.size : Int) := by omega
  have h2 : (S.size : Int) ≤ 6 := by omega
  clear h hdd hS hs hc h6
  go_enter Tryz.func269, Tryz.ntmps269
  go_wp2
  go_ret
  exact ⟨rfl, rfl⟩
theorem St.push {w : World} {p : Nat} {L : List Int} (h : St w p L) (x : Int) (hx : I64 x) (hb : L.length < 128) : St ((w.setCell ⟨p, L.length, none⟩ (.int .i64 x)).setCell ⟨p, 128, none⟩ (.int .i64 ((L.length : Int) + 1))) p (L ++ [x]) := by
  obtain ⟨⟨C, hR, he⟩, hI⟩ := h
  refine ⟨⟨C.set L.length x, ?_, ?_⟩, all_app hI (by simpa using hx)⟩
  · have := (hR.put L.length hb x).depth (L.length + 1) (by omega)
    simpa using this
  · have hl := hR.len
    rw [List.length_append, List.length_singleton, List.take_succ_eq_append_getElem (by simp; omega), List.take_set_of_le (Nat.le_refl _), he]
    simp
theorem Mod.iterAt {S : List Nat} {a b : World} (h : Mod S a b) {k : Nat} (hk : a.heap.size ≤ k) (s : ByteArray) (pos : Nat) : Mod S a (b.iterAt k s pos) :=
  h.far1 (p := k) ⟨rfl, rfl, rfl, by simp [World.iterAt], fun i _ hi => by
    show (b.heap.setIfInBounds k _)[i]? = _
    rw [Array.getElem?_setIfInBounds_ne (by simpa [eq_comm] using hi)]⟩ hk
theorem map_take_snoc (ps : List Nat) (f : Nat → Int) (k : Nat) (h : k < ps.length) : (ps.take (k + 1)).map f = (ps.take k).map f ++ [f ps[k]] := by
  rw [List.take_succ_eq_append_getElem h, List.map_append]; rfl
theorem drop_i64 {L : List Int} (h : ∀ x ∈ L, I64 x) (n : Nat) : ∀ x ∈ L.drop n, I64 x := fun x hx => h x (List.mem_of_mem_drop hx)
theorem iterPos_of {W : World} {it : Nat} {S : ByteArray} {pos : Nat} (h : W.heap[it]? = some (.stringIter S pos)) : W.iterPos it = pos := by simp [World.iterPos, h]
set_option maxHeartbeats 2000000 in
set_option maxRecDepth 10000 in
theorem repl_ok {w : World} {p : Nat} {L : List Int} (h : St w p L) (t : Nat) (ps : List Nat) (ht : t ≤ 4) (h6 : ps.length ≤ 6) (hps : ∀ i ∈ ps, i < t) (hb : ¬ L.length < t) (hc : ¬ 128 < L.length - t + ps.length) :
    Calls Tryz.prog 269 #[Pt p, .int .i64 (t : Int), .string (posS ps)] w (Turns p w (.int .i64 0) (L.take (L.length - t) ++ ps.map fun i => (L.drop (L.length - t)).getD i 0)) := by
  have hd := h.depth
  have hl := h.n
  have hIL := h.2
  have hT := take_ok h t (by omega)
  unfold Taken at hT
  have hs := posS_size ps
  have hg := fun S hS => posS_at (ps := ps) (fun i hi => by have := hps i hi; omega) (S := S) hS
  have hTl : (L.drop (L.length - t)).length = t := by simp; omega
  have hBl : (L.take (L.length - t)).length = L.length - t := by simp
  have hIT := drop_i64 hIL (L.length - t)
  obtain ⟨T, hTe⟩ : ∃ T, T = L.drop (L.length - t) := ⟨_, rfl⟩
  obtain ⟨B, hBe⟩ : ∃ B, B = L.take (L.length - t) := ⟨_, rfl⟩
  obtain ⟨f, hf⟩ : ∃ f : Nat → Int, f = fun i => T.getD i 0 := ⟨_, rfl⟩
  rw [← hTe, ← hBe] at hT
  rw [← hTe] at hTl hIT
  rw [← hBe] at hBl
  rw [← hTe, ← hBe, ← hf]
  obtain ⟨S, hS⟩ : ∃ S, S = posS ps := ⟨_, rfl⟩
  rw [← hS] at hs ⊢
  have hg := hg S hS
  obtain ⟨d, hdd⟩ : ∃ d, d = L.length := ⟨_, rfl⟩
  obtain ⟨n, hn⟩ : ∃ n, n = ps.length := ⟨_, rfl⟩
  rw [← hdd] at hd hb hc hl hBl
  rw [← hn] at hc hs h6
  have h1 : ¬ (128 : Int) < (d : Int) - (t : Int) + (S.size : Int) := by omega
  have h2 : (S.size : Int) ≤ 6 := by omega
  have HT := Lib.hid hT
  have HG := Lib.hid hg
  have HS := Lib.hid hs
  have HL := Lib.hid (And.intro hTl hBl)
  have HI := Lib.hid hIT
  have HF := Lib.hid hf
  have HN := Lib.hid hn
  have HP := Lib.hid hps
  have hlp := Lib.hid h.lp
  clear h hdd hS hs hg hT hTe hBe hTl hBl hIT hIL hf hn hps
  go_enter Tryz.func269, Tryz.ntmps269
  go_wp2_with fail
  refine (HT.out).mono ?_
  rintro e w1 ⟨b, c, rfl, ho, hbb, hs, hm⟩
  obtain ⟨it, hit⟩ : ∃ it, it = w1.heap.size := ⟨_, rfl⟩
  have M0 : Mod [] w1 (w1.iter S 0) := (Mod.refl [] w1).alloc _
  have hi0 : (w1.iter S 0).heap[it]? = some (.stringIter S 0) := by rw [hit]; exact (MapKept.heap_alloc w1 _).1
  have R0 := hs.far M0
  have O0 := ho.mod M0 (by simp)
  have MM := hm.far M0
  have hitw : w.heap.size ≤ it := by rw [hit]; exact hm.size
  have hip : p ≠ it := by have := hs.lp; omega
  have hib : b ≠ it := by have := ho.lt; omega
  have hbp : b ≠ p := by have := hlp.out; omega
  have HIT := Lib.hid hit
  have HQ := Lib.hid (And.intro hitw (And.intro hip (And.intro hib hbp)))
  clear HT ho hs hm hit hbb M0 hitw hip hib hbp
  go_wp2_with fail
  rw [← HIT.out]
  go_loopw [11] (fun _ wr => ∃ k : Nat, k ≤ n ∧ RowKit.Hid (wr.heap[it]? = some (.stringIter S k)) ∧ St wr p (B ++ (ps.take k).map f) ∧ Ow wr b T c ∧ Mod [p] w wr) (fun _ wr => n - wr.iterPos it)
  case atStart => exact ⟨0, by omega, Lib.hid hi0, by simpa using R0, O0, MM⟩
  case round =>
    clear hi0 R0 O0 MM
    obtain ⟨k, hk, hi, hs, ho, hm⟩ := hrel
    by_cases hlt : k < n
    · have hkS : k < S.size := by rw [HS.out]; exact hlt
      have hkp : k < ps.length := by rw [← HN.out]; exact hlt
      obtain ⟨i, hie⟩ : ∃ i, i = ps[k] := ⟨_, rfl⟩
      have hit4 : i < t := by rw [hie]; exact HP.out _ (List.getElem_mem hkp)
      have hgk := HG.out k hkS hkp
      rw [← hie] at hgk
      have hnx : ∀ ty, (Instr.next (.pointer (some ⟨it, 0, none⟩)) true ty).run Tryz.prog wr = _ := fun ty => Lib.run_next_ascii_at wr it S k ty hi.out hkS (by rw [hgk]; omega)
      rw [hgk, show ((48 + i : Nat) : Int) = 48 + (i : Int) by omega] at hnx
      have Mi : Mod [it] wr (wr.iterAt it S (k + 1)) := ⟨rfl, rfl, rfl, by rw [Lib.iterAt_size]; exact Nat.le_refl _, fun j _ hj => Lib.iterAt_other _ _ _ _ _ (by simpa using hj)⟩
      have hi2 := Lib.iterAt_heap wr it S k (k + 1) hi.out
      have s2 := hs.mod Mi (by simpa using HQ.out.2.1)
      have o2 := ho.mod Mi (by simpa using HQ.out.2.2.1)
      have m2 := hm.far1 Mi HQ.out.1
      generalize wr.iterAt it S (k + 1) = W2 at *
      have hlen : (B ++ (ps.take k).map f).length = d - t + k := by rw [List.length_append, HL.out.2, List.length_map, List.length_take]; omega
      have hd2 := s2.depth
      have hf2 := s2.free (d - t + k)
      have hf3 := s2.free 128
      have hc2 := o2.cell i (by rw [HL.out.1]; exact hit4)
      obtain ⟨y, hy⟩ : ∃ y, W2.cell? ⟨p, d - t + k, none⟩ = some (.int .i64 y) := by
        obtain ⟨⟨C, hR, _⟩, _⟩ := s2
        exact ⟨_, hR.c (d - t + k) (by rw [hR.len]; omega)⟩
      have hx : f i = T[i]'(by rw [HL.out.1]; exact hit4) := by rw [HF.out]; simp [HL.out.1, hit4]
      rw [← hx] at hc2
      have hIx : I64 (f i) := by rw [hx]; exact HI.out _ (List.getElem_mem _)
      obtain ⟨x, hxe⟩ : ∃ x, x = f i := ⟨_, rfl⟩
      rw [← hxe] at hc2 hIx
      rw [hlen] at hd2
      have s3 := (s2.far (Mod.refl [] _).drew).push x hIx (by rw [hlen]; omega)
      rw [hlen] at s3
      obtain ⟨m, hme⟩ : ∃ m, m = d - t + k := ⟨_, rfl⟩
      rw [← hme] at hd2 hf2 hy s3
      have q1 := ((Mod.refl [p] W2).drew.one (p := p) (by simp) m (.int .i64 x)).one (p := p) (by simp) 128 (.int .i64 ((m : Int) + 1))
      have hi3 := (q1.block it (by exact (Array.getElem?_eq_some_iff.1 hi2).1) (by simpa [eq_comm] using HQ.out.2.1)).trans hi2
      have g1 : (0 : Int) ≤ (m : Int) := by omega
      have g2 : (m : Int) < 128 := by omega
      have g3 : (0 : Int) ≤ (i : Int) := by omega
      have g4 : (i : Int) < (t : Int) := by omega
      have g5 : m ≠ 128 := by omega
      have HR := Lib.hid (And.intro s3 (And.intro o2 (And.intro m2 (And.intro q1 hi3))))
      have HX := Lib.hid hxe
      have HE := Lib.hid hie
      have HI2 := Lib.hid hi
      clear hgk hs ho hm hlen hx hxe hie s2 o2 m2 s3 q1 hi2 hi3 hme hi Mi hIx
      go_wp2_with fail
      go_region
      go_wp2
      go_roundw
      case rel =>
        obtain ⟨q1, q2, q3, q4, q5⟩ := HR.out
        refine ⟨k + 1, by omega, Lib.hid ?_, ?_, q2.mod q4 (by simpa using HQ.out.2.2.2), q3.trans q4⟩
        · exact q5
        · rw [map_take_snoc ps f k hkp, ← List.append_assoc, ← HE.out, ← HX.out]
          exact q1
      case measure =>
        obtain ⟨q1, q2, q3, q4, q5⟩ := HR.out
        rw [iterPos_of HI2.out.out]
        exact Nat.lt_of_le_of_lt (Nat.le_of_eq (congrArg (n - ·) (iterPos_of q5))) (by show n - (k + 1) < n - k; omega)
    · have hnx : ∀ ty, (Instr.next (.pointer (some ⟨it, 0, none⟩)) true ty).run Tryz.prog wr = _ := fun ty => Lib.run_next_end_at wr it S k ty hi.out (by rw [HS.out]; exact hlt)
      have hkn : k = n := by omega
      have HR := Lib.hid (And.intro hs (And.intro hm hkn))
      clear hs hm hkn ho hlt hk hi hg
      go_wp2
      go_ret
      obtain ⟨q1, q2, q3⟩ := HR.out
      refine ⟨rfl, ?_, q2⟩
      rw [q3, HN.out, List.take_length] at q1
      exact q1
def doL (op : Int) (L : List Int) : Int × List Int :=
  if op = 40 then pickL L else if op = 41 then rollL L else if op = 42 then putL [(L.length : Int)] L
  else if (shapeL op (topZ L)).1 = 0 then (1, L) else replL (shapeL op (topZ L)).1 (shapeL op (topZ L)).2 L
theorem repl_calls {w : World} {p : Nat} {L : List Int} (h : St w p L) (t : Nat) (ps : List Nat) (ht : t ≤ 4) (h6 : ps.length ≤ 6) (hps : ∀ i ∈ ps, i < t) :
    Calls Tryz.prog 269 #[Pt p, .int .i64 (t : Int), .string (posS ps)] w (Turns p w (.int .i64 (replL t ps L).1) (replL t ps L).2) := by
  unfold replL
  by_cases hb : L.length < t
  · rw [if_pos hb]
    exact (repl_under h t ps ht hb).mono fun e w' ⟨he, hw⟩ => ⟨he, hw ▸ h, hw ▸ Mod.refl _ _⟩
  · rw [if_neg hb]
    by_cases hc : 128 < L.length - t + ps.length
    · rw [if_pos hc]
      exact (repl_over h t ps ht h6 hb hc).mono fun e w' ⟨he, hw⟩ => ⟨he, hw ▸ h, hw ▸ Mod.refl _ _⟩
    · rw [if_neg hc]
      exact repl_ok h t ps ht h6 hps hb hc
theorem pick_calls {w : World} {p : Nat} {L : List Int} (h : St w p L) :
    Calls Tryz.prog 266 #[Pt p] w (Turns p w (.int .i64 (pickL L).1) (pickL L).2) := by
  rcases chosen_cases L with ⟨e, h0⟩ | ⟨A, x, B, rfl, e⟩
  · have hc : Calls Tryz.prog 322 #[Pt p] w fun e w' => e = .returned (.tuple #[.int .i64 0, .int .i64 (-4)]) ∧ w = w' := by
      rcases h0 with rfl | ⟨R, u, rfl, hu⟩
      · exact chosen_none h
      · exact chosen_no h hu
    unfold pickL
    rw [e]
    exact (pick_none hc).mono fun e w' ⟨he, hw⟩ => ⟨he, hw ▸ h, hw ▸ Mod.refl _ _⟩
  · unfold pickL
    rw [e]
    exact pick_ok h
theorem roll_calls {w : World} {p : Nat} {L : List Int} (h : St w p L) :
    Calls Tryz.prog 267 #[Pt p] w (Turns p w (.int .i64 (rollL L).1) (rollL L).2) := by
  rcases chosen_cases L with ⟨e, h0⟩ | ⟨A, x, B, rfl, e⟩
  · have hc : Calls Tryz.prog 322 #[Pt p] w fun e w' => e = .returned (.tuple #[.int .i64 0, .int .i64 (-4)]) ∧ w = w' := by
      rcases h0 with rfl | ⟨R, u, rfl, hu⟩
      · exact chosen_none h
      · exact chosen_no h hu
    unfold rollL
    rw [e]
    exact (roll_none hc).mono fun e w' ⟨he, hw⟩ => ⟨he, hw ▸ h, hw ▸ Mod.refl _ _⟩
  · unfold rollL
    rw [e]
    exact roll_ok h
set_option maxHeartbeats 1000000 in
theorem do_calls {w : World} {p : Nat} {L : List Int} (h : St w p L) (op : Int) :
    Calls Tryz.prog 135 #[Pt p, .int .i64 op] w (Turns p w (.int .i64 (doL op L).1) (doL op L).2) := by
  unfold doL
  by_cases h40 : op = 40
  · subst h40
    have hC := Lib.hid (pick_calls h)
    rw [if_pos rfl]
    obtain ⟨r, hr⟩ : ∃ r, r = pickL L := ⟨_, rfl⟩
    rw [← hr] at hC ⊢
    clear h hr
    go_enter Tryz.func135, Tryz.ntmps135
    go_wp2_with fail
    refine (hC.out).mono ?_
    rintro e w1 ⟨rfl, h1⟩
    have H1 := Lib.hid h1
    clear h1
    go_wp2
    go_ret
    exact ⟨rfl, H1.out⟩
  rw [if_neg h40]
  by_cases h41 : op = 41
  · subst h41
    have hC := Lib.hid (roll_calls h)
    rw [if_pos rfl]
    obtain ⟨r, hr⟩ : ∃ r, r = rollL L := ⟨_, rfl⟩
    rw [← hr] at hC ⊢
    clear h hr h40
    go_enter Tryz.func135, Tryz.ntmps135
    go_wp2_with fail
    refine (hC.out).mono ?_
    rintro e w1 ⟨rfl, h1⟩
    have H1 := Lib.hid h1
    clear h1
    go_wp2
    go_ret
    exact ⟨rfl, H1.out⟩
  rw [if_neg h41]
  by_cases h42 : op = 42
  · subst h42
    have hl := h.n
    have hC := Lib.hid (push_calls h (L.length : Int) (by unfold I64; omega))
    have hd := h.depth
    rw [if_pos rfl]
    obtain ⟨r, hr⟩ : ∃ r, r = putL [(L.length : Int)] L := ⟨_, rfl⟩
    rw [← hr] at hC ⊢
    clear h hr h40 h41 hl
    go_enter Tryz.func135, Tryz.ntmps135
    go_wp2_with fail
    refine (hC.out).mono ?_
    rintro e w1 ⟨rfl, h1⟩
    have H1 := Lib.hid h1
    clear h1
    go_wp2
    go_ret
    exact ⟨rfl, H1.out⟩
  rw [if_neg h42]
  have hE := effect_calls h op
  obtain ⟨l1, l2, l3, l4⟩ := shapeL_le op (topZ L)
  obtain ⟨t, ht⟩ : ∃ t, t = (shapeL op (topZ L)).1 := ⟨_, rfl⟩
  obtain ⟨ps, hps⟩ : ∃ ps, ps = (shapeL op (topZ L)).2 := ⟨_, rfl⟩
  rw [← ht, ← hps] at hE l2
  rw [← ht] at l1
  rw [← hps] at l3
  rw [← ht, ← hps]
  unfold EffR at hE
  have HE := Lib.hid hE
  have HR := Lib.hid (fun W (hs : St W p L) => repl_calls hs t ps l1 l3 l2)
  have HS := Lib.hid h
  have b40 : (op == 40) = false := by simpa using h40
  have b41 : (op == 41) = false := by simpa using h41
  have b42 : (op == 42) = false := by simpa using h42
  obtain ⟨S, hS⟩ : ∃ S, S = posS ps := ⟨_, rfl⟩
  rw [← hS] at HE HR
  clear h hE l1 l2 l3 l4 ht hps h40 h41 h42 hS
  by_cases h0 : t = 0
  · rw [if_pos h0]
    subst h0
    go_enter Tryz.func135, Tryz.ntmps135
    go_wp2_with fail
    refine (HE.out).mono ?_
    rintro e w1 ⟨rfl, h1⟩
    have H1 := Lib.hid h1
    clear h1
    go_wp2
    go_ret
    exact ⟨rfl, HS.out.far H1.out, H1.out.up (by simp)⟩
  · rw [if_neg h0]
    have b0 : ((t : Int) == 0) = false := by simpa using h0
    obtain ⟨r, hr⟩ : ∃ r, r = replL t ps L := ⟨_, rfl⟩
    rw [← hr] at HR ⊢
    clear hr h0
    go_enter Tryz.func135, Tryz.ntmps135
    go_wp2_with fail
    refine (HE.out).mono ?_
    rintro e w1 ⟨rfl, h1⟩
    have H1 := Lib.hid h1
    clear h1
    go_wp2_with fail
    refine (HR.out _ (HS.out.far H1.out)).mono ?_
    rintro e w2 ⟨rfl, h2⟩
    have H2 := Lib.hid h2
    clear h2
    go_wp2
    go_ret
    exact ⟨rfl, H2.out.1, (H1.out.up (by simp)).trans H2.out.2⟩
end Go.Proofs.YtifnkmddinoneaaGreatDoor
