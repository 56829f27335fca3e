/- Layer 6 (package stack): what is put, taken, told. Condition: the block is a stack (St). -/
import Derived.Test.YtjmbmhjhnoiclaaS6B
import Derived.Test.YtjmbmhjhnoiclaaNum
import Derived.Deep.Cut
import Derived.Deep.DeepCutAuto
import Derived.Deep.QuietTactic
import Derived.BigQuiet
import Derived.Deep.RegionHeld3
namespace Go.Proofs.Ytjmbmhjhnoiclaa
open Go.RowKit
set_option linter.unusedVariables false

/-- f at xs answers v; the stack in block p then has the cells L; nothing else turned. -/
def Turns (p : Nat) (w : World) (v : Value) (L : List Int) (e : Ending) (w' : World) : Prop := e = .returned v ∧ St w' p L ∧ Mod [p] w w'
theorem depth_calls {w : World} {p : Nat} {L : List Int} (h : St w p L) :
    Calls Try.prog 14 #[Pt p] w fun e w' => e = .returned (.int .i64 (L.length : Int)) ∧ w = w' := by
  have hd := h.depth
  clear h
  go_enter Try.func14, Try.ntmps14
  go_wp2
  go_ret
  exact ⟨rfl, rfl⟩
theorem put_no {w : World} {p : Nat} {L : List Int} (h : St w p L) (A : Option Addr) (n cap : Nat) (hn : n ≤ 9223372036854775807) (hb : 128 < L.length + n) :
    Calls Try.prog 17 #[Pt p, .slice A n cap] w fun e w' => e = .returned (.int .i64 (-3)) ∧ w = w' := by
  have hd := h.depth
  have hl := h.n
  obtain ⟨d, hdd⟩ : ∃ d, d = L.length := ⟨_, rfl⟩
  rw [← hdd] at hd hl hb
  clear h hdd
  go_enter Try.func17, Try.ntmps17
  go_wp2
  go_ret
  exact ⟨rfl, rfl⟩
theorem sl_some {w : World} {A : Option Addr} {X : List Int} (h : Sl w A X) (hp : 0 < X.length) : ∃ b off, A = some ⟨b, off, none⟩ := by
  obtain ⟨b, off, e, _⟩ := h 0 hp
  exact ⟨b, off, e⟩
theorem Raw.copy {w : World} {p : Nat} {C : List Int} {d : Nat} (h : Raw w p C d) {A : Option Addr} {X : List Int} (hs : Sl w A X) {n : Nat} (cap : Nat) (hn : n = X.length) (hb : d + n ≤ 128) (ty : TypeId) :
    (Builtin.copy_ #[27, 27] ty #[.slice (some ⟨p, pa d, none⟩) (128 - d) (128 - d), .slice A n cap]).run Try.prog w = .ok (goInt n) (w.setCells p d (cellsI X)) := by
  subst hn
  by_cases h0 : X.length = 0
  · obtain rfl := List.eq_nil_of_length_eq_zero h0
    exact run_copy_none w _ _ ty 31 _ _ _ _ _ _ Try.underlying27 (by kernel_rfl) (by simp)
  · obtain ⟨b, off, rfl⟩ := sl_some hs (by omega)
    rw [show pa d = d from if_neg (by omega)]
    have hl := cellsI_len X
    have hlen := h.len
    have := run_copy_cells (P := Try.prog) w 27 27 ty 31 p d (128 - d) (128 - d) ⟨b, off, none⟩ X.length cap (cellsI X) Try.underlying27 (by kernel_rfl) (by rw [hl]; exact (Nat.min_eq_left (by omega)).symm) hs.src (fun j hj => by
      rw [h.c (d + j) (by omega)]; rfl) (fun j hj => h.f _) (one_cells X)
    rw [hl] at this
    exact this
theorem all_app {P : Int → Prop} {L X : List Int} (h : ∀ x ∈ L, P x) (k : ∀ x ∈ X, P x) : ∀ x ∈ L ++ X, P x := fun x hx => (List.mem_append.1 hx).elim (h x) (k x)
theorem St.grown {W : World} {p : Nat} {C L X : List Int} (h : Raw W p (lay C L.length X) L.length) (hc : C.length = 128) (e : C.take L.length = L) (hL : ∀ x ∈ L, I64 x) (hX : ∀ x ∈ X, I64 x) (hb : L.length + X.length ≤ 128) :
    St (W.setCell ⟨p, 128, none⟩ (.int .i64 ((L.length : Int) + (X.length : Int)))) p (L ++ X) := by
  refine ⟨⟨lay C L.length X, ?_, ?_⟩, all_app hL hX⟩
  · have := h.depth (L.length + X.length) hb
    rw [List.length_append]
    simpa using this
  · rw [List.length_append]
    exact lay_take e (by omega)
set_option maxHeartbeats 1000000 in
theorem put_ok {w : World} {p : Nat} {L : List Int} (h : St w p L) {A : Option Addr} {n : Nat} (cap : Nat) {X : List Int} (hs : Sl w A X) (hn : n = X.length) (hI : ∀ x ∈ X, I64 x) (hb : L.length + n ≤ 128) :
    Calls Try.prog 17 #[Pt p, .slice A n cap] w (Turns p w (.int .i64 0) (L ++ X)) := by
  have hd := h.depth
  have hf := h.free 128
  obtain ⟨⟨C, hR, he⟩, hIL⟩ := h
  have hRd : Raw w.drew p C L.length := hR.far (Mod.refl [] w).drew
  have hcp := hRd.copy (fun j hj => hs j hj : Sl w.drew A X) cap hn hb
  have hsl := slice128d p L.length (by omega)
  have hP := hRd.puts L.length X (by omega)
  have hM := (((Mod.refl [p] w).drew.sets (x := p) (by simp) (cellsI X) L.length))
  generalize w.drew.setCells p L.length (cellsI X) = W at *
  have HF := Lib.hid (And.intro (St.grown hP hR.len he hIL hI (by omega)) (hM.one (p := p) (by simp) 128 (.int .i64 ((L.length : Int) + (X.length : Int)))))
  have hWd := hP.dp
  have hWf := hP.f 128
  rw [← hn] at HF
  obtain ⟨d, hdd⟩ : ∃ d, d = L.length := ⟨_, rfl⟩
  rw [← hdd] at hd hb hcp hsl hWd HF
  clear hdd hR hRd he hIL hI hP hn hs hM
  go_enter Try.func17, Try.ntmps17
  go_wp2_with fail
  go_region
  go_wp2
  go_ret
  exact ⟨rfl, HF.out⟩
/-- What Put tells, and leaves. -/
def putL (X L : List Int) : Int × List Int := if L.length + X.length ≤ 128 then (0, L ++ X) else (-3, L)
theorem putL_ok {X L : List Int} (h : L.length + X.length ≤ 128) : putL X L = (0, L ++ X) := if_pos h
theorem putL_no {X L : List Int} (h : ¬ L.length + X.length ≤ 128) : putL X L = (-3, L) := if_neg h
theorem put_calls {w : World} {p : Nat} {L : List Int} (h : St w p L) {A : Option Addr} {n : Nat} (cap : Nat) {X : List Int} (hs : Sl w A X) (hn : n = X.length) (hI : ∀ x ∈ X, I64 x) (hm : n ≤ 9223372036854775807) :
    Calls Try.prog 17 #[Pt p, .slice A n cap] w (Turns p w (.int .i64 (putL X L).1) (putL X L).2) := by
  by_cases hb : L.length + X.length ≤ 128
  · rw [putL_ok hb]
    exact put_ok h cap hs hn hI (by omega)
  · rw [putL_no hb]
    refine (put_no h A n cap hm (by omega)).mono ?_
    rintro e w' ⟨rfl, rfl⟩
    exact ⟨rfl, h, Mod.refl _ _⟩
/-- Push, of one cell. -/
theorem push_calls {w : World} {p : Nat} {L : List Int} (h : St w p L) (x : Int) (hx : I64 x) :
    Calls Try.prog 20 #[Pt p, .int .i64 x] w (Turns p w (.int .i64 (putL [x] L).1) (putL [x] L).2) := by
  have hM := (Mod.refl [] w).alloc (.cells #[.int .i64 x] 31)
  have hO : Sl (w.alloc (.cells #[.int .i64 x] 31)) (some ⟨w.heap.size, 0, none⟩) [x] := (Ow.new w [x] (by unfold maxLen; simp)).sl
  have hP := Lib.hid (put_calls (h.far hM) 1 hO (n := 1) rfl (by simpa using hx) (by omega))
  have HM := Lib.hid hM
  clear hO h hM
  obtain ⟨v, hv⟩ : ∃ v, v = (putL [x] L).1 := ⟨_, rfl⟩
  rw [← hv] at hP ⊢
  clear hv
  go_enter Try.func20, Try.ntmps20
  go_wp2_with fail
  refine (hP.out).mono ?_
  rintro e w' ⟨rfl, h1, h2⟩
  have H := Lib.hid (And.intro h1 h2)
  clear h1 h2
  go_wp2
  go_ret
  exact ⟨rfl, H.out.1, (HM.out.up (by simp)).trans H.out.2⟩
theorem take_under {w : World} {p : Nat} {L : List Int} (h : St w p L) (n : Int) (hn : I64 n) (hb : (L.length : Int) < n) :
    Calls Try.prog 23 #[Pt p, .int .i64 n] w fun e w' => e = .returned (.tuple #[.slice none 0 0, .int .i64 (-4)]) ∧ w = w' := by
  have hd := h.depth
  obtain ⟨d, hdd⟩ : ∃ d, d = L.length := ⟨_, rfl⟩
  rw [← hdd] at hd hb
  clear h hdd
  go_enter Try.func23, Try.ntmps23
  go_wp2
  go_ret2
  exact ⟨rfl, rfl⟩
theorem take_neg (p : Nat) (n : Int) (hb : n < 0) (w : World) :
    Calls Try.prog 23 #[Pt p, .int .i64 n] w fun e w' => e = .returned (.tuple #[.slice none 0 0, .int .i64 1]) ∧ w = w' := by
  go_enter Try.func23, Try.ntmps23
  go_wp2
  go_ret2
  exact ⟨rfl, rfl⟩
/-- What Take leaves: the cells taken lie in a new row. -/
def Taken (p : Nat) (w : World) (n : Nat) (L : List Int) (e : Ending) (w' : World) : Prop :=
  ∃ b c, e = .returned (.tuple #[.slice (some ⟨b, 0, none⟩) n c, .int .i64 0]) ∧ Ow w' b (L.drop (L.length - n)) c ∧ w.heap.size ≤ b ∧ St w' p (L.take (L.length - n)) ∧ Mod [p] w w'
theorem St.sl {w : World} {p : Nat} {L : List Int} (h : St w p L) (a n : Nat) (hb : a + n ≤ L.length) : Sl w (some ⟨p, pa a, none⟩) ((L.drop a).take n) := fun j hj => by
  have hj' : j < n ∧ j < L.length - a := by simp at hj; omega
  have := h.n
  refine ⟨p, a, ?_, ?_⟩
  · rw [show pa a = a from if_neg (by omega)]
  · rw [h.cell (a + j) (by omega)]
    simp
theorem St.cut {w : World} {p : Nat} {L : List Int} (h : St w p L) (d : Nat) (hd : d ≤ L.length) : St (w.setCell ⟨p, 128, none⟩ (.int .i64 (d : Int))) p (L.take d) := by
  obtain ⟨⟨C, hR, he⟩, hI⟩ := h
  have hn := hR.n
  have hl : (L.take d).length = d := by simp; omega
  refine ⟨⟨C, ?_, ?_⟩, fun x hx => hI x (List.mem_of_mem_take hx)⟩
  · rw [hl]; exact hR.depth d (by omega)
  · rw [hl, ← he, List.take_take, Nat.min_eq_left (by omega)]
set_option maxHeartbeats 1000000 in
theorem take_ok {w : World} {p : Nat} {L : List Int} (h : St w p L) (n : Nat) (hb : n ≤ L.length) :
    Calls Try.prog 23 #[Pt p, .int .i64 (n : Int)] w (Taken p w n L) := by
  have hd := h.depth
  have hf := h.free 128
  have hl := h.n
  have hsl := slice128 p (L.length - n) L.length (by omega) hl
  have hSd := h.far (Mod.refl [] w).drew
  have hcl := clone_calls (cap := 128 - (L.length - n)) (hSd.sl (L.length - n) n (by omega)) (n := L.length - (L.length - n)) (by simp; omega) _ rfl (by simp; omega)
  rw [show (L.drop (L.length - n)).take n = L.drop (L.length - n) from List.take_of_length_le (by simp; omega)] at hcl
  have HC := Lib.hid hcl
  have HS := Lib.hid hSd
  obtain ⟨l, hll⟩ : ∃ l, l = L.length - n := ⟨_, rfl⟩
  obtain ⟨d, hdd⟩ : ∃ d, d = L.length := ⟨_, rfl⟩
  have hln : (d : Int) - (n : Int) = (l : Int) := by omega
  have hln2 : IntKind.i64.wrap ((d : Int) - (n : Int)) = (l : Int) := by rw [← hln]; exact IntWalk.i64_in _ (by omega)
  have hld : l ≤ d := by omega
  have HD := Lib.hid (And.intro hdd hll)
  unfold Taken
  rw [← hll] at HC hsl ⊢
  rw [← hdd] at hd hb hl hsl HC
  have HLN := Lib.hid hln
  clear h hcl hSd hll hdd hln2
  go_enter Try.func23, Try.ntmps23
  go_wp2_with fail
  go_region_held3 (fun V => V.cell? ⟨p, 128, none⟩ = some (.int .i64 (d : Int))) (first | exact hd | (have := HS.out.depth; rw [← HD.out.1] at this; exact this) | assumption) (first | ((with_reducible refine (HC.out).mono ?_); rintro e w1 ⟨b, c, rfl, ho, hm, hbb⟩; have HO := Lib.hid ho; have HM := Lib.hid hm; have HB := Lib.hid hbb; have hS1 := HS.out.far hm; have hd1 := hS1.depth; rw [← HD.out.1] at hd1; have hf1 := hS1.free 128; have HS1 := Lib.hid hS1; clear ho hm hbb hS1))
  go_wp2
  go_ret2
  have hpb : p < b := Nat.lt_of_lt_of_le HS.out.lp HB.out
  have hdl : d - l = n := by omega
  have hM : Mod [p] w (w1.setCell ⟨p, 128, none⟩ (.int .i64 (l : Int))) := (((Mod.refl [] w).drew.trans (HM.out)).up (by simp)).one (by simp) 128 _
  refine ⟨b, c, by rw [← hdl]; rfl, HO.out.mod ((Mod.refl [p] w1).one (by simp) 128 _) (by simp; omega), HB.out, ?_, hM⟩
  exact HS1.out.cut l (by rw [← HD.out.1]; exact hld)
set_option maxHeartbeats 1000000 in
theorem all_calls {w : World} {p : Nat} {L : List Int} (h : St w p L) :
    Calls Try.prog 16 #[Pt p] w fun e w' => ∃ b c, e = .returned (.slice (some ⟨b, 0, none⟩) L.length c) ∧ Ow w' b L c ∧ w.heap.size ≤ b ∧ Mod [] w w' := by
  have hd := h.depth
  have hl := h.n
  have hsl := slice128u p L.length hl
  have hSd := h.far (Mod.refl [] w).drew
  have h0 := hSd.sl 0 L.length (by omega)
  rw [List.drop_zero, List.take_length, show pa 0 = 0 from rfl] at h0
  have HC := Lib.hid (clone_calls (cap := 128) h0 (n := L.length) rfl _ rfl (by omega))
  have HS := Lib.hid hSd.depth
  clear hSd h0 h
  go_enter Try.func16, Try.ntmps16
  go_wp2_with fail
  go_region_held3 (fun V => V.cell? ⟨p, 128, none⟩ = some (.int .i64 (L.length : Int))) (first | exact hd | exact HS.out | assumption) (first | ((with_reducible refine (HC.out).mono ?_); rintro e w1 ⟨b, c, rfl, ho, hm, hbb⟩; have HO := Lib.hid ho; have HM := Lib.hid hm; have HB := Lib.hid hbb; have hd1 := hm.cell (x := ⟨p, 128, none⟩) (by simp) HS.out; clear ho hm hbb))
  go_wp2
  go_ret
  exact ⟨b, c, rfl, HO.out, HB.out, (Mod.refl [] w).drew.trans HM.out⟩
end Go.Proofs.Ytjmbmhjhnoiclaa
