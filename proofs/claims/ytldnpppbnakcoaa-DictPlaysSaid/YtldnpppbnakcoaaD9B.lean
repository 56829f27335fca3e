/- Layer 9 (package rhytonref09): the document's known, SetCurrent, List, Mark, Now, New. Condition: the block is such a dictionary (Rd9). -/
import Derived.Test.YtldnpppbnakcoaaD9A
import Derived.Deep.Cut
import Derived.Deep.DeepCutAuto
import Derived.Deep.QuietTactic
import Derived.BigQuiet
import Derived.Deep.RegionHeld3
namespace Go.Proofs.Ytldnpppbnakcoaa
open Go.RowKit
set_option linter.unusedVariables false

/-- f answers r; q is then the dictionary D; of what was there its blocks T alone have turned. -/
def DPlays (q : Nat) (T : List Nat) (r : Value) (D : Di) (w : World) (e : Ending) (w' : World) : Prop := e = .returned r ∧ ∃ T', Rd9 w' q T' D ∧ TurnD T T' w w'
def DTells (r : Value) (w : World) (e : Ending) (w' : World) : Prop := e = .returned r ∧ Mod [] w w'
def Di.known (D : Di) (l : Int) : Bool := decide (1 ≤ l ∧ l ≤ (D.k : Int))
theorem RdV.setk {w : World} {q : Nat} {v u : Value} {D : Di} (h : RdV w q v u D) (k : Nat) (hk : k ≤ 8) : RdV (w.setCell ⟨q, 1, none⟩ (.int .i64 (k : Int))) q v u { D with k := k } ∧ Mod [q] w (w.setCell ⟨q, 1, none⟩ (.int .i64 (k : Int))) := by
  have hm : Mod [q] w (w.setCell ⟨q, 1, none⟩ (.int .i64 (k : Int))) := (Mod.refl [q] w).set (x := ⟨q, 1, none⟩) (Or.inl (by simp)) _
  have o : ∀ i, i ≠ 1 → (w.setCell ⟨q, 1, none⟩ (.int .i64 (k : Int))).cell? ⟨q, i, none⟩ = w.cell? ⟨q, i, none⟩ := fun i hi => by rw [World.cell?_setCell_other (h := by intro e; injection e with _ e; exact hi e.symm)]
  exact ⟨⟨(o 0 (by omega)).trans h.c0, World.cell?_setCell_same _ _ _ (h := h.c1), (o 2 (by omega)).trans h.c2, (o 3 (by omega)).trans h.c3, fun i => (World.frozen?_setCell _ _ _ _).trans (h.f i), Nat.lt_of_lt_of_le h.lp hm.size, rowD_mod h.rv hm fun g hg hp => h.sv (by rw [hg]; simpa using hp), rowD_mod h.ru hm fun g hg hp => h.su (by rw [hg]; simpa using hp), h.sv, h.su, h.suv, h.names, h.dw, h.do_, hk⟩, hm⟩
theorem RdV.setc {w : World} {q : Nat} {v u : Value} {D : Di} (h : RdV w q v u D) (c : Int) : RdV (w.setCell ⟨q, 3, none⟩ (.int .i64 c)) q v u { D with c := c } ∧ Mod [q] w (w.setCell ⟨q, 3, none⟩ (.int .i64 c)) := by
  have hm : Mod [q] w (w.setCell ⟨q, 3, none⟩ (.int .i64 c)) := (Mod.refl [q] w).set (x := ⟨q, 3, none⟩) (Or.inl (by simp)) _
  have o : ∀ i, i ≠ 3 → (w.setCell ⟨q, 3, none⟩ (.int .i64 c)).cell? ⟨q, i, none⟩ = w.cell? ⟨q, i, none⟩ := fun i hi => by rw [World.cell?_setCell_other (h := by intro e; injection e with _ e; exact hi e.symm)]
  exact ⟨⟨(o 0 (by omega)).trans h.c0, (o 1 (by omega)).trans h.c1, (o 2 (by omega)).trans h.c2, World.cell?_setCell_same _ _ _ (h := h.c3), fun i => (World.frozen?_setCell _ _ _ _).trans (h.f i), Nat.lt_of_lt_of_le h.lp hm.size, rowD_mod h.rv hm fun g hg hp => h.sv (by rw [hg]; simpa using hp), rowD_mod h.ru hm fun g hg hp => h.su (by rw [hg]; simpa using hp), h.sv, h.su, h.suv, h.names, h.dw, h.do_, h.dk⟩, hm⟩
theorem size_allocD (w : World) (o : Obj) : (w.alloc o).heap.size = w.heap.size + 1 := by show (w.heap.push o).size = _; simp
theorem up1 {q : Nat} {v u : Value} {w w' : World} (h : Mod [q] w w') : Mod (blocksD q v u) w w' := h.up (by simp [blocksD])
theorem known_calls {w : World} {q : Nat} {T : List Nat} {D : Di} (h : Rd9 w q T D) (l : Int) : Calls Try.prog 50 #[PtD q, .int .i64 l] w fun e w' => e = .returned (.bool (D.known l)) ∧ w = w' := by
  obtain ⟨v, u, h, _⟩ := h
  have h1 := h.c1
  unfold Di.known
  clear h
  go_enter Try.func50, Try.ntmps50
  go_wp2
  all_goals
    go_ret
    first | (simp [*]; done) | (simp [*]; omega)
theorem setcur_calls {w : World} {q : Nat} {T : List Nat} {D : Di} (h : Rd9 w q T D) (l : Int) : Calls Try.prog 36 #[PtD q, .int .i64 l] w (DPlays q T (.int .i64 (if D.known l then 0 else -49)) (if D.known l then { D with c := l } else D) w) := by
  have H := Lib.hid (known_calls h l)
  have HH := Lib.hid h
  obtain ⟨v, u, hv, rfl⟩ := h
  have h3 := hv.c3
  have hf := hv.f 3
  have hs := hv.setc l
  have HS := Lib.hid hs
  clear hv hs
  obtain ⟨b, hb⟩ : ∃ b, b = D.known l := ⟨_, rfl⟩
  rw [← hb] at H ⊢
  clear hb
  unfold DPlays
  cases b with
  | true =>
    go_enter Try.func36, Try.ntmps36
    go_wp2_with fail
    refine (H.out).mono ?_
    rintro e w1 ⟨rfl, rfl⟩
    go_wp2_with fail
    go_ret
    exact ⟨rfl, _, ⟨v, u, HS.out.1, rfl⟩, TurnD.of (up1 HS.out.2)⟩
  | false =>
    go_enter Try.func36, Try.ntmps36
    go_wp2_with fail
    refine (H.out).mono ?_
    rintro e w1 ⟨rfl, rfl⟩
    go_wp2_with fail
    go_ret
    exact ⟨rfl, _, HH.out, TurnD.refl _ _⟩
theorem list_calls {w : World} {q : Nat} {T : List Nat} {D : Di} (h : Rd9 w q T D) : Calls Try.prog 34 #[PtD q] w (DPlays q T (if D.k < 8 then .tuple #[.int .i64 ((D.k + 1 : Nat) : Int), .int .i64 0] else .tuple #[.int .i64 0, .int .i64 (-49)]) (if D.k < 8 then { D with k := D.k + 1 } else D) w) := by
  have HH := Lib.hid h
  obtain ⟨v, u, hv, rfl⟩ := h
  have h1 := hv.c1
  have hf := hv.f 1
  unfold DPlays
  by_cases hk : D.k < 8
  · rw [if_pos hk, if_pos hk]
    have hs := hv.setk (D.k + 1) (by omega)
    rw [show ((D.k + 1 : Nat) : Int) = (D.k : Int) + 1 by omega] at hs ⊢
    have HS := Lib.hid hs
    have hkI : ¬ (8 : Int) ≤ (D.k : Int) := by omega
    clear hv hs
    go_enter Try.func34, Try.ntmps34
    go_wp2_with fail
    go_ret2
    exact ⟨rfl, _, ⟨v, u, HS.out.1, rfl⟩, TurnD.of (up1 HS.out.2)⟩
  · rw [if_neg hk, if_neg hk]
    have hkI : (8 : Int) ≤ (D.k : Int) := by omega
    clear hv
    go_enter Try.func34, Try.ntmps34
    go_wp2_with fail
    go_ret2
    exact ⟨rfl, _, HH.out, TurnD.refl _ _⟩
theorem mark_calls {w : World} {q : Nat} {T : List Nat} {D : Di} (h : Rd9 w q T D) : Calls Try.prog 18 #[PtD q] w (DTells (.agg #[.int .i64 (D.W.length : Int), .int .i64 (D.k : Int)]) w) := by
  obtain ⟨v, u, hv, rfl⟩ := h
  obtain ⟨A, cap, rfl, _⟩ := rowD_open hv.rv
  have h0 := hv.c0
  have h1 := hv.c1
  have hd := hv.dw
  have hM := Mod.refl [] w
  obtain ⟨n, hn⟩ : ∃ n, n = D.W.length := ⟨_, rfl⟩
  rw [← hn] at h0 hd ⊢
  obtain ⟨k, hk⟩ : ∃ k : Int, k = (D.k : Int) := ⟨_, rfl⟩
  rw [← hk] at h1 ⊢
  have k0 : (w.alloc (.cells #[.int .i64 0, .int .i64 0] 31)).cell? ⟨q, 0, none⟩ = some (.slice A n cap) := (hM.alloc _).cell (by simp) h0
  have k1 : (w.alloc (.cells #[.int .i64 0, .int .i64 0] 31)).cell? ⟨q, 1, none⟩ = some (.int .i64 k) := (hM.alloc _).cell (by simp) h1
  clear hv hn hk
  unfold DTells
  go_enter Try.func18, Try.ntmps18
  go_upto_region 1 with fail
  go_region
  all_goals
    have r0 := (MapKept.heap_alloc w (.cells #[.int .i64 (n : Int), .int .i64 k] 31)).1
    have r1 : (w.alloc (.cells #[.int .i64 (n : Int), .int .i64 k] 31)).cell? ⟨w.heap.size, 0, none⟩ = some (.int .i64 (n : Int)) := by simp only [World.cell?, r0]; rfl
    have r2 : (w.alloc (.cells #[.int .i64 (n : Int), .int .i64 k] 31)).cell? ⟨w.heap.size, 1, none⟩ = some (.int .i64 k) := by simp only [World.cell?, r0]; rfl
    go_wp2_with fail
    refine bodyPost_ret (v := .agg #[.int .i64 (n : Int), .int .i64 k]) ?_ rfl ⟨rfl, (hM.alloc _).drew⟩
    simp [results, Try.results18, go_sem, r1, r2]
theorem RdV.setnow {w : World} {q g n cap : Nat} {u : Value} {D : Di} {B : List We} {a : We} (h : RdV w q (.slice (some ⟨g, 0, none⟩) n cap) u D) (hW : D.W = B ++ [a]) :
    RdV (w.setCell ⟨g, B.length * 4 + 2, none⟩ (.bool true)) q (.slice (some ⟨g, 0, none⟩) n cap) u { D with W := B ++ [{ a with now := true }] } ∧ Mod [g] w (w.setCell ⟨g, B.length * 4 + 2, none⟩ (.bool true)) := by
  have hm : Mod [g] w (w.setCell ⟨g, B.length * 4 + 2, none⟩ (.bool true)) := (Mod.refl [g] w).set (x := ⟨g, B.length * 4 + 2, none⟩) (Or.inl (by simp)) _
  have hp : q ∉ [g] := fun hq => h.sv (by simp at hq; rw [hq]; rfl)
  have hl : D.W.length = B.length + 1 := by rw [hW]; simp
  have hn : n = D.W.length := by
    obtain ⟨A, c, e, _⟩ := rowD_open h.rv
    injection e
  subst hn
  refine ⟨⟨hm.cell hp h.c0, hm.cell hp h.c1, hm.cell hp h.c2, hm.cell hp h.c3, fun i => (hm.frozen hp h.lp).trans (h.f i), Nat.lt_of_lt_of_le h.lp hm.size, ?_, rowD_mod h.ru hm fun g' hg hx => h.suv g' hg (by simp at hx; rw [hx]; rfl), h.sv, h.su, h.suv, ?_, ?_, h.do_, h.dk⟩, hm⟩
  · have := (h.rv.stored (B.length * 4 + 2) (.bool true)).1
    rw [hW, flatsW_now] at this
    rw [hW]
    simpa using this
  · intro y hy
    have hy : y ∈ B ++ [{ a with now := true }] := hy
    rcases List.mem_append.1 hy with hy | hy
    · exact h.names y (by rw [hW]; exact List.mem_append.2 (Or.inl hy))
    · obtain rfl : y = { a with now := true } := by simpa using hy
      exact h.names a (by rw [hW]; simp)
  · have := h.dw
    show (B ++ [{ a with now := true }]).length ≤ 2000
    simp
    omega
theorem now_none {w : World} {q : Nat} {T : List Nat} {D : Di} (h : Rd9 w q T D) (hW : D.W = []) : Calls Try.prog 31 #[PtD q] w (DPlays q T (.int .i64 2) D w) := by
  have HH := Lib.hid h
  obtain ⟨v, u, hv, rfl⟩ := h
  obtain ⟨A, cap, rfl, _⟩ := rowD_open hv.rv
  have h0 := hv.c0
  rw [hW, List.length_nil] at h0
  clear hv hW
  unfold DPlays
  go_enter Try.func31, Try.ntmps31
  go_wp2_with fail
  go_ret
  exact ⟨rfl, _, HH.out, TurnD.refl _ _⟩
set_option maxHeartbeats 2000000 in
theorem now_ok {w : World} {q : Nat} {T : List Nat} {D : Di} (h : Rd9 w q T D) (B : List We) (a : We) (hW : D.W = B ++ [a]) : Calls Try.prog 31 #[PtD q] w (DPlays q T (.int .i64 0) { D with W := B ++ [{ a with now := true }] } w) := by
  obtain ⟨v, u, hv, rfl⟩ := h
  have hl : D.W.length = B.length + 1 := by rw [hW]; simp
  obtain ⟨b, cap, rfl, hat⟩ := hv.word B.length (by omega)
  have hf : w.frozen? ⟨b, B.length * 4 + 2, none⟩ = false := hv.rv.frozenAt _
  have c2 := hat.c2
  have h0 := hv.c0
  have hd := hv.dw
  have hs := (hv.mod ((Mod.refl [] w).drew) (by simp)).setnow hW
  have HS := Lib.hid (And.intro hs.1 (show TurnD (blocksD q (.slice (some ⟨b, 0, none⟩) D.W.length cap) u) (blocksD q (.slice (some ⟨b, 0, none⟩) D.W.length cap) u) w _ from TurnD.of (((Mod.refl [] w).drew.up (by simp)).trans (hs.2.up (by simp [blocksD, Value.ownBlock])))))
  rw [hl] at h0 hd HS ⊢
  obtain ⟨nw, hnw⟩ : ∃ nw, nw = D.W[B.length].now := ⟨_, rfl⟩
  rw [← hnw] at c2
  clear hnw
  obtain ⟨k, hk⟩ : ∃ k, k = B.length := ⟨_, rfl⟩
  rw [← hk] at h0 hd HS hf c2 ⊢
  have hz : ¬ ((k : Int) + 1 = 0) := by omega
  have hzb : ((k : Int) + 1 == 0) = false := by rw [beq_eq_false_iff_ne]; exact hz
  clear hv hs hat hl hk
  unfold DPlays
  go_enter Try.func31, Try.ntmps31
  go_upto_region 3 with fail
  go_region
  all_goals
    go_wp2_with fail
    go_ret
    exact ⟨rfl, _, ⟨_, _, HS.out.1, rfl⟩, HS.out.2⟩
theorem new9_calls (w : World) : Calls Try.prog 11 #[] w fun e w' => ∃ q T, e = .returned (PtD q) ∧ Rd9 w' q T ⟨[], 1, [1], 1⟩ ∧ Mod [] w w' ∧ ∀ x ∈ T, w.heap.size ≤ x := by
  go_enter Try.func11, Try.ntmps11
  go_wp2
  go_ret
  have hs := size_allocD w (.cells #[.int .i64 1] 3)
  have hr := World.ownsRow_lit (base := 0) (e := 3) (size := 1) w #[.int .i64 1] 1 (Nat.zero_le _) (by decide) rfl
  have m1 : Mod [] w (w.alloc (.cells #[.int .i64 1] 3)) := (Mod.refl [] w).alloc _
  have hb := (MapKept.heap_alloc (w.alloc (.cells #[.int .i64 1] 3)) (.cells #[.slice none 0 0, .int .i64 1, .slice (some ⟨w.heap.size, 0, none⟩) 1 1, .int .i64 1] 38)).1
  rw [hs] at hb
  have m2 : Mod [] (w.alloc (.cells #[.int .i64 1] 3)) ((w.alloc (.cells #[.int .i64 1] 3)).alloc (.cells #[.slice none 0 0, .int .i64 1, .slice (some ⟨w.heap.size, 0, none⟩) 1 1, .int .i64 1] 38)) := (Mod.refl [] _).alloc _
  refine ⟨w.heap.size + 1, _, rfl, ⟨.slice none 0 0, .slice (some ⟨w.heap.size, 0, none⟩) 1 1, ⟨?_, ?_, ?_, ?_, fun i => ?_, ?_, World.ownsRow_nil _ _ _ _, rowD_mod hr m2 (by simp), by simp [Value.ownBlock], by simp [Value.ownBlock], by simp [Value.ownBlock], by simp, by simp, by simp, by simp⟩, rfl⟩, m1.trans m2, ?_⟩
  · simp only [World.cell?, hb]; rfl
  · simp only [World.cell?, hb]; rfl
  · simp only [World.cell?, hb]; rfl
  · simp only [World.cell?, hb]; rfl
  · simp only [World.frozen?, hb]; rfl
  · rw [size_allocD, hs]; omega
  · intro x hx
    simp [blocksD, Value.ownBlock] at hx
    omega
end Go.Proofs.Ytldnpppbnakcoaa
