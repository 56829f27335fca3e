/- Layer 11 (package flow): New, Put, Len, Open, End. Condition: the block is a builder (Bl), and it is right (OkB). -/
import Derived.Test.YtnclfopdgilgaaaFQ
namespace Go.Proofs.Ytnclfopdgilgaaa
open Go.RowKit
set_option linter.unusedVariables false

theorem zero_bd (W : World) : (zeroValue 61).run Try.prog W = .ok (.agg #[.slice none 0 0, .slice none 0 0]) W := by kernel_rfl
theorem ok_new : OkB ⟨[], []⟩ := ⟨by simp, by simp, by simp, by simp⟩
theorem new_calls (w : World) : Calls Try.prog 11 #[] w fun e w' => ∃ p, e = .returned (Pt p) ∧ Bl w' p [p] ⟨[], []⟩ ∧ Mod [] w w' ∧ w.heap.size ≤ p := by
  go_enter Try.func11, Try.ntmps11
  go_wp2
  go_ret
  have hb := (MapKept.heap_alloc w (.cells #[.slice none 0 0, .slice none 0 0] TB)).1
  exact ⟨w.heap.size, rfl, ⟨.slice none 0 0, .slice none 0 0, [], ⟨hb, Xr.nil _ _, World.ownsRow_nil _ _ _ _, by simp, by simp [Value.ownBlock], by simp [Value.ownBlock], by simp [Value.ownBlock], by simp, by simp⟩, rfl, rfl⟩, (Mod.refl [] w).alloc _, Nat.le_refl _⟩
theorem OkB.puts {B : Bd} (h : OkB B) {x : Xi} (hx : WellX x) : OkB (putB x B).2 := by
  unfold putB
  split
  · rename_i hl
    exact h.lay hl hx
  · exact h
set_option maxHeartbeats 1000000 in
theorem put_calls {w : World} {p : Nat} {S : List Nat} {B : Bd} (h : Bl w p S B) (hok : OkB B) (x : Xi) : Calls Try.prog 13 #[Pt p, insV x] w (Gives p S w (putB x B)) := by
  have hlen := hok.len
  have mA := (Mod.refl [] w).alloc (.cells #[.int .u8 (x.op : Int), .int .i64 x.a, .int .i64 x.w] 35)
  have cW := fun j u (hj : (flatsX [x])[j]? = some u) => flat_new w x 35 j u hj
  have x0 := cW 0 _ rfl
  have x1 := cW 1 _ rfl
  have x2 := cW 2 _ rfl
  rw [WideShapes.add_plain] at x0 x1 x2
  have hb := h.far mA
  have HL := Lib.hid (lay_bl hb (by omega) x)
  obtain ⟨vc, vo, O, hv, hP, hS⟩ := hb
  obtain ⟨A0, cap0, hvc, _⟩ := hv.code_slice
  have k0 := hv.c0
  obtain ⟨n, hn⟩ : ∃ n, n = B.L.length := ⟨_, rfl⟩
  rw [hvc, ← hn] at k0
  have hlI : (n : Int) ≤ 499 := by omega
  have HN := Lib.hid (And.intro h (And.intro hn mA))
  clear h hok hlen mA cW hv hP hS hvc
  by_cases hl : n < 499
  · have q1 : ¬ (499 : Int) ≤ (n : Int) := by omega
    have e5 : RowKit.Hid (putB x B = (0, layB x B)) := Lib.hid (by unfold putB; rw [if_pos (by omega)])
    rw [e5.out]
    clear hl hn
    go_enter Try.func13, Try.ntmps13
    go_wp2_with fail
    refine (HL.out).mono ?_
    rintro e w4 ⟨⟨v, rfl⟩, S4, hB4, hT4⟩
    have HE := Lib.hid (And.intro hB4 hT4)
    clear hB4 hT4
    go_wp2_with fail
    go_ret
    exact ⟨rfl, S4, HE.out.1, HE.out.2.ahead HN.out.2.2⟩
  · have q1 : (499 : Int) ≤ (n : Int) := by omega
    have e5 : RowKit.Hid (putB x B = (-8, B)) := Lib.hid (by unfold putB; rw [if_neg (by omega)])
    rw [e5.out]
    clear hl hn
    go_enter Try.func13, Try.ntmps13
    go_wp2_with fail
    go_ret
    exact ⟨rfl, S, HN.out.1.far HN.out.2.2, (Turn.refl S w).far HN.out.2.2⟩
theorem len_calls {w : World} {p : Nat} {S : List Nat} {B : Bd} (h : Bl w p S B) (n : Nat) (hn : B.L.length = n) : Calls Try.prog 17 #[Pt p] w fun e w' => e = .returned (.int .i64 (n : Int)) ∧ w = w' := by
  obtain ⟨vc, vo, O, hv, hP, hS⟩ := h
  obtain ⟨A0, cap0, hvc, _⟩ := hv.code_slice
  have k0 := hv.c0
  rw [hvc, hn] at k0
  clear hv hP hS hvc hn
  go_enter Try.func17, Try.ntmps17
  go_wp2_with fail
  go_ret
  exact ⟨rfl, rfl⟩
theorem open_calls {w : World} {p : Nat} {S : List Nat} {B : Bd} (h : Bl w p S B) (n : Nat) (hn : B.P.length = n) : Calls Try.prog 18 #[Pt p] w fun e w' => e = .returned (.int .i64 (n : Int)) ∧ w = w' := by
  obtain ⟨vc, vo, O, hv, hP, hS⟩ := h
  obtain ⟨A0, cap0, hvo, _⟩ := hv.open_slice
  have k0 := hv.c1
  rw [hP, List.length_map] at hn
  rw [hvo, hn] at k0
  clear hv hP hS hvo hn
  go_enter Try.func18, Try.ntmps18
  go_wp2_with fail
  go_ret
  exact ⟨rfl, rfl⟩
theorem len_none (w : World) : Calls Try.prog 17 #[.pointer none] w fun e w' => e = .returned (.int .i64 0) ∧ w = w' := by
  go_enter Try.func17, Try.ntmps17
  go_wp2
  go_ret
  exact ⟨rfl, rfl⟩
theorem open_none (w : World) : Calls Try.prog 18 #[.pointer none] w fun e w' => e = .returned (.int .i64 0) ∧ w = w' := by
  go_enter Try.func18, Try.ntmps18
  go_wp2
  go_ret
  exact ⟨rfl, rfl⟩
theorem do_nobody (w : World) (n : Int) : Calls Try.prog 15 #[.pointer none, .int .i64 n] w fun e w' => e = .returned (.int .i64 2) ∧ w = w' := by
  go_enter Try.func15, Try.ntmps15
  go_wp2
  go_ret
  exact ⟨rfl, rfl⟩
theorem end_none (w : World) : Calls Try.prog 19 #[.pointer none] w fun e w' => e = .returned (.tuple #[defV none 0 0, .int .i64 2]) ∧ Mod [] w w' := by
  have mA := (Mod.refl [] w).alloc (.cells #[.slice none 0 0] 41)
  go_enter Try.func19, Try.ntmps19
  go_wp2_with fail
  have c0 : (w.alloc (.cells #[.slice none 0 0] 41)).cell? ⟨w.heap.size, 0, none⟩ = some (.slice none 0 0) := by rw [World.cell?_alloc_new]; rfl
  exact bodyPost_ret (v := .tuple #[defV none 0 0, .int .i64 2]) (by simp [results, Try.results19, go_sem, c0]) rfl ⟨rfl, mA⟩
theorem Xr.ins {w : World} {A : Option Addr} {n cap : Nat} {K : List Xi} (h : Xr w 0 (.slice A n cap) K) (hw : ∀ x ∈ K, WellX x) : InsAt w A K := fun i hi => by
  rcases h.2 with ⟨e, h0⟩ | ⟨g, cap', cur, e, hr⟩
  · omega
  · simp only [Value.slice.injEq] at e
    obtain ⟨rfl, rfl, rfl⟩ := e
    have hown : w.ownsRow 0 35 3 (.slice (some ⟨g, 0, none⟩) K.length cap) K.length (flatsX K) := h
    have get : ∀ k, k < 3 → w.cell? ⟨g, 0 + i * 3 + k, none⟩ = (flatX K[i])[k]? := fun k hk => by
      rw [Nat.zero_add, hown.cellAt (i * 3 + k) (by omega), flatsX_get K i k hi hk]
    exact ⟨g, 0, rfl, ⟨get 0 (by omega), get 1 (by omega), get 2 (by omega)⟩, hw _ (List.getElem_mem hi)⟩
theorem end_open {w : World} {p : Nat} {S : List Nat} {B : Bd} (h : Bl w p S B) (hok : OkB B) (ho : 0 < B.P.length) : Calls Try.prog 19 #[Pt p] w fun e w' => e = .returned (.tuple #[defV none 0 0, .int .i64 (-22)]) ∧ Mod [] w w' := by
  have mA := (Mod.refl [] w).alloc (.cells #[.slice none 0 0] 41)
  obtain ⟨vc, vo, O, hv, hP, hS⟩ := h
  obtain ⟨A0, cap0, hvo, _⟩ := hv.open_slice
  have k0 := (hv.far mA).c1
  obtain ⟨n, hn⟩ : ∃ n, n = O.length := ⟨_, rfl⟩
  rw [hP, List.length_map] at ho
  rw [hvo, ← hn] at k0
  have q1 : (0 : Int) < (n : Int) := by omega
  clear hv hP hS hvo hn ho hok
  go_enter Try.func19, Try.ntmps19
  go_wp2_with fail
  have c0 : (w.alloc (.cells #[.slice none 0 0] 41)).cell? ⟨w.heap.size, 0, none⟩ = some (.slice none 0 0) := by rw [World.cell?_alloc_new]; rfl
  exact bodyPost_ret (v := .tuple #[defV none 0 0, .int .i64 (-22)]) (by simp [results, Try.results19, go_sem, c0]) rfl ⟨rfl, mA⟩
/-- What End gives where nothing is open: the instructions, in a row that is not the builder's. -/
def Ended (p : Nat) (S : List Nat) (w : World) (K : List Xi) (e : Ending) (w' : World) : Prop :=
  ∃ A cap S', e = .returned (.tuple #[defV A K.length cap, .int .i64 0]) ∧ InsAt w' A K ∧ Bl w' p S' ⟨[], []⟩ ∧ Turn S S' w w' ∧ (∀ x, A = some x → x.block ∉ S' ∧ x.block < w'.heap.size) ∧ (A = none → cap = 0) ∧ K.length ≤ cap ∧ cap ≤ 9223372036854775807
set_option maxHeartbeats 2000000 in
theorem end_calls {w : World} {p : Nat} {S : List Nat} {L : List Xi} (h : Bl w p S ⟨L, []⟩) (hok : OkB ⟨L, []⟩) : Calls Try.prog 19 #[Pt p] w (Ended p S w (L ++ [⟨15, 0, 0⟩])) := by
  have mA := (Mod.refl [] w).alloc (.cells #[.slice none 0 0] 41)
  have r0 : (w.alloc (.cells #[.slice none 0 0] 41)).heap[w.heap.size]? = some (.cells #[.slice none 0 0] 41 (0, 0)) := (MapKept.heap_alloc w _).1
  have hb := h.far mA
  have HL := Lib.hid (lay_bl hb (by have := hok.len; simp only at this ⊢; omega) ⟨15, 0, 0⟩)
  obtain ⟨vc, vo, O, hv, hP, hS⟩ := hb
  obtain ⟨A0, cap0, hvo, _⟩ := hv.open_slice
  have k0 := hv.c1
  have hO : O.length = 0 := by
    have := congrArg List.length hP
    simpa using this.symm
  rw [hvo, hO] at k0
  have HH := Lib.hid (And.intro h (And.intro hok (And.intro mA r0)))
  clear h hok mA hv hP hS hvo hO r0
  go_enter Try.func19, Try.ntmps19
  go_wp2_with fail
  refine (HL.out).mono ?_
  rintro e w1 ⟨⟨v, rfl⟩, S1, hB1, hT1⟩
  obtain ⟨hh, hok, mA, r0⟩ := HH.out
  have hsS : w.heap.size ∉ S := fun hx => by have := hh.lt _ hx; omega
  have r1 := (hT1.1.block w.heap.size (by simp) hsS).trans r0
  have hs1 : w.heap.size < w1.heap.size := (Array.getElem?_eq_some_iff.1 r1).1
  have hsS1 : w.heap.size ∉ S1 := hT1.apart (U := [w.heap.size]) (by simp) (by simpa using hsS) _ (by simp)
  obtain ⟨vc, vo, O, hv, hP, hS⟩ := hB1
  obtain ⟨A, cap, hvc, hcap0, hcapn, hcapm⟩ := hv.code_slice
  have c0 := hv.c0
  have cf := hv.f 0
  rw [hvc] at c0
  obtain ⟨n, hn⟩ : ∃ n, n = (L ++ [(⟨15, 0, 0⟩ : Xi)]).length := ⟨_, rfl⟩
  rw [show (layB ⟨15, 0, 0⟩ (⟨L, []⟩ : Bd)).L.length = n from hn.symm] at c0 hvc hcapn
  have m2 := (Mod.refl [] w1).alloc (.cells #[.slice A n cap] 41)
  have c0Z := m2.cell (by simp) c0
  have cfZ := (m2.frozen (x := ⟨p, 0, none⟩) (by simp) hv.lp).trans cf
  have d2 : (w1.alloc (.cells #[.slice A n cap] 41)).heap[w1.heap.size]? = some (.cells #[.slice A n cap] 41 (0, 0)) := (MapKept.heap_alloc w1 _).1
  have hpl := hv.lp
  have HV := Lib.hid (And.intro hv (And.intro hP (And.intro hS (And.intro hvc (And.intro hn (And.intro hT1 (And.intro hsS1 (And.intro hcap0 (And.intro hcapn hcapm)))))))))
  have HR := Lib.hid (And.intro m2 (And.intro r1 (And.intro d2 (And.intro hs1 hpl))))
  clear hh hok mA r0 hsS r1 hsS1 hv hP hS hvc hn hT1 hcap0 hcapn hcapm m2 d2 hs1 hpl HL k0
  go_upto_region 8 with fail
  obtain ⟨hv, hP, hS, hvc, hn, hT1, hsS1, hcap0, hcapn, hcapm⟩ := HV.out
  obtain ⟨m2, r1, d2, hs1, hpl⟩ := HR.out
  have hv2 := hv.far m2
  have hO : O = [] := by
    have := congrArg List.length hP
    simp [layB] at this
    exact List.eq_nil_of_length_eq_zero this.symm
  have hZ := hv2.set0 (vc' := .slice none 0 0) (L' := []) (Xr.nil _ _) (Or.inr fun g hg => by cases hg)
  have mX := m2.up (T := [p]) (by simp) |>.trans hZ.2
  have hpw : p ≠ w.heap.size := fun e => hsS1 (by rw [hS, ← e]; exact mem_Sof.2 (Or.inl rfl))
  have x1 := (hZ.2.block w1.heap.size (by simp) (by simp; omega)).trans d2
  have x0 := (mX.block w.heap.size hs1 (by simpa using hpw.symm)).trans r1
  have hrow : Xr w1 0 (.slice A n cap) (L ++ [⟨15, 0, 0⟩]) := by have := hv.code; rw [hvc] at this; exact this
  have hcp : ∀ g, (Value.slice A n cap).ownBlock = some g → g ≠ p ∧ g ≠ w.heap.size ∧ g ∈ S1 := fun g hg => by
    rw [← hvc] at hg
    have hgS : g ∈ S1 := by rw [hS]; exact mem_Sof.2 (Or.inr (Or.inl hg))
    exact ⟨fun e => hv.cp (by rw [hg, e]), fun e => hsS1 (e ▸ hgS), hgS⟩
  have hrX : Xr _ 0 (.slice A n cap) (L ++ [⟨15, 0, 0⟩]) := row_mod hrow mX fun g hg hx => (hcp g hg).1 (by simpa using hx)
  have hoc : ∀ g, (Value.slice A n cap).ownBlock = some g → vo.ownBlock ≠ some g := fun g hg => hv.co g (by rw [hvc]; exact hg)
  clear c0 cf c0Z cfZ HV HR
  generalize (w1.alloc (.cells #[.slice A n cap] 41)).setCell ⟨p, 0, none⟩ (.slice none 0 0) = X at *
  have x1c : X.cell? ⟨w1.heap.size, 0, none⟩ = some (.slice A n cap) := by simp only [World.cell?, x1]; rfl
  have x0c : X.cell? ⟨w.heap.size, 0, none⟩ = some (.slice none 0 0) := by simp only [World.cell?, x0]; rfl
  have x0f : X.frozen? ⟨w.heap.size, 0, none⟩ = false := by simp only [World.frozen?, x0]; rfl
  have mY := set_mod X w.heap.size 0 (.slice A n cap)
  have y0 := heap_setCell_same X w.heap.size 0 _ _ (.slice A n cap) x0
  have HQ := Lib.hid (And.intro hZ.1 (And.intro mX (And.intro mY (And.intro y0 (And.intro hrX (And.intro hcp (And.intro hoc (And.intro hT1 (And.intro hS (And.intro hO hn))))))))))
  have HQ2 := Lib.hid (And.intro hcap0 (And.intro hcapn hcapm))
  clear hZ mX mY y0 hrX hcp hoc hT1 hS hO hn hcap0 hcapn hcapm hv hP hvc hsS1 m2 r1 d2 hs1 hpl hv2 hpw x1 x0 hrow
  go_wp2_with fail
  obtain ⟨hZ, mX, mY, y0, hrX, hcp, hoc, hT1, hS, hO, hn⟩ := HQ.out
  generalize X.setCell ⟨w.heap.size, 0, none⟩ (.slice A n cap) = Y at *
  have yc : Y.cell? ⟨w.heap.size, 0, none⟩ = some (.slice A n cap) := by simp only [World.cell?, y0]; rfl
  refine bodyPost_ret (v := .tuple #[defV A n cap, .int .i64 0]) (by simp [results, Try.results19, go_sem, yc]) rfl ?_
  obtain ⟨hh, hok, mA, r0⟩ := HH.out
  have hZin : ∀ x ∈ Sof p (.slice none 0 0) vo O, x ∈ S1 := fun x hx => by
    rw [hS]
    rcases mem_Sof.1 hx with hx | hx | hx | hx
    · exact mem_Sof.2 (Or.inl hx)
    · cases hx
    · exact mem_Sof.2 (Or.inr (Or.inr (Or.inl hx)))
    · exact mem_Sof.2 (Or.inr (Or.inr (Or.inr hx)))
  have hwS1 : w.heap.size ∉ S1 := hT1.apart (U := [w.heap.size]) (by simp) (fun x hx hx2 => by have := hh.lt x hx2; have := List.mem_singleton.1 hx; omega) _ (by simp)
  have hYB : Bl Y p (Sof p (.slice none 0 0) vo O) ⟨[], []⟩ := ⟨_, _, O, hZ.mod mY fun x hx hy => hwS1 (by rw [← List.mem_singleton.1 hy]; exact hZin x hx), by rw [hO]; rfl, rfl⟩
  subst hO
  have hrY : Xr Y 0 (.slice A n cap) (L ++ [⟨15, 0, 0⟩]) := row_mod hrX mY fun g hg hx => (hcp g hg).2.1 (by simpa using hx)
  have mpS1 : p ∈ S1 := by rw [hS]; exact mem_Sof.2 (Or.inl rfl)
  have tX : Turn S (Sof p (.slice none 0 0) vo []) w X := by
    refine ⟨((mA.up (by simp)).trans hT1.1).then mX (fun x hx => ?_), fun x hx => (hT1.2 x (hZin x hx)).imp id fun hl => Nat.le_trans mA.size hl⟩
    rw [List.mem_singleton.1 hx]
    exact (hT1.2 p mpS1).imp id fun hl => Nat.le_trans mA.size hl
  rw [hn]
  rw [hn] at hrY
  refine ⟨A, cap, _, rfl, hrY.ins fun x hx => ?_, hYB, ⟨tX.1.then mY (fun x hx => Or.inr (by rw [List.mem_singleton.1 hx]; exact Nat.le_refl _)), tX.2⟩, fun x hx => ?_, HQ2.out.1, by rw [← hn]; exact HQ2.out.2.1, HQ2.out.2.2⟩
  · rcases List.mem_append.1 hx with hx | hx
    · exact hok.well x hx
    · rw [List.mem_singleton.1 hx]; exact well_op 15 (by decide)
  · subst hx
    have hc := hcp x.block rfl
    refine ⟨fun hx => ?_, (World.ownsRow.lt hrY x.block rfl).2⟩
    rcases mem_Sof.1 hx with hx | hx | hx | ⟨q, hq, _⟩
    · exact hc.1 hx
    · cases hx
    · exact hoc x.block rfl hx
    · cases hq
end Go.Proofs.Ytnclfopdgilgaaa
