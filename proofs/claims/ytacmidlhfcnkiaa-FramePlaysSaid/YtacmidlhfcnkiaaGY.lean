/- Layer 14: frames that came in; a row of frames of the call's own. Condition: as each says. -/
import Derived.Test.YtacmidlhfcnkiaaRows
import Derived.Test.YtacmidlhfcnkiaaGU
import Derived.Deep.Slices
import Derived.ProofKit
import Derived.OpenShut
namespace Go.Proofs.Ytacmidlhfcnkiaa
open Go.RowKit Go.ChangeShapes Go.WideShapes Go.ChangeAt Go.Deep
set_option linter.unusedVariables false

theorem cellsFrame : Try.prog.cellsOf TF = 6 := by kernel_rfl
theorem cellsIntF : Try.prog.cellsOf 3 = 1 := by kernel_rfl
theorem cellsCellF : Try.prog.cellsOf 31 = 1 := by kernel_rfl
theorem cellsRowF : Try.prog.cellsOf 32 = 1 := by kernel_rfl
theorem int_open {H : Type} {enc : TypeId × Value → H} {W : World} {base n : Nat} {sp : Nat → Bool} {held : Bool} {t : TypeId} (ht : Try.prog.underlying t = some (.int .i64)) {c : Value} {d : DataW H × List MemPlace} (h : DataW.trod enc Try.prog W base sp held n t [c] = some d) : ∃ k : Int, c = .int .i64 k ∧ (Lit.int .i64 k).wf = true := by
  obtain ⟨k, k1, _, k2⟩ := DataW.trod_int ht h
  simp at k1
  exact ⟨k, k1, k2⟩
theorem row_open {H : Type} {enc : TypeId × Value → H} {W : World} {base n : Nat} {held : Bool} {c : Value} {d : DataW H × List MemPlace} (h : DataW.trod enc Try.prog W base (fun _ => true) held n 32 [c] = some d) : ∃ A len cap zs, c = .slice A len cap ∧ RowIn .i64 W A len cap zs := by
  rcases open_ints Try.underlying32 Try.underlying31 (by kernel_rfl) h with ⟨hcs, _⟩ | ⟨x, l, c', zs, hcs, _, hl, hm, hz, _, hcell, hwz⟩
  · simp at hcs
    exact ⟨none, 0, 0, [], hcs, .inl ⟨rfl, rfl, rfl, rfl⟩⟩
  · simp at hcs
    exact ⟨some x, l, c', zs, hcs, .inr ⟨_, rfl, hl, hm, by simpa using hz, hcell, hwz⟩⟩
/-- A frame in six cells, as it came in. -/
structure FrIn (W : World) (b o : Nat) (q : Fm) (A : Option Addr) (len cap : Nat) (zs : List Int) : Prop where
  c : ∀ k, k < 6 → W.cell? ⟨b, o + k, none⟩ = (flatF (q, .slice A len cap))[k]?
  r : RowIn .i64 W A len cap zs
theorem frame_open {H : Type} {enc : TypeId × Value → H} {W : World} {base n : Nat} {held : Bool} {cs : List Value} {d : DataW H × List MemPlace} (h : DataW.trod enc Try.prog W base (fun _ => true) held n TF cs = some d) :
    ∃ (q : Fm) (A : Option Addr) (len cap : Nat) (zs : List Int), cs = flatF (q, .slice A len cap) ∧ RowIn .i64 W A len cap zs ∧ (Lit.int .i64 q.x).wf = true ∧ (Lit.int .i64 q.y).wf = true := by
  obtain ⟨xs, n', _, _, hlen, hxl, hf⟩ := DataW.trod_struct Try.underlying34 h
  rw [cellsFrame] at hlen
  match cs, hlen with
  | [c0, c1, c2, c3, c4, c5], _ =>
    match xs, hxl with
    | [y0, y1, y2, y3, y4, y5], _ =>
      have e0 : DataW.trod enc Try.prog W base (fun _ => true) held n' 3 (([c0, c1, c2, c3, c4, c5].drop 0).take (Try.prog.cellsOf 3)) = some y0 := hf 0 _ rfl
      have e1 : DataW.trod enc Try.prog W base (fun _ => true) held n' 3 (([c0, c1, c2, c3, c4, c5].drop 1).take (Try.prog.cellsOf 3)) = some y1 := hf 1 _ rfl
      have e2 : DataW.trod enc Try.prog W base (fun _ => true) held n' 3 (([c0, c1, c2, c3, c4, c5].drop 2).take (Try.prog.cellsOf 3)) = some y2 := hf 2 _ rfl
      have e3 : DataW.trod enc Try.prog W base (fun _ => true) held n' 31 (([c0, c1, c2, c3, c4, c5].drop 3).take (Try.prog.cellsOf 31)) = some y3 := hf 3 _ rfl
      have e4 : DataW.trod enc Try.prog W base (fun _ => true) held n' 31 (([c0, c1, c2, c3, c4, c5].drop 4).take (Try.prog.cellsOf 31)) = some y4 := hf 4 _ rfl
      have e5 : DataW.trod enc Try.prog W base (fun _ => true) held n' 32 (([c0, c1, c2, c3, c4, c5].drop 5).take (Try.prog.cellsOf 32)) = some y5 := hf 5 _ rfl
      rw [cellsIntF] at e0 e1 e2
      rw [cellsCellF] at e3 e4
      rw [cellsRowF] at e5
      obtain ⟨k, rfl, _⟩ := int_open Try.underlying3 e0
      obtain ⟨a, rfl, _⟩ := int_open Try.underlying3 e1
      obtain ⟨b, rfl, _⟩ := int_open Try.underlying3 e2
      obtain ⟨x, rfl, hx⟩ := int_open Try.underlying31 e3
      obtain ⟨y, rfl, hy⟩ := int_open Try.underlying31 e4
      obtain ⟨A, len, cap, zs, rfl, hr⟩ := row_open e5
      exact ⟨⟨k, a, b, x, y, []⟩, A, len, cap, zs, rfl, hr, hx, hy⟩
/-- A slice of frames that came in. -/
def FramesIn (W : World) (A : Option Addr) (len cap : Nat) : Prop := len ≤ cap ∧ cap ≤ 9223372036854775807 ∧ ∀ i, i < len → ∃ (b o : Nat) (q : Fm) (A5 : Option Addr) (l5 c5 : Nat) (zs : List Int), A = some ⟨b, o, none⟩ ∧ FrIn W b (o + i * 6) q A5 l5 c5 zs
theorem frames_open {H : Type} {enc : TypeId × Value → H} {W : World} {base n : Nat} {held : Bool} {A : Option Addr} {len cap : Nat} {d : DataW H × List MemPlace} (h : DataW.trod enc Try.prog W base (fun _ => true) held n 27 [.slice A len cap] = some d) :
    FramesIn W A len cap := by
  rcases open_slice Try.underlying27 h with ⟨hcs, _⟩ | ⟨a, l, c, m, n2, D, Pl, hcs, _, hl, hc, hm, _, hi⟩
  · simp at hcs
    obtain ⟨rfl, rfl, rfl⟩ := hcs
    exact ⟨Nat.le_refl _, by omega, fun i hi => absurd hi (by omega)⟩
  · simp at hcs
    obtain ⟨rfl, rfl, rfl⟩ := hcs
    refine ⟨hl, by unfold maxLen at hc; omega, fun i hil => ?_⟩
    have him : i < m := by rw [hm]; split <;> omega
    obtain ⟨cs', hcc, ht⟩ := hi i him
    rw [cellsFrame] at hcc
    obtain ⟨q, A5, l5, c5, zs, rfl, hr, _⟩ := frame_open ht
    obtain ⟨_, _, hat⟩ := World.cells?_some hcc
    have hs : a.spot = none := by
      obtain ⟨cs0, hcc0, ht0⟩ := hi 0 (by omega)
      obtain ⟨q0, B5, m5, d5, ys, rfl, _⟩ := frame_open ht0
      rw [cellsFrame, Nat.zero_mul, addr_zeroF] at hcc0
      obtain ⟨_, _, hat0⟩ := World.cells?_some hcc0
      have q := hat0 0 (by omega)
      rw [addr_zeroF] at q
      exact World.cell?_spot (q.trans rfl)
    obtain ⟨b, o, s⟩ := a
    simp only at hs
    subst hs
    refine ⟨b, o, q, A5, l5, c5, zs, rfl, fun k hk => ?_, hr⟩
    have h0 := hat k hk
    rw [Go.WideShapes.add_plain, Go.WideShapes.add_plain] at h0
    exact h0
theorem FramesIn.far {W W' : World} {A : Option Addr} {len cap : Nat} (h : FramesIn W A len cap) (m : Mod [] W W') {i : Nat} (hi : i < len) : ∃ (b o : Nat) (q : Fm) (A5 : Option Addr) (l5 c5 : Nat) (zs : List Int), A = some ⟨b, o, none⟩ ∧ (∀ k, k < 6 → W'.cell? ⟨b, o + i * 6 + k, none⟩ = (flatF (q, .slice A5 l5 c5))[k]?) ∧ RowIn .i64 W A5 l5 c5 zs := by
  obtain ⟨b, o, q, A5, l5, c5, zs, e, hc, hr⟩ := h.2.2 i hi
  refine ⟨b, o, q, A5, l5, c5, zs, e, fun k hk => ?_, hr⟩
  have h0 := hc k hk
  obtain ⟨u, hu⟩ : ∃ u, (flatF (q, Value.slice A5 l5 c5))[k]? = some u := by
    have : k < (flatF (q, Value.slice A5 l5 c5)).length := by simp [flatF]; omega
    exact ⟨_, List.getElem?_eq_getElem this⟩
  rw [hu] at h0 ⊢
  exact m.cell (by simp) h0
/-- A row of frames of the call's own, made since w0: its slice v, its frames O. -/
structure Fx (w0 w : World) (v : Value) (O : List (Fm × Value)) : Prop where
  row : w.ownsRow 0 TF 6 v O.length (flatG O)
  new : ∀ g, v.ownBlock = some g → w0.heap.size ≤ g
  one : ∀ q ∈ O, q.2.oneCell' = true
  few : O.length ≤ 1000
theorem Fx.slice {w0 w : World} {v : Value} {O : List (Fm × Value)} (h : Fx w0 w v O) : ∃ A cap, v = .slice A O.length cap ∧ (A = none → cap = 0) := by
  rcases h.row.2 with ⟨rfl, h0⟩ | ⟨b, cap, cur, rfl, _⟩
  · exact ⟨none, 0, by rw [h0], fun _ => rfl⟩
  · exact ⟨_, cap, rfl, by simp⟩
theorem Fx.kp {w0 w w' : World} {v : Value} {O : List (Fm × Value)} {D : List Nat} (h : Fx w0 w v O) (k : Kp D w w') (hD : ∀ g, v.ownBlock = some g → g ∈ D) : Fx w0 w' v O := by
  refine ⟨⟨h.row.1, h.row.2.elim Or.inl fun ⟨g, cap, cur, h1, h2, h3, h4⟩ => Or.inr ⟨g, cap, cur, h1, h2, ?_, h4⟩⟩, h.new, h.one, h.few⟩
  subst h1
  exact (k g (hD g rfl) (Array.getElem?_eq_some_iff.1 h3).1).trans h3
/-- One frame more, out of a box that lies at the end. -/
theorem Fx.app {w0 w : World} {A0 : Option Addr} {n cap0 : Nat} {O : List (Fm × Value)} (h : Fx w0 w (.slice A0 n cap0) O) (m0 : Mod [] w0 w) {q : Fm} {s : Value} (hs : s.oneCell' = true) (hn : O.length < 1000) (ty : TypeId) :
    ∃ A c w', (appF ty #[.slice A0 n cap0, .slice (some ⟨w.heap.size, 0, none⟩) 1 1]).run Try.prog (w.alloc (.cells (cellsF q s) TF)) = .ok (.slice A (n + 1) c) w' ∧ Fx w0 w' (.slice A (n + 1) c) (O ++ [(q, s)]) ∧ Mod (Value.slice A0 n cap0).ownBlock.toList w w' ∧ ∀ g, (Value.slice A (n + 1) c).ownBlock = some g → (Value.slice A0 n cap0).ownBlock = some g ∨ w.heap.size ≤ g := by
  obtain ⟨i, z, hi, hz, hsz, hby, hzs⟩ := elF.inf
  have hm0 : maxLen = 9223372036854775807 := rfl
  have hnn : n = O.length := by
    obtain ⟨A', c, e, _⟩ := h.slice
    injection e
  subst hnn
  have mY := al_mod w (.cells (cellsF q s) TF)
  have hrow := row_mod h.row mY (by simp)
  obtain ⟨v', w', h2, h3, h4, h5, h6⟩ := run_append_own_at (P := Try.prog) (w := w.alloc (.cells (cellsF q s) TF)) 0 27 ty TF i z 6 64 elF.und hi hz hsz hby hzs (by decide) _ _ _ hrow ⟨w.heap.size, 0, none⟩ 1 1 (cellsF q s).toList (by simp) (new_cells w (cellsF q s) TF) (cellsF_one hs) (by omega) (by omega) (Nat.zero_le _)
  have h3' := h3
  rcases h3.2 with ⟨e1, h0⟩ | ⟨g', cp', cur', e1, _⟩
  · omega
  · subst e1
    have hm := Mod.of_grown (S := (Value.slice A0 O.length cap0).ownBlock.toList) h4 (by simp)
    have hown : ∀ g, (Value.slice (some ⟨g', 0, none⟩) (O.length + 1) cp').ownBlock = some g → (Value.slice A0 O.length cap0).ownBlock = some g ∨ w.heap.size ≤ g := fun g hg => by
      rcases h6 with e2 | e2
      · exact Or.inl (e2.symm.trans hg)
      · rw [e2] at hg
        injection hg with hg
        exact Or.inr (by rw [size_allocI] at hg; omega)
    refine ⟨_, _, w', h2, ⟨?_, fun g hg => (hown g hg).elim (h.new g) fun hl => Nat.le_trans m0.size hl, fun r hr => ?_, by simp; omega⟩, (mY.up (by simp)).trans hm, hown⟩
    · rw [List.length_append, flatG_app, flatG_one]
      exact h3'
    · rcases List.mem_append.1 hr with hr | hr
      · exact h.one r hr
      · rw [List.mem_singleton.1 hr]; exact hs
theorem Fx.at_ {w0 w : World} {v : Value} {O : List (Fm × Value)} (h : Fx w0 w v O) {i : Nat} (hi : i < O.length) : ∃ g cap, v = .slice (some ⟨g, 0, none⟩) O.length cap ∧ ∀ k, k < 6 → w.cell? ⟨g, i * 6 + k, none⟩ = (flatF O[i])[k]? := by
  have hr := h.row
  rcases h.row.2 with ⟨_, h0⟩ | ⟨g, cap, cur, rfl, _⟩
  · omega
  · refine ⟨g, cap, rfl, fun k hk => ?_⟩
    have hO : O = O.take i ++ O[i] :: O.drop (i + 1) := by rw [← List.drop_eq_getElem_cons hi, List.take_append_drop]
    rw [hr.cellAt (i * 6 + k) (by omega)]
    have := flatG_get (O.take i) O[i] (O.drop (i + 1)) k hk
    rw [← hO, List.length_take, Nat.min_eq_left (by omega)] at this
    exact this
/-- The frames' own blocks, where the row's block turned. -/
theorem Fd.grow {tB : TypeId} {w0 w w' : World} {p : Nat} {L : List Fm} {v v' : Value} {D : List Nat} (h : Fd tB w0 w p L (v.ownBlock.toList ++ D)) (hn : ∀ g, v.ownBlock = some g → w0.heap.size ≤ g) (m : Mod v.ownBlock.toList w w') (hv : ∀ g, v'.ownBlock = some g → v.ownBlock = some g ∨ w.heap.size ≤ g) (hl : ∀ g, v'.ownBlock = some g → g < w'.heap.size) : Fd tB w0 w' p L (v'.ownBlock.toList ++ D) := by
  obtain ⟨T, hF, hT, m0, hD⟩ := h
  have hvT : ∀ g ∈ v.ownBlock.toList, g ∉ T := fun g hg => (hD g (List.mem_append.2 (Or.inl hg))).1
  refine ⟨T, hF.mod m fun x hx hg => hvT x hg hx, hT, m0.then m fun x hx => Or.inr (hn x (by simpa using hx)), fun b hb => ?_⟩
  rcases List.mem_append.1 hb with hb | hb
  · have hb' : v'.ownBlock = some b := by simpa using hb
    refine ⟨?_, hl b hb'⟩
    rcases hv b hb' with h1 | h1
    · exact hvT b (by rw [h1]; simp)
    · exact hF.above h1
  · exact ⟨(hD b (List.mem_append.2 (Or.inr hb))).1, Nat.lt_of_lt_of_le (hD b (List.mem_append.2 (Or.inr hb))).2 m.size⟩
end Go.Proofs.Ytacmidlhfcnkiaa
