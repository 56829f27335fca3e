/- Layer 14: acts that came in; a row of acts of the call's own. Condition: as each says. -/
import Derived.Test.YtacmidlhfcnkiaaRows
import Derived.Test.YtacmidlhfcnkiaaHQ
namespace Go.Proofs.Ytacmidlhfcnkiaa
open Go.RowKit Go.ChangeShapes Go.WideShapes Go.ChangeAt Go.Deep
set_option linter.unusedVariables false

/-- An act. -/
structure Ac where
  u : Int
  f : Fm
  s : Value
  n : Int
  x : Int
abbrev flatY (c : Ac) : List Value := (cellsY c.u c.f c.s c.n c.x).toList
def flatYs (O : List Ac) : List Value := O.flatMap flatY
theorem flatYs_len (O : List Ac) : (flatYs O).length = O.length * 9 := by
  induction O with
  | nil => rfl
  | cons x r ih => simp only [flatYs, List.flatMap_cons, List.length_append] at ih ⊢; rw [ih]; simp; omega
theorem flatYs_app (A B : List Ac) : flatYs (A ++ B) = flatYs A ++ flatYs B := by simp [flatYs]
theorem flatYs_one (c : Ac) : flatYs [c] = flatY c := by simp [flatYs]
theorem flatYs_get (B : List Ac) (x : Ac) (C : List Ac) (k : Nat) (hk : k < 9) : (flatYs (B ++ x :: C))[B.length * 9 + k]? = (flatY x)[k]? := by
  have e : flatYs (B ++ x :: C) = flatYs B ++ (flatY x ++ flatYs C) := by simp [flatYs]
  rw [e, List.getElem?_append_right (by rw [flatYs_len]; omega), flatYs_len, Nat.add_sub_cancel_left, List.getElem?_append_left (by simp; omega)]
theorem cellsByteY : Try.prog.cellsOf 5 = 1 := by kernel_rfl
theorem cellsActY : Try.prog.cellsOf TA = 9 := by kernel_rfl
theorem u8_inY {x : Int} (h : (Lit.int .u8 x).wf = true) : 0 ≤ x ∧ x ≤ 255 := by
  simpa [Lit.wf, IntKind.min, IntKind.max, IntKind.signed, IntKind.bits] using h
theorem act_open {H : Type} {enc : TypeId × Value → H} {W : World} {base n : Nat} {held : Bool} {cs : List Value} {d : DataW H × List MemPlace} (h : DataW.trod enc Try.prog W base (fun _ => true) held n TA cs = some d) :
    ∃ (c : Ac) (A : Option Addr) (len cap : Nat) (zs : List Int), c.s = .slice A len cap ∧ cs = flatY c ∧ RowIn .i64 W A len cap zs ∧ 0 ≤ c.u ∧ c.u ≤ 255 := by
  obtain ⟨xs, n', _, _, hlen, hxl, hf⟩ := DataW.trod_struct Try.underlying36 h
  rw [cellsActY] at hlen
  match cs, hlen with
  | [c0, c1, c2, c3, c4, c5, c6, c7, c8], _ =>
    match xs, hxl with
    | [y0, y1, y2, y3], _ =>
      have e0 : DataW.trod enc Try.prog W base (fun _ => true) held n' 5 (([c0, c1, c2, c3, c4, c5, c6, c7, c8].drop 0).take (Try.prog.cellsOf 5)) = some y0 := hf 0 _ rfl
      have e1 : DataW.trod enc Try.prog W base (fun _ => true) held n' TF (([c0, c1, c2, c3, c4, c5, c6, c7, c8].drop 1).take (Try.prog.cellsOf TF)) = some y1 := hf 1 _ rfl
      have e2 : DataW.trod enc Try.prog W base (fun _ => true) held n' 3 (([c0, c1, c2, c3, c4, c5, c6, c7, c8].drop 7).take (Try.prog.cellsOf 3)) = some y2 := hf 2 _ rfl
      have e3 : DataW.trod enc Try.prog W base (fun _ => true) held n' 31 (([c0, c1, c2, c3, c4, c5, c6, c7, c8].drop 8).take (Try.prog.cellsOf 31)) = some y3 := hf 3 _ rfl
      rw [cellsByteY] at e0
      rw [cellsFrame] at e1
      rw [cellsIntF] at e2
      rw [cellsCellF] at e3
      obtain ⟨u, hu, _, hw⟩ := DataW.trod_int Try.underlying5 e0
      obtain ⟨q, A, len, cap, zs, hq, hr, _⟩ := frame_open e1
      obtain ⟨k, rfl, _⟩ := int_open Try.underlying3 e2
      obtain ⟨x, rfl, _⟩ := int_open Try.underlying31 e3
      simp at hu
      subst hu
      have hq' : [c1, c2, c3, c4, c5, c6] = flatF (q, .slice A len cap) := by simpa using hq
      simp only [flatF] at hq'
      injection hq' with g1 hq'
      injection hq' with g2 hq'
      injection hq' with g3 hq'
      injection hq' with g4 hq'
      injection hq' with g5 hq'
      injection hq' with g6 hq'
      subst g1 g2 g3 g4 g5 g6
      have := u8_inY hw
      exact ⟨⟨u, q, .slice A len cap, k, x⟩, A, len, cap, zs, rfl, rfl, hr, this.1, this.2⟩
/-- A slice of acts that came in. -/
def ActsIn (W : World) (A : Option Addr) (len cap : Nat) : Prop := len ≤ cap ∧ cap ≤ 9223372036854775807 ∧ ∀ i, i < len → ∃ (b o : Nat) (c : Ac) (A5 : Option Addr) (l5 c5 : Nat) (zs : List Int), A = some ⟨b, o, none⟩ ∧ c.s = .slice A5 l5 c5 ∧ (∀ k, k < 9 → W.cell? ⟨b, o + i * 9 + k, none⟩ = (flatY c)[k]?) ∧ RowIn .i64 W A5 l5 c5 zs ∧ 0 ≤ c.u ∧ c.u ≤ 255
theorem acts_open {H : Type} {enc : TypeId × Value → H} {W : World} {base n : Nat} {held : Bool} {A : Option Addr} {len cap : Nat} {d : DataW H × List MemPlace} (h : DataW.trod enc Try.prog W base (fun _ => true) held n 22 [.slice A len cap] = some d) :
    ActsIn W A len cap := by
  rcases open_slice Try.underlying22 h with ⟨hcs, _⟩ | ⟨a, l, c, m, n2, D, Pl, hcs, _, hl, hc, hm, _, hi⟩
  · simp at hcs
    obtain ⟨rfl, rfl, rfl⟩ := hcs
    exact ⟨Nat.le_refl _, by omega, fun i hi => absurd hi (by omega)⟩
  · simp at hcs
    obtain ⟨rfl, rfl, rfl⟩ := hcs
    refine ⟨hl, by unfold maxLen at hc; omega, fun i hil => ?_⟩
    have him : i < m := by rw [hm]; split <;> omega
    obtain ⟨cs', hcc, ht⟩ := hi i him
    rw [cellsActY] at hcc
    obtain ⟨q, A5, l5, c5, zs, hs5, rfl, hr, h0, h1⟩ := act_open ht
    obtain ⟨_, _, hat⟩ := World.cells?_some hcc
    have hs : a.spot = none := by
      obtain ⟨cs0, hcc0, ht0⟩ := hi 0 (by omega)
      obtain ⟨q0, B5, m5, d5, ys, _, rfl, _⟩ := act_open ht0
      rw [cellsActY, Nat.zero_mul, addr_zeroF] at hcc0
      obtain ⟨_, _, hat0⟩ := World.cells?_some hcc0
      have q := hat0 0 (by omega)
      rw [addr_zeroF] at q
      exact World.cell?_spot (q.trans rfl)
    obtain ⟨b, o, s⟩ := a
    simp only at hs
    subst hs
    refine ⟨b, o, q, A5, l5, c5, zs, rfl, hs5, fun k hk => ?_, hr, h0, h1⟩
    have h0 := hat k hk
    rw [Go.WideShapes.add_plain, Go.WideShapes.add_plain] at h0
    exact h0
theorem ActsIn.far {W W' : World} {A : Option Addr} {len cap : Nat} (h : ActsIn W A len cap) (m : Mod [] W W') {i : Nat} (hi : i < len) : ∃ (b o : Nat) (c : Ac) (A5 : Option Addr) (l5 c5 : Nat) (zs : List Int), A = some ⟨b, o, none⟩ ∧ c.s = .slice A5 l5 c5 ∧ (∀ k, k < 9 → W'.cell? ⟨b, o + i * 9 + k, none⟩ = (flatY c)[k]?) ∧ RowIn .i64 W A5 l5 c5 zs ∧ 0 ≤ c.u ∧ c.u ≤ 255 := by
  obtain ⟨b, o, q, A5, l5, c5, zs, e, hs, hc, hr⟩ := h.2.2 i hi
  refine ⟨b, o, q, A5, l5, c5, zs, e, hs, fun k hk => ?_, hr⟩
  have h0 := hc k hk
  obtain ⟨u, hu⟩ : ∃ u, (flatY q)[k]? = some u := by
    have : k < (flatY q).length := by simp; omega
    exact ⟨_, List.getElem?_eq_getElem this⟩
  rw [hu] at h0 ⊢
  exact m.cell (by simp) h0
theorem infoY : (Try.prog.info? TA).map (fun i => (i.zero, i.size, i.bytes)) = some (some (.agg #[.int .u8 0, .int .i64 0, .int .i64 0, .int .i64 0, .int .i64 0, .int .i64 0, .slice none 0 0, .int .i64 0, .int .i64 0]), 9, 88) := by kernel_rfl
theorem elY : El 22 TA 9 88 := by
  obtain ⟨i, hi, hz0, hz1, hz2⟩ := info_parts infoY
  exact ⟨Try.underlying22, ⟨i, _, hi, hz0, hz1, hz2, rfl⟩, by decide, by decide⟩
/-- An append of acts: a name, so that the walk lays nothing open. -/
def appY (ty : TypeId) (xs : Array Value) : Sem Value := Builtin.append_ #[22, 22] ty xs
@[go_sem ↓ high] theorem builtin_appY (ty : TypeId) (cs : Array Bool) (xs : Array Value) : builtin .append #[22, 22] ty cs xs = (do pure (.value (← appY ty xs))) := rfl
/-- A row of acts of the call's own, made since w0: its slice v, its acts O. -/
structure Ax (w0 w : World) (v : Value) (O : List Ac) : Prop where
  row : w.ownsRow 0 TA 9 v O.length (flatYs O)
  new : ∀ g, v.ownBlock = some g → w0.heap.size ≤ g
  one : ∀ c ∈ O, c.s.oneCell' = true
  few : O.length ≤ 500
theorem Ax.slice {w0 w : World} {v : Value} {O : List Ac} (h : Ax w0 w v O) : ∃ A cap, v = .slice A O.length cap ∧ (A = none → cap = 0) := by
  rcases h.row.2 with ⟨rfl, h0⟩ | ⟨b, cap, cur, rfl, _⟩
  · exact ⟨none, 0, by rw [h0], fun _ => rfl⟩
  · exact ⟨_, cap, rfl, by simp⟩
theorem Ax.kp {w0 w w' : World} {v : Value} {O : List Ac} {D : List Nat} (h : Ax w0 w v O) (k : Kp D w w') (hD : ∀ g, v.ownBlock = some g → g ∈ D) : Ax w0 w' v O := by
  refine ⟨⟨h.row.1, h.row.2.elim Or.inl fun ⟨g, cap, cur, h1, h2, h3, h4⟩ => Or.inr ⟨g, cap, cur, h1, h2, ?_, h4⟩⟩, h.new, h.one, h.few⟩
  subst h1
  exact (k g (hD g rfl) (Array.getElem?_eq_some_iff.1 h3).1).trans h3
theorem Ax.far {w0 w w' : World} {v : Value} {O : List Ac} (h : Ax w0 w v O) (m : Mod [] w w') : Ax w0 w' v O := h.kp (D := v.ownBlock.toList) (Kp.far m) (fun g hg => by rw [hg]; simp)
theorem ax_nil (w0 w : World) : Ax w0 w (.slice none 0 0) [] := ⟨World.ownsRow_nil _ _ _ _, fun g hg => by (cases hg), by simp, by simp⟩
theorem cellsY_one {u : Int} {f : Fm} {s : Value} {n x : Int} (h : s.oneCell' = true) : ∀ c ∈ (cellsY u f s n x).toList, c.oneCell' = true := by
  simp
  exact ⟨rfl, rfl, rfl, rfl, rfl, rfl, h, rfl, rfl⟩
/-- One act more, out of a box that lies at the end. -/
theorem Ax.app {w0 w : World} {A0 : Option Addr} {n cap0 : Nat} {O : List Ac} (h : Ax w0 w (.slice A0 n cap0) O) (m0 : Mod [] w0 w) {c : Ac} (hs : c.s.oneCell' = true) (hn : O.length < 500) (ty : TypeId) :
    ∃ A cp w', (appY ty #[.slice A0 n cap0, .slice (some ⟨w.heap.size, 0, none⟩) 1 1]).run Try.prog (w.alloc (.cells (cellsY c.u c.f c.s c.n c.x) TA)) = .ok (.slice A (n + 1) cp) w' ∧ Ax w0 w' (.slice A (n + 1) cp) (O ++ [c]) ∧ Mod (Value.slice A0 n cap0).ownBlock.toList w w' ∧ ∀ g, (Value.slice A (n + 1) cp).ownBlock = some g → (Value.slice A0 n cap0).ownBlock = some g ∨ w.heap.size ≤ g := by
  obtain ⟨i, z, hi, hz, hsz, hby, hzs⟩ := elY.inf
  have hm0 : maxLen = 9223372036854775807 := rfl
  have hnn : n = O.length := by
    obtain ⟨A', c, e, _⟩ := h.slice
    injection e
  subst hnn
  have mY := al_mod w (.cells (cellsY c.u c.f c.s c.n c.x) TA)
  have hrow := row_mod h.row mY (by simp)
  obtain ⟨v', w', h2, h3, h4, h5, h6⟩ := run_append_own_at (P := Try.prog) (w := w.alloc (.cells (cellsY c.u c.f c.s c.n c.x) TA)) 0 22 ty TA i z 9 88 elY.und hi hz hsz hby hzs (by decide) _ _ _ hrow ⟨w.heap.size, 0, none⟩ 1 1 (cellsY c.u c.f c.s c.n c.x).toList (by simp) (new_cells w (cellsY c.u c.f c.s c.n c.x) TA) (cellsY_one hs) (by omega) (by omega) (Nat.zero_le _)
  have h3' := h3
  rcases h3.2 with ⟨e1, h0⟩ | ⟨g', cp', cur', e1, _⟩
  · omega
  · subst e1
    have hm := Mod.of_grown (S := (Value.slice A0 O.length cap0).ownBlock.toList) h4 (by simp)
    have hown : ∀ g, (Value.slice (some ⟨g', 0, none⟩) (O.length + 1) cp').ownBlock = some g → (Value.slice A0 O.length cap0).ownBlock = some g ∨ w.heap.size ≤ g := fun g hg => by
      rcases h6 with e2 | e2
      · exact Or.inl (e2.symm.trans hg)
      · rw [e2] at hg
        injection hg with hg
        exact Or.inr (by rw [size_allocI] at hg; omega)
    refine ⟨_, _, w', h2, ⟨?_, fun g hg => (hown g hg).elim (h.new g) fun hl => Nat.le_trans m0.size hl, fun r hr => ?_, by simp; omega⟩, (mY.up (by simp)).trans hm, hown⟩
    · rw [List.length_append, flatYs_app, flatYs_one]
      exact h3'
    · rcases List.mem_append.1 hr with hr | hr
      · exact h.one r hr
      · rw [List.mem_singleton.1 hr]; exact hs
theorem Ax.at_ {w0 w : World} {v : Value} {O : List Ac} (h : Ax w0 w v O) {i : Nat} (hi : i < O.length) : ∃ g cap, v = .slice (some ⟨g, 0, none⟩) O.length cap ∧ ∀ k, k < 9 → w.cell? ⟨g, i * 9 + k, none⟩ = (flatY O[i])[k]? := by
  have hr := h.row
  rcases h.row.2 with ⟨_, h0⟩ | ⟨g, cap, cur, rfl, _⟩
  · omega
  · refine ⟨g, cap, rfl, fun k hk => ?_⟩
    have hO : O = O.take i ++ O[i] :: O.drop (i + 1) := by rw [← List.drop_eq_getElem_cons hi, List.take_append_drop]
    rw [hr.cellAt (i * 9 + k) (by omega)]
    have := flatYs_get (O.take i) O[i] (O.drop (i + 1)) k hk
    rw [← hO, List.length_take, Nat.min_eq_left (by omega)] at this
    exact this
end Go.Proofs.Ytacmidlhfcnkiaa
