/- Layer 12: slices.Index and slices.Contains over texts; groupOf and Name of package table. Condition: rows of at most 1000000 texts. -/
import Derived.Test.YtgmdagjaigbajaaTB
import Derived.Deep.Cut
import Derived.Deep.DeepCutAuto
namespace Go.Proofs.Ytgmdagjaigbajaa
open Go.RowKit
set_option linter.unusedVariables false

theorem tx_get {w : World} {A : Option Addr} {N : List (List UInt8)} (h : TxAt w A (N.map str)) (k : Nat) (hk : k < N.length) : ∃ b o, A = some ⟨b, o, none⟩ ∧ w.cell? ⟨b, o + k, none⟩ = some (.string (str N[k])) := by
  obtain ⟨b, o, e, hc⟩ := h k (by simpa using hk)
  exact ⟨b, o, e, by rw [hc]; simp⟩
theorem str_nel {s t : List UInt8} (h : s ≠ t) : ((str s).toList == (str t).toList) = false := by
  rw [beq_eq_false_iff_ne]
  exact fun e => h (str_inj (toList_inj9 e))
theorem str_eql (s : List UInt8) : ((str s).toList == (str s).toList) = true := by rw [beq_iff_eq]
/-- Where a text is in a row; -1: nowhere. -/
def At (N : List (List UInt8)) (s : List UInt8) (z : Int) : Prop := (z = -1 ∧ s ∉ N) ∨ ∃ j : Nat, z = (j : Int) ∧ N[j]? = some s ∧ ∀ m, m < j → N[m]? ≠ some s
theorem At.mem {N : List (List UInt8)} {s : List UInt8} {z : Int} (h : At N s z) : decide (s ∈ N) = decide (0 ≤ z) := by
  rcases h with ⟨rfl, h⟩ | ⟨j, rfl, h, _⟩
  · rw [decide_eq_false h]; rfl
  · rw [decide_eq_true (List.mem_of_getElem? h)]
    exact (decide_eq_true (by omega)).symm
set_option maxHeartbeats 2000000 in
theorem index_calls {w : World} {A : Option Addr} {n c : Nat} {N : List (List UInt8)} (hA : TxAt w A (N.map str)) (hn : n = N.length) (hb : n ≤ 1000000) (s : List UInt8) :
    Calls Try.prog 16 #[.slice A n c, .string (str s)] w fun e w' => (∃ z, e = .returned (.int .i64 z) ∧ At N s z) ∧ w' = w := by
  have HA := Lib.hid hA
  have HN := Lib.hid hn
  obtain ⟨S, hS⟩ : ∃ S, S = str s := ⟨_, rfl⟩
  have HS := Lib.hid hS
  rw [← hS]
  have hbI : (n : Int) ≤ 1000000 := by omega
  clear hA hn hS
  go_enter Try.func16, Try.ntmps16
  go_wp2_with fail
  go_loop [8] (fun y => ∃ k : Nat, y = .int .i64 (k : Int) ∧ k ≤ n ∧ RowKit.Hid (∀ m, m < k → N[m]? ≠ some s)) (fun y => n - (intOf y).toNat)
  case atStart => exact ⟨0, rfl, by omega, Lib.hid fun m hm => by omega⟩
  case round =>
    obtain ⟨k, rfl, hkn, hi⟩ := hrel
    by_cases hlt : k < n
    · have hltI : (k : Int) < (n : Int) := by omega
      have hkX : k < N.length := by rw [← HN.out]; exact hlt
      obtain ⟨b, o, rfl, hc⟩ := tx_get HA.out k hkX
      by_cases hst : s = N[k]
      · rw [← hst, ← HS.out] at hc
        have he : (S.toList == S.toList) = true := by rw [beq_iff_eq]
        have HI := Lib.hid (show At N s (k : Int) from Or.inr ⟨k, rfl, by rw [List.getElem?_eq_getElem hkX, ← hst], hi.out⟩)
        clear hst hi
        go_wp2_with fail
        go_ret
        exact ⟨⟨_, rfl, HI.out⟩, rfl⟩
      · have he := str_nel hst
        have HI := Lib.hid (show ∀ m, m < k + 1 → N[m]? ≠ some s from fun m hm => by
          by_cases h : m = k
          · subst h
            rw [List.getElem?_eq_getElem hkX]
            exact fun e => hst (Option.some.inj e).symm
          · exact hi.out m (by omega))
        obtain ⟨U, hU⟩ : ∃ U, U = str N[k] := ⟨_, rfl⟩
        rw [← hU] at hc he
        rw [← HS.out] at he
        clear hst hi hU
        go_wp2_with fail
        go_round
        case rel => exact ⟨k + 1, by go_num, by omega, HI⟩
        case measure => simp [intOf]; omega
    · have hltI : ¬ (k : Int) < (n : Int) := by omega
      have HI := Lib.hid (show At N s (-1) from Or.inl ⟨rfl, fun hm => by
        obtain ⟨j, hj, e⟩ := List.mem_iff_getElem.1 hm
        exact hi.out j (by have := HN.out; omega) (by rw [List.getElem?_eq_getElem hj, e])⟩)
      clear hi
      go_wp2_with fail
      go_ret
      exact ⟨⟨_, rfl, HI.out⟩, rfl⟩
theorem contains_calls {w : World} {A : Option Addr} {n c : Nat} {N : List (List UInt8)} (hA : TxAt w A (N.map str)) (hn : n = N.length) (hb : n ≤ 1000000) (s : List UInt8) :
    Calls Try.prog 23 #[.slice A n c, .string (str s)] w fun e w' => e = .returned (.bool (decide (s ∈ N))) ∧ w' = w := by
  have H := Lib.hid (index_calls (c := c) hA hn hb s)
  obtain ⟨S, hS⟩ : ∃ S, S = str s := ⟨_, rfl⟩
  rw [← hS] at H ⊢
  clear hA hn hS hb
  go_enter Try.func23, Try.ntmps23
  go_wp2_with fail
  refine (H.out).mono ?_
  rintro e w1 ⟨⟨z, rfl, hz⟩, rfl⟩
  have HZ := Lib.hid hz.mem
  clear hz H
  go_wp2_with fail
  go_ret
  exact ⟨by rw [HZ.out]; rfl, rfl⟩
/-- A group: a kind, its names, those done at once, those only compiled; its rows lie from block lo on. -/
def Gp (w : World) (lo : Nat) (g : Value) (k : Int) (N W O : List (List UInt8)) : Prop := ∃ A1 c1 A2 c2 A3 c3, g = .agg #[.int .i64 k, .slice A1 N.length c1, .slice A2 W.length c2, .slice A3 O.length c3] ∧ TxAt w A1 (N.map str) ∧ TxAt w A2 (W.map str) ∧ TxAt w A3 (O.map str) ∧ (∀ a, A1 = some a → lo ≤ a.block) ∧ (∀ a, A2 = some a → lo ≤ a.block) ∧ ∀ a, A3 = some a → lo ≤ a.block
theorem Gp.far {w w' : World} {lo : Nat} {g : Value} {k : Int} {N W O : List (List UInt8)} (h : Gp w lo g k N W O) (m : Mod [] w w') : Gp w' lo g k N W O := by
  obtain ⟨A1, c1, A2, c2, A3, c3, e, h1, h2, h3, h4⟩ := h
  exact ⟨A1, c1, A2, c2, A3, c3, e, h1.far m, h2.far m, h3.far m, h4⟩
/-- The blocks of w from lo on are as they were. -/
structure Kept (lo : Nat) (w w' : World) : Prop where
  size : w.heap.size ≤ w'.heap.size
  block : ∀ b, lo ≤ b → b < w.heap.size → w'.heap[b]? = w.heap[b]?
theorem Kept.refl (lo : Nat) (w : World) : Kept lo w w := ⟨Nat.le_refl _, fun _ _ _ => rfl⟩
theorem Kept.mod {lo : Nat} {S : List Nat} {a b c : World} (h : Kept lo a b) (m : Mod S b c) (hS : ∀ x ∈ S, x < lo ∨ a.heap.size ≤ x) : Kept lo a c :=
  ⟨Nat.le_trans h.size m.size, fun x h1 h2 => (m.block x (Nat.lt_of_lt_of_le h2 h.size) fun hx => by have := hS x hx; omega).trans (h.block x h1 h2)⟩
theorem Kept.far {lo : Nat} {a b c : World} (h : Kept lo a b) (m : Mod [] b c) : Kept lo a c := h.mod m (by simp)
theorem Kept.cell {lo : Nat} {a b : World} (h : Kept lo a b) {x : Addr} {v : Value} (hx : lo ≤ x.block) (hc : a.cell? x = some v) : b.cell? x = some v :=
  (World.cell?_of_block (h.block x.block hx (World.block_lt_of_cell? a x hc))).trans hc
theorem Kept.frozen {lo : Nat} {a b : World} (h : Kept lo a b) {x : Addr} (hx : lo ≤ x.block) (hl : x.block < a.heap.size) : b.frozen? x = a.frozen? x :=
  World.frozen?_of_block (h.block x.block hx hl)
theorem TxAt.kept {lo : Nat} {a b : World} {A : Option Addr} {X : List ByteArray} (h : TxAt a A X) (k : Kept lo a b) (hA : ∀ x, A = some x → lo ≤ x.block) : TxAt b A X := fun i hi => by
  obtain ⟨g, o, e, hc⟩ := h i hi
  exact ⟨g, o, e, k.cell (by have := hA _ e; exact this) hc⟩
theorem Gp.kept {lo : Nat} {a b : World} {g : Value} {k : Int} {N W O : List (List UInt8)} (h : Gp a lo g k N W O) (m : Kept lo a b) : Gp b lo g k N W O := by
  obtain ⟨A1, c1, A2, c2, A3, c3, e, h1, h2, h3, h4, h5, h6⟩ := h
  exact ⟨A1, c1, A2, c2, A3, c3, e, h1.kept m h4, h2.kept m h5, h3.kept m h6, h4, h5, h6⟩
theorem tx_none (w : World) : TxAt w none (([] : List (List UInt8)).map str) := fun i hi => by simp at hi
theorem Sr.tx {w : World} {base : Nat} {v : Value} {N : List (List UInt8)} (h : Sr w base v (N.map str)) : ∃ A c, v = .slice A N.length c ∧ TxAt w A (N.map str) ∧ ∀ a, A = some a → base ≤ a.block := by
  obtain ⟨A, c, e, h1⟩ := h.txat
  refine ⟨A, c, by rw [e]; simp, h1, fun a ha => ?_⟩
  rcases h.2 with ⟨e2, _⟩ | ⟨g, cap, cur, e2, hb, _⟩
  · rw [e] at e2
    injection e2 with e2
    rw [ha] at e2
    cases e2
  · rw [e] at e2
    injection e2 with e2
    rw [ha] at e2
    injection e2 with e2
    rw [e2]
    exact hb
/-- Block b has these four cells, and may be written. -/
structure Bx4 (w : World) (b : Nat) (x0 x1 x2 x3 : Value) : Prop where
  c0 : w.cell? ⟨b, 0, none⟩ = some x0
  c1 : w.cell? ⟨b, 1, none⟩ = some x1
  c2 : w.cell? ⟨b, 2, none⟩ = some x2
  c3 : w.cell? ⟨b, 3, none⟩ = some x3
  f : ∀ i, w.frozen? ⟨b, i, none⟩ = false
  lt : b < w.heap.size
theorem Bx4.far {w w' : World} {b : Nat} {x0 x1 x2 x3 : Value} (h : Bx4 w b x0 x1 x2 x3) (m : Mod [] w w') : Bx4 w' b x0 x1 x2 x3 :=
  ⟨m.cell (by simp) h.c0, m.cell (by simp) h.c1, m.cell (by simp) h.c2, m.cell (by simp) h.c3, fun i => by rw [m.frozen (by simp) h.lt]; exact h.f i, Nat.lt_of_lt_of_le h.lt m.size⟩
theorem Bx4.new (w : World) (x0 x1 x2 x3 : Value) (t : TypeId) : Bx4 (w.alloc (.cells #[x0, x1, x2, x3] t)) w.heap.size x0 x1 x2 x3 := by
  have hb := (MapKept.heap_alloc w (.cells #[x0, x1, x2, x3] t)).1
  have hs : (w.alloc (.cells #[x0, x1, x2, x3] t)).heap.size = w.heap.size + 1 := by show (w.heap.push _).size = _; simp
  refine ⟨?_, ?_, ?_, ?_, fun i => ?_, by omega⟩
  · simp only [World.cell?, hb]; rfl
  · simp only [World.cell?, hb]; rfl
  · simp only [World.cell?, hb]; rfl
  · simp only [World.cell?, hb]; rfl
  · simp only [World.frozen?, hb]
    simp
def GpP (w : World) (k : Int) (N W O : List (List UInt8)) (e : Ending) (w' : World) : Prop := ∃ g, e = .returned g ∧ Gp w' w.heap.size g k N W O ∧ Mod [] w w'
theorem Sr.mods {S : List Nat} {w w' : World} {base : Nat} {v : Value} {X : List ByteArray} (h : Sr w base v X) (k : Mod S w w') (hS : ∀ b ∈ S, b < base) : Sr w' base v X := by
  refine ⟨h.1, h.2.elim Or.inl fun ⟨g, cap, cur, h1, h2, h3, h4⟩ => Or.inr ⟨g, cap, cur, h1, h2, ?_, h4⟩⟩
  rw [k.block g (Array.getElem?_eq_some_iff.1 h3).1 fun hg => by have := hS g hg; omega]
  exact h3
theorem Sr.bases {w : World} {b c : Nat} {v : Value} {X : List ByteArray} (h : Sr w b v X) (hbc : c ≤ b) : Sr w c v X :=
  ⟨h.1, h.2.elim Or.inl fun ⟨g, cap, cur, h1, h2, h3⟩ => Or.inr ⟨g, cap, cur, h1, Nat.le_trans hbc h2, h3⟩⟩
theorem gp_end {w w1 w5 : World} {q B : Nat} {k : Int} {N W O : List (List UInt8)} {v1 v2 v3 : Value} (hq : w.heap.size ≤ q) (hl : q + 1 < B) (s1 : Sr w1 B v1 (N.map str)) (s2 : Sr w1 B v2 (W.map str)) (s3 : Sr w1 B v3 (O.map str)) (m : Mod [] w w1) (m5 : Mod [q, q + 1] w1 w5) :
    GpP w k N W O (.returned (.agg #[.int .i64 k, v1, v2, v3])) w5 := by
  have hS : ∀ b ∈ [q, q + 1], b < B := by simp; omega
  obtain ⟨A1, c1, e1, t1, b1⟩ := (s1.mods m5 hS).tx
  obtain ⟨A2, c2, e2, t2, b2⟩ := (s2.mods m5 hS).tx
  obtain ⟨A3, c3, e3, t3, b3⟩ := (s3.mods m5 hS).tx
  subst e1 e2 e3
  exact ⟨_, rfl, ⟨A1, c1, A2, c2, A3, c3, rfl, t1, t2, t3, fun a h => by have := b1 a h; omega, fun a h => by have := b2 a h; omega, fun a h => by have := b3 a h; omega⟩, m.then m5 (by simp; omega)⟩
theorem grp_head (w : World) (k : Int) : Bx4 ((w.alloc (.cells #[.int .i64 0, .slice none 0 0, .slice none 0 0, .slice none 0 0] 41)).alloc (.cells #[.int .i64 k, .slice none 0 0, .slice none 0 0, .slice none 0 0] 41)) w.heap.size (.int .i64 0) (.slice none 0 0) (.slice none 0 0) (.slice none 0 0) ∧ Bx4 ((w.alloc (.cells #[.int .i64 0, .slice none 0 0, .slice none 0 0, .slice none 0 0] 41)).alloc (.cells #[.int .i64 k, .slice none 0 0, .slice none 0 0, .slice none 0 0] 41)) (w.heap.size + 1) (.int .i64 k) (.slice none 0 0) (.slice none 0 0) (.slice none 0 0) ∧ Mod [] w ((w.alloc (.cells #[.int .i64 0, .slice none 0 0, .slice none 0 0, .slice none 0 0] 41)).alloc (.cells #[.int .i64 k, .slice none 0 0, .slice none 0 0, .slice none 0 0] 41)) := by
  have hs : (w.alloc (.cells #[.int .i64 0, .slice none 0 0, .slice none 0 0, .slice none 0 0] 41)).heap.size = w.heap.size + 1 := by show (w.heap.push _).size = _; simp
  have p0 := Bx4.new (w.alloc (.cells #[.int .i64 0, .slice none 0 0, .slice none 0 0, .slice none 0 0] 41)) (.int .i64 k) (.slice none 0 0) (.slice none 0 0) (.slice none 0 0) 41
  rw [hs] at p0
  exact ⟨(Bx4.new w (.int .i64 0) (.slice none 0 0) (.slice none 0 0) (.slice none 0 0) 41).far ((Mod.refl [] _).alloc _), p0, ((Mod.refl [] w).alloc _).alloc _⟩
theorem tab_none {w : World} {B : Nat} : Sr w B (.slice none 0 0) (([] : List (List UInt8)).map str) := Sr.nil w B
set_option maxRecDepth 100000 in
set_option maxHeartbeats 4000000 in
theorem group_prim (w : World) : Calls Try.prog 15 #[.int .i64 1] w (GpP w 1 primN [] []) := by
  obtain ⟨q0, p0, m0⟩ := grp_head w 1
  have Q0 := Lib.hid q0
  have P0 := Lib.hid p0
  have M0 := Lib.hid m0
  clear q0 p0 m0
  go_enter Try.func15, Try.ntmps15
  go_wp2_with fail
  generalize (w.alloc (.cells #[.int .i64 0, .slice none 0 0, .slice none 0 0, .slice none 0 0] 41)).alloc (.cells #[.int .i64 1, .slice none 0 0, .slice none 0 0, .slice none 0 0] 41) = X at *
  obtain ⟨q, hq⟩ : ∃ q, q = w.heap.size := ⟨_, rfl⟩
  rw [← hq] at Q0 P0 ⊢
  have HQ := Lib.hid (show w.heap.size ≤ q from Nat.le_of_eq hq.symm)
  have HP := Lib.hid P0.out.lt
  clear hq
  refine (split_calls primT primN spl_prim (by decide) (by decide) (by kernel_rfl) _).mono ?_
  rintro e w1 ⟨v1, rfl, s1, m1⟩
  obtain ⟨A1, c1, rfl, _, _⟩ := s1.tx
  obtain ⟨n1, hn1⟩ : ∃ n, n = primN.length := ⟨_, rfl⟩
  rw [← hn1] at s1 ⊢
  have HN1 := Lib.hid hn1
  clear hn1
  have MM1 := Lib.hid (M0.out.trans m1)
  have MX1 := Lib.hid m1
  have S11 := Lib.hid s1
  clear s1 m1
  obtain ⟨p0, p1, p2, p3, pf, _⟩ := P0.out.far MX1.out
  obtain ⟨q0, q1, q2, q3, qf, _⟩ := Q0.out.far MX1.out
  have pf1 := pf 1
  have pf2 := pf 2
  have pf3 := pf 3
  have qf0 := qf 0
  have qf1 := qf 1
  have qf2 := qf 2
  have qf3 := qf 3
  clear pf qf
  go_wp2_with fail
  refine bodyPost_ret (v := .agg #[.int .i64 1, .slice A1 n1 c1, .slice none 0 0, .slice none 0 0]) (by simp [results, Try.results15, go_sem, q0, q1, q2, q3]) rfl ?_
  obtain rfl := HN1.out
  exact gp_end HQ.out HP.out S11.out tab_none tab_none MM1.out ((((((Mod.refl [q, q + 1] _).set (x := ⟨q + 1, 1, none⟩) (Or.inl (by simp)) _).set (x := ⟨q, 0, none⟩) (Or.inl (by simp)) _).set (x := ⟨q, 1, none⟩) (Or.inl (by simp)) _).set (x := ⟨q, 2, none⟩) (Or.inl (by simp)) _).set (x := ⟨q, 3, none⟩) (Or.inl (by simp)) _)
set_option maxRecDepth 100000 in
set_option maxHeartbeats 4000000 in
theorem group_ctl (w : World) : Calls Try.prog 15 #[.int .i64 2] w (GpP w 2 ctlN [] ctlON) := by
  obtain ⟨q0, p0, m0⟩ := grp_head w 2
  have Q0 := Lib.hid q0
  have P0 := Lib.hid p0
  have M0 := Lib.hid m0
  clear q0 p0 m0
  go_enter Try.func15, Try.ntmps15
  go_wp2_with fail
  generalize (w.alloc (.cells #[.int .i64 0, .slice none 0 0, .slice none 0 0, .slice none 0 0] 41)).alloc (.cells #[.int .i64 2, .slice none 0 0, .slice none 0 0, .slice none 0 0] 41) = X at *
  obtain ⟨q, hq⟩ : ∃ q, q = w.heap.size := ⟨_, rfl⟩
  rw [← hq] at Q0 P0 ⊢
  have HQ := Lib.hid (show w.heap.size ≤ q from Nat.le_of_eq hq.symm)
  have HP := Lib.hid P0.out.lt
  clear hq
  refine (split_calls ctlT ctlN spl_ctl (by decide) (by decide) (by kernel_rfl) _).mono ?_
  rintro e w1 ⟨v1, rfl, s1, m1⟩
  obtain ⟨A1, c1, rfl, _, _⟩ := s1.tx
  obtain ⟨n1, hn1⟩ : ∃ n, n = ctlN.length := ⟨_, rfl⟩
  rw [← hn1] at s1 ⊢
  have HN1 := Lib.hid hn1
  clear hn1
  have MM1 := Lib.hid (M0.out.trans m1)
  have MX1 := Lib.hid m1
  have S11 := Lib.hid s1
  clear s1 m1
  go_wp2_with fail
  refine (split_calls ctlOT ctlON spl_ctlO (by decide) (by decide) (by kernel_rfl) _).mono ?_
  rintro e w2 ⟨v2, rfl, s2, m2⟩
  obtain ⟨A2, c2, rfl, _, _⟩ := s2.tx
  obtain ⟨n2, hn2⟩ : ∃ n, n = ctlON.length := ⟨_, rfl⟩
  rw [← hn2] at s2 ⊢
  have HN2 := Lib.hid hn2
  clear hn2
  have MM2 := Lib.hid (MM1.out.trans m2)
  have MX2 := Lib.hid (MX1.out.trans m2)
  have S21 := Lib.hid (S11.out.far m2)
  have S22 := Lib.hid (s2.bases (MX1.out.size))
  clear s2 m2
  obtain ⟨p0, p1, p2, p3, pf, _⟩ := P0.out.far MX2.out
  obtain ⟨q0, q1, q2, q3, qf, _⟩ := Q0.out.far MX2.out
  have pf1 := pf 1
  have pf2 := pf 2
  have pf3 := pf 3
  have qf0 := qf 0
  have qf1 := qf 1
  have qf2 := qf 2
  have qf3 := qf 3
  clear pf qf
  go_wp2_with fail
  refine bodyPost_ret (v := .agg #[.int .i64 2, .slice A1 n1 c1, .slice none 0 0, .slice A2 n2 c2]) (by simp [results, Try.results15, go_sem, q0, q1, q2, q3]) rfl ?_
  obtain rfl := HN1.out
  obtain rfl := HN2.out
  exact gp_end HQ.out HP.out S21.out tab_none S22.out MM2.out (((((((Mod.refl [q, q + 1] _).set (x := ⟨q + 1, 1, none⟩) (Or.inl (by simp)) _).set (x := ⟨q + 1, 3, none⟩) (Or.inl (by simp)) _).set (x := ⟨q, 0, none⟩) (Or.inl (by simp)) _).set (x := ⟨q, 1, none⟩) (Or.inl (by simp)) _).set (x := ⟨q, 2, none⟩) (Or.inl (by simp)) _).set (x := ⟨q, 3, none⟩) (Or.inl (by simp)) _)
set_option maxRecDepth 100000 in
set_option maxHeartbeats 4000000 in
theorem group_flow (w : World) : Calls Try.prog 15 #[.int .i64 3] w (GpP w 3 flowN flowN flowN) := by
  obtain ⟨q0, p0, m0⟩ := grp_head w 3
  have Q0 := Lib.hid q0
  have P0 := Lib.hid p0
  have M0 := Lib.hid m0
  clear q0 p0 m0
  go_enter Try.func15, Try.ntmps15
  go_wp2_with fail
  generalize (w.alloc (.cells #[.int .i64 0, .slice none 0 0, .slice none 0 0, .slice none 0 0] 41)).alloc (.cells #[.int .i64 3, .slice none 0 0, .slice none 0 0, .slice none 0 0] 41) = X at *
  obtain ⟨q, hq⟩ : ∃ q, q = w.heap.size := ⟨_, rfl⟩
  rw [← hq] at Q0 P0 ⊢
  have HQ := Lib.hid (show w.heap.size ≤ q from Nat.le_of_eq hq.symm)
  have HP := Lib.hid P0.out.lt
  clear hq
  refine (split_calls flowT flowN spl_flow (by decide) (by decide) (by kernel_rfl) _).mono ?_
  rintro e w1 ⟨v1, rfl, s1, m1⟩
  obtain ⟨A1, c1, rfl, _, _⟩ := s1.tx
  obtain ⟨n1, hn1⟩ : ∃ n, n = flowN.length := ⟨_, rfl⟩
  rw [← hn1] at s1 ⊢
  have HN1 := Lib.hid hn1
  clear hn1
  have MM1 := Lib.hid (M0.out.trans m1)
  have MX1 := Lib.hid m1
  have S11 := Lib.hid s1
  clear s1 m1
  obtain ⟨p0, p1, p2, p3, pf, _⟩ := P0.out.far MX1.out
  obtain ⟨q0, q1, q2, q3, qf, _⟩ := Q0.out.far MX1.out
  have pf1 := pf 1
  have pf2 := pf 2
  have pf3 := pf 3
  have qf0 := qf 0
  have qf1 := qf 1
  have qf2 := qf 2
  have qf3 := qf 3
  clear pf qf
  go_wp2_with fail
  refine bodyPost_ret (v := .agg #[.int .i64 3, .slice A1 n1 c1, .slice A1 n1 c1, .slice A1 n1 c1]) (by simp [results, Try.results15, go_sem, q0, q1, q2, q3]) rfl ?_
  obtain rfl := HN1.out
  exact gp_end HQ.out HP.out S11.out S11.out S11.out MM1.out ((((((((Mod.refl [q, q + 1] _).set (x := ⟨q + 1, 1, none⟩) (Or.inl (by simp)) _).set (x := ⟨q + 1, 2, none⟩) (Or.inl (by simp)) _).set (x := ⟨q + 1, 3, none⟩) (Or.inl (by simp)) _).set (x := ⟨q, 0, none⟩) (Or.inl (by simp)) _).set (x := ⟨q, 1, none⟩) (Or.inl (by simp)) _).set (x := ⟨q, 2, none⟩) (Or.inl (by simp)) _).set (x := ⟨q, 3, none⟩) (Or.inl (by simp)) _)
set_option maxRecDepth 100000 in
set_option maxHeartbeats 4000000 in
theorem group_host (w : World) : Calls Try.prog 15 #[.int .i64 4] w (GpP w 4 hostN hostWN hostON) := by
  obtain ⟨q0, p0, m0⟩ := grp_head w 4
  have Q0 := Lib.hid q0
  have P0 := Lib.hid p0
  have M0 := Lib.hid m0
  clear q0 p0 m0
  go_enter Try.func15, Try.ntmps15
  go_wp2_with fail
  generalize (w.alloc (.cells #[.int .i64 0, .slice none 0 0, .slice none 0 0, .slice none 0 0] 41)).alloc (.cells #[.int .i64 4, .slice none 0 0, .slice none 0 0, .slice none 0 0] 41) = X at *
  obtain ⟨q, hq⟩ : ∃ q, q = w.heap.size := ⟨_, rfl⟩
  rw [← hq] at Q0 P0 ⊢
  have HQ := Lib.hid (show w.heap.size ≤ q from Nat.le_of_eq hq.symm)
  have HP := Lib.hid P0.out.lt
  clear hq
  refine (split_calls hostT hostN spl_host (by decide) (by decide) (by kernel_rfl) _).mono ?_
  rintro e w1 ⟨v1, rfl, s1, m1⟩
  obtain ⟨A1, c1, rfl, _, _⟩ := s1.tx
  obtain ⟨n1, hn1⟩ : ∃ n, n = hostN.length := ⟨_, rfl⟩
  rw [← hn1] at s1 ⊢
  have HN1 := Lib.hid hn1
  clear hn1
  have MM1 := Lib.hid (M0.out.trans m1)
  have MX1 := Lib.hid m1
  have S11 := Lib.hid s1
  clear s1 m1
  go_wp2_with fail
  refine (split_calls hostWT hostWN spl_hostW (by decide) (by decide) (by kernel_rfl) _).mono ?_
  rintro e w2 ⟨v2, rfl, s2, m2⟩
  obtain ⟨A2, c2, rfl, _, _⟩ := s2.tx
  obtain ⟨n2, hn2⟩ : ∃ n, n = hostWN.length := ⟨_, rfl⟩
  rw [← hn2] at s2 ⊢
  have HN2 := Lib.hid hn2
  clear hn2
  have MM2 := Lib.hid (MM1.out.trans m2)
  have MX2 := Lib.hid (MX1.out.trans m2)
  have S21 := Lib.hid (S11.out.far m2)
  have S22 := Lib.hid (s2.bases (MX1.out.size))
  clear s2 m2
  go_wp2_with fail
  refine (split_calls hostOT hostON spl_hostO (by decide) (by decide) (by kernel_rfl) _).mono ?_
  rintro e w3 ⟨v3, rfl, s3, m3⟩
  obtain ⟨A3, c3, rfl, _, _⟩ := s3.tx
  obtain ⟨n3, hn3⟩ : ∃ n, n = hostON.length := ⟨_, rfl⟩
  rw [← hn3] at s3 ⊢
  have HN3 := Lib.hid hn3
  clear hn3
  have MM3 := Lib.hid (MM2.out.trans m3)
  have MX3 := Lib.hid (MX2.out.trans m3)
  have S31 := Lib.hid (S21.out.far m3)
  have S32 := Lib.hid (S22.out.far m3)
  have S33 := Lib.hid (s3.bases (MX2.out.size))
  clear s3 m3
  obtain ⟨p0, p1, p2, p3, pf, _⟩ := P0.out.far MX3.out
  obtain ⟨q0, q1, q2, q3, qf, _⟩ := Q0.out.far MX3.out
  have pf1 := pf 1
  have pf2 := pf 2
  have pf3 := pf 3
  have qf0 := qf 0
  have qf1 := qf 1
  have qf2 := qf 2
  have qf3 := qf 3
  clear pf qf
  go_wp2_with fail
  refine bodyPost_ret (v := .agg #[.int .i64 4, .slice A1 n1 c1, .slice A2 n2 c2, .slice A3 n3 c3]) (by simp [results, Try.results15, go_sem, q0, q1, q2, q3]) rfl ?_
  obtain rfl := HN1.out
  obtain rfl := HN2.out
  obtain rfl := HN3.out
  exact gp_end HQ.out HP.out S31.out S32.out S33.out MM3.out ((((((((Mod.refl [q, q + 1] _).set (x := ⟨q + 1, 1, none⟩) (Or.inl (by simp)) _).set (x := ⟨q + 1, 2, none⟩) (Or.inl (by simp)) _).set (x := ⟨q + 1, 3, none⟩) (Or.inl (by simp)) _).set (x := ⟨q, 0, none⟩) (Or.inl (by simp)) _).set (x := ⟨q, 1, none⟩) (Or.inl (by simp)) _).set (x := ⟨q, 2, none⟩) (Or.inl (by simp)) _).set (x := ⟨q, 3, none⟩) (Or.inl (by simp)) _)
set_option maxRecDepth 100000 in
set_option maxHeartbeats 4000000 in
theorem group_none (w : World) (k : Int) (h1 : k ≠ 1) (h2 : k ≠ 2) (h3 : k ≠ 3) (h4 : k ≠ 4) : Calls Try.prog 15 #[.int .i64 k] w (GpP w k [] [] []) := by
  obtain ⟨q0, p0, m0⟩ := grp_head w k
  have Q0 := Lib.hid q0
  have P0 := Lib.hid p0
  have M0 := Lib.hid m0
  clear q0 p0 m0
  have k1 : (k == 1) = false := by rw [beq_eq_false_iff_ne]; exact h1
  have k2 : (k == 2) = false := by rw [beq_eq_false_iff_ne]; exact h2
  have k3 : (k == 3) = false := by rw [beq_eq_false_iff_ne]; exact h3
  have k4 : (k == 4) = false := by rw [beq_eq_false_iff_ne]; exact h4
  clear h1 h2 h3 h4
  go_enter Try.func15, Try.ntmps15
  go_upto_region 3 with fail
  generalize (w.alloc (.cells #[.int .i64 0, .slice none 0 0, .slice none 0 0, .slice none 0 0] 41)).alloc (.cells #[.int .i64 k, .slice none 0 0, .slice none 0 0, .slice none 0 0] 41) = X at *
  obtain ⟨q, hq⟩ : ∃ q, q = w.heap.size := ⟨_, rfl⟩
  rw [← hq] at Q0 P0 ⊢
  have HQ := Lib.hid (show w.heap.size ≤ q from Nat.le_of_eq hq.symm)
  have HP := Lib.hid P0.out.lt
  clear hq
  have MX0 := Lib.hid (Mod.refl [] X)
  obtain ⟨p0, p1, p2, p3, pf, _⟩ := P0.out.far MX0.out
  obtain ⟨q0, q1, q2, q3, qf, _⟩ := Q0.out.far MX0.out
  have pf1 := pf 1
  have pf2 := pf 2
  have pf3 := pf 3
  have qf0 := qf 0
  have qf1 := qf 1
  have qf2 := qf 2
  have qf3 := qf 3
  clear pf qf
  go_wp2_with fail
  refine bodyPost_ret (v := .agg #[.int .i64 k, .slice none 0 0, .slice none 0 0, .slice none 0 0]) (by simp [results, Try.results15, go_sem, q0, q1, q2, q3]) rfl ?_
  exact gp_end HQ.out HP.out tab_none tab_none tab_none M0.out (((((Mod.refl [q, q + 1] _).set (x := ⟨q, 0, none⟩) (Or.inl (by simp)) _).set (x := ⟨q, 1, none⟩) (Or.inl (by simp)) _).set (x := ⟨q, 2, none⟩) (Or.inl (by simp)) _).set (x := ⟨q, 3, none⟩) (Or.inl (by simp)) _)
end Go.Proofs.Ytgmdagjaigbajaa
