/- Layer 12: split of package table: the words of a text. Condition: texts of at most 2^62 bytes and 1000000 words. Layer 12: slices.Index and slices.Contains over texts; groupOf and Name of package table. Condition: rows of at most 1000000 texts. Layer 12: rows of the table's words: a word as cells, rows of one's own, an append, a word that is read, words compared. Condition: rows of at most 1000000 words. -/
import Derived.Deep.LoopGhost
import Derived.Test.YtifnkmddinoneaaGreatDoorCBAO
import Derived.Test.YtifnkmddinoneaaGreatDoorCBAM
import Derived.Deep.Cut
import Derived.Deep.DeepCutAuto
set_option maxRecDepth 100000
namespace Go.Proofs.YtifnkmddinoneaaGreatDoor.L12
open Go.RowKit
set_option linter.unusedVariables false

/-- Texts that lie where a slice begins. -/
def TxAt (w : World) (A : Option Addr) (X : List ByteArray) : Prop := ∀ i (hi : i < X.length), ∃ b o, A = some ⟨b, o, none⟩ ∧ w.cell? ⟨b, o + i, none⟩ = some (.string X[i])
theorem TxAt.far {w w' : World} {A : Option Addr} {X : List ByteArray} (h : TxAt w A X) (m : Mod [] w w') : TxAt w' A X := fun i hi => by
  obtain ⟨b, o, e, hc⟩ := h i hi
  exact ⟨b, o, e, m.cell (by simp) hc⟩
theorem _root_.Go.Proofs.YtifnkmddinoneaaGreatDoor.Sr.txat {w : World} {base : Nat} {v : Value} {X : List ByteArray} (h : Sr w base v X) : ∃ A cap, v = .slice A X.length cap ∧ TxAt w A X := by
  obtain ⟨A, cap, e, hc⟩ := h.opened
  exact ⟨A, cap, e, fun i hi => by
    obtain ⟨b, e2, hcc⟩ := hc i hi
    exact ⟨b, 0, e2, by rw [Nat.zero_add]; exact hcc⟩⟩
theorem toList_inj9 {s t : ByteArray} (h : s.toList = t.toList) : s = t := by
  rw [ByteArray.toList_eq, ByteArray.toList_eq] at h
  rw [str_back s, str_back t, h]
theorem str_ne {s : List UInt8} (h : s ≠ []) : (str s).toList.isEmpty = false := by
  rw [ByteArray.toList_eq, List.isEmpty_eq_false_iff]
  intro e
  have : (str s).data.toList = s := str_list s
  rw [e] at this
  exact h this.symm
set_option maxHeartbeats 4000000 in
theorem split_calls (L : List UInt8) (Ws : List (List UInt8)) (h : splB L 0 Ws = true) (hl : L.length ≤ 4611686018427387904) (hW : Ws.length ≤ 1000000) {S : ByteArray} (hS : S = str L) (w : World) :
    Calls Tryz.prog 297 #[.string S] w fun e w' => ∃ v, e = .returned v ∧ Sr w' w.heap.size v (Ws.map str) ∧ Mod [] w w' := by
  have HW := Lib.hid (fun i => word_calls L hl i)
  have HS := Lib.hid h
  have HWl := Lib.hid hW
  rw [← hS] at HW
  clear h hl hS hW
  go_enter Tryz.func297, Tryz.ntmps297
  go_wp2_with fail
  refine (HW.out 0 _).mono ?_
  rintro e w1 ⟨rfl, hm1⟩
  have HM1 := Lib.hid hm1
  clear hm1
  go_wp2_with fail
  go_loopg [3, 4, 5] Ws.length (fun g v s y wr => ∃ (X R : List (List UInt8)) (i : Nat), s = .string (str (wordL L i).1) ∧ y = .int .i64 (((wordL L i).2 : Nat) : Int) ∧ R.length = g ∧ RowKit.Hid (X ++ R = Ws ∧ splB L i R = true ∧ Sr wr w.heap.size v (X.map str) ∧ Mod [] w wr))
  case atStart => exact ⟨[], Ws, 0, rfl, rfl, rfl, Lib.hid ⟨rfl, HS.out, Sr.nil _ _, HM1.out⟩⟩
  case round =>
    obtain ⟨X, R, i, rfl, rfl, hg, hi⟩ := hrel
    obtain ⟨h1, h2, h3, h4⟩ := hi.out
    have HG := Lib.hid hg
    clear hi hg
    match R, h1, h2 with
    | [], h1, h2 =>
      have e : (wordL L i).1 = [] := by simpa [splB] using h2
      rw [e]
      obtain ⟨y, hy⟩ : ∃ y, y = (((wordL L i).2 : Nat) : Int) := ⟨_, rfl⟩
      rw [← hy]
      have H := Lib.hid (And.intro h1 (And.intro h3 h4))
      have he : (str []).toList.isEmpty = true := by rw [ByteArray.toList_eq]; rfl
      clear h1 h2 h3 h4 hy e
      obtain ⟨E, hE⟩ : ∃ E, E = str [] := ⟨_, rfl⟩
      rw [← hE] at he ⊢
      clear hE
      go_wp2_with fail
      go_ret
      refine ⟨_, rfl, ?_, H.out.2.2⟩
      have := H.out.1
      rw [List.append_nil] at this
      rw [← this]
      exact H.out.2.1
    | s :: R, h1, h2 =>
      simp only [splB, Bool.and_eq_true] at h2
      obtain ⟨q1, q2, q3⟩ := h2
      have q2 : (wordL L i).1 = s := by simpa using q2
      have hs : s ≠ [] := by intro e; rw [e] at q1; simp at q1
      have he := str_ne hs
      obtain ⟨t, ht⟩ : ∃ t, t = str s := ⟨_, rfl⟩
      obtain ⟨y, hy⟩ : ∃ y, y = (wordL L i).2 := ⟨_, rfl⟩
      rw [q2, ← ht, ← hy]
      rw [← ht] at he
      rw [← hy] at q3
      have hlen : (X.map str).length ≤ 1000000000 := by
        have := congrArg List.length h1
        have := HWl.out
        simp at *
        omega
      have HB := Lib.hid (h3.far ((Mod.refl [] wr).alloc (.cells #[.string t] 9)))
      have HM := Lib.hid (h4.alloc (.cells #[.string t] 9))
      have HC := Lib.hid (one_str wr t 9)
      have HX := Lib.hid (And.intro h1 (And.intro q3 (And.intro ht hlen)))
      clear h1 h3 h4 q1 q2 q3 hs ht hy hlen
      go_wp2_with (refine wpList_appT rfl (.tmp 19) (.tmp 21) rfl HB.out HM.out.size HX.out.2.2.2 _ 1 t HC.out rfl rfl ?_)
      intro v' w' b1 b2
      have B1 := Lib.hid b1
      have M1 := Lib.hid (HM.out.below_of b2 (Nat.le_refl _))
      clear b1 b2
      go_wp2_with fail
      refine (HW.out (y : Int) _).mono ?_
      rintro e w2 ⟨rfl, hm2⟩
      have M2 := Lib.hid hm2
      clear hm2
      go_wp2_with fail
      go_roundg R.length
      case measure => have := HG.out; simp at this; omega
      case rel =>
        refine ⟨X ++ [s], R, y, rfl, rfl, rfl, Lib.hid ⟨by rw [← HX.out.1]; simp, HX.out.2.1, ?_, M1.out.trans M2.out⟩⟩
        have := B1.out.far M2.out
        rw [HX.out.2.2.1] at this
        simpa using this
end Go.Proofs.YtifnkmddinoneaaGreatDoor.L12
namespace Go.Proofs.YtifnkmddinoneaaGreatDoor.L12
open Go.RowKit
set_option linter.unusedVariables false

theorem tx_get {w : World} {A : Option Addr} {N : List (List UInt8)} (h : TxAt w A (N.map str)) (k : Nat) (hk : k < N.length) : ∃ b o, A = some ⟨b, o, none⟩ ∧ w.cell? ⟨b, o + k, none⟩ = some (.string (str N[k])) := by
  obtain ⟨b, o, e, hc⟩ := h k (by simpa using hk)
  exact ⟨b, o, e, by rw [hc]; simp⟩
theorem str_nel {s t : List UInt8} (h : s ≠ t) : ((str s).toList == (str t).toList) = false := by
  rw [beq_eq_false_iff_ne]
  exact fun e => h (str_inj (toList_inj9 e))
def At (N : List (List UInt8)) (s : List UInt8) (z : Int) : Prop := (z = -1 ∧ s ∉ N) ∨ ∃ j : Nat, z = (j : Int) ∧ N[j]? = some s ∧ ∀ m, m < j → N[m]? ≠ some s
theorem At.mem {N : List (List UInt8)} {s : List UInt8} {z : Int} (h : At N s z) : decide (s ∈ N) = decide (0 ≤ z) := by
  rcases h with ⟨rfl, h⟩ | ⟨j, rfl, h, _⟩
  · rw [decide_eq_false h]; rfl
  · rw [decide_eq_true (List.mem_of_getElem? h)]
    exact (decide_eq_true (by omega)).symm
set_option maxHeartbeats 2000000 in
theorem index_calls {w : World} {A : Option Addr} {n c : Nat} {N : List (List UInt8)} (hA : TxAt w A (N.map str)) (hn : n = N.length) (hb : n ≤ 1000000) (s : List UInt8) :
    Calls Tryz.prog 341 #[.slice A n c, .string (str s)] w fun e w' => (∃ z, e = .returned (.int .i64 z) ∧ At N s z) ∧ w' = w := by
  have HA := Lib.hid hA
  have HN := Lib.hid hn
  obtain ⟨S, hS⟩ : ∃ S, S = str s := ⟨_, rfl⟩
  have HS := Lib.hid hS
  rw [← hS]
  have hbI : (n : Int) ≤ 1000000 := by omega
  clear hA hn hS
  go_enter Tryz.func341, Tryz.ntmps341
  go_wp2_with fail
  go_loop [8] (fun y => ∃ k : Nat, y = .int .i64 (k : Int) ∧ k ≤ n ∧ RowKit.Hid (∀ m, m < k → N[m]? ≠ some s)) (fun y => n - (intOf y).toNat)
  case atStart => exact ⟨0, rfl, by omega, Lib.hid fun m hm => by omega⟩
  case round =>
    obtain ⟨k, rfl, hkn, hi⟩ := hrel
    by_cases hlt : k < n
    · have hltI : (k : Int) < (n : Int) := by omega
      have hkX : k < N.length := by rw [← HN.out]; exact hlt
      obtain ⟨b, o, rfl, hc⟩ := tx_get HA.out k hkX
      by_cases hst : s = N[k]
      · rw [← hst, ← HS.out] at hc
        have he : (S.toList == S.toList) = true := by rw [beq_iff_eq]
        have HI := Lib.hid (show At N s (k : Int) from Or.inr ⟨k, rfl, by rw [List.getElem?_eq_getElem hkX, ← hst], hi.out⟩)
        clear hst hi
        go_wp2_with fail
        go_ret
        exact ⟨⟨_, rfl, HI.out⟩, rfl⟩
      · have he := str_nel hst
        have HI := Lib.hid (show ∀ m, m < k + 1 → N[m]? ≠ some s from fun m hm => by
          by_cases h : m = k
          · subst h
            rw [List.getElem?_eq_getElem hkX]
            exact fun e => hst (Option.some.inj e).symm
          · exact hi.out m (by omega))
        obtain ⟨U, hU⟩ : ∃ U, U = str N[k] := ⟨_, rfl⟩
        rw [← hU] at hc he
        rw [← HS.out] at he
        clear hst hi hU
        go_wp2_with fail
        go_round
        case rel => exact ⟨k + 1, by go_num, by omega, HI⟩
        case measure => simp [intOf]; omega
    · have hltI : ¬ (k : Int) < (n : Int) := by omega
      have HI := Lib.hid (show At N s (-1) from Or.inl ⟨rfl, fun hm => by
        obtain ⟨j, hj, e⟩ := List.mem_iff_getElem.1 hm
        exact hi.out j (by have := HN.out; omega) (by rw [List.getElem?_eq_getElem hj, e])⟩)
      clear hi
      go_wp2_with fail
      go_ret
      exact ⟨⟨_, rfl, HI.out⟩, rfl⟩
theorem contains_calls {w : World} {A : Option Addr} {n c : Nat} {N : List (List UInt8)} (hA : TxAt w A (N.map str)) (hn : n = N.length) (hb : n ≤ 1000000) (s : List UInt8) :
    Calls Tryz.prog 298 #[.slice A n c, .string (str s)] w fun e w' => e = .returned (.bool (decide (s ∈ N))) ∧ w' = w := by
  have H := Lib.hid (index_calls (c := c) hA hn hb s)
  obtain ⟨S, hS⟩ : ∃ S, S = str s := ⟨_, rfl⟩
  rw [← hS] at H ⊢
  clear hA hn hS hb
  go_enter Tryz.func298, Tryz.ntmps298
  go_wp2_with fail
  refine (H.out).mono ?_
  rintro e w1 ⟨⟨z, rfl, hz⟩, rfl⟩
  have HZ := Lib.hid hz.mem
  clear hz H
  go_wp2_with fail
  go_ret
  exact ⟨by rw [HZ.out]; rfl, rfl⟩
def Gp (w : World) (lo : Nat) (g : Value) (k : Int) (N W O : List (List UInt8)) : Prop := ∃ A1 c1 A2 c2 A3 c3, g = .agg #[.int .i64 k, .slice A1 N.length c1, .slice A2 W.length c2, .slice A3 O.length c3] ∧ TxAt w A1 (N.map str) ∧ TxAt w A2 (W.map str) ∧ TxAt w A3 (O.map str) ∧ (∀ a, A1 = some a → lo ≤ a.block) ∧ (∀ a, A2 = some a → lo ≤ a.block) ∧ ∀ a, A3 = some a → lo ≤ a.block
theorem Gp.far {w w' : World} {lo : Nat} {g : Value} {k : Int} {N W O : List (List UInt8)} (h : Gp w lo g k N W O) (m : Mod [] w w') : Gp w' lo g k N W O := by
  obtain ⟨A1, c1, A2, c2, A3, c3, e, h1, h2, h3, h4⟩ := h
  exact ⟨A1, c1, A2, c2, A3, c3, e, h1.far m, h2.far m, h3.far m, h4⟩
structure Kept (lo : Nat) (w w' : World) : Prop where
  size : w.heap.size ≤ w'.heap.size
  block : ∀ b, lo ≤ b → b < w.heap.size → w'.heap[b]? = w.heap[b]?
theorem Kept.refl (lo : Nat) (w : World) : Kept lo w w := ⟨Nat.le_refl _, fun _ _ _ => rfl⟩
theorem Kept.mod {lo : Nat} {S : List Nat} {a b c : World} (h : Kept lo a b) (m : Mod S b c) (hS : ∀ x ∈ S, x < lo ∨ a.heap.size ≤ x) : Kept lo a c :=
  ⟨Nat.le_trans h.size m.size, fun x h1 h2 => (m.block x (Nat.lt_of_lt_of_le h2 h.size) fun hx => by have := hS x hx; omega).trans (h.block x h1 h2)⟩
theorem Kept.far {lo : Nat} {a b c : World} (h : Kept lo a b) (m : Mod [] b c) : Kept lo a c := h.mod m (by simp)
theorem Kept.cell {lo : Nat} {a b : World} (h : Kept lo a b) {x : Addr} {v : Value} (hx : lo ≤ x.block) (hc : a.cell? x = some v) : b.cell? x = some v :=
  (World.cell?_of_block (h.block x.block hx (World.block_lt_of_cell? a x hc))).trans hc
theorem Kept.frozen {lo : Nat} {a b : World} (h : Kept lo a b) {x : Addr} (hx : lo ≤ x.block) (hl : x.block < a.heap.size) : b.frozen? x = a.frozen? x :=
  World.frozen?_of_block (h.block x.block hx hl)
theorem TxAt.kept {lo : Nat} {a b : World} {A : Option Addr} {X : List ByteArray} (h : TxAt a A X) (k : Kept lo a b) (hA : ∀ x, A = some x → lo ≤ x.block) : TxAt b A X := fun i hi => by
  obtain ⟨g, o, e, hc⟩ := h i hi
  exact ⟨g, o, e, k.cell (by have := hA _ e; exact this) hc⟩
theorem Gp.kept {lo : Nat} {a b : World} {g : Value} {k : Int} {N W O : List (List UInt8)} (h : Gp a lo g k N W O) (m : Kept lo a b) : Gp b lo g k N W O := by
  obtain ⟨A1, c1, A2, c2, A3, c3, e, h1, h2, h3, h4, h5, h6⟩ := h
  exact ⟨A1, c1, A2, c2, A3, c3, e, h1.kept m h4, h2.kept m h5, h3.kept m h6, h4, h5, h6⟩
theorem tx_none (w : World) : TxAt w none (([] : List (List UInt8)).map str) := fun i hi => by simp at hi
theorem _root_.Go.Proofs.YtifnkmddinoneaaGreatDoor.Sr.tx {w : World} {base : Nat} {v : Value} {N : List (List UInt8)} (h : Sr w base v (N.map str)) : ∃ A c, v = .slice A N.length c ∧ TxAt w A (N.map str) ∧ ∀ a, A = some a → base ≤ a.block := by
  obtain ⟨A, c, e, h1⟩ := h.txat
  refine ⟨A, c, by rw [e]; simp, h1, fun a ha => ?_⟩
  rcases h.2 with ⟨e2, _⟩ | ⟨g, cap, cur, e2, hb, _⟩
  · rw [e] at e2
    injection e2 with e2
    rw [ha] at e2
    cases e2
  · rw [e] at e2
    injection e2 with e2
    rw [ha] at e2
    injection e2 with e2
    rw [e2]
    exact hb
structure Bx4 (w : World) (b : Nat) (x0 x1 x2 x3 : Value) : Prop where
  c0 : w.cell? ⟨b, 0, none⟩ = some x0
  c1 : w.cell? ⟨b, 1, none⟩ = some x1
  c2 : w.cell? ⟨b, 2, none⟩ = some x2
  c3 : w.cell? ⟨b, 3, none⟩ = some x3
  f : ∀ i, w.frozen? ⟨b, i, none⟩ = false
  lt : b < w.heap.size
theorem Bx4.far {w w' : World} {b : Nat} {x0 x1 x2 x3 : Value} (h : Bx4 w b x0 x1 x2 x3) (m : Mod [] w w') : Bx4 w' b x0 x1 x2 x3 :=
  ⟨m.cell (by simp) h.c0, m.cell (by simp) h.c1, m.cell (by simp) h.c2, m.cell (by simp) h.c3, fun i => by rw [m.frozen (by simp) h.lt]; exact h.f i, Nat.lt_of_lt_of_le h.lt m.size⟩
theorem Bx4.new (w : World) (x0 x1 x2 x3 : Value) (t : TypeId) : Bx4 (w.alloc (.cells #[x0, x1, x2, x3] t)) w.heap.size x0 x1 x2 x3 := by
  have hb := (MapKept.heap_alloc w (.cells #[x0, x1, x2, x3] t)).1
  have hs : (w.alloc (.cells #[x0, x1, x2, x3] t)).heap.size = w.heap.size + 1 := by show (w.heap.push _).size = _; simp
  refine ⟨?_, ?_, ?_, ?_, fun i => ?_, by omega⟩
  · simp only [World.cell?, hb]; rfl
  · simp only [World.cell?, hb]; rfl
  · simp only [World.cell?, hb]; rfl
  · simp only [World.cell?, hb]; rfl
  · simp only [World.frozen?, hb]
    simp
def GpP (w : World) (k : Int) (N W O : List (List UInt8)) (e : Ending) (w' : World) : Prop := ∃ g, e = .returned g ∧ Gp w' w.heap.size g k N W O ∧ Mod [] w w'
theorem _root_.Go.Proofs.YtifnkmddinoneaaGreatDoor.Sr.mods {S : List Nat} {w w' : World} {base : Nat} {v : Value} {X : List ByteArray} (h : Sr w base v X) (k : Mod S w w') (hS : ∀ b ∈ S, b < base) : Sr w' base v X := by
  refine ⟨h.1, h.2.elim Or.inl fun ⟨g, cap, cur, h1, h2, h3, h4⟩ => Or.inr ⟨g, cap, cur, h1, h2, ?_, h4⟩⟩
  rw [k.block g (Array.getElem?_eq_some_iff.1 h3).1 fun hg => by have := hS g hg; omega]
  exact h3
theorem _root_.Go.Proofs.YtifnkmddinoneaaGreatDoor.Sr.bases {w : World} {b c : Nat} {v : Value} {X : List ByteArray} (h : Sr w b v X) (hbc : c ≤ b) : Sr w c v X :=
  ⟨h.1, h.2.elim Or.inl fun ⟨g, cap, cur, h1, h2, h3⟩ => Or.inr ⟨g, cap, cur, h1, Nat.le_trans hbc h2, h3⟩⟩
theorem gp_end {w w1 w5 : World} {q B : Nat} {k : Int} {N W O : List (List UInt8)} {v1 v2 v3 : Value} (hq : w.heap.size ≤ q) (hl : q + 1 < B) (s1 : Sr w1 B v1 (N.map str)) (s2 : Sr w1 B v2 (W.map str)) (s3 : Sr w1 B v3 (O.map str)) (m : Mod [] w w1) (m5 : Mod [q, q + 1] w1 w5) :
    GpP w k N W O (.returned (.agg #[.int .i64 k, v1, v2, v3])) w5 := by
  have hS : ∀ b ∈ [q, q + 1], b < B := by simp; omega
  obtain ⟨A1, c1, e1, t1, b1⟩ := (s1.mods m5 hS).tx
  obtain ⟨A2, c2, e2, t2, b2⟩ := (s2.mods m5 hS).tx
  obtain ⟨A3, c3, e3, t3, b3⟩ := (s3.mods m5 hS).tx
  subst e1 e2 e3
  exact ⟨_, rfl, ⟨A1, c1, A2, c2, A3, c3, rfl, t1, t2, t3, fun a h => by have := b1 a h; omega, fun a h => by have := b2 a h; omega, fun a h => by have := b3 a h; omega⟩, m.then m5 (by simp; omega)⟩
theorem grp_head (w : World) (k : Int) : Bx4 ((w.alloc (.cells #[.int .i64 0, .slice none 0 0, .slice none 0 0, .slice none 0 0] 211)).alloc (.cells #[.int .i64 k, .slice none 0 0, .slice none 0 0, .slice none 0 0] 211)) w.heap.size (.int .i64 0) (.slice none 0 0) (.slice none 0 0) (.slice none 0 0) ∧ Bx4 ((w.alloc (.cells #[.int .i64 0, .slice none 0 0, .slice none 0 0, .slice none 0 0] 211)).alloc (.cells #[.int .i64 k, .slice none 0 0, .slice none 0 0, .slice none 0 0] 211)) (w.heap.size + 1) (.int .i64 k) (.slice none 0 0) (.slice none 0 0) (.slice none 0 0) ∧ Mod [] w ((w.alloc (.cells #[.int .i64 0, .slice none 0 0, .slice none 0 0, .slice none 0 0] 211)).alloc (.cells #[.int .i64 k, .slice none 0 0, .slice none 0 0, .slice none 0 0] 211)) := by
  have hs : (w.alloc (.cells #[.int .i64 0, .slice none 0 0, .slice none 0 0, .slice none 0 0] 211)).heap.size = w.heap.size + 1 := by show (w.heap.push _).size = _; simp
  have p0 := Bx4.new (w.alloc (.cells #[.int .i64 0, .slice none 0 0, .slice none 0 0, .slice none 0 0] 211)) (.int .i64 k) (.slice none 0 0) (.slice none 0 0) (.slice none 0 0) 211
  rw [hs] at p0
  exact ⟨(Bx4.new w (.int .i64 0) (.slice none 0 0) (.slice none 0 0) (.slice none 0 0) 211).far ((Mod.refl [] _).alloc _), p0, ((Mod.refl [] w).alloc _).alloc _⟩
theorem tab_none {w : World} {B : Nat} : Sr w B (.slice none 0 0) (([] : List (List UInt8)).map str) := Sr.nil w B
set_option maxRecDepth 100000 in
set_option maxHeartbeats 4000000 in
theorem group_prim (w : World) : Calls Tryz.prog 227 #[.int .i64 1] w (GpP w 1 primN [] []) := by
  obtain ⟨q0, p0, m0⟩ := grp_head w 1
  have Q0 := Lib.hid q0
  have P0 := Lib.hid p0
  have M0 := Lib.hid m0
  clear q0 p0 m0
  go_enter Tryz.func227, Tryz.ntmps227
  go_wp2_with fail
  generalize (w.alloc (.cells #[.int .i64 0, .slice none 0 0, .slice none 0 0, .slice none 0 0] 211)).alloc (.cells #[.int .i64 1, .slice none 0 0, .slice none 0 0, .slice none 0 0] 211) = X at *
  obtain ⟨q, hq⟩ : ∃ q, q = w.heap.size := ⟨_, rfl⟩
  rw [← hq] at Q0 P0 ⊢
  have HQ := Lib.hid (show w.heap.size ≤ q from Nat.le_of_eq hq.symm)
  have HP := Lib.hid P0.out.lt
  clear hq
  refine (split_calls primT primN spl_prim (by decide) (by decide) (by kernel_rfl) _).mono ?_
  rintro e w1 ⟨v1, rfl, s1, m1⟩
  obtain ⟨A1, c1, rfl, _, _⟩ := s1.tx
  obtain ⟨n1, hn1⟩ : ∃ n, n = primN.length := ⟨_, rfl⟩
  rw [← hn1] at s1 ⊢
  have HN1 := Lib.hid hn1
  clear hn1
  have MM1 := Lib.hid (M0.out.trans m1)
  have MX1 := Lib.hid m1
  have S11 := Lib.hid s1
  clear s1 m1
  obtain ⟨p0, p1, p2, p3, pf, _⟩ := P0.out.far MX1.out
  obtain ⟨q0, q1, q2, q3, qf, _⟩ := Q0.out.far MX1.out
  have pf1 := pf 1
  have pf2 := pf 2
  have pf3 := pf 3
  have qf0 := qf 0
  have qf1 := qf 1
  have qf2 := qf 2
  have qf3 := qf 3
  clear pf qf
  go_wp2_with fail
  refine bodyPost_ret (v := .agg #[.int .i64 1, .slice A1 n1 c1, .slice none 0 0, .slice none 0 0]) (by simp [results, Tryz.results227, go_sem, q0, q1, q2, q3]) rfl ?_
  obtain rfl := HN1.out
  exact gp_end HQ.out HP.out S11.out tab_none tab_none MM1.out ((((((Mod.refl [q, q + 1] _).set (x := ⟨q + 1, 1, none⟩) (Or.inl (by simp)) _).set (x := ⟨q, 0, none⟩) (Or.inl (by simp)) _).set (x := ⟨q, 1, none⟩) (Or.inl (by simp)) _).set (x := ⟨q, 2, none⟩) (Or.inl (by simp)) _).set (x := ⟨q, 3, none⟩) (Or.inl (by simp)) _)
set_option maxRecDepth 100000 in
set_option maxHeartbeats 4000000 in
theorem group_ctl (w : World) : Calls Tryz.prog 227 #[.int .i64 2] w (GpP w 2 ctlN [] ctlON) := by
  obtain ⟨q0, p0, m0⟩ := grp_head w 2
  have Q0 := Lib.hid q0
  have P0 := Lib.hid p0
  have M0 := Lib.hid m0
  clear q0 p0 m0
  go_enter Tryz.func227, Tryz.ntmps227
  go_wp2_with fail
  generalize (w.alloc (.cells #[.int .i64 0, .slice none 0 0, .slice none 0 0, .slice none 0 0] 211)).alloc (.cells #[.int .i64 2, .slice none 0 0, .slice none 0 0, .slice none 0 0] 211) = X at *
  obtain ⟨q, hq⟩ : ∃ q, q = w.heap.size := ⟨_, rfl⟩
  rw [← hq] at Q0 P0 ⊢
  have HQ := Lib.hid (show w.heap.size ≤ q from Nat.le_of_eq hq.symm)
  have HP := Lib.hid P0.out.lt
  clear hq
  refine (split_calls ctlT ctlN spl_ctl (by decide) (by decide) (by kernel_rfl) _).mono ?_
  rintro e w1 ⟨v1, rfl, s1, m1⟩
  obtain ⟨A1, c1, rfl, _, _⟩ := s1.tx
  obtain ⟨n1, hn1⟩ : ∃ n, n = ctlN.length := ⟨_, rfl⟩
  rw [← hn1] at s1 ⊢
  have HN1 := Lib.hid hn1
  clear hn1
  have MM1 := Lib.hid (M0.out.trans m1)
  have MX1 := Lib.hid m1
  have S11 := Lib.hid s1
  clear s1 m1
  go_wp2_with fail
  refine (split_calls ctlOT ctlON spl_ctlO (by decide) (by decide) (by kernel_rfl) _).mono ?_
  rintro e w2 ⟨v2, rfl, s2, m2⟩
  obtain ⟨A2, c2, rfl, _, _⟩ := s2.tx
  obtain ⟨n2, hn2⟩ : ∃ n, n = ctlON.length := ⟨_, rfl⟩
  rw [← hn2] at s2 ⊢
  have HN2 := Lib.hid hn2
  clear hn2
  have MM2 := Lib.hid (MM1.out.trans m2)
  have MX2 := Lib.hid (MX1.out.trans m2)
  have S21 := Lib.hid (S11.out.far m2)
  have S22 := Lib.hid (s2.bases (MX1.out.size))
  clear s2 m2
  obtain ⟨p0, p1, p2, p3, pf, _⟩ := P0.out.far MX2.out
  obtain ⟨q0, q1, q2, q3, qf, _⟩ := Q0.out.far MX2.out
  have pf1 := pf 1
  have pf2 := pf 2
  have pf3 := pf 3
  have qf0 := qf 0
  have qf1 := qf 1
  have qf2 := qf 2
  have qf3 := qf 3
  clear pf qf
  go_wp2_with fail
  refine bodyPost_ret (v := .agg #[.int .i64 2, .slice A1 n1 c1, .slice none 0 0, .slice A2 n2 c2]) (by simp [results, Tryz.results227, go_sem, q0, q1, q2, q3]) rfl ?_
  obtain rfl := HN1.out
  obtain rfl := HN2.out
  exact gp_end HQ.out HP.out S21.out tab_none S22.out MM2.out (((((((Mod.refl [q, q + 1] _).set (x := ⟨q + 1, 1, none⟩) (Or.inl (by simp)) _).set (x := ⟨q + 1, 3, none⟩) (Or.inl (by simp)) _).set (x := ⟨q, 0, none⟩) (Or.inl (by simp)) _).set (x := ⟨q, 1, none⟩) (Or.inl (by simp)) _).set (x := ⟨q, 2, none⟩) (Or.inl (by simp)) _).set (x := ⟨q, 3, none⟩) (Or.inl (by simp)) _)
set_option maxRecDepth 100000 in
set_option maxHeartbeats 4000000 in
theorem group_flow (w : World) : Calls Tryz.prog 227 #[.int .i64 3] w (GpP w 3 flowN flowN flowN) := by
  obtain ⟨q0, p0, m0⟩ := grp_head w 3
  have Q0 := Lib.hid q0
  have P0 := Lib.hid p0
  have M0 := Lib.hid m0
  clear q0 p0 m0
  go_enter Tryz.func227, Tryz.ntmps227
  go_wp2_with fail
  generalize (w.alloc (.cells #[.int .i64 0, .slice none 0 0, .slice none 0 0, .slice none 0 0] 211)).alloc (.cells #[.int .i64 3, .slice none 0 0, .slice none 0 0, .slice none 0 0] 211) = X at *
  obtain ⟨q, hq⟩ : ∃ q, q = w.heap.size := ⟨_, rfl⟩
  rw [← hq] at Q0 P0 ⊢
  have HQ := Lib.hid (show w.heap.size ≤ q from Nat.le_of_eq hq.symm)
  have HP := Lib.hid P0.out.lt
  clear hq
  refine (split_calls flowT flowN spl_flow (by decide) (by decide) (by kernel_rfl) _).mono ?_
  rintro e w1 ⟨v1, rfl, s1, m1⟩
  obtain ⟨A1, c1, rfl, _, _⟩ := s1.tx
  obtain ⟨n1, hn1⟩ : ∃ n, n = flowN.length := ⟨_, rfl⟩
  rw [← hn1] at s1 ⊢
  have HN1 := Lib.hid hn1
  clear hn1
  have MM1 := Lib.hid (M0.out.trans m1)
  have MX1 := Lib.hid m1
  have S11 := Lib.hid s1
  clear s1 m1
  obtain ⟨p0, p1, p2, p3, pf, _⟩ := P0.out.far MX1.out
  obtain ⟨q0, q1, q2, q3, qf, _⟩ := Q0.out.far MX1.out
  have pf1 := pf 1
  have pf2 := pf 2
  have pf3 := pf 3
  have qf0 := qf 0
  have qf1 := qf 1
  have qf2 := qf 2
  have qf3 := qf 3
  clear pf qf
  go_wp2_with fail
  refine bodyPost_ret (v := .agg #[.int .i64 3, .slice A1 n1 c1, .slice A1 n1 c1, .slice A1 n1 c1]) (by simp [results, Tryz.results227, go_sem, q0, q1, q2, q3]) rfl ?_
  obtain rfl := HN1.out
  exact gp_end HQ.out HP.out S11.out S11.out S11.out MM1.out ((((((((Mod.refl [q, q + 1] _).set (x := ⟨q + 1, 1, none⟩) (Or.inl (by simp)) _).set (x := ⟨q + 1, 2, none⟩) (Or.inl (by simp)) _).set (x := ⟨q + 1, 3, none⟩) (Or.inl (by simp)) _).set (x := ⟨q, 0, none⟩) (Or.inl (by simp)) _).set (x := ⟨q, 1, none⟩) (Or.inl (by simp)) _).set (x := ⟨q, 2, none⟩) (Or.inl (by simp)) _).set (x := ⟨q, 3, none⟩) (Or.inl (by simp)) _)
set_option maxRecDepth 100000 in
set_option maxHeartbeats 4000000 in
theorem group_host (w : World) : Calls Tryz.prog 227 #[.int .i64 4] w (GpP w 4 hostN hostWN hostON) := by
  obtain ⟨q0, p0, m0⟩ := grp_head w 4
  have Q0 := Lib.hid q0
  have P0 := Lib.hid p0
  have M0 := Lib.hid m0
  clear q0 p0 m0
  go_enter Tryz.func227, Tryz.ntmps227
  go_wp2_with fail
  generalize (w.alloc (.cells #[.int .i64 0, .slice none 0 0, .slice none 0 0, .slice none 0 0] 211)).alloc (.cells #[.int .i64 4, .slice none 0 0, .slice none 0 0, .slice none 0 0] 211) = X at *
  obtain ⟨q, hq⟩ : ∃ q, q = w.heap.size := ⟨_, rfl⟩
  rw [← hq] at Q0 P0 ⊢
  have HQ := Lib.hid (show w.heap.size ≤ q from Nat.le_of_eq hq.symm)
  have HP := Lib.hid P0.out.lt
  clear hq
  refine (split_calls hostT hostN spl_host (by decide) (by decide) (by kernel_rfl) _).mono ?_
  rintro e w1 ⟨v1, rfl, s1, m1⟩
  obtain ⟨A1, c1, rfl, _, _⟩ := s1.tx
  obtain ⟨n1, hn1⟩ : ∃ n, n = hostN.length := ⟨_, rfl⟩
  rw [← hn1] at s1 ⊢
  have HN1 := Lib.hid hn1
  clear hn1
  have MM1 := Lib.hid (M0.out.trans m1)
  have MX1 := Lib.hid m1
  have S11 := Lib.hid s1
  clear s1 m1
  go_wp2_with fail
  refine (split_calls hostWT hostWN spl_hostW (by decide) (by decide) (by kernel_rfl) _).mono ?_
  rintro e w2 ⟨v2, rfl, s2, m2⟩
  obtain ⟨A2, c2, rfl, _, _⟩ := s2.tx
  obtain ⟨n2, hn2⟩ : ∃ n, n = hostWN.length := ⟨_, rfl⟩
  rw [← hn2] at s2 ⊢
  have HN2 := Lib.hid hn2
  clear hn2
  have MM2 := Lib.hid (MM1.out.trans m2)
  have MX2 := Lib.hid (MX1.out.trans m2)
  have S21 := Lib.hid (S11.out.far m2)
  have S22 := Lib.hid (s2.bases (MX1.out.size))
  clear s2 m2
  go_wp2_with fail
  refine (split_calls hostOT hostON spl_hostO (by decide) (by decide) (by kernel_rfl) _).mono ?_
  rintro e w3 ⟨v3, rfl, s3, m3⟩
  obtain ⟨A3, c3, rfl, _, _⟩ := s3.tx
  obtain ⟨n3, hn3⟩ : ∃ n, n = hostON.length := ⟨_, rfl⟩
  rw [← hn3] at s3 ⊢
  have HN3 := Lib.hid hn3
  clear hn3
  have MM3 := Lib.hid (MM2.out.trans m3)
  have MX3 := Lib.hid (MX2.out.trans m3)
  have S31 := Lib.hid (S21.out.far m3)
  have S32 := Lib.hid (S22.out.far m3)
  have S33 := Lib.hid (s3.bases (MX2.out.size))
  clear s3 m3
  obtain ⟨p0, p1, p2, p3, pf, _⟩ := P0.out.far MX3.out
  obtain ⟨q0, q1, q2, q3, qf, _⟩ := Q0.out.far MX3.out
  have pf1 := pf 1
  have pf2 := pf 2
  have pf3 := pf 3
  have qf0 := qf 0
  have qf1 := qf 1
  have qf2 := qf 2
  have qf3 := qf 3
  clear pf qf
  go_wp2_with fail
  refine bodyPost_ret (v := .agg #[.int .i64 4, .slice A1 n1 c1, .slice A2 n2 c2, .slice A3 n3 c3]) (by simp [results, Tryz.results227, go_sem, q0, q1, q2, q3]) rfl ?_
  obtain rfl := HN1.out
  obtain rfl := HN2.out
  obtain rfl := HN3.out
  exact gp_end HQ.out HP.out S31.out S32.out S33.out MM3.out ((((((((Mod.refl [q, q + 1] _).set (x := ⟨q + 1, 1, none⟩) (Or.inl (by simp)) _).set (x := ⟨q + 1, 2, none⟩) (Or.inl (by simp)) _).set (x := ⟨q + 1, 3, none⟩) (Or.inl (by simp)) _).set (x := ⟨q, 0, none⟩) (Or.inl (by simp)) _).set (x := ⟨q, 1, none⟩) (Or.inl (by simp)) _).set (x := ⟨q, 2, none⟩) (Or.inl (by simp)) _).set (x := ⟨q, 3, none⟩) (Or.inl (by simp)) _)
set_option maxRecDepth 100000 in
set_option maxHeartbeats 4000000 in
theorem group_none (w : World) (k : Int) (h1 : k ≠ 1) (h2 : k ≠ 2) (h3 : k ≠ 3) (h4 : k ≠ 4) : Calls Tryz.prog 227 #[.int .i64 k] w (GpP w k [] [] []) := by
  obtain ⟨q0, p0, m0⟩ := grp_head w k
  have Q0 := Lib.hid q0
  have P0 := Lib.hid p0
  have M0 := Lib.hid m0
  clear q0 p0 m0
  have k1 : (k == 1) = false := by rw [beq_eq_false_iff_ne]; exact h1
  have k2 : (k == 2) = false := by rw [beq_eq_false_iff_ne]; exact h2
  have k3 : (k == 3) = false := by rw [beq_eq_false_iff_ne]; exact h3
  have k4 : (k == 4) = false := by rw [beq_eq_false_iff_ne]; exact h4
  clear h1 h2 h3 h4
  go_enter Tryz.func227, Tryz.ntmps227
  go_upto_region 3 with fail
  generalize (w.alloc (.cells #[.int .i64 0, .slice none 0 0, .slice none 0 0, .slice none 0 0] 211)).alloc (.cells #[.int .i64 k, .slice none 0 0, .slice none 0 0, .slice none 0 0] 211) = X at *
  obtain ⟨q, hq⟩ : ∃ q, q = w.heap.size := ⟨_, rfl⟩
  rw [← hq] at Q0 P0 ⊢
  have HQ := Lib.hid (show w.heap.size ≤ q from Nat.le_of_eq hq.symm)
  have HP := Lib.hid P0.out.lt
  clear hq
  have MX0 := Lib.hid (Mod.refl [] X)
  obtain ⟨p0, p1, p2, p3, pf, _⟩ := P0.out.far MX0.out
  obtain ⟨q0, q1, q2, q3, qf, _⟩ := Q0.out.far MX0.out
  have pf1 := pf 1
  have pf2 := pf 2
  have pf3 := pf 3
  have qf0 := qf 0
  have qf1 := qf 1
  have qf2 := qf 2
  have qf3 := qf 3
  clear pf qf
  go_wp2_with fail
  refine bodyPost_ret (v := .agg #[.int .i64 k, .slice none 0 0, .slice none 0 0, .slice none 0 0]) (by simp [results, Tryz.results227, go_sem, q0, q1, q2, q3]) rfl ?_
  exact gp_end HQ.out HP.out tab_none tab_none tab_none M0.out (((((Mod.refl [q, q + 1] _).set (x := ⟨q, 0, none⟩) (Or.inl (by simp)) _).set (x := ⟨q, 1, none⟩) (Or.inl (by simp)) _).set (x := ⟨q, 2, none⟩) (Or.inl (by simp)) _).set (x := ⟨q, 3, none⟩) (Or.inl (by simp)) _)
end Go.Proofs.YtifnkmddinoneaaGreatDoor.L12
namespace Go.Proofs.YtifnkmddinoneaaGreatDoor.L12
open Go.RowKit
set_option linter.unusedVariables false

/-- A word as five cells, and as a value. -/
def enV (x : En) : List Value := [.string (str x.s), .int .i64 x.k, .int .i64 (x.n : Int), .bool x.now, .bool x.only]
def buV (x : En) : Value := .agg #[.string (str x.s), .int .i64 x.k, .int .i64 (x.n : Int), .bool x.now, .bool x.only]
def rowE (X : List En) : List Value := X.flatMap enV
theorem rowE_len (X : List En) : (rowE X).length = X.length * 5 := by
  induction X with
  | nil => rfl
  | cons x r ih => simp only [rowE, List.flatMap_cons, List.length_append, List.length_cons] at *; rw [ih]; simp [enV]; omega
theorem rowE_app (X Y : List En) : rowE (X ++ Y) = rowE X ++ rowE Y := by simp [rowE]
theorem rowE_one (x : En) : rowE [x] = enV x := by simp [rowE]
theorem rowE_get (X : List En) (i : Nat) (h : i < X.length) (c : Nat) (hc : c < 5) : (rowE X)[i * 5 + c]? = (enV X[i])[c]? := by
  have e : X = X.take i ++ (X[i] :: X.drop (i + 1)) := by rw [← List.drop_eq_getElem_cons h, List.take_append_drop]
  have hl : (X.take i).length = i := by rw [List.length_take]; omega
  have e2 : rowE X = rowE (X.take i) ++ (enV X[i] ++ rowE (X.drop (i + 1))) := by
    have e3 := congrArg rowE e
    rw [rowE_app] at e3
    rw [e3]
    congr 1
  rw [e2, List.getElem?_append_right (by rw [rowE_len, hl]; omega), rowE_len, hl, List.getElem?_append_left (by simp [enV]; omega), Nat.add_sub_cancel_left]
theorem enV_cells (X : List En) : ∀ u ∈ rowE X, u.oneCell' = true := fun u hu => by
  obtain ⟨x, _, hx⟩ := List.mem_flatMap.1 hu
  simp [enV] at hx
  rcases hx with rfl | rfl | rfl | rfl | rfl <;> rfl
def Er (w : World) (base : Nat) (v : Value) (X : List En) : Prop := w.ownsRow base 79 5 v X.length (rowE X)
theorem Er.nil (w : World) (base : Nat) : Er w base (.slice none 0 0) [] := ⟨rfl, .inl ⟨rfl, rfl⟩⟩
theorem Er.far {w w' : World} {base : Nat} {v : Value} {X : List En} (h : Er w base v X) (k : Mod [] w w') : Er w' base v X := by
  refine ⟨h.1, h.2.elim Or.inl fun ⟨g, cap, cur, h1, h2, h3, h4⟩ => Or.inr ⟨g, cap, cur, h1, h2, ?_, h4⟩⟩
  rw [k.block g (Array.getElem?_eq_some_iff.1 h3).1 (by simp)]
  exact h3
theorem Er.own {w : World} {base : Nat} {v : Value} {X : List En} (h : Er w base v X) : ∀ g, v.ownBlock = some g → base ≤ g := fun g hg => by
  rcases h.2 with ⟨rfl, _⟩ | ⟨g', cap, cur, rfl, hb, _⟩
  · cases hg
  · have : g' = g := by simpa [Value.ownBlock] using hg
    omega
theorem infoEn : (Tryz.prog.info? 79).map (fun i => (i.zero, i.size, i.bytes)) = some (some (.agg #[.string ⟨#[]⟩, .int .i64 0, .int .i64 0, .bool false, .bool false]), 5, 40) := by kernel_rfl
theorem Er.app1 {w : World} {base : Nat} {v : Value} {X : List En} (h : Er w base v X) (hb : base ≤ w.heap.size) (hl : X.length ≤ 1000000) (ty : TypeId) (a : Addr) (cp : Nat) (x : En) (hc : ∀ j u, (enV x)[j]? = some u → w.cell? (a.add j) = some u) :
    ∃ v' w', (Builtin.append_ #[76, 76] ty #[v, .slice (some a) 1 cp]).run Tryz.prog w = .ok v' w' ∧ Er w' base v' (X ++ [x]) ∧ Mod v.ownBlock.toList w w' ∧ (v'.ownBlock = v.ownBlock ∨ v'.ownBlock = some w.heap.size) := by
  obtain ⟨i, hi, hz0, hz1, hz2⟩ := info_parts infoEn
  have hm : maxLen = 9223372036854775807 := rfl
  obtain ⟨v', w', h1, h2, h3, _, h5⟩ := run_append_own_at (P := Tryz.prog) (w := w) base 76 ty 79 i _ 5 40 Tryz.underlying76 hi hz0 hz1 hz2 rfl (by decide) _ _ _ h a 1 cp (enV x) (by simp [enV]) hc (by rw [← rowE_one]; exact enV_cells [x]) (by omega) (by omega) hb
  refine ⟨v', w', h1, ?_, Mod.of_grown h3 (by simp), h5⟩
  unfold Er
  rw [show (X ++ [x]).length = X.length + 1 by simp, rowE_app, rowE_one]
  exact h2
theorem wpList_appE {w : World} {ops : Array Oper} {rest : List Oper} {o : Oper} {a : Act} {Q : Exit → Act → World → Prop} (hgd : o.guard = none) (s x : Operand)
    (ho : o.op = .call { callee := .builtin .append, args := #[s, x], argTypes := #[76, 76] })
    {base : Nat} {v : Value} {X : List En} (h : Er w base v X) (hb : base ≤ w.heap.size) (hl : X.length ≤ 1000000) (b : Addr) (cp : Nat) (c : En) (hc : ∀ j u, (enV c)[j]? = some u → w.cell? (b.add j) = some u)
    (v1 : a.eval s = v) (v2 : a.eval x = .slice (some b) 1 cp)
    (hK : ∀ v' w', Er w' base v' (X ++ [c]) → Mod v.ownBlock.toList w w' → (v'.ownBlock = v.ownBlock ∨ v'.ownBlock = some w.heap.size) → wpList Tryz.prog ops Q rest (a.put o.dst v') w') : wpList Tryz.prog ops Q (o :: rest) a w := by
  obtain ⟨v', w', hr, h2, h3, h4⟩ := h.app1 hb hl o.type b cp c hc
  refine wpList_plain hgd fun K hk => ?_
  unfold Oper.wp execOp
  simp only [ho, resolve, invoke, builtin, Sem.run_bind, Sem.run_pure, Result.andThen_ok, List.map_toArray, List.map_cons, List.map_nil, v1, v2, hr]
  exact hk _ _ (hK v' w' h2 h3 h4)
theorem en_new (w : World) (x : En) (t : TypeId) : ∀ j u, (enV x)[j]? = some u → (w.alloc (.cells #[.string (str x.s), .int .i64 x.k, .int .i64 (x.n : Int), .bool x.now, .bool x.only] t)).cell? ((⟨w.heap.size, 0, none⟩ : Addr).add j) = some u := fun j u hj => by
  rw [WideShapes.add_plain, Nat.zero_add, World.cell?_alloc_new, ← hj]
  simp [enV]
def EnAt (w : World) (A : Option Addr) (X : List En) : Prop := ∀ j (hj : j < X.length), ∃ b, A = some ⟨b, 0, none⟩ ∧ w.cell? ⟨b, j * 5, none⟩ = some (.string (str X[j].s)) ∧ w.cell? ⟨b, j * 5 + 1, none⟩ = some (.int .i64 X[j].k) ∧ w.cell? ⟨b, j * 5 + 2, none⟩ = some (.int .i64 (X[j].n : Int)) ∧ w.cell? ⟨b, j * 5 + 3, none⟩ = some (.bool X[j].now) ∧ w.cell? ⟨b, j * 5 + 4, none⟩ = some (.bool X[j].only)
theorem Er.at {w : World} {base : Nat} {v : Value} {X : List En} (h : Er w base v X) : ∃ A c, v = .slice A X.length c ∧ EnAt w A X := by
  rcases h.2 with ⟨rfl, h0⟩ | ⟨g, cap, cur, rfl, h2, h3, h4⟩
  · exact ⟨none, 0, by rw [h0], fun j hj => by omega⟩
  · refine ⟨_, cap, rfl, fun j hj => ⟨g, rfl, ?_⟩⟩
    have hown : w.ownsRow base 79 5 (.slice (some ⟨g, 0, none⟩) X.length cap) X.length (rowE X) := h
    have get : ∀ c, c < 5 → w.cell? ⟨g, j * 5 + c, none⟩ = (enV X[j])[c]? := fun c hc => by
      rw [hown.cellAt (j * 5 + c) (by omega), rowE_get X j hj c hc]
    exact ⟨get 0 (by omega), get 1 (by omega), get 2 (by omega), get 3 (by omega), get 4 (by omega)⟩
set_option maxRecDepth 100000 in
theorem eq_en (s t : ByteArray) (a c : Int) (a2 c2 : Int) (b d b2 d2 : Bool) (w : World) : (Op.equalIn 10000 79 (.agg #[.string s, .int .i64 a, .int .i64 a2, .bool b, .bool b2]) (.agg #[.string t, .int .i64 c, .int .i64 c2, .bool d, .bool d2])).run Tryz.prog w = .ok (decide (s = t) && (a == c && (a2 == c2 && (b == d && b2 == d2)))) w := by
  have u3 := Tryz.underlying3
  have a3 := Tryz.isAgg3
  have z3 := Tryz.sizeOf3
  have u9 := Tryz.underlying9
  have a9 := Tryz.isAgg9
  have z9 := Tryz.sizeOf9
  have u4 := Tryz.underlying4
  have a4 := Tryz.isAgg4
  have z4 := Tryz.sizeOf4
  have hS : Tryz.prog.underlying 79 = some (.struct (Tryz.prog.fieldsOf 79)) := by kernel_rfl
  have hp : Tryz.prog.stoodInHeld 79 = false := by kernel_rfl
  rw [show (10000 : Nat) = 9999 + 1 from rfl, run_equalIn_agg w 9999 79 _ _ hS hp]
  simp only [Program.fieldsOf, Tryz.underlying79]
  go_simp
  by_cases h0 : s = t
  · subst h0
    by_cases h1 : a = c <;> by_cases h2 : a2 = c2 <;> by_cases h3 : b = d <;> by_cases h4 : b2 = d2 <;> simp [h1, h2, h3, h4]
  · have h0' : ¬ s.toList = t.toList := fun e => h0 (toList_inj9 e)
    by_cases h1 : a = c <;> by_cases h2 : a2 = c2 <;> by_cases h3 : b = d <;> by_cases h4 : b2 = d2 <;> simp [h0, h0', h1, h2, h3, h4]
@[go_sem ↓] theorem run_en_eql (s t : ByteArray) (a c : Int) (a2 c2 : Int) (b d b2 d2 : Bool) (w : World) : (binOp .eql 79 (.agg #[.string s, .int .i64 a, .int .i64 a2, .bool b, .bool b2]) (.agg #[.string t, .int .i64 c, .int .i64 c2, .bool d, .bool d2])).run Tryz.prog w = .ok (.bool (decide (s = t) && (a == c && (a2 == c2 && (b == d && b2 == d2))))) w := by
  rw [run_eql_struct, eq_en]; rfl
@[go_sem ↓] theorem run_en_neq (s t : ByteArray) (a c : Int) (a2 c2 : Int) (b d b2 d2 : Bool) (w : World) : (binOp .neq 79 (.agg #[.string s, .int .i64 a, .int .i64 a2, .bool b, .bool b2]) (.agg #[.string t, .int .i64 c, .int .i64 c2, .bool d, .bool d2])).run Tryz.prog w = .ok (.bool (!(decide (s = t) && (a == c && (a2 == c2 && (b == d && b2 == d2)))))) w := by
  rw [run_neq_struct, eq_en]; rfl
@[go_sem ↓] theorem guard_en (op : BinOp) (x y : Operand) (xs ys : Array Value) (w : World) : (eqGuard op 79 x y (.agg xs) (.agg ys)).run Tryz.prog w = .ok () w :=
  run_eqGuard_agg w op 79 x y xs ys (by kernel_rfl)
end Go.Proofs.YtifnkmddinoneaaGreatDoor.L12
