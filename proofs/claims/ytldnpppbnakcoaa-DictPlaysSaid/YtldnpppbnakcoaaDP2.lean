/- Layer 9: the program's dictionary and the document's side by side, their calls. Condition: texts have at most 40 bytes. -/
import Derived.Test.YtldnpppbnakcoaaDP1
namespace Go.Proofs.Ytldnpppbnakcoaa
open Go.RowKit
set_option linter.unusedVariables false

theorem Keep.trans {U : List Nat} {a b c : World} (h : Keep U a b) (k : Keep U b c) : Keep U a c := by
  obtain ⟨S, m, hS⟩ := h
  obtain ⟨R, n, hR⟩ := k
  exact ⟨S ++ R, (m.up (by simp; exact fun x hx => Or.inl hx)).trans (n.up (by simp; exact fun x hx => Or.inr hx)), fun x hx e => (List.mem_append.1 e).elim (hS x hx) (hR x hx)⟩
/-- p is the program's dictionary D, q is the document's E; both were made since w0, apart from each other and from U. -/
def Dp (w0 w : World) (p q : Nat) (U : List Nat) (D E : Di) : Prop := ∃ T S, Pd9 w p T D ∧ Rd9 w q S E ∧ (∀ x ∈ T, w0.heap.size ≤ x) ∧ (∀ x ∈ S, w0.heap.size ≤ x) ∧ (∀ x ∈ T, x ∉ S) ∧ (∀ x ∈ U, x ∉ T ∧ x ∉ S) ∧ (∀ x ∈ U, x < w.heap.size) ∧ Mod [] w0 w
theorem Dp.m {w0 w : World} {p q : Nat} {U : List Nat} {D E : Di} (h : Dp w0 w p q U D E) : Mod [] w0 w := by
  obtain ⟨T, S, _, _, _, _, _, _, _, h⟩ := h
  exact h
theorem Dp.far {w0 w w' : World} {p q : Nat} {U : List Nat} {D E : Di} (h : Dp w0 w p q U D E) (m : Mod [] w w') : Dp w0 w' p q U D E := by
  obtain ⟨T, S, h1, h2, h3, h4, h5, h6, h7, h8⟩ := h
  exact ⟨T, S, h1.far m, h2.far m, h3, h4, h5, h6, fun x hx => Nat.lt_of_lt_of_le (h7 x hx) m.size, h8.trans m⟩
theorem Dp.sub {w0 w : World} {p q : Nat} {U V : List Nat} {D E : Di} (h : Dp w0 w p q U D E) (hV : ∀ x ∈ V, x ∈ U) : Dp w0 w p q V D E := by
  obtain ⟨T, S, h1, h2, h3, h4, h5, h6, h7, h8⟩ := h
  exact ⟨T, S, h1, h2, h3, h4, h5, fun x hx => h6 x (hV x hx), fun x hx => h7 x (hV x hx), h8⟩
theorem Dp.more {w0 w w' : World} {p q : Nat} {U V : List Nat} {D E : Di} (h : Dp w0 w p q U D E) (m : Mod [] w w') (hV : ∀ x ∈ V, x ∈ U ∨ (w.heap.size ≤ x ∧ x < w'.heap.size)) : Dp w0 w' p q V D E := by
  obtain ⟨T, S, h1, h2, h3, h4, h5, h6, h7, h8⟩ := h
  refine ⟨T, S, h1.far m, h2.far m, h3, h4, h5, fun x hx => ?_, fun x hx => ?_, h8.trans m⟩
  · rcases hV x hx with hu | ⟨hl, _⟩
    · exact h6 x hu
    · exact ⟨fun e => by have := h1.lt x e; omega, fun e => by have := h2.lt x e; omega⟩
  · rcases hV x hx with hu | ⟨_, hl⟩
    · exact Nat.lt_of_lt_of_le (h7 x hu) m.size
    · exact hl
theorem Dp.ofP {w0 w : World} {p q : Nat} {U : List Nat} {D E D' : Di} {r : Value} {f : Nat} {xs : Array Value} (h : Dp w0 w p q U D E) (k : ∀ T, Pd9 w p T D → Calls Try.prog f xs w (PPlays p T r D' w)) :
    Calls Try.prog f xs w fun e w' => e = .returned r ∧ Dp w0 w' p q U D' E ∧ Keep U w w' := by
  obtain ⟨T, S, h1, h2, h3, h4, h5, h6, h7, h8⟩ := h
  refine (k T h1).mono ?_
  rintro e w' ⟨e1, T', g1, g2⟩
  refine ⟨e1, ⟨T', S, g1, h2.mod g2.1 fun x hx ht => h5 x ht hx, fun x hx => (g2.2 x hx).elim (h3 x) fun hl => Nat.le_trans h8.size hl, h4, fun x hx hs => ?_, fun x hx => ⟨g2.apart (U := U) h7 (fun y hy => (h6 y hy).1) x hx, (h6 x hx).2⟩, fun x hx => Nat.lt_of_lt_of_le (h7 x hx) g2.1.size, h8.then g2.1 fun x hx => Or.inr (h3 x hx)⟩, T, g2.1, fun x hx => (h6 x hx).1⟩
  exact g2.apart (U := S) h2.lt (fun y hy ht => h5 y ht hy) x hs hx
theorem Dp.ofQ {w0 w : World} {p q : Nat} {U : List Nat} {D E E' : Di} {r : Value} {f : Nat} {xs : Array Value} (h : Dp w0 w p q U D E) (k : ∀ S, Rd9 w q S E → Calls Try.prog f xs w (DPlays q S r E' w)) :
    Calls Try.prog f xs w fun e w' => e = .returned r ∧ Dp w0 w' p q U D E' ∧ Keep U w w' := by
  obtain ⟨T, S, h1, h2, h3, h4, h5, h6, h7, h8⟩ := h
  refine (k S h2).mono ?_
  rintro e w' ⟨e1, S', g1, g2⟩
  refine ⟨e1, ⟨T, S', h1.mod g2.1 fun x hx hs => h5 x hx hs, g1, h3, fun x hx => (g2.2 x hx).elim (h4 x) fun hl => Nat.le_trans h8.size hl, ?_, fun x hx => ⟨(h6 x hx).1, g2.apart (U := U) h7 (fun y hy => (h6 y hy).2) x hx⟩, fun x hx => Nat.lt_of_lt_of_le (h7 x hx) g2.1.size, h8.then g2.1 fun x hx => Or.inr (h4 x hx)⟩, S, g2.1, fun x hx => (h6 x hx).2⟩
  exact g2.apart (U := T) h1.lt h5
theorem Dp.tellP {w0 w : World} {p q : Nat} {U : List Nat} {D E : Di} {r : Value} {f : Nat} {xs : Array Value} (h : Dp w0 w p q U D E) (k : ∀ T, Pd9 w p T D → Calls Try.prog f xs w (DTells r w)) :
    Calls Try.prog f xs w fun e w' => e = .returned r ∧ Dp w0 w' p q U D E ∧ Mod [] w w' := by
  have h' := h
  obtain ⟨T, S, h1, _⟩ := h
  exact (k T h1).mono fun e w' ⟨e1, m⟩ => ⟨e1, h'.far m, m⟩
theorem Dp.tellQ {w0 w : World} {p q : Nat} {U : List Nat} {D E : Di} {r : Value} {f : Nat} {xs : Array Value} (h : Dp w0 w p q U D E) (k : ∀ S, Rd9 w q S E → Calls Try.prog f xs w (DTells r w)) :
    Calls Try.prog f xs w fun e w' => e = .returned r ∧ Dp w0 w' p q U D E ∧ Mod [] w w' := by
  have h' := h
  obtain ⟨T, S, _, h2, _⟩ := h
  exact (k S h2).mono fun e w' ⟨e1, m⟩ => ⟨e1, h'.far m, m⟩
theorem Dp.namesP {w0 w : World} {p q : Nat} {U : List Nat} {D E : Di} {X : List ByteArray} {n : Nat} (h : Dp w0 w p q U D E) (l : Int) (hX : X = namesW D.W l) (hn : n = X.length) :
    Calls Try.prog 20 #[PtD p, .int .i64 l] w fun e w' => ∃ A cap, e = .returned (.slice A n cap) ∧ TxAt w' A X ∧ Dp w0 w' p q U D E ∧ Mod [] w w' := by
  subst hn hX
  have h' := h
  obtain ⟨T, S, h1, _⟩ := h
  refine (pnames_calls h1 l).mono ?_
  rintro e w' ⟨v, rfl, g1, g2⟩
  obtain ⟨A, cap, rfl, g3⟩ := g1.txat
  exact ⟨A, cap, rfl, g3, h'.far g2, g2⟩
theorem Dp.namesQ {w0 w : World} {p q : Nat} {U : List Nat} {D E : Di} {X : List ByteArray} {n : Nat} (h : Dp w0 w p q U D E) (l : Int) (hX : X = namesW E.W l) (hn : n = X.length) :
    Calls Try.prog 21 #[PtD q, .int .i64 l] w fun e w' => ∃ A cap, e = .returned (.slice A n cap) ∧ TxAt w' A X ∧ Dp w0 w' p q U D E ∧ Mod [] w w' := by
  subst hn hX
  have h' := h
  obtain ⟨T, S, _, h2, _⟩ := h
  refine (names9_calls h2 l).mono ?_
  rintro e w' ⟨v, rfl, g1, g2⟩
  obtain ⟨A, cap, rfl, g3⟩ := g1.txat
  exact ⟨A, cap, rfl, g3, h'.far g2, g2⟩
theorem Dp.orderP {w0 w : World} {p q : Nat} {U : List Nat} {D E : Di} {Y : List Int} {n : Nat} (h : Dp w0 w p q U D E) (hY : Y = D.O) (hn : n = Y.length) :
    Calls Try.prog 16 #[PtD p] w fun e w' => ∃ A cap, e = .returned (.slice A n cap) ∧ IntsAt w' A Y ∧ Dp w0 w' p q U D E ∧ Mod [] w w' := by
  subst hn hY
  have h' := h
  obtain ⟨T, S, h1, _⟩ := h
  refine (porder_calls h1).mono ?_
  rintro e w' ⟨v, rfl, g1, g2⟩
  obtain ⟨A, cap, rfl, g3, _⟩ := g1.opened
  exact ⟨A, cap, rfl, g3, h'.far g2, g2⟩
theorem Dp.ordQ {w0 w : World} {p q : Nat} {U : List Nat} {D E : Di} (h : Dp w0 w p q U D E) : ∃ A cap, w.cell? ⟨q, 2, none⟩ = some (.slice A E.O.length cap) ∧ IntsAt w A E.O := by
  obtain ⟨T, S, _, ⟨v, u, hv, _⟩, _⟩ := h
  obtain ⟨A, cap, rfl, hI, _⟩ := Ir.opened (Y := E.O) (w := w) (base := 0) (v := u) hv.ru
  exact ⟨A, cap, hv.c2, hI⟩
theorem Dp.curQ {w0 w : World} {p q : Nat} {U : List Nat} {D E : Di} (h : Dp w0 w p q U D E) : w.cell? ⟨q, 3, none⟩ = some (.int .i64 E.c) := by
  obtain ⟨T, S, _, ⟨v, u, hv, _⟩, _⟩ := h
  exact hv.c3
theorem Dp.ordle {w0 w : World} {p q : Nat} {U : List Nat} {D E : Di} (h : Dp w0 w p q U D E) : E.O.length ≤ 8 ∧ E.W.length ≤ 2000 := by
  obtain ⟨T, S, _, ⟨v, u, hv, _⟩, _⟩ := h
  exact ⟨hv.do_, hv.dw⟩
theorem add9_calls {w : World} {q : Nat} {T : List Nat} {D : Di} (h : Rd9 w q T D) (s : List UInt8) (x : Int) (hs : s.length ≤ 4611686018427387904) :
    Calls Try.prog 30 #[PtD q, .string (str s), .int .i64 x] w (DPlays q T (.int .i64 (addR D s x).1) (addR D s x).2 w) := by
  by_cases hno : s.length = 0 ∨ 31 < s.length ∨ 2000 ≤ D.W.length
  · exact add_no h s x hs hno
  · have e : addR D s x = (0, { D with W := D.W ++ [⟨s, x, false, D.c⟩] }) := by
      unfold addR
      rw [if_neg (by omega), if_neg (by omega), if_neg (by omega)]
    rw [e]
    exact add_ok h s x (by omega) (by omega) (by omega)
theorem now9_calls {w : World} {q : Nat} {T : List Nat} {D : Di} (h : Rd9 w q T D) : Calls Try.prog 31 #[PtD q] w (DPlays q T (.int .i64 (nowR D).1) (nowR D).2 w) := by
  unfold nowR
  cases hr : D.W.reverse with
  | nil => exact now_none h (by rw [← List.reverse_reverse D.W, hr]; rfl)
  | cons a r => exact now_ok h r.reverse a (by rw [← List.reverse_reverse D.W, hr, List.reverse_cons])
/-- Both are made. -/
theorem Dp.new {w0 w : World} {p : Nat} (h : Du w0 w p [] (one [])) : Calls Try.prog 11 #[] w fun e w' => ∃ q, e = .returned (PtD q) ∧ Dp w0 w' p q [] (one []) (one []) := by
  obtain ⟨T, h1, _⟩ := h
  refine (new9_calls w).mono ?_
  rintro e w' ⟨q, S, rfl, g1, g2, g3⟩
  exact ⟨q, rfl, T, S, h1.r.far g2, g1, h1.new, fun x hx => Nat.le_trans h1.m.size (g3 x hx), fun x hx hs => by have := h1.r.lt x hx; have := g3 x hs; omega, by simp, by simp, h1.m.trans g2⟩
/-- What SetCurrent answers and leaves. -/
def curR (D : Di) (l : Int) : Int × Di := if D.known l then (0, { D with c := l }) else (-49, D)
theorem curR_eq (D : Di) (l : Int) : (if D.known l then (0 : Int) else -49) = (curR D l).1 ∧ (if D.known l then { D with c := l } else D) = (curR D l).2 := by
  unfold curR
  cases D.known l <;> exact ⟨rfl, rfl⟩
/-- What List answers and leaves. -/
def lstR (D : Di) : (Int × Int) × Di := if D.k < 8 then ((((D.k + 1 : Nat) : Int), 0), { D with k := D.k + 1 }) else ((0, -49), D)
theorem lstR_eq (D : Di) : (if D.k < 8 then Value.tuple #[.int .i64 ((D.k + 1 : Nat) : Int), .int .i64 0] else .tuple #[.int .i64 0, .int .i64 (-49)]) = .tuple #[.int .i64 (lstR D).1.1, .int .i64 (lstR D).1.2] ∧ (if D.k < 8 then { D with k := D.k + 1 } else D) = (lstR D).2 := by
  unfold lstR
  split <;> exact ⟨rfl, rfl⟩
def Did (w0 : World) (p q : Nat) (U : List Nat) (r : Value) (D E : Di) (w : World) (e : Ending) (w' : World) : Prop := e = .returned r ∧ Dp w0 w' p q U D E ∧ Keep U w w'
def Said (w0 : World) (p q : Nat) (U : List Nat) (r : Value) (D E : Di) (w : World) (e : Ending) (w' : World) : Prop := e = .returned r ∧ Dp w0 w' p q U D E ∧ Mod [] w w'
theorem Dp.addP {w0 w : World} {p q : Nat} {U : List Nat} {D E : Di} (h : Dp w0 w p q U D E) (s : ByteArray) (hs : s.data.toList.length ≤ 40) (x : Int) : Calls Try.prog 22 #[PtD p, .string s, .int .i64 x] w (Did w0 p q U (.int .i64 (addR D s.data.toList x).1) (addR D s.data.toList x).2 E w) := by
  have := h.ofP fun T g => padd_calls g s.data.toList x (by omega)
  rw [← str_back s] at this
  exact this
theorem Dp.addQ {w0 w : World} {p q : Nat} {U : List Nat} {D E : Di} (h : Dp w0 w p q U D E) (s : ByteArray) (hs : s.data.toList.length ≤ 40) (x : Int) : Calls Try.prog 30 #[PtD q, .string s, .int .i64 x] w (Did w0 p q U (.int .i64 (addR E s.data.toList x).1) D (addR E s.data.toList x).2 w) := by
  have := h.ofQ fun T g => add9_calls g s.data.toList x (by omega)
  rw [← str_back s] at this
  exact this
theorem Dp.nowP {w0 w : World} {p q : Nat} {U : List Nat} {D E : Di} (h : Dp w0 w p q U D E) : Calls Try.prog 24 #[PtD p] w (Did w0 p q U (.int .i64 (nowR D).1) (nowR D).2 E w) := h.ofP fun T g => pnow_calls g
theorem Dp.nowQ {w0 w : World} {p q : Nat} {U : List Nat} {D E : Di} (h : Dp w0 w p q U D E) : Calls Try.prog 31 #[PtD q] w (Did w0 p q U (.int .i64 (nowR E).1) D (nowR E).2 w) := h.ofQ fun T g => now9_calls g
theorem Dp.curP {w0 w : World} {p q : Nat} {U : List Nat} {D E : Di} (h : Dp w0 w p q U D E) (l : Int) : Calls Try.prog 27 #[PtD p, .int .i64 l] w (Did w0 p q U (.int .i64 (curR D l).1) (curR D l).2 E w) := h.ofP fun T g => by
  have := psetcur_calls g l
  rw [(curR_eq D l).1, (curR_eq D l).2] at this
  exact this
theorem Dp.curQ' {w0 w : World} {p q : Nat} {U : List Nat} {D E : Di} (h : Dp w0 w p q U D E) (l : Int) : Calls Try.prog 36 #[PtD q, .int .i64 l] w (Did w0 p q U (.int .i64 (curR E l).1) D (curR E l).2 w) := h.ofQ fun T g => by
  have := setcur_calls g l
  rw [(curR_eq E l).1, (curR_eq E l).2] at this
  exact this
theorem Dp.lstP {w0 w : World} {p q : Nat} {U : List Nat} {D E : Di} (h : Dp w0 w p q U D E) : Calls Try.prog 26 #[PtD p] w (Did w0 p q U (.tuple #[.int .i64 (lstR D).1.1, .int .i64 (lstR D).1.2]) (lstR D).2 E w) := h.ofP fun T g => by
  have := plist_calls g
  rw [(lstR_eq D).1, (lstR_eq D).2] at this
  exact this
theorem Dp.lstQ {w0 w : World} {p q : Nat} {U : List Nat} {D E : Di} (h : Dp w0 w p q U D E) : Calls Try.prog 34 #[PtD q] w (Did w0 p q U (.tuple #[.int .i64 (lstR E).1.1, .int .i64 (lstR E).1.2]) D (lstR E).2 w) := h.ofQ fun T g => by
  have := list_calls g
  rw [(lstR_eq E).1, (lstR_eq E).2] at this
  exact this
theorem Dp.setP {w0 w : World} {p q : Nat} {U : List Nat} {D E : Di} (h : Dp w0 w p q U D E) {A : Option Addr} {n cap : Nat} {Y : List Int} (hY : IntsAt w0 A Y) (hn : n = Y.length) (hA : A = none → cap = 0) (hb : n ≤ 12) : Calls Try.prog 28 #[PtD p, .slice A n cap] w (Did w0 p q U (.int .i64 (ordR D Y).1) (ordR D Y).2 E w) := h.ofP fun T g => psetord_calls g (hY.far h.m) hn hA (by omega)
theorem Dp.setQ {w0 w : World} {p q : Nat} {U : List Nat} {D E : Di} (h : Dp w0 w p q U D E) {A : Option Addr} {n cap : Nat} {Y : List Int} (hY : IntsAt w0 A Y) (hn : n = Y.length) (hA : A = none → cap = 0) (hb : n ≤ 12) : Calls Try.prog 35 #[PtD q, .slice A n cap] w (Did w0 p q U (.int .i64 (ordR E Y).1) D (ordR E Y).2 w) := h.ofQ fun T g => setord9_calls g (hY.far h.m) hn hA (by omega)
theorem Dp.backP {w0 w : World} {p q : Nat} {U : List Nat} {D E : Di} (h : Dp w0 w p q U D E) (a b : Int) : Calls Try.prog 25 #[PtD p, .agg #[.int .i64 a, .int .i64 b]] w (Did w0 p q U (.int .i64 (backR D a b).1) (backR D a b).2 E w) := h.ofP fun T g => pback_calls g a b
theorem Dp.backQ {w0 w : World} {p q : Nat} {U : List Nat} {D E : Di} (h : Dp w0 w p q U D E) (a b : Int) (ha : I64 a) (hb : I64 b) : Calls Try.prog 37 #[PtD q, .agg #[.int .i64 a, .int .i64 b]] w (Did w0 p q U (.int .i64 (backR E a b).1) D (backR E a b).2 w) := h.ofQ fun T g => back9_calls g a b ha hb
theorem Dp.findP {w0 w : World} {p q : Nat} {U : List Nat} {D E : Di} (h : Dp w0 w p q U D E) (s : ByteArray) (hs : s.data.toList.length ≤ 40) {r : Value} (hr : resE (findW D.W D.O s.data.toList) = r) : Calls Try.prog 23 #[PtD p, .string s] w (Said w0 p q U r D E w) := by
  have := h.tellP fun T g => pfind_calls g s.data.toList (by omega)
  rw [← str_back s, hr] at this
  exact this
theorem Dp.findQ {w0 w : World} {p q : Nat} {U : List Nat} {D E : Di} (h : Dp w0 w p q U D E) (s : ByteArray) (hs : s.data.toList.length ≤ 40) {r : Value} (hr : resE (findW E.W E.O s.data.toList) = r) : Calls Try.prog 32 #[PtD q, .string s] w (Said w0 p q U r D E w) := by
  have := h.tellQ fun T g => find9_calls g s.data.toList (by omega)
  rw [← str_back s, hr] at this
  exact this
theorem Dp.innP {w0 w : World} {p q : Nat} {U : List Nat} {D E : Di} (h : Dp w0 w p q U D E) (l : Int) (s : ByteArray) (hs : s.data.toList.length ≤ 40) {r : Value} (hr : resE (inW D.W l s.data.toList) = r) : Calls Try.prog 29 #[PtD p, .int .i64 l, .string s] w (Said w0 p q U r D E w) := by
  have := h.tellP fun T g => pin_calls g l s.data.toList (by omega)
  rw [← str_back s, hr] at this
  exact this
theorem Dp.innQ {w0 w : World} {p q : Nat} {U : List Nat} {D E : Di} (h : Dp w0 w p q U D E) (l : Int) (s : ByteArray) (hs : s.data.toList.length ≤ 40) {r : Value} (hr : resE (inW E.W l s.data.toList) = r) : Calls Try.prog 33 #[PtD q, .int .i64 l, .string s] w (Said w0 p q U r D E w) := by
  have := h.tellQ fun T g => in9_calls g l s.data.toList (by omega)
  rw [← str_back s, hr] at this
  exact this
end Go.Proofs.Ytldnpppbnakcoaa
