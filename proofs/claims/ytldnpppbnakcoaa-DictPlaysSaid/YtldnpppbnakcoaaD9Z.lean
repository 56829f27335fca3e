/- Layer 9: a dictionary beside other blocks of the call's own (Du), its calls; texts that came in, cut texts. Condition: names have at most 9223372036854775807 bytes. -/
import Derived.Test.YtldnpppbnakcoaaD9Y
namespace Go.Proofs.Ytldnpppbnakcoaa
open Go.RowKit
set_option linter.unusedVariables false

/-- From w to w' none of the blocks U turned. -/
def Keep (U : List Nat) (w w' : World) : Prop := ∃ S, Mod S w w' ∧ ∀ x ∈ U, x ∉ S
theorem Keep.of {U : List Nat} {w w' : World} (m : Mod [] w w') : Keep U w w' := ⟨[], m, by simp⟩
theorem Keep.sub {U V : List Nat} {w w' : World} (h : Keep U w w') (hV : ∀ x ∈ V, x ∈ U) : Keep V w w' := h.elim fun S h => ⟨S, h.1, fun x hx => h.2 x (hV x hx)⟩
theorem Keep.cell {U : List Nat} {w w' : World} (h : Keep U w w') {x : Addr} {v : Value} (hx : x.block ∈ U) (hc : w.cell? x = some v) : w'.cell? x = some v := h.elim fun S h => h.1.cell (h.2 _ hx) hc
theorem Keep.frozen {U : List Nat} {w w' : World} (h : Keep U w w') {x : Addr} (hx : x.block ∈ U) (hl : x.block < w.heap.size) : w'.frozen? x = w.frozen? x := h.elim fun S h => h.1.frozen (h.2 _ hx) hl
theorem Keep.size {U : List Nat} {w w' : World} (h : Keep U w w') : w.heap.size ≤ w'.heap.size := h.elim fun S h => h.1.size
theorem row_keep {w w' : World} {U : List Nat} {base k n : Nat} {e : TypeId} {v : Value} {xs : List Value} (h : w.ownsRow base e k v n xs) (m : Keep U w w') (hU : ∀ g, v.ownBlock = some g → g ∈ U) : w'.ownsRow base e k v n xs := by
  obtain ⟨S, m, hS⟩ := m
  refine ⟨h.1, h.2.elim Or.inl fun ⟨g, cap, cur, h1, h2, h3, h4⟩ => Or.inr ⟨g, cap, cur, h1, h2, ?_, h4⟩⟩
  subst h1
  rw [m.block g (Array.getElem?_eq_some_iff.1 h3).1 (hS g (hU g rfl))]
  exact h3
/-- p is a dictionary that was made since w0, apart from the blocks U. -/
def Du (w0 w : World) (p : Nat) (U : List Nat) (D : Di) : Prop := ∃ T, DM w0 w p T D ∧ (∀ x ∈ U, x ∉ T) ∧ ∀ x ∈ U, x < w.heap.size
theorem Du.m {w0 w : World} {p : Nat} {U : List Nat} {D : Di} (h : Du w0 w p U D) : Mod [] w0 w := h.elim fun T h => h.1.m
theorem Du.far {w0 w w' : World} {p : Nat} {U : List Nat} {D : Di} (h : Du w0 w p U D) (m : Mod [] w w') : Du w0 w' p U D := h.elim fun T h => ⟨T, h.1.far m, h.2.1, fun x hx => Nat.lt_of_lt_of_le (h.2.2 x hx) m.size⟩
theorem Du.sub {w0 w : World} {p : Nat} {U V : List Nat} {D : Di} (h : Du w0 w p U D) (hV : ∀ x ∈ V, x ∈ U) : Du w0 w p V D := h.elim fun T h => ⟨T, h.1, fun x hx => h.2.1 x (hV x hx), fun x hx => h.2.2 x (hV x hx)⟩
/-- New blocks V, that were not there in w. -/
theorem Du.more {w0 w w' : World} {p : Nat} {U V : List Nat} {D : Di} (h : Du w0 w p U D) (m : Mod [] w w') (hV : ∀ x ∈ V, x ∈ U ∨ (w.heap.size ≤ x ∧ x < w'.heap.size)) : Du w0 w' p V D := by
  obtain ⟨T, h1, h2, h3⟩ := h
  refine ⟨T, h1.far m, fun x hx ht => ?_, fun x hx => ?_⟩
  · rcases hV x hx with hu | ⟨hl, _⟩
    · exact h2 x hu ht
    · have := h1.r.lt x ht; omega
  · rcases hV x hx with hu | ⟨_, hl⟩
    · exact Nat.lt_of_lt_of_le (h3 x hu) m.size
    · exact hl
/-- What is stored into blocks of U, or into new ones. -/
theorem Du.store {w0 w w' : World} {p : Nat} {U S : List Nat} {D : Di} (h : Du w0 w p U D) (m : Mod S w w') (hS : ∀ x ∈ S, x ∈ U) (h0 : ∀ x ∈ S, w0.heap.size ≤ x) : Du w0 w' p U D := by
  obtain ⟨T, h1, h2, h3⟩ := h
  exact ⟨T, ⟨h1.r.mod m fun x hx hs => h2 x (hS x hs) hx, h1.m.then m fun x hx => Or.inr (h0 x hx), h1.new⟩, h2, fun x hx => Nat.lt_of_lt_of_le (h3 x hx) m.size⟩
/-- f answers r; p is then the dictionary D; the blocks U stand as they stood. -/
def Dus (w0 : World) (p : Nat) (U : List Nat) (r : Value) (D : Di) (w : World) (e : Ending) (w' : World) : Prop := e = .returned r ∧ Du w0 w' p U D ∧ Keep U w w'
theorem du_of {w0 w : World} {p : Nat} {U : List Nat} {D D' : Di} {r : Value} {f : Nat} {xs : Array Value} (h : Du w0 w p U D) (k : ∀ T, Pd9 w p T D → Calls Try.prog f xs w (PPlays p T r D' w)) : Calls Try.prog f xs w (Dus w0 p U r D' w) := by
  obtain ⟨T, h1, h2, h3⟩ := h
  exact (k T h1.r).mono fun e w' ⟨e1, T', g1, g2⟩ => ⟨e1, ⟨T', h1.turn g1 g2, g2.apart h3 h2, fun x hx => Nat.lt_of_lt_of_le (h3 x hx) g2.1.size⟩, T, g2.1, h2⟩
/-- f answers r; p is still the dictionary D; nothing of what was there has turned. -/
def Durs (w0 : World) (p : Nat) (U : List Nat) (r : Value) (D : Di) (w : World) (e : Ending) (w' : World) : Prop := e = .returned r ∧ Du w0 w' p U D ∧ Mod [] w w'
theorem du_tells {w0 w : World} {p : Nat} {U : List Nat} {D : Di} {r : Value} {f : Nat} {xs : Array Value} (h : Du w0 w p U D) (k : ∀ T, Pd9 w p T D → Calls Try.prog f xs w (DTells r w)) : Calls Try.prog f xs w (Durs w0 p U r D w) := by
  have h' := h
  obtain ⟨T, h1, h2, h3⟩ := h
  exact (k T h1.r).mono fun e w' ⟨e1, m⟩ => ⟨e1, h'.far m, m⟩
theorem Du.new (w : World) : Calls Try.prog 10 #[] w fun e w' => ∃ p, e = .returned (PtD p) ∧ Du w w' p [] ⟨[], 1, [1], 1⟩ ∧ Mod [] w w' :=
  (pnew_calls w).mono fun e w' ⟨p, T, e1, h1, h2, h3⟩ => ⟨p, e1, ⟨T, ⟨h1, h2, h3⟩, by simp, by simp⟩, h2⟩
theorem Du.add {w0 w : World} {p : Nat} {U : List Nat} {D : Di} (h : Du w0 w p U D) (s : List UInt8) (x : Int) (hs : s.length ≤ 4611686018427387904) : Calls Try.prog 22 #[PtD p, .string (str s), .int .i64 x] w (Dus w0 p U (.int .i64 (addR D s x).1) (addR D s x).2 w) := du_of h fun T g => padd_calls g s x hs
theorem Du.now {w0 w : World} {p : Nat} {U : List Nat} {D : Di} (h : Du w0 w p U D) : Calls Try.prog 24 #[PtD p] w (Dus w0 p U (.int .i64 (nowR D).1) (nowR D).2 w) := du_of h fun T g => pnow_calls g
theorem Du.find {w0 w : World} {p : Nat} {U : List Nat} {D : Di} (h : Du w0 w p U D) (n : List UInt8) (hn : n.length ≤ 9223372036854775807) : Calls Try.prog 23 #[PtD p, .string (str n)] w (Durs w0 p U (resE (findW D.W D.O n)) D w) := du_tells h fun T g => pfind_calls g n hn
theorem Du.inn {w0 w : World} {p : Nat} {U : List Nat} {D : Di} (h : Du w0 w p U D) (l : Int) (n : List UInt8) (hn : n.length ≤ 9223372036854775807) : Calls Try.prog 29 #[PtD p, .int .i64 l, .string (str n)] w (Durs w0 p U (resE (inW D.W l n)) D w) := du_tells h fun T g => pin_calls g l n hn
theorem Du.mark {w0 w : World} {p : Nat} {U : List Nat} {D : Di} (h : Du w0 w p U D) : Calls Try.prog 17 #[PtD p] w (Durs w0 p U (.agg #[.int .i64 (D.W.length : Int), .int .i64 (D.k : Int)]) D w) := du_tells h fun T g => pmark_calls g
theorem Du.current {w0 w : World} {p : Nat} {U : List Nat} {D : Di} (h : Du w0 w p U D) : Calls Try.prog 14 #[PtD p] w (Durs w0 p U (.int .i64 D.c) D w) := du_tells h fun T g => pcurrent_calls g
theorem Du.list {w0 w : World} {p : Nat} {U : List Nat} {D : Di} (h : Du w0 w p U D) : Calls Try.prog 26 #[PtD p] w (Dus w0 p U (if D.k < 8 then .tuple #[.int .i64 ((D.k + 1 : Nat) : Int), .int .i64 0] else .tuple #[.int .i64 0, .int .i64 (-49)]) (if D.k < 8 then { D with k := D.k + 1 } else D) w) := du_of h fun T g => plist_calls g
theorem Du.setcur {w0 w : World} {p : Nat} {U : List Nat} {D : Di} (h : Du w0 w p U D) (l : Int) : Calls Try.prog 27 #[PtD p, .int .i64 l] w (Dus w0 p U (.int .i64 (if D.known l then 0 else -49)) (if D.known l then { D with c := l } else D) w) := du_of h fun T g => psetcur_calls g l
theorem Du.setord {w0 w : World} {p : Nat} {U : List Nat} {D : Di} (h : Du w0 w p U D) {A : Option Addr} {n cap : Nat} {Y : List Int} (hY : IntsAt w A Y) (hn : n = Y.length) (hA : A = none → cap = 0) (hb : n ≤ 9223372036854775807) : Calls Try.prog 28 #[PtD p, .slice A n cap] w (Dus w0 p U (.int .i64 (ordR D Y).1) (ordR D Y).2 w) := du_of h fun T g => psetord_calls g hY hn hA hb
/-- f answers a row of these numbers, one of its own. -/
def Dui (w0 : World) (p : Nat) (U : List Nat) (Y : List Int) (D : Di) (w : World) (e : Ending) (w' : World) : Prop := ∃ A cap, e = .returned (.slice A Y.length cap) ∧ Ir w' w.heap.size (.slice A Y.length cap) Y ∧ IntsAt w' A Y ∧ (A = none → cap = 0) ∧ Du w0 w' p U D ∧ Mod [] w w'
theorem Du.order {w0 w : World} {p : Nat} {U : List Nat} {D : Di} (h : Du w0 w p U D) : Calls Try.prog 16 #[PtD p] w (Dui w0 p U D.O D w) := by
  have h' := h
  obtain ⟨T, h, _⟩ := h
  refine (porder_calls h.r).mono ?_
  rintro e w' ⟨v, rfl, h1, h2⟩
  obtain ⟨A, cap, rfl, h3, h4, _⟩ := h1.opened
  exact ⟨A, cap, rfl, h1, h3, h4, h'.far h2, h2⟩
def Dut (w0 : World) (p : Nat) (U : List Nat) (X : List ByteArray) (D : Di) (w : World) (e : Ending) (w' : World) : Prop := ∃ A cap, e = .returned (.slice A X.length cap) ∧ TxAt w' A X ∧ Du w0 w' p U D ∧ Mod [] w w'
theorem Du.names {w0 w : World} {p : Nat} {U : List Nat} {D : Di} (h : Du w0 w p U D) (l : Int) : Calls Try.prog 20 #[PtD p, .int .i64 l] w (Dut w0 p U (namesW D.W l) D w) := by
  have h' := h
  obtain ⟨T, h, _⟩ := h
  refine (pnames_calls h.r l).mono ?_
  rintro e w' ⟨v, rfl, h1, h2⟩
  obtain ⟨A, cap, rfl, h3⟩ := h1.txat
  exact ⟨A, cap, rfl, h3, h'.far h2, h2⟩
theorem texts_same {w : World} {A B : Option Addr} {n m c d : Nat} {X : List ByteArray} (hA : TxAt w A X) (hB : TxAt w B X) (hn : n = X.length) (hm : m = X.length) (hb : n ≤ 1000000000) :
    Calls Try.prog 19 #[.slice A n c, .slice B m d] w fun e w' => e = .returned (.bool true) ∧ Mod [] w w' :=
  (texts_calls hA hB hn hm hb).mono fun e w' h => by simpa using h
theorem ints_same {w : World} {A B : Option Addr} {n m c d : Nat} {X : List Int} (hA : IntsAt w A X) (hB : IntsAt w B X) (hn : n = X.length) (hm : m = X.length) (hb : n ≤ 1000000000) :
    Calls Try.prog 15 #[.slice A n c, .slice B m d] w fun e w' => e = .returned (.bool true) ∧ Mod [] w w' :=
  (ints_calls hA hB hn hm hb).mono fun e w' h => by simpa using h
theorem ent_new (w : World) (F : ByteArray) (x : Int) (b : Bool) : (w.alloc (.cells #[.string F, .int .i64 x, .bool b] 49)).cell? ⟨w.heap.size, 0, none⟩ = some (.string F) ∧ (w.alloc (.cells #[.string F, .int .i64 x, .bool b] 49)).cell? ⟨w.heap.size, 1, none⟩ = some (.int .i64 x) ∧ (w.alloc (.cells #[.string F, .int .i64 x, .bool b] 49)).cell? ⟨w.heap.size, 2, none⟩ = some (.bool b) := by
  have hb := (MapKept.heap_alloc w (.cells #[.string F, .int .i64 x, .bool b] 49)).1
  refine ⟨?_, ?_, ?_⟩
  · simp only [World.cell?, hb]; rfl
  · simp only [World.cell?, hb]; rfl
  · simp only [World.cell?, hb]; rfl
/-- Texts that came in. -/
structure TxIn (w : World) (A : Option Addr) (L : List ByteArray) : Prop where
  cell : ∀ i (hi : i < L.length), ∃ x, A = some x ∧ w.cell? (x.add i) = some (.string L[i])
  size : ∀ s ∈ L, s.size ≤ 9223372036854775807
theorem TxIn.mod {w w' : World} {A : Option Addr} {L : List ByteArray} (h : TxIn w A L) (k : Mod [] w w') : TxIn w' A L :=
  ⟨fun i hi => by obtain ⟨x, e, hc⟩ := h.cell i hi; exact ⟨x, e, k.cell (by simp) hc⟩, h.size⟩
theorem TxIn.take {w : World} {A : Option Addr} {L : List ByteArray} (h : TxIn w A L) (n : Nat) : TxIn w A (L.take n) :=
  ⟨fun i hi => by
    obtain ⟨x, e, hc⟩ := h.cell i (by simp at hi; omega)
    exact ⟨x, e, by rw [hc]; simp⟩, fun s hs => h.size s (List.mem_of_mem_take hs)⟩
/-- The first m bytes of a text. -/
def cutN (m : Nat) (S : ByteArray) : List UInt8 := S.data.toList.take m
theorem cutN_len (m : Nat) (S : ByteArray) : (cutN m S).length ≤ m := by unfold cutN; rw [List.length_take]; omega
theorem cutN_short {m : Nat} {S : ByteArray} (h : S.size ≤ m) : S = str (cutN m S) := by
  unfold cutN
  rw [List.take_of_length_le (by rw [Array.length_toList]; exact h)]
  exact str_back S
theorem cutN_long (m : Nat) (S : ByteArray) : S.extract 0 m = str (cutN m S) := by
  have h := str_extract S.data.toList 0 m
  rw [← str_back S] at h
  rw [h]
  simp [cutN]
theorem cutN_min (m : Nat) (S : ByteArray) : S.extract 0 (min (S.size : Int) (m : Int)).toNat = str (cutN m S) := by
  by_cases h : S.size ≤ m
  · rw [show (min (S.size : Int) (m : Int)).toNat = S.size by omega, ← cutN_short h]
    rw [cutN_long, ← cutN_short (Nat.le_refl _)]
  · rw [show (min (S.size : Int) (m : Int)).toNat = m by omega]
    exact cutN_long m S
theorem size_str9 (W : World) : (Go.sizeOf 9).run Try.prog W = .ok 1 W := by kernel_rfl
/-- The first k of the texts. -/
theorem texts_upto (A : Option Addr) (len cap k : Nat) (hk : k ≤ cap) (W : World) :
    (Instr.sliceAt 43 (.slice A len cap) none (some (.int .i64 (k : Int))) none).run Try.prog W = .ok (.slice A k cap) W := by
  have ht := Try.underlying43
  have he : Try.prog.elem 43 = 9 := by simp [Program.elem, ht]
  have ht' : Try.prog.underlying 43 = some (.slice (Try.prog.elem 43)) := by rw [he]; exact ht
  rw [run_sliceAt_slice W 43 _ _ _ _ ht', run_slice_h W 43 A len cap ht' .i64 k (by omega) (by omega), he, size_str9]
  show Result.ok (sliced A 0 (k : Int).toNat cap 1) W = _
  unfold sliced
  have e1 : (if cap = 0 then A else A.map fun x => x.add (0 * 1)) = A := by
    split
    · rfl
    · cases A with
      | none => rfl
      | some x => show some (x.add (0 * 1)) = _; rw [Nat.zero_mul, addr_zero9]
  rw [e1, Int.toNat_natCast, Nat.sub_zero, Nat.sub_zero]
end Go.Proofs.Ytldnpppbnakcoaa
