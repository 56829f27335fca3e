/- Layer 8: what is told of an input with or without sources; two inputs side by side. No condition. -/
import Derived.Test.YtmbcjphgjdffmaaS8I
import Derived.Laws.IdiomStrings
import Derived.Laws.BytesArg
namespace Go.Proofs.Ytmbcjphgjdffmaa
open Go.RowKit
set_option linter.unusedVariables false

/-- The last source, or one that has nothing. -/
def lastS (L : List Sc) : Sc := L.getLast?.getD ⟨[], 0, 0⟩
theorem lastS_snoc (B : List Sc) (x : Sc) : lastS (B ++ [x]) = x := by simp [lastS]
theorem nil_or_snoc (L : List Sc) : L = [] ∨ ∃ B x, L = B ++ [x] := by
  rcases List.eq_nil_or_concat L with h | ⟨B, x, h⟩
  · exact Or.inl h
  · exact Or.inr ⟨B, x, by rw [h, List.concat_eq_append]⟩
theorem save_any {w : World} {p : Nat} {S : List Nat} {L : List Sc} {M : Nat} (h : Inp w p S L M) :
    Calls Try.prog 11 #[Pt p] w (Tells (.tuple #[.int .i64 ((lastS L).n : Int), .int .i64 ((lastS L).i : Int)]) w) := by
  rcases nil_or_snoc L with rfl | ⟨B, x, rfl⟩
  · exact save_bare (Nothing.of h)
  · rw [lastS_snoc]; exact save_top h
theorem text_any {w : World} {p : Nat} {S : List Nat} {L : List Sc} {M : Nat} (h : Inp w p S L M) :
    Calls Try.prog 15 #[Pt p] w (Tells (.string (str (lastS L).t)) w) := by
  rcases nil_or_snoc L with rfl | ⟨B, x, rfl⟩
  · exact text_bare (Nothing.of h)
  · rw [lastS_snoc]
    refine (text_top h).mono ?_
    rintro e w' ⟨rfl, rfl⟩
    exact ⟨rfl, Mod.refl [] w⟩
theorem in_any {w : World} {p : Nat} {S : List Nat} {L : List Sc} {M : Nat} (h : Inp w p S L M) :
    Calls Try.prog 12 #[Pt p] w (Tells (.int .i64 ((lastS L).i : Int)) w) := by
  rcases nil_or_snoc L with rfl | ⟨B, x, rfl⟩
  · exact in_bare (Nothing.of h)
  · rw [lastS_snoc]
    refine (in_top h).mono ?_
    rintro e w' ⟨rfl, rfl⟩
    exact ⟨rfl, Mod.refl [] w⟩
/-- Two inputs made since w0, side by side. -/
structure Both (w0 w : World) (p : Nat) (S : List Nat) (L : List Sc) (M q : Nat) (T : List Nat) (K : List Sc) (N : Nat) : Prop where
  a : Mine w0 w p S L M
  b : Mine w0 w q T K N
  d : ∀ x ∈ S, x ∉ T
theorem Both.flip {w0 w : World} {p : Nat} {S : List Nat} {L : List Sc} {M q : Nat} {T : List Nat} {K : List Sc} {N : Nat} (h : Both w0 w p S L M q T K N) : Both w0 w q T K N p S L M := ⟨h.b, h.a, fun x hx hs => h.d x hs hx⟩
theorem Both.far {w0 w w' : World} {p : Nat} {S : List Nat} {L : List Sc} {M q : Nat} {T : List Nat} {K : List Sc} {N : Nat} (h : Both w0 w p S L M q T K N) (k : Mod [] w w') : Both w0 w' p S L M q T K N := ⟨h.a.far k, h.b.far k, h.d⟩
theorem Both.left {w0 w w' : World} {p : Nat} {S S' : List Nat} {L L' : List Sc} {M M' q : Nat} {T : List Nat} {K : List Sc} {N : Nat} (h : Both w0 w p S L M q T K N) (k : Inp w' p S' L' M') (t : Turn S S' w w') : Both w0 w' p S' L' M' q T K N :=
  have hd : ∀ x ∈ T, x ∉ S := fun x hx hs => h.d x hs hx
  have ha := h.a.turn k t
  ⟨ha, ⟨h.b.i.mod t.1 hd, ha.m, h.b.n⟩, fun x hx ht => (t.apart h.b.i.lt hd x ht) hx⟩
def Boths (w0 : World) (u : Value) (p : Nat) (L : List Sc) (M q : Nat) (K : List Sc) (N : Nat) (e : Ending) (w' : World) : Prop := e = .returned u ∧ ∃ S T, Both w0 w' p S L M q T K N
theorem Both.of {w0 w : World} {p : Nat} {S : List Nat} {L L' : List Sc} {M M' q : Nat} {T : List Nat} {K : List Sc} {N : Nat} {u : Value} {f : FuncId} {xs : Array Value} (h : Both w0 w p S L M q T K N) (k : Calls Try.prog f xs w (Plays p S u L' M' w)) : Calls Try.prog f xs w (Boths w0 u p L' M' q K N) := by
  refine k.mono ?_
  rintro e w' ⟨rfl, S', h1, h2⟩
  exact ⟨rfl, S', T, h.left h1 h2⟩
theorem Both.of2 {w0 w : World} {p : Nat} {S : List Nat} {L K' : List Sc} {M N' q : Nat} {T : List Nat} {K : List Sc} {N : Nat} {u : Value} {f : FuncId} {xs : Array Value} (h : Both w0 w p S L M q T K N) (k : Calls Try.prog f xs w (Plays q T u K' N' w)) : Calls Try.prog f xs w (Boths w0 u p L M q K' N') := by
  refine k.mono ?_
  rintro e w' ⟨rfl, S', h1, h2⟩
  exact ⟨rfl, S, S', (h.flip.left h1 h2).flip⟩
theorem Both.new {w0 w : World} {p : Nat} {S : List Nat} {L : List Sc} {M : Nat} (h : Mine w0 w p S L M) : Calls Try.prog 8 #[] w fun e w' => ∃ q, e = .returned (Pt q) ∧ Both w0 w' p S L M q [q] [] 0 := by
  refine (new_calls w).mono ?_
  rintro e w' ⟨q, rfl, h1, h2, h3⟩
  exact ⟨q, rfl, h.far h2, ⟨h1, h.m.trans h2, by simpa using Nat.le_trans h.m.size h3⟩, fun x hx hq => by
    have := h.i.lt x hx
    simp at hq
    omega⟩
theorem infoByte8 : (Try.prog.info? 5).map (fun i => (i.zero, i.size, i.bytes)) = some (some (.int .u8 0), 1, 1) := by kernel_rfl
theorem conv_bytes (W : World) (l : List UInt8) : (convert 39 9 (.slice (some ⟨W.heap.size, 0, none⟩) l.length l.length)).run Try.prog (W.alloc (.cells (l.map fun c => Value.int .u8 (c.toNat : Int)).toArray 5)) = .ok (.string (str l)) (W.alloc (.cells (l.map fun c => Value.int .u8 (c.toNat : Int)).toArray 5)) := by
  refine run_convert_bytes_back (P := Try.prog) _ 39 9 5 ⟨W.heap.size, 0, none⟩ l.length l Try.underlying39 Try.underlying5 Try.underlying9 fun j hj => ?_
  have hb := (MapKept.heap_alloc W (.cells (l.map fun c => Value.int .u8 (c.toNat : Int)).toArray 5)).1
  rw [WideShapes.add_plain, Nat.zero_add]
  simp only [World.cell?, hb]
  simp [hj]
theorem made_zeros8 (n : Nat) : madeCells #[.int .u8 0] (n * 1) = ((List.replicate n (0 : UInt8)).map fun c => Value.int .u8 (c.toNat : Int)).toArray := by
  apply Array.toList_inj.1
  rw [toList_madeCells_one]
  simp
theorem make_zeros8 (w : World) (n : Nat) (h : n ≤ 65536) : (Instr.makeSlice 39 (.int .i64 (n : Int)) (.int .i64 (n : Int))).run Try.prog w = .ok (.slice (some ⟨w.heap.size, 0, none⟩) n n) (w.alloc (.cells ((List.replicate n (0 : UInt8)).map fun c => Value.int .u8 (c.toNat : Int)).toArray 5)) := by
  obtain ⟨i, hi, hz0, hz1, hz2⟩ := info_parts infoByte8
  have := run_make (P := Try.prog) w 39 5 i (.int .u8 0) Try.underlying39 hi hz0 .i64 .i64 n n (by omega) (Int.le_refl _) (by rw [hz2]; omega) (by omega)
  rw [this, hz1]
  simp only [Int.toNat_natCast]
  rw [← made_zeros8 n]
  rfl
/-- Texts that came in. -/
structure TextsIn (w : World) (A : Option Addr) (L : List ByteArray) : Prop where
  cell : ∀ i (hi : i < L.length), ∃ x, A = some x ∧ w.cell? (x.add i) = some (.string L[i])
  size : ∀ s ∈ L, s.size ≤ 9223372036854775807
theorem TextsIn.mod {w w' : World} {A : Option Addr} {L : List ByteArray} (h : TextsIn w A L) (k : Mod [] w w') : TextsIn w' A L :=
  ⟨fun i hi => by obtain ⟨x, e, hc⟩ := h.cell i hi; exact ⟨x, e, k.cell (by simp) hc⟩, h.size⟩
theorem addr_zero (x : Addr) : x.add 0 = x := by unfold Addr.add; simp
theorem size_str (W : World) : (Go.sizeOf 9).run Try.prog W = .ok 1 W := by kernel_rfl
/-- The first k of them. -/
theorem texts_upto (A : Option Addr) (len cap k : Nat) (hk : k ≤ cap) (W : World) :
    (Instr.sliceAt 31 (.slice A len cap) none (some (.int .i64 (k : Int))) none).run Try.prog W = .ok (.slice A k cap) W := by
  have ht := Try.underlying31
  have he : Try.prog.elem 31 = 9 := by simp [Program.elem, ht]
  have ht' : Try.prog.underlying 31 = some (.slice (Try.prog.elem 31)) := by rw [he]; exact ht
  rw [run_sliceAt_slice W 31 _ _ _ _ ht', run_slice_h W 31 A len cap ht' .i64 k (by omega) (by omega), he, size_str]
  show Result.ok (sliced A 0 (k : Int).toNat cap 1) W = _
  unfold sliced
  have e1 : (if cap = 0 then A else A.map fun x => x.add (0 * 1)) = A := by
    split
    · rfl
    · cases A with
      | none => rfl
      | some x => show some (x.add (0 * 1)) = _; rw [Nat.zero_mul, addr_zero]
  rw [e1, Int.toNat_natCast, Nat.sub_zero, Nat.sub_zero]
end Go.Proofs.Ytmbcjphgjdffmaa
