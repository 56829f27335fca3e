/- Layer 8: an input that a law made for itself; the document's example (shown). Condition: fewer than 1000000000 sources are opened. -/
import Derived.Test.YtmbcjphgjdffmaaS8G
namespace Go.Proofs.Ytmbcjphgjdffmaa
open Go.RowKit
set_option linter.unusedVariables false

/-- Block p is an input made since w0; of what was there in w0 nothing has turned. -/
structure Mine (w0 w : World) (p : Nat) (S : List Nat) (L : List Sc) (M : Nat) : Prop where
  i : Inp w p S L M
  m : Mod [] w0 w
  n : ∀ x ∈ S, w0.heap.size ≤ x
theorem Mine.turn {w0 w w' : World} {p : Nat} {S S' : List Nat} {L L' : List Sc} {M M' : Nat} (h : Mine w0 w p S L M) (k : Inp w' p S' L' M') (t : Turn S S' w w') : Mine w0 w' p S' L' M' :=
  ⟨k, h.m.then t.1 fun x hx => Or.inr (h.n x hx), fun x hx => (t.2 x hx).elim (h.n x) fun hl => Nat.le_trans h.m.size hl⟩
theorem Mine.far {w0 w w' : World} {p : Nat} {S : List Nat} {L : List Sc} {M : Nat} (h : Mine w0 w p S L M) (k : Mod [] w w') : Mine w0 w' p S L M := ⟨h.i.far k, h.m.trans k, h.n⟩
/-- f answers v; p is then an input of these sources. -/
def Mines (w0 : World) (p : Nat) (S : List Nat) (v : Value) (L : List Sc) (M : Nat) (w : World) (e : Ending) (w' : World) : Prop := e = .returned v ∧ ∃ S', Mine w0 w' p S' L M ∧ Turn S S' w w'
theorem Mine.of {w0 w : World} {p : Nat} {S : List Nat} {L L' : List Sc} {M M' : Nat} {v : Value} {f : FuncId} {xs : Array Value} (h : Mine w0 w p S L M) (k : Calls Try.prog f xs w (Plays p S v L' M' w)) : Calls Try.prog f xs w (Mines w0 p S v L' M' w) := by
  refine k.mono ?_
  rintro e w' ⟨rfl, S', h1, h2⟩
  exact ⟨rfl, S', h.turn h1 h2, h2⟩
theorem Mine.new (w : World) : Calls Try.prog 8 #[] w fun e w' => ∃ p, e = .returned (Pt p) ∧ Mine w w' p [p] [] 0 := by
  refine (new_calls w).mono ?_
  rintro e w' ⟨p, rfl, h1, h2, h3⟩
  exact ⟨p, rfl, h1, h2, by simpa using h3⟩
theorem Mine.word {w0 w : World} {p : Nat} {S : List Nat} {B : List Sc} {x : Sc} {M : Nat} (h : Mine w0 w p S (B ++ [x]) M) :
    Calls Try.prog 10 #[Pt p] w (Mines w0 p S (.string (str (wordL x.t x.i).1)) (B ++ [{ x with i := (wordL x.t x.i).2 }]) M w) := h.of (word_top h.i)
theorem Mine.open {w0 w : World} {p : Nat} {S : List Nat} {L : List Sc} {M : Nat} (h : Mine w0 w p S L M) (s : List UInt8) (hs : s.length ≤ 1000) (hl : L.length < 8) (hM : M ≤ 1000000000) :
    Calls Try.prog 9 #[Pt p, .string (str s)] w (Mines w0 p S (.int .i64 0) (L ++ [⟨s, 0, M + 1⟩]) (M + 1) w) := h.of (open_ok h.i s hs hl hM)
theorem Mine.close {w0 w : World} {p : Nat} {S : List Nat} {B : List Sc} {x : Sc} {M : Nat} (h : Mine w0 w p S (B ++ [x]) M) :
    Calls Try.prog 14 #[Pt p] w (Mines w0 p S (.int .i64 0) B M w) := h.of (close_ok h.i)
theorem str_toList (l : List UInt8) : (str l).toList = l := by rw [ByteArray.toList_eq, str_list]
theorem shown_word1 : wordL [97, 32, 98] ((0 : Nat) : Int) = ([97], 2) := by decide
theorem shown_word2 : wordL [99] ((0 : Nat) : Int) = ([99], 1) := by decide
theorem shown_word3 : wordL [97, 32, 98] ((2 : Nat) : Int) = ([98], 3) := by decide
set_option maxHeartbeats 2000000 in
theorem shown_calls (w : World) : Calls Try.prog 7 #[] w fun e w' => e = .returned (.bool true) ∧ Mod [] w w' := by
  have H := Lib.hid (Mine.new w)
  have q1 := str_toList [97]
  have q2 := str_toList [99]
  have q3 := str_toList [98]
  go_enter Try.func7, Try.ntmps7
  go_wp2_with fail
  refine (H.out).mono ?_
  rintro e w1 ⟨p, rfl, h1⟩
  have H1 := Lib.hid (show Calls Try.prog 9 #[Pt p, .string { data := #[97, 32, 98] }] w1 (Mines w p [p] (.int .i64 0) [⟨[97, 32, 98], 0, 1⟩] 1 w1) from h1.open [97, 32, 98] (by simp) (by simp) (by omega))
  clear h1
  go_wp2_with fail
  refine (H1.out).mono ?_
  rintro e w2 ⟨rfl, S2, h2, _⟩
  have k := Mine.word (B := []) h2
  rw [shown_word1] at k
  have H2 := Lib.hid k
  clear h2 k
  go_wp2_with fail
  refine (H2.out).mono ?_
  rintro e w3 ⟨rfl, S3, h3, _⟩
  have H3 := Lib.hid (show Calls Try.prog 9 #[Pt p, .string { data := #[99] }] w3 (Mines w p S3 (.int .i64 0) [⟨[97, 32, 98], 2, 1⟩, ⟨[99], 0, 2⟩] 2 w3) from h3.open [99] (by simp) (by simp) (by omega))
  clear h3
  go_wp2_with fail
  refine (H3.out).mono ?_
  rintro e w4 ⟨rfl, S4, h4, _⟩
  have k := Mine.word (B := [⟨[97, 32, 98], 2, 1⟩]) h4
  rw [shown_word2] at k
  have H4 := Lib.hid k
  clear h4 k
  go_wp2_with fail
  refine (H4.out).mono ?_
  rintro e w5 ⟨rfl, S5, h5, _⟩
  have H5 := Lib.hid (Mine.close h5)
  clear h5
  go_wp2_with fail
  refine (H5.out).mono ?_
  rintro e w6 ⟨rfl, S6, h6, _⟩
  have k := Mine.word (B := []) h6
  rw [shown_word3] at k
  have H6 := Lib.hid k
  clear h6 k
  go_wp2_with fail
  refine (H6.out).mono ?_
  rintro e w7 ⟨rfl, S7, h7, _⟩
  have HM := Lib.hid h7.m
  clear h7
  go_wp2_with fail
  go_ret
  exact ⟨rfl, HM.out⟩
end Go.Proofs.Ytmbcjphgjdffmaa
