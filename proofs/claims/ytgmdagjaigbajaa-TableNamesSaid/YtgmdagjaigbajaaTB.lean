/- Layer 12: split of package table: the words of a text. Condition: texts of at most 2^62 bytes and 1000000 words. -/
import Derived.Test.YtgmdagjaigbajaaTA
import Derived.Test.YtgmdagjaigbajaaSrow
import Derived.Deep.LoopGhost
namespace Go.Proofs.Ytgmdagjaigbajaa
open Go.RowKit
set_option linter.unusedVariables false

/-- Texts that lie where a slice begins. -/
def TxAt (w : World) (A : Option Addr) (X : List ByteArray) : Prop := ∀ i (hi : i < X.length), ∃ b o, A = some ⟨b, o, none⟩ ∧ w.cell? ⟨b, o + i, none⟩ = some (.string X[i])
theorem TxAt.far {w w' : World} {A : Option Addr} {X : List ByteArray} (h : TxAt w A X) (m : Mod [] w w') : TxAt w' A X := fun i hi => by
  obtain ⟨b, o, e, hc⟩ := h i hi
  exact ⟨b, o, e, m.cell (by simp) hc⟩
theorem Sr.txat {w : World} {base : Nat} {v : Value} {X : List ByteArray} (h : Sr w base v X) : ∃ A cap, v = .slice A X.length cap ∧ TxAt w A X := by
  obtain ⟨A, cap, e, hc⟩ := h.opened
  exact ⟨A, cap, e, fun i hi => by
    obtain ⟨b, e2, hcc⟩ := hc i hi
    exact ⟨b, 0, e2, by rw [Nat.zero_add]; exact hcc⟩⟩
theorem toList_inj9 {s t : ByteArray} (h : s.toList = t.toList) : s = t := by
  rw [ByteArray.toList_eq, ByteArray.toList_eq] at h
  rw [str_back s, str_back t, h]
theorem str_ne {s : List UInt8} (h : s ≠ []) : (str s).toList.isEmpty = false := by
  rw [ByteArray.toList_eq, List.isEmpty_eq_false_iff]
  intro e
  have : (str s).data.toList = s := str_list s
  rw [e] at this
  exact h this.symm
set_option maxHeartbeats 4000000 in
theorem split_calls (L : List UInt8) (Ws : List (List UInt8)) (h : splB L 0 Ws = true) (hl : L.length ≤ 4611686018427387904) (hW : Ws.length ≤ 1000000) {S : ByteArray} (hS : S = str L) (w : World) :
    Calls Try.prog 22 #[.string S] w fun e w' => ∃ v, e = .returned v ∧ Sr w' w.heap.size v (Ws.map str) ∧ Mod [] w w' := by
  have HW := Lib.hid (fun i => word_calls L hl i)
  have HS := Lib.hid h
  have HWl := Lib.hid hW
  rw [← hS] at HW
  clear h hl hS hW
  go_enter Try.func22, Try.ntmps22
  go_wp2_with fail
  refine (HW.out 0 _).mono ?_
  rintro e w1 ⟨rfl, hm1⟩
  have HM1 := Lib.hid hm1
  clear hm1
  go_wp2_with fail
  go_loopg [3, 4, 5] Ws.length (fun g v s y wr => ∃ (X R : List (List UInt8)) (i : Nat), s = .string (str (wordL L i).1) ∧ y = .int .i64 (((wordL L i).2 : Nat) : Int) ∧ R.length = g ∧ RowKit.Hid (X ++ R = Ws ∧ splB L i R = true ∧ Sr wr w.heap.size v (X.map str) ∧ Mod [] w wr))
  case atStart => exact ⟨[], Ws, 0, rfl, rfl, rfl, Lib.hid ⟨rfl, HS.out, Sr.nil _ _, HM1.out⟩⟩
  case round =>
    obtain ⟨X, R, i, rfl, rfl, hg, hi⟩ := hrel
    obtain ⟨h1, h2, h3, h4⟩ := hi.out
    have HG := Lib.hid hg
    clear hi hg
    match R, h1, h2 with
    | [], h1, h2 =>
      have e : (wordL L i).1 = [] := by simpa [splB] using h2
      rw [e]
      obtain ⟨y, hy⟩ : ∃ y, y = (((wordL L i).2 : Nat) : Int) := ⟨_, rfl⟩
      rw [← hy]
      have H := Lib.hid (And.intro h1 (And.intro h3 h4))
      have he : (str []).toList.isEmpty = true := by rw [ByteArray.toList_eq]; rfl
      clear h1 h2 h3 h4 hy e
      obtain ⟨E, hE⟩ : ∃ E, E = str [] := ⟨_, rfl⟩
      rw [← hE] at he ⊢
      clear hE
      go_wp2_with fail
      go_ret
      refine ⟨_, rfl, ?_, H.out.2.2⟩
      have := H.out.1
      rw [List.append_nil] at this
      rw [← this]
      exact H.out.2.1
    | s :: R, h1, h2 =>
      simp only [splB, Bool.and_eq_true] at h2
      obtain ⟨q1, q2, q3⟩ := h2
      have q2 : (wordL L i).1 = s := by simpa using q2
      have hs : s ≠ [] := by intro e; rw [e] at q1; simp at q1
      have he := str_ne hs
      obtain ⟨t, ht⟩ : ∃ t, t = str s := ⟨_, rfl⟩
      obtain ⟨y, hy⟩ : ∃ y, y = (wordL L i).2 := ⟨_, rfl⟩
      rw [q2, ← ht, ← hy]
      rw [← ht] at he
      rw [← hy] at q3
      have hlen : (X.map str).length ≤ 1000000000 := by
        have := congrArg List.length h1
        have := HWl.out
        simp at *
        omega
      have HB := Lib.hid (h3.far ((Mod.refl [] wr).alloc (.cells #[.string t] 9)))
      have HM := Lib.hid (h4.alloc (.cells #[.string t] 9))
      have HC := Lib.hid (one_str wr t 9)
      have HX := Lib.hid (And.intro h1 (And.intro q3 (And.intro ht hlen)))
      clear h1 h3 h4 q1 q2 q3 hs ht hy hlen
      go_wp2_with (refine wpList_appT rfl (.tmp 19) (.tmp 21) rfl HB.out HM.out.size HX.out.2.2.2 _ 1 t HC.out rfl rfl ?_)
      intro v' w' b1 b2
      have B1 := Lib.hid b1
      have M1 := Lib.hid (HM.out.below_of b2 (Nat.le_refl _))
      clear b1 b2
      go_wp2_with fail
      refine (HW.out (y : Int) _).mono ?_
      rintro e w2 ⟨rfl, hm2⟩
      have M2 := Lib.hid hm2
      clear hm2
      go_wp2_with fail
      go_roundg R.length
      case measure => have := HG.out; simp at this; omega
      case rel =>
        refine ⟨X ++ [s], R, y, rfl, rfl, rfl, Lib.hid ⟨by rw [← HX.out.1]; simp, HX.out.2.1, ?_, M1.out.trans M2.out⟩⟩
        have := B1.out.far M2.out
        rw [HX.out.2.2.1] at this
        simpa using this
end Go.Proofs.Ytgmdagjaigbajaa
