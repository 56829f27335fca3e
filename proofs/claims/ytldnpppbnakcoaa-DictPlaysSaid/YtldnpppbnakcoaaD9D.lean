/- Layer 9 (package rhytonref09): the document's Find and Names. Condition: the block is such a dictionary (Rd9). -/
import Derived.Test.YtldnpppbnakcoaaD9C
import Derived.Test.YtldnpppbnakcoaaSrow
namespace Go.Proofs.Ytldnpppbnakcoaa
open Go.RowKit
set_option linter.unusedVariables false

/-- The word that the first list of the order has. -/
def findW (W : List We) (O : List Int) (n : List UInt8) : Option We := O.findSome? fun l => inW W l n
theorem findW_none {W : List We} {O : List Int} {n : List UInt8} (h : ∀ j (hj : j < O.length), inW W O[j] n = none) : findW W O n = none := by
  unfold findW
  rw [List.findSome?_eq_none_iff]
  intro l hl
  obtain ⟨j, hj, rfl⟩ := List.getElem_of_mem hl
  exact h j hj
theorem findW_at (W : List We) (O : List Int) (n : List UInt8) (j : Nat) (hj : j < O.length) (a : We) (h1 : inW W O[j] n = some a) (h2 : ∀ t (ht : t < O.length), t < j → inW W O[t] n = none) : findW W O n = some a := by
  have e : O = O.take j ++ O[j] :: O.drop (j + 1) := by rw [← List.drop_eq_getElem_cons hj, List.take_append_drop]
  unfold findW
  generalize hx : O[j] = x at e h1
  rw [e, List.findSome?_append]
  have hn : (O.take j).findSome? (fun l => inW W l n) = none := by
    rw [List.findSome?_eq_none_iff]
    intro l hl
    obtain ⟨t, ht, rfl⟩ := List.getElem_of_mem hl
    rw [List.getElem_take]
    have ht' : t < O.length := by simp at ht; omega
    exact h2 t ht' (by simp at ht; omega)
  rw [hn]
  simp [h1]
set_option maxHeartbeats 4000000 in
theorem find9_calls {w : World} {q : Nat} {T : List Nat} {D : Di} (h : Rd9 w q T D) (n : List UInt8) (hn : n.length ≤ 1000000000) :
    Calls Try.prog 32 #[PtD q, .string (str n)] w (DTells (resE (findW D.W D.O n)) w) := by
  have HH := Lib.hid h
  obtain ⟨v, u, hv, rfl⟩ := h
  have HV := Lib.hid hv
  obtain ⟨A, cap, rfl, _⟩ := rowD_open hv.ru
  obtain ⟨m, hm⟩ : ∃ m, m = D.O.length := ⟨_, rfl⟩
  have hd := hv.do_
  have h2 := hv.c2
  rw [← hm] at hd h2
  have HM := Lib.hid hm
  have HN := Lib.hid hn
  obtain ⟨X, hX⟩ : ∃ X, X = str n := ⟨_, rfl⟩
  rw [← hX]
  have HX := Lib.hid hX
  have hmI : (m : Int) ≤ 8 := by omega
  clear hv hm hX hn
  have mA : Mod [] w (w.alloc (.cells #[.string ⟨#[]⟩, .int .i64 0, .bool false] 49)) := (Mod.refl [] w).alloc _
  have k2 := mA.cell (x := ⟨q, 2, none⟩) (by simp) h2
  have MA := Lib.hid mA
  clear mA h2
  unfold DTells
  go_enter Try.func32, Try.ntmps32
  go_wp2_with fail
  go_loopw [6] (fun z wr => ∃ k : Nat, z = .int .i64 (k : Int) ∧ k ≤ m ∧ RowKit.Hid (Mod [] (w.alloc (.cells #[.string ⟨#[]⟩, .int .i64 0, .bool false] 49)) wr ∧ ∀ j (hj : j < D.O.length), j < k → inW D.W D.O[j] n = none)) (fun z _ => m - (intOf z).toNat)
  case atStart => exact ⟨0, rfl, by omega, Lib.hid ⟨Mod.refl _ _, fun j hj hk => by omega⟩⟩
  case round =>
    obtain ⟨k, rfl, hkm, hi⟩ := hrel
    have HI := Lib.hid hi.out
    have k0 := HI.out.1.cell (x := ⟨q, 2, none⟩) (by simp) k2
    clear hi k2
    by_cases hlt : k < m
    · have hltI : (k : Int) < (m : Int) := by omega
      have hkl : k < D.O.length := by have := HM.out; omega
      have hvr := HV.out.mod (MA.out.trans HI.out.1) (by simp)
      obtain ⟨b, cap', he, hc⟩ := hvr.ord k hkl
      injection he with he1 he2 he3
      subst he1
      have kk := in9_calls (HH.out.far (MA.out.trans HI.out.1)) D.O[k] n HN.out
      rw [← HX.out] at kk
      obtain ⟨l, hl⟩ : ∃ l, l = D.O[k] := ⟨_, rfl⟩
      rw [← hl] at hc kk
      have HLL := Lib.hid hl
      have K1 := Lib.hid kk
      clear kk hvr he2 he3 hl
      cases hr : inW D.W l n with
      | none =>
        rw [hr] at K1
        have HR := Lib.hid hr
        clear hr
        have K1 := Lib.hid (show Calls Try.prog 33 #[PtD q, .int .i64 l, .string X] wr (DTells (.tuple #[.agg #[.string ⟨#[]⟩, .int .i64 0, .bool false], .bool false]) wr) from K1.out)
        go_wp2_with fail
        refine (K1.out).mono ?_
        rintro e u1 ⟨rfl, m1⟩
        have M1 := Lib.hid ((HI.out.1.trans m1).alloc (.cells #[.string ⟨#[]⟩, .int .i64 0, .bool false] 49))
        clear m1
        go_wp2_with fail
        go_roundw
        case rel => exact ⟨k + 1, by go_num, by omega, Lib.hid ⟨M1.out, fun j hj hk => by
          by_cases e : j = k
          · subst e; rw [← HLL.out]; exact HR.out
          · exact HI.out.2 j hj (by omega)⟩⟩
        case measure => simp [intOf]; omega
      | some a =>
        rw [hr] at K1
        have HR := Lib.hid (show findW D.W D.O n = some a from findW_at D.W D.O n k hkl a (by rw [← HLL.out]; exact hr) fun t ht hk => HI.out.2 t ht hk)
        clear hr
        obtain ⟨N, hN⟩ : ∃ N, N = str a.n := ⟨_, rfl⟩
        obtain ⟨ax, hax⟩ : ∃ ax, ax = a.x := ⟨_, rfl⟩
        obtain ⟨an, han⟩ : ∃ an, an = a.now := ⟨_, rfl⟩
        have hv : resE (some a) = .tuple #[.agg #[.string N, .int .i64 ax, .bool an], .bool true] := by rw [hN, hax, han]; rfl
        rw [hv] at K1
        have HVV := Lib.hid hv
        clear hv hN hax han
        go_wp2_with fail
        refine (K1.out).mono ?_
        rintro e u1 ⟨rfl, m1⟩
        have M1 := Lib.hid ((HI.out.1.trans m1).alloc (.cells #[.string N, .int .i64 ax, .bool an] 49))
        obtain ⟨c0, c1, c2, cf⟩ := E3.new w M1.out
        have f0 := cf 0
        have f1 := cf 1
        have f2 := cf 2
        obtain ⟨r0, r1, r2⟩ := set3 c0 c1 c2 (.string N) (.int .i64 ax) (.bool an)
        have R := Lib.hid (And.intro r0 (And.intro r1 r2))
        clear m1 cf r0 r1 r2
        go_wp2_with fail
        obtain ⟨r0, r1, r2⟩ := R.out
        refine bodyPost_ret (v := .tuple #[.agg #[.string N, .int .i64 ax, .bool an], .bool true]) ?_ rfl ⟨by rw [HR.out, HVV.out], mod_set3 (MA.out.trans M1.out) (Nat.le_refl _) _ _ _⟩
        simp [results, Try.results32, go_sem, r0, r1, r2]
    · have hltI : ¬ (k : Int) < (m : Int) := by omega
      have HNO := Lib.hid (show findW D.W D.O n = none from findW_none fun j hj => HI.out.2 j hj (by have := HM.out; omega))
      obtain ⟨c0, c1, c2, cf⟩ := E3.new w HI.out.1
      have f0 := cf 0
      have f1 := cf 1
      have f2 := cf 2
      obtain ⟨r0, r1, r2⟩ := set3 c0 c1 c2 (.string ⟨#[]⟩) (.int .i64 0) (.bool false)
      have R := Lib.hid (And.intro r0 (And.intro r1 r2))
      clear cf r0 r1 r2
      go_wp2_with fail
      obtain ⟨r0, r1, r2⟩ := R.out
      refine bodyPost_ret (v := resE none) ?_ rfl ⟨by rw [HNO.out], mod_set3 (MA.out.trans HI.out.1) (Nat.le_refl _) _ _ _⟩
      simp [results, Try.results32, go_sem, r0, r1, r2, resE, entV, noneE, str]
end Go.Proofs.Ytldnpppbnakcoaa
