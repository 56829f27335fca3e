/- Layer 9: the program's Order, SetOrder, and what they call. Condition: the block is such a dictionary (Pd9). -/
import Derived.Test.YtldnpppbnakcoaaD9S
namespace Go.Proofs.Ytldnpppbnakcoaa
open Go.RowKit
set_option linter.unusedVariables false

/-- Where the first number lies that is not that of a list; -1: there is none. -/
def lackI (D : Di) (Y : List Int) : Int := match Y.findIdx? fun l => !D.known l with
  | some i => (i : Int)
  | none => -1
theorem lackI_no {D : Di} {Y : List Int} (h : ∀ i (hi : i < Y.length), D.known Y[i] = true) : lackI D Y = -1 := by
  have : Y.findIdx? (fun l => !D.known l) = none := by
    rw [List.findIdx?_eq_none_iff]
    intro x hx
    obtain ⟨i, hi, rfl⟩ := List.getElem_of_mem hx
    simp [h i hi]
  simp [lackI, this]
theorem lackI_at {D : Di} {Y : List Int} (k : Nat) (hk : k < Y.length) (h1 : D.known Y[k] = false) (h2 : ∀ i (hi : i < Y.length), i < k → D.known Y[i] = true) : lackI D Y = (k : Int) := by
  have : Y.findIdx? (fun l => !D.known l) = some k := by
    rw [List.findIdx?_eq_some_iff_getElem]
    exact ⟨hk, by simp [h1], fun j hj => by simp [h2 j (by omega) hj]⟩
  simp [lackI, this]
theorem lackI_knows (D : Di) (Y : List Int) : decide (0 ≤ lackI D Y) = !D.knows Y := by
  unfold lackI
  cases h : Y.findIdx? fun l => !D.known l with
  | none =>
    rw [List.findIdx?_eq_none_iff] at h
    have : D.knows Y = true := by
      unfold Di.knows
      rw [List.all_eq_true]
      intro x hx
      simpa using h x hx
    rw [this]
    rfl
  | some k =>
    rw [List.findIdx?_eq_some_iff_getElem] at h
    obtain ⟨hk, h1, _⟩ := h
    rw [Di.knows_no k hk (by simpa using h1)]
    simp
set_option maxHeartbeats 1000000 in
theorem idx_calls {w : World} {p : Nat} {T : List Nat} {D : Di} (h : Pd9 w p T D) {A : Option Addr} {n cap : Nat} {Y : List Int} (hY : IntsAt w A Y) (hn : n = Y.length) (hb : n ≤ 1000000) :
    Calls Try.prog 57 #[.slice A n cap, .func (.func 45) #[PtD p] #[]] w fun e w' => e = .returned (.int .i64 (lackI D Y)) ∧ w = w' := by
  have HY := Lib.hid hY
  have HN := Lib.hid hn
  have HH := Lib.hid h
  obtain ⟨r, hr⟩ : ∃ r, r = lackI D Y := ⟨_, rfl⟩
  have HR := Lib.hid hr
  rw [← hr]
  have hbI : (n : Int) ≤ 1000000 := by omega
  clear h hY hn hr
  go_enter Try.func57, Try.ntmps57
  go_wp2_with fail
  go_loop [8] (fun z => ∃ k : Nat, z = .int .i64 (k : Int) ∧ k ≤ n ∧ RowKit.Hid (∀ j (hj : j < Y.length), j < k → D.known Y[j] = true)) (fun z => n - (intOf z).toNat)
  case atStart => exact ⟨0, rfl, by omega, Lib.hid (fun j hj hk => by omega)⟩
  case round =>
    obtain ⟨k, rfl, hkn, hi⟩ := hrel
    by_cases hlt : k < n
    · have hltI : (k : Int) < (n : Int) := by omega
      have hkl : k < Y.length := by rw [← HN.out]; exact hlt
      obtain ⟨b, o, rfl, hc⟩ := HY.out k hkl
      have K1 := Lib.hid (lacks_calls HH.out Y[k])
      obtain ⟨y, hy⟩ : ∃ y, y = Y[k] := ⟨_, rfl⟩
      rw [← hy] at hc K1
      have HYY := Lib.hid hy
      clear hy
      cases hkw : D.known y with
      | true =>
        rw [hkw] at K1
        have HK := Lib.hid hkw
        clear hkw
        go_wp2_with fail
        refine (K1.out).mono ?_
        rintro e u1 ⟨rfl, rfl⟩
        go_wp2_with fail
        go_round
        case rel => exact ⟨k + 1, by go_num, by omega, Lib.hid fun j hj hk => by
          by_cases e : j = k
          · subst e; rw [← HYY.out]; exact HK.out
          · exact hi.out j hj (by omega)⟩
        case measure => simp [intOf]; omega
      | false =>
        rw [hkw] at K1
        have HK := Lib.hid hkw
        clear hkw
        go_wp2_with fail
        refine (K1.out).mono ?_
        rintro e u1 ⟨rfl, rfl⟩
        go_wp2_with fail
        go_ret
        exact ⟨by rw [HR.out, lackI_at k hkl (by rw [← HYY.out]; exact HK.out) fun j hj hjk => hi.out j hj hjk]; rfl, rfl⟩
    · have hltI : ¬ (k : Int) < (n : Int) := by omega
      have hr2 : r = -1 := HR.out.trans (lackI_no fun j hj => hi.out j hj (by have := HN.out; omega))
      subst hr2
      clear HR
      go_wp2_with fail
      go_ret
      exact ⟨rfl, rfl⟩
theorem lackI_le (D : Di) (Y : List Int) : -1 ≤ lackI D Y ∧ lackI D Y ≤ (Y.length : Int) := by
  unfold lackI
  cases h : Y.findIdx? fun l => !D.known l with
  | none => simp
  | some k =>
    rw [List.findIdx?_eq_some_iff_getElem] at h
    obtain ⟨hk, _⟩ := h
    simp
    omega
theorem contains_calls {w : World} {p : Nat} {T : List Nat} {D : Di} (h : Pd9 w p T D) {A : Option Addr} {n cap : Nat} {Y : List Int} (hY : IntsAt w A Y) (hn : n = Y.length) (hb : n ≤ 1000000) :
    Calls Try.prog 46 #[.slice A n cap, .func (.func 45) #[PtD p] #[]] w fun e w' => e = .returned (.bool (!D.knows Y)) ∧ w = w' := by
  have K1 := Lib.hid (idx_calls h hY hn hb (cap := cap))
  have hkk := lackI_knows D Y
  obtain ⟨r, hr⟩ : ∃ r, r = lackI D Y := ⟨_, rfl⟩
  rw [← hr] at K1 hkk
  rw [← hkk]
  clear h hY hn hb hr hkk
  by_cases h0 : 0 ≤ r
  · have hd : decide (0 ≤ r) = true := decide_eq_true h0
    rw [hd]
    clear hd
    go_enter Try.func46, Try.ntmps46
    go_wp2_with fail
    refine (K1.out).mono ?_
    rintro e u1 ⟨rfl, rfl⟩
    go_wp2_with fail
    go_ret
    simp [*]
  · have hd : decide (0 ≤ r) = false := decide_eq_false h0
    rw [hd]
    clear hd
    go_enter Try.func46, Try.ntmps46
    go_wp2_with fail
    refine (K1.out).mono ?_
    rintro e u1 ⟨rfl, rfl⟩
    go_wp2_with fail
    go_ret
    simp [*]
/-- v is a row of numbers of one's own, nil or in a block from base on. -/
def Ir (w : World) (base : Nat) (v : Value) (Y : List Int) : Prop := w.ownsRow base 3 1 v Y.length (intsV Y)
theorem Ir.far {w w' : World} {base : Nat} {v : Value} {Y : List Int} (h : Ir w base v Y) (k : Mod [] w w') : Ir w' base v Y := by
  refine ⟨h.1, h.2.elim Or.inl fun ⟨g, cap, cur, h1, h2, h3, h4⟩ => Or.inr ⟨g, cap, cur, h1, h2, ?_, h4⟩⟩
  rw [k.block g (Array.getElem?_eq_some_iff.1 h3).1 (by simp)]
  exact h3
theorem Ir.of {w : World} {base : Nat} {v : Value} {Y : List Int} (h : w.ownsRow 0 3 1 v Y.length (intsV Y)) (hb : ∀ g, v.ownBlock = some g → base ≤ g) : Ir w base v Y := by
  refine ⟨h.1, h.2.elim Or.inl fun ⟨g, cap, cur, h1, h2, h3, h4⟩ => Or.inr ⟨g, cap, cur, h1, hb g (by rw [h1]; rfl), h3, h4⟩⟩
theorem Ir.opened {w : World} {base : Nat} {v : Value} {Y : List Int} (h : Ir w base v Y) : ∃ A cap, v = .slice A Y.length cap ∧ IntsAt w A Y ∧ (A = none → cap = 0) ∧ Y.length ≤ cap := by
  rcases h.2 with ⟨rfl, h0⟩ | ⟨g, cap, cur, rfl, h2, h3, h4, _⟩
  · exact ⟨none, 0, by rw [h0], fun j hj => by omega, fun _ => rfl, by omega⟩
  · refine ⟨some ⟨g, 0, none⟩, cap, rfl, fun j hj => ⟨g, 0, rfl, ?_⟩, by simp, h4⟩
    have hown : w.ownsRow base 3 1 (.slice (some ⟨g, 0, none⟩) Y.length cap) Y.length (intsV Y) := h
    rw [Nat.zero_add, hown.cellAt j (by omega)]
    simp [intsV, hj]
/-- f answers a row of these numbers, one of its own; nothing of what was there has turned. -/
def DInts (Y : List Int) (w : World) (e : Ending) (w' : World) : Prop := ∃ v, e = .returned v ∧ Ir w' w.heap.size v Y ∧ Mod [] w w'
theorem cloneI_calls {w : World} {A : Option Addr} {n cap : Nat} {Y : List Int} (hY : IntsAt w A Y) (hn : n = Y.length) (hA : A = none → cap = 0) (hb : n ≤ 1000000) :
    Calls Try.prog 39 #[.slice A n cap] w (DInts Y w) := by
  have hM := Mod.refl [] w
  unfold DInts
  cases A with
  | none =>
    have hY0 : Y = [] := List.eq_nil_of_length_eq_zero (by
      refine Nat.eq_zero_of_not_pos fun hp => ?_
      obtain ⟨_, _, e, _⟩ := hY 0 hp
      cases e)
    subst hY0
    have hc := hA rfl
    subst hc hn
    have q : ∀ W, (binOp .eql 29 (.slice none 0 0) (.slice none 0 0)).run Try.prog W = .ok (.bool true) W := fun W => Lib.run_eql_slice_nil W _ _ none 0 0 0 0 Try.underlying29
    clear hY hA hb
    go_enter Try.func39, Try.ntmps39
    go_wp2
    go_ret
    exact ⟨_, rfl, ⟨rfl, .inl ⟨rfl, rfl⟩⟩, hM⟩
  | some a =>
    obtain ⟨A2, n2, c2, w', hr, hrow, hm, hg⟩ := run_copyI9 w hY hn hA (by omega) 29
    have HI := Lib.hid (And.intro (Ir.of hrow hg) hm)
    replace hr : (appInts 29 _).run Try.prog _ = .ok (.slice A2 n2 c2) w' := hr
    have q : ∀ W, (binOp .eql 29 (.slice (some a) n cap) (.slice none 0 0)).run Try.prog W = .ok (.bool false) W := fun W => Lib.run_eql_slice_nil W _ _ (some a) n cap 0 0 Try.underlying29
    clear hY hn hA hrow hm hg hb
    go_enter Try.func39, Try.ntmps39
    go_wp2_with fail
    go_ret
    exact ⟨_, rfl, HI.out.1, HI.out.2⟩
theorem porder_calls {w : World} {p : Nat} {T : List Nat} {D : Di} (h : Pd9 w p T D) : Calls Try.prog 16 #[PtD p] w (DInts D.O w) := by
  have K0 := Lib.hid (none_calls h)
  obtain ⟨v, b0, u, Z, hv, rfl⟩ := h
  have hd := hv.do_
  obtain ⟨A, cap, rfl, hI, hA, hle⟩ := Ir.opened (Y := D.O) hv.body.ru
  have K1 := Lib.hid (cloneI_calls (cap := cap) hI rfl hA (by omega))
  have h3 := hv.c3
  obtain ⟨n, hn⟩ : ∃ n, n = D.O.length := ⟨_, rfl⟩
  rw [← hn] at h3 K1
  clear hv hI hA hle hd hn
  go_enter Try.func16, Try.ntmps16
  go_wp2_with fail
  refine (K0.out).mono ?_
  rintro e u1 ⟨rfl, rfl⟩
  go_wp2_with fail
  refine (K1.out).mono ?_
  rintro e u1 ⟨y, rfl, h1, h2⟩
  have HI := Lib.hid (And.intro h1 h2)
  clear h1 h2
  go_wp2_with fail
  go_ret
  exact ⟨_, rfl, HI.out.1, HI.out.2⟩
set_option maxHeartbeats 4000000 in
theorem psetord_calls {w : World} {p : Nat} {T : List Nat} {D : Di} (h : Pd9 w p T D) {A : Option Addr} {n cap : Nat} {Y : List Int} (hY : IntsAt w A Y) (hn : n = Y.length) (hA : A = none → cap = 0) (hb : n ≤ 9223372036854775807) :
    Calls Try.prog 28 #[PtD p, .slice A n cap] w (PPlays p T (.int .i64 (ordR D Y).1) (ordR D Y).2 w) := by
  have K0 := Lib.hid (none_calls h)
  have HH := Lib.hid h
  have HN := Lib.hid hn
  unfold PPlays
  obtain ⟨r, hrr⟩ : ∃ r, r = ordR D Y := ⟨_, rfl⟩
  rw [← hrr]
  have HRR := Lib.hid hrr
  clear hrr
  by_cases h8 : n ≤ 8
  · have h8I : ¬ (8 : Int) < (n : Int) := by omega
    have K1 := Lib.hid (contains_calls (cap := cap) h hY hn (by omega))
    obtain ⟨v, b0, u, Z, hv, rfl⟩ := h
    cases hkw : D.knows Y with
    | true =>
      have h2 := hv.c3
      have hf := hv.f 3
      obtain ⟨A2, n2, c2, w', hr, hrow, hm, hg⟩ := run_copyI9 w hY hn hA (by omega) 29
      have h2' := hm.cell (x := ⟨p, 3, none⟩) (by simp) h2
      have hf' := (hm.frozen (x := ⟨p, 3, none⟩) (by simp) hv.lp).trans hf
      have HS := Lib.hid (hv.setO hm hrow hg (by omega))
      replace hr : (appInts 29 _).run Try.prog _ = .ok (.slice A2 n2 c2) w' := hr
      have hr9 : r = (0, { D with O := Y }) := HRR.out.trans (if_pos ⟨by rw [← hn]; exact h8, hkw⟩)
      subst hr9
      rw [hkw] at K1
      clear hv hY hn hA hrow hm hg h2 hf hkw HRR HN
      go_enter Try.func28, Try.ntmps28
      go_wp2_with fail
      refine (K0.out).mono ?_
      rintro e u1 ⟨rfl, rfl⟩
      go_wp2_with fail
      refine (K1.out).mono ?_
      rintro e u1 ⟨rfl, rfl⟩
      go_wp2_with fail
      go_ret
      exact ⟨rfl, _, ⟨_, _, _, _, HS.out.1, rfl⟩, HS.out.2⟩
    | false =>
      have hr9 : r = (-49, D) := HRR.out.trans (if_neg (by rw [hkw]; simp))
      subst hr9
      rw [hkw] at K1
      clear hv hY hn hA hkw HRR HN
      go_enter Try.func28, Try.ntmps28
      go_wp2_with fail
      refine (K0.out).mono ?_
      rintro e u1 ⟨rfl, rfl⟩
      go_wp2_with fail
      refine (K1.out).mono ?_
      rintro e u1 ⟨rfl, rfl⟩
      go_wp2_with fail
      go_ret
      exact ⟨rfl, _, HH.out, TurnD.refl _ _⟩
  · have h8I : (8 : Int) < (n : Int) := by omega
    have hr9 : r = (-49, D) := HRR.out.trans (if_neg fun hh => by have := HN.out; omega)
    subst hr9
    clear h hY hn HRR HN
    go_enter Try.func28, Try.ntmps28
    go_wp2_with fail
    refine (K0.out).mono ?_
    rintro e u1 ⟨rfl, rfl⟩
    go_wp2_with fail
    go_ret
    exact ⟨rfl, _, HH.out, TurnD.refl _ _⟩
end Go.Proofs.Ytldnpppbnakcoaa
