/- Layer 9: ints; a dictionary that was made since a world (Dm) and its calls; shown. Condition: names have at most 9223372036854775807 bytes. -/
import Derived.Test.YtldnpppbnakcoaaD9X
namespace Go.Proofs.Ytldnpppbnakcoaa
open Go.RowKit
set_option linter.unusedVariables false

set_option maxHeartbeats 2000000 in
theorem ints_calls {w : World} {A B : Option Addr} {n m c d : Nat} {X Y : List Int} (hA : IntsAt w A X) (hB : IntsAt w B Y) (hn : n = X.length) (hm : m = Y.length) (hb : n ≤ 1000000000) :
    Calls Try.prog 15 #[.slice A n c, .slice B m d] w fun e w' => e = .returned (.bool (decide (X = Y))) ∧ Mod [] w w' := by
  have HA := Lib.hid hA
  have HB := Lib.hid hB
  have HL := Lib.hid (And.intro hn hm)
  have hM := Mod.refl [] w
  have hbI : (n : Int) ≤ 1000000000 := by omega
  by_cases hne : n = m
  · subst hne
    obtain ⟨r, hr⟩ : ∃ r, r = decide (X = Y) := ⟨_, rfl⟩
    have HR := Lib.hid hr
    rw [← hr]
    clear hA hB hn hm hr
    go_enter Try.func15, Try.ntmps15
    go_wp2_with fail
    go_loopw [13] (fun z wr => ∃ k : Nat, z = .int .i64 (k : Int) ∧ k ≤ n ∧ RowKit.Hid (X.take k = Y.take k ∧ Mod [] w wr)) (fun z _ => n - (intOf z).toNat)
    case atStart => exact ⟨0, rfl, by omega, Lib.hid ⟨by simp, hM⟩⟩
    case round =>
      clear hM
      obtain ⟨k, rfl, hkn, hi⟩ := hrel
      by_cases hlt : k < n
      · have hltI : (k : Int) < (n : Int) := by omega
        have hkX : k < X.length := by rw [← HL.out.1]; exact hlt
        have hkY : k < Y.length := by rw [← HL.out.2]; exact hlt
        obtain ⟨b, o, rfl, hc⟩ := HA.out k hkX
        obtain ⟨b2, o2, rfl, hc2⟩ := HB.out k hkY
        replace hc := hi.out.2.cell (by simp) hc
        replace hc2 := hi.out.2.cell (by simp) hc2
        have HI := Lib.hid hi.out
        obtain ⟨S, hS⟩ : ∃ S, S = X[k] := ⟨_, rfl⟩
        obtain ⟨U, hU⟩ : ∃ U, U = Y[k] := ⟨_, rfl⟩
        rw [← hS] at hc
        rw [← hU] at hc2
        have HS := Lib.hid (And.intro hS hU)
        clear hS hU hi
        by_cases hSU : S = U
        · subst hSU
          go_upto_region 6 with fail
          go_region
          all_goals
            go_wp2_with fail
            go_roundw
            case rel => exact ⟨k + 1, by go_num, by omega, Lib.hid ⟨take_eq hkX hkY HI.out.1 (by rw [← HS.out.1, ← HS.out.2]), HI.out.2.drew⟩⟩
            case measure => simp [intOf]; omega
        · have hSUl : (S == U) = false := by
            rw [beq_eq_false_iff_ne]
            exact hSU
          have hr2 : r = false := by
            rw [HR.out]
            refine decide_eq_false fun e => hSU ?_
            rw [HS.out.1, HS.out.2]
            simp only [e]
          subst hr2
          clear HR
          go_upto_region 6 with fail
          go_region
          all_goals
            go_wp2_with fail
            go_ret
            exact ⟨rfl, HI.out.2.drew⟩
      · have hltI : ¬ (k : Int) < (n : Int) := by omega
        have hr2 : r = true := by
          rw [HR.out]
          refine decide_eq_true ?_
          have h := hi.out.1
          rwa [List.take_of_length_le (by have := HL.out.1; omega), List.take_of_length_le (by have := HL.out.2; omega)] at h
        subst hr2
        have HI := Lib.hid hi.out.2
        clear HR hi
        go_wp2_with fail
        go_ret
        exact ⟨rfl, HI.out⟩
  · have hneI : ((n : Int) == (m : Int)) = false := by rw [beq_eq_false_iff_ne]; omega
    have hr : decide (X = Y) = false := decide_eq_false fun e => hne (by rw [hn, hm, e])
    rw [hr]
    clear hA hB hn hm hr
    go_enter Try.func15, Try.ntmps15
    go_wp2_with fail
    go_ret
    exact ⟨rfl, hM⟩
/-- p is a dictionary that was made since w0; its blocks are T. -/
structure DM (w0 w : World) (p : Nat) (T : List Nat) (D : Di) : Prop where
  r : Pd9 w p T D
  m : Mod [] w0 w
  new : ∀ x ∈ T, w0.heap.size ≤ x
theorem DM.far {w0 w w' : World} {p : Nat} {T : List Nat} {D : Di} (h : DM w0 w p T D) (m : Mod [] w w') : DM w0 w' p T D := ⟨h.r.far m, h.m.trans m, h.new⟩
theorem DM.turn {w0 w w' : World} {p : Nat} {T T' : List Nat} {D D' : Di} (h : DM w0 w p T D) (hr : Pd9 w' p T' D') (t : TurnD T T' w w') : DM w0 w' p T' D' :=
  ⟨hr, h.m.then t.1 fun x hx => Or.inr (h.new x hx), fun x hx => (t.2 x hx).elim (h.new x) fun hl => Nat.le_trans h.m.size hl⟩
/-- The same, whatever its blocks. -/
def Dm (w0 w : World) (p : Nat) (D : Di) : Prop := ∃ T, DM w0 w p T D
theorem Dm.far {w0 w w' : World} {p : Nat} {D : Di} (h : Dm w0 w p D) (m : Mod [] w w') : Dm w0 w' p D := h.elim fun T h => ⟨T, h.far m⟩
theorem Dm.m {w0 w : World} {p : Nat} {D : Di} (h : Dm w0 w p D) : Mod [] w0 w := h.elim fun T h => h.m
/-- f answers r; p is then the dictionary D. -/
def Dms (w0 : World) (p : Nat) (r : Value) (D : Di) (e : Ending) (w' : World) : Prop := e = .returned r ∧ Dm w0 w' p D
theorem dms_of {w0 w : World} {p : Nat} {T : List Nat} {D D' : Di} {r : Value} {f : Nat} {xs : Array Value} (h : DM w0 w p T D) (k : Calls Try.prog f xs w (PPlays p T r D' w)) : Calls Try.prog f xs w (Dms w0 p r D') :=
  k.mono fun e w' ⟨e1, T', h1, h2⟩ => ⟨e1, T', h.turn h1 h2⟩
theorem dms_tells {w0 w : World} {p : Nat} {D : Di} {r : Value} {f : Nat} {xs : Array Value} (h : Dm w0 w p D) (k : Calls Try.prog f xs w (DTells r w)) : Calls Try.prog f xs w (Dms w0 p r D) :=
  k.mono fun e w' ⟨e1, m⟩ => ⟨e1, h.far m⟩
theorem Dm.new (w : World) : Calls Try.prog 10 #[] w fun e w' => ∃ p, e = .returned (PtD p) ∧ Dm w w' p ⟨[], 1, [1], 1⟩ :=
  (pnew_calls w).mono fun e w' ⟨p, T, e1, h1, h2, h3⟩ => ⟨p, e1, T, h1, h2, h3⟩
theorem padd_calls {w : World} {p : Nat} {T : List Nat} {D : Di} (h : Pd9 w p T D) (s : List UInt8) (x : Int) (hs : s.length ≤ 4611686018427387904) :
    Calls Try.prog 22 #[PtD p, .string (str s), .int .i64 x] w (PPlays p T (.int .i64 (addR D s x).1) (addR D s x).2 w) := by
  by_cases hno : s.length = 0 ∨ 31 < s.length ∨ 2000 ≤ D.W.length
  · exact padd_no h s x hs hno
  · have e : addR D s x = (0, { D with W := D.W ++ [⟨s, x, false, D.c⟩] }) := by
      unfold addR
      rw [if_neg (by omega), if_neg (by omega), if_neg (by omega)]
    rw [e]
    exact padd_ok h s x (by omega) (by omega) (by omega)
theorem Dm.add {w0 w : World} {p : Nat} {D : Di} (h : Dm w0 w p D) (s : List UInt8) (x : Int) (hs : s.length ≤ 4611686018427387904) : Calls Try.prog 22 #[PtD p, .string (str s), .int .i64 x] w (Dms w0 p (.int .i64 (addR D s x).1) (addR D s x).2) := by
  obtain ⟨T, h⟩ := h
  exact dms_of h (padd_calls h.r s x hs)
theorem Dm.find {w0 w : World} {p : Nat} {D : Di} (h : Dm w0 w p D) (n : List UInt8) (hn : n.length ≤ 9223372036854775807) : Calls Try.prog 23 #[PtD p, .string (str n)] w (Dms w0 p (resE (findW D.W D.O n)) D) := by
  obtain ⟨T, h⟩ := h
  exact dms_tells ⟨T, h⟩ (pfind_calls h.r n hn)
theorem Dm.inn {w0 w : World} {p : Nat} {D : Di} (h : Dm w0 w p D) (l : Int) (n : List UInt8) (hn : n.length ≤ 9223372036854775807) : Calls Try.prog 29 #[PtD p, .int .i64 l, .string (str n)] w (Dms w0 p (resE (inW D.W l n)) D) := by
  obtain ⟨T, h⟩ := h
  exact dms_tells ⟨T, h⟩ (pin_calls h.r l n hn)
theorem Dm.mark {w0 w : World} {p : Nat} {D : Di} (h : Dm w0 w p D) : Calls Try.prog 17 #[PtD p] w (Dms w0 p (.agg #[.int .i64 (D.W.length : Int), .int .i64 (D.k : Int)]) D) := by
  obtain ⟨T, h⟩ := h
  exact dms_tells ⟨T, h⟩ (pmark_calls h.r)
theorem Dm.current {w0 w : World} {p : Nat} {D : Di} (h : Dm w0 w p D) : Calls Try.prog 14 #[PtD p] w (Dms w0 p (.int .i64 D.c) D) := by
  obtain ⟨T, h⟩ := h
  exact dms_tells ⟨T, h⟩ (pcurrent_calls h.r)
theorem Dm.list {w0 w : World} {p : Nat} {D : Di} (h : Dm w0 w p D) : Calls Try.prog 26 #[PtD p] w (Dms w0 p (if D.k < 8 then .tuple #[.int .i64 ((D.k + 1 : Nat) : Int), .int .i64 0] else .tuple #[.int .i64 0, .int .i64 (-49)]) (if D.k < 8 then { D with k := D.k + 1 } else D)) := by
  obtain ⟨T, h⟩ := h
  exact dms_of h (plist_calls h.r)
theorem Dm.setcur {w0 w : World} {p : Nat} {D : Di} (h : Dm w0 w p D) (l : Int) : Calls Try.prog 27 #[PtD p, .int .i64 l] w (Dms w0 p (.int .i64 (if D.known l then 0 else -49)) (if D.known l then { D with c := l } else D)) := by
  obtain ⟨T, h⟩ := h
  exact dms_of h (psetcur_calls h.r l)
theorem Dm.setord {w0 w : World} {p : Nat} {D : Di} (h : Dm w0 w p D) {A : Option Addr} {n cap : Nat} {Y : List Int} (hY : IntsAt w A Y) (hn : n = Y.length) (hA : A = none → cap = 0) (hb : n ≤ 9223372036854775807) : Calls Try.prog 28 #[PtD p, .slice A n cap] w (Dms w0 p (.int .i64 (ordR D Y).1) (ordR D Y).2) := by
  obtain ⟨T, h⟩ := h
  exact dms_of h (psetord_calls h.r hY hn hA hb)
/-- f answers a row of these numbers, one of its own; p is still the dictionary D. -/
def Dmi (w0 : World) (p : Nat) (Y : List Int) (D : Di) (w : World) (e : Ending) (w' : World) : Prop := ∃ A cap, e = .returned (.slice A Y.length cap) ∧ Ir w' w.heap.size (.slice A Y.length cap) Y ∧ IntsAt w' A Y ∧ (A = none → cap = 0) ∧ Dm w0 w' p D ∧ Mod [] w w'
theorem Dm.order {w0 w : World} {p : Nat} {D : Di} (h : Dm w0 w p D) : Calls Try.prog 16 #[PtD p] w (Dmi w0 p D.O D w) := by
  obtain ⟨T, h⟩ := h
  refine (porder_calls h.r).mono ?_
  rintro e w' ⟨v, rfl, h1, h2⟩
  obtain ⟨A, cap, rfl, h3, h4, _⟩ := h1.opened
  exact ⟨A, cap, rfl, h1, h3, h4, ⟨T, h.far h2⟩, h2⟩
def Dmt (w0 : World) (p : Nat) (X : List ByteArray) (D : Di) (w : World) (e : Ending) (w' : World) : Prop := ∃ A cap, e = .returned (.slice A X.length cap) ∧ TxAt w' A X ∧ Dm w0 w' p D ∧ Mod [] w w'
theorem Dm.names {w0 w : World} {p : Nat} {D : Di} (h : Dm w0 w p D) (l : Int) : Calls Try.prog 20 #[PtD p, .int .i64 l] w (Dmt w0 p (namesW D.W l) D w) := by
  obtain ⟨T, h⟩ := h
  refine (pnames_calls h.r l).mono ?_
  rintro e w' ⟨v, rfl, h1, h2⟩
  obtain ⟨A, cap, rfl, h3⟩ := h1.txat
  exact ⟨A, cap, rfl, h3, ⟨T, h.far h2⟩, h2⟩
/-- What Now answers and leaves. -/
def nowR (D : Di) : Int × Di := match D.W.reverse with
  | [] => (2, D)
  | a :: r => (0, { D with W := r.reverse ++ [{ a with now := true }] })
theorem pnow_calls {w : World} {p : Nat} {T : List Nat} {D : Di} (h : Pd9 w p T D) : Calls Try.prog 24 #[PtD p] w (PPlays p T (.int .i64 (nowR D).1) (nowR D).2 w) := by
  unfold nowR
  cases hr : D.W.reverse with
  | nil => exact pnow_none h (by rw [← List.reverse_reverse D.W, hr]; rfl)
  | cons a r => exact pnow_ok h r.reverse a (by rw [← List.reverse_reverse D.W, hr, List.reverse_cons])
theorem Dm.now {w0 w : World} {p : Nat} {D : Di} (h : Dm w0 w p D) : Calls Try.prog 24 #[PtD p] w (Dms w0 p (.int .i64 (nowR D).1) (nowR D).2) := by
  obtain ⟨T, h⟩ := h
  exact dms_of h (pnow_calls h.r)
set_option maxHeartbeats 2000000 in
theorem shown_calls (w : World) : Calls Try.prog 9 #[] w fun e w' => e = .returned (.bool true) ∧ Mod [] w w' := by
  have H := Lib.hid (Dm.new w)
  go_enter Try.func9, Try.ntmps9
  go_wp2_with fail
  refine (H.out).mono ?_
  rintro e w1 ⟨p, rfl, h1⟩
  have H1 := Lib.hid (show Calls Try.prog 22 #[PtD p, .string { data := #[68, 117, 112] }, .int .i64 5] w1 (Dms w p (.int .i64 0) ⟨[⟨[68, 117, 112], 5, false, 1⟩], 1, [1], 1⟩) from h1.add [68, 117, 112] 5 (by simp))
  clear h1
  go_wp2_with fail
  refine (H1.out).mono ?_
  rintro e w2 ⟨rfl, h2⟩
  have k := h2.find [100, 85, 80] (by simp)
  rw [show findW [(⟨[68, 117, 112], 5, false, 1⟩ : We)] [1] [100, 85, 80] = some ⟨[68, 117, 112], 5, false, 1⟩ by kernel_rfl] at k
  have H2 := Lib.hid (show Calls Try.prog 23 #[PtD p, .string { data := #[100, 85, 80] }] w2 (Dms w p (.tuple #[.agg #[.string { data := #[68, 117, 112] }, .int .i64 5, .bool false], .bool true]) ⟨[⟨[68, 117, 112], 5, false, 1⟩], 1, [1], 1⟩) from k)
  clear h2 k
  go_wp2_with fail
  refine (H2.out).mono ?_
  rintro e w3 ⟨rfl, h3⟩
  have HM := Lib.hid h3.m
  clear h3
  go_wp2_with fail
  go_ret
  exact ⟨by simp, HM.out.alloc _⟩
end Go.Proofs.Ytldnpppbnakcoaa
