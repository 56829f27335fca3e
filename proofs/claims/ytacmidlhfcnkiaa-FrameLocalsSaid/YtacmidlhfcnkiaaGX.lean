/- Layer 14: FrameLocals. No condition. -/
import Derived.Test.YtacmidlhfcnkiaaGU
import Derived.BigQuiet
namespace Go.Proofs.Ytacmidlhfcnkiaa
open Go.RowKit Go.ChangeShapes Go.WideShapes
set_option linter.unusedVariables false

theorem Came.ls {w : World} {A : Option Addr} {len cap M : Nat} {X : List Int} {k : Nat} (h : Came w A len cap M X k) : Ls w (.slice A k cap) X :=
  ⟨A, cap, by rw [h.n], h.a, by rw [h.n]; exact h.c, h.m, h.s⟩
/-- A slice of truths that came in. -/
def BoolsIn (W : World) (A : Option Addr) (len cap : Nat) : Prop := len ≤ cap ∧ cap ≤ 9223372036854775807 ∧ ∀ i, i < len → ∃ (b o : Nat) (v : Bool), A = some ⟨b, o, none⟩ ∧ W.cell? ⟨b, o + i, none⟩ = some (.bool v)
theorem bools_in {W : World} {a : Addr} {len cap : Nat} {B : Nat → Bool} (hl : len ≤ cap) (hm : cap ≤ maxLen) (h : ∀ i, i < cap → W.cell? (a.add i) = some (.bool (B i))) : BoolsIn W (some a) len cap := by
  refine ⟨hl, by unfold maxLen at hm; omega, fun i hi => ?_⟩
  have hc := h i (by omega)
  have hsp : a.spot = none := by
    have h0 := h 0 (by omega)
    rw [add_zero_in] at h0
    exact World.cell?_spot h0
  obtain ⟨b, o, sp⟩ := a
  cases sp with
  | none =>
    refine ⟨b, o, B i, rfl, ?_⟩
    have : (⟨b, o, none⟩ : Addr).add i = ⟨b, o + i, none⟩ := by unfold Addr.add; split <;> simp_all
    rw [← this]
    exact hc
  | some s => simp at hsp
theorem sizeBoolIn : ∀ w, (Go.sizeOf 4).run Try.prog w = .ok 1 w := fun w => by kernel_rfl
abbrev lc (X : List Int) : Fm := ⟨4, 0, 0, 0, 0, X⟩
abbrev under (B : List Int) : List Fm := [lc B, ⟨1, 1, 0, 0, 0, []⟩]
/-- Frames that hide no locals. -/
def Open (U : List Fm) : Prop := ∀ b ∈ U, hides b = false
theorem Open.add {U : List Fm} (h : Open U) {q : Fm} (hq : hides q = false) : Open (U ++ [q]) := fun b hb => (List.mem_append.1 hb).elim (h b) fun hb => by rw [List.mem_singleton.1 hb]; exact hq
theorem push_some {L : List Fm} (h : L.length < 128) (q : Fm) : pushE L = 0 ∧ pushL L q = L ++ [q] := by
  unfold pushE pushL
  have : ¬ 128 ≤ L.length := by omega
  rw [if_neg this, if_neg this]
  exact ⟨rfl, rfl⟩
theorem get_under (B : List Int) : localL 0 (under B) = none := by
  rw [show under B = [lc B] ++ ⟨1, 1, 0, 0, 0, []⟩ :: [] from rfl, local_is (by decide) (by simp), if_neg (by simp)]
theorem get_in {B X : List Int} {U : List Fm} (hU : Open U) {i n : Nat} (hn : n = X.length) (hi : i < n) : localL (i : Int) (under B ++ lc X :: U) = some (X.getD i 0) := by
  rw [getL_is rfl hU (by dsimp only; omega)]
  have : i < X.length := by omega
  simp [List.getD_eq_getElem?_getD, this]
theorem get_out {B X : List Int} {U : List Fm} (hU : Open U) {i : Int} (hi : ¬ (0 ≤ i ∧ i < (X.length : Int))) : localL i (under B ++ lc X :: U) = none := by
  rw [local_is (by simp [hides]) hU, if_neg fun h => hi h.2]
theorem set_in {B X : List Int} {U : List Fm} (hU : Open U) (k : Nat) (x : Int) : setL (k : Int) x (under B ++ lc X :: U) = under B ++ lc (X.set k x) :: U := by
  rw [set_is (by simp [hides]) hU]
  split
  · rfl
  · rename_i h
    have : X.length ≤ k := by simp at h; omega
    rw [List.set_eq_of_length_le this]
theorem get_one {B : List Int} {i n : Nat} (hn : n = B.length) (hi : i < n) : localL (i : Int) [lc B] = some (B.getD i 0) := by
  rw [show [lc B] = [] ++ lc B :: [] from rfl, getL_is rfl (by simp) (by dsimp only; omega)]
  have : i < B.length := by omega
  simp [List.getD_eq_getElem?_getD, this]
theorem set_at {X : List Int} {k i : Nat} {x : Int} {n : Nat} (hn : n = X.length) (hi : i < n) : (X.set k x).getD i 0 = if i = k then x else X.getD i 0 := by
  have h1 : i < X.length := by omega
  have h2 : i < (X.set k x).length := by rw [List.length_set]; omega
  rw [List.getD_eq_getElem?_getD, List.getD_eq_getElem?_getD, List.getElem?_eq_getElem h2, List.getElem?_eq_getElem h1, Option.getD_some, Option.getD_some, List.getElem_set]
  by_cases e : i = k
  · rw [if_pos e, if_pos e.symm]
  · rw [if_neg e, if_neg (fun h => e h.symm)]
theorem orE_none (e : Int) : orE e none = e := rfl
theorem orE_is (e c : Int) : orE e (some c) = 0 := rfl
theorem Fd.get {w0 w : World} {p : Nat} {L : List Fm} {D : List Nat} (h : Fd TP w0 w p L D) (i : Int) : Calls Try.prog 24 #[Pt p, .int .i64 i] w fun e w' => e = .returned (.tuple #[.int .i64 ((localL i L).getD 0), .int .i64 (orE (-6) (localL i L))]) ∧ Fd TP w0 w' p L D := by
  have hh := h
  obtain ⟨T, hF, hT, m0, hD⟩ := h
  exact (get_calls hF i).mono fun e w' ⟨h1, h2⟩ => ⟨h1, hh.far h2⟩
theorem Fd.set {w0 w : World} {p : Nat} {L : List Fm} {D : List Nat} (h : Fd TP w0 w p L D) (i x : Int) : Calls Try.prog 25 #[Pt p, .int .i64 i, .int .i64 x] w fun e w' => e = .returned (.int .i64 (orE (-6) (localL i L))) ∧ Fd TP w0 w' p (setL i x L) D := by
  obtain ⟨T, hF, hT, m0, hD⟩ := h
  exact (set_calls hF i x).mono fun e w' ⟨h1, T', h2, h3⟩ => ⟨h1, (Fd.turn hF hT m0 hD h2 h3).1⟩
set_option maxRecDepth 100000 in
set_option maxHeartbeats 8000000 in
theorem locals_walk (w : World) (A1 : Option Addr) (len1 cap1 : Nat) (zs1 : List Int) (R1 : RowIn .i64 w A1 len1 cap1 zs1) (A2 : Option Addr) (len2 cap2 : Nat) (zs2 : List Int) (R2 : RowIn .i64 w A2 len2 cap2 zs2) (A3 : Option Addr) (len3 cap3 : Nat) (R3 : BoolsIn w A3 len3 cap3) (at_ : Int) (hat : (Lit.int .u8 at_).wf = true) (x : Int) (hx : (Lit.int .i64 x).wf = true) :
    Calls Try.prog 5 #[.slice A1 len1 cap1, .slice A2 len2 cap2, .slice A3 len3 cap3, .int .u8 at_, .int .i64 x] w fun e w' => e = .returned (.bool true) ∧ Mod [] w w' := by
  obtain ⟨X, n, C⟩ := R1.came 20
  obtain ⟨Y, m, D⟩ := R2.came 20
  have hup := C.h
  have hup2 := D.h
  have hmin : min (len1 : Int) 20 = (n : Int) := by have := C.e; omega
  have hmin2 : min (len2 : Int) 20 = (m : Int) := by have := D.e; omega
  obtain ⟨r, hr⟩ : ∃ r, r = min len3 20 := ⟨_, rfl⟩
  have hmin3 : min (len3 : Int) 20 = (r : Int) := by omega
  have hup3 := fun W => upto_in W 52 4 Try.underlying52 sizeBoolIn A3 len3 cap3 r (by have := R3.1; omega)
  have hn20 : n ≤ 20 := by have := C.e; omega
  have hm20 : m ≤ 20 := by have := D.e; omega
  have hr20 : r ≤ 20 := by omega
  have hnI : (n : Int) ≤ 20 := by omega
  have hmI : (m : Int) ≤ 20 := by omega
  have hrI : (r : Int) ≤ 20 := by omega
  have HL1 : (len1 : Int) ≤ 9223372036854775807 := by have := C.l; have := C.m; omega
  have HL2 : (len2 : Int) ≤ 9223372036854775807 := by have := D.l; have := D.m; omega
  have HL3 : (len3 : Int) ≤ 9223372036854775807 := by have := R3.1; have := R3.2.1; omega
  have HN := Lib.hid C.n.symm
  have HM := Lib.hid D.n.symm
  have HX := Lib.hid C.ls
  have HY := Lib.hid D.ls
  have HAT := Lib.hid (fun W (mm : Mod [] w W) j (hj : j < n) => (by
    obtain ⟨b, o, e, hc⟩ := C.at_ hj
    exact ⟨b, o, e, mm.cell (by simp) hc⟩ : ∃ b o, A1 = some ⟨b, o, none⟩ ∧ W.cell? ⟨b, o + j, none⟩ = some (.int .i64 (X.getD j 0))))
  have HBT := Lib.hid (fun W (mm : Mod [] w W) j (hj : j < m) => (by
    obtain ⟨b, o, e, hc⟩ := D.at_ hj
    exact ⟨b, o, e, mm.cell (by simp) hc⟩ : ∃ b o, A2 = some ⟨b, o, none⟩ ∧ W.cell? ⟨b, o + j, none⟩ = some (.int .i64 (Y.getD j 0))))
  have HCT := Lib.hid (fun W (mm : Mod [] w W) j (hj : j < r) => (by
    obtain ⟨b, o, v, e, hc⟩ := R3.2.2 j (by omega)
    exact ⟨b, o, v, e, mm.cell (by simp) hc⟩ : ∃ (b o : Nat) (v : Bool), A3 = some ⟨b, o, none⟩ ∧ W.cell? ⟨b, o + j, none⟩ = some (.bool v)))
  have hat2 := bounds_u8 hat
  have H0 := Lib.hid (shown_calls w)
  clear C D R1 R2 R3 hat hr hx
  go_enter Try.func5, Try.ntmps5
  go_wp2_with fail
  refine (H0.out).mono ?_
  rintro e w1 ⟨rfl, hm1⟩
  have H1 := Lib.hid (new_fd hm1)
  clear hm1 H0
  go_wp2_with fail
  refine (H1.out).mono ?_
  rintro e w2 ⟨p, rfl, hF, _⟩
  have HF := Lib.hid hF
  clear hF H1
  go_upto_region 5 with fail
  go_quiet (fail)
  have H2 := Lib.hid (fun k => (HF.out.far ((Mod.refl [] w2).drewN k)).push (q := lc Y) (HY.out.far (HF.out.mod.trans ((Mod.refl [] w2).drewN k))) (by have := HM.out; simp; omega))
  rw [(push_some (L := []) (by simp) (lc Y)).1, (push_some (L := []) (by simp) (lc Y)).2] at H2
  unfold frV lc at H2
  dsimp only at H2
  clear HF
  go_wp2_with fail
  refine (H2.out _).mono ?_
  rintro e w3 ⟨rfl, hF3, _⟩
  have H3 := Lib.hid (hF3.push (q := ⟨1, 1, 0, 0, 0, []⟩) (Ls.nil w3) (by simp))
  rw [(push_some (L := [] ++ [lc Y]) (by simp) ⟨1, 1, 0, 0, 0, []⟩).1, (push_some (L := [] ++ [lc Y]) (by simp) ⟨1, 1, 0, 0, 0, []⟩).2] at H3
  unfold frV at H3
  dsimp only at H3
  clear hF3 H2
  go_wp2_with fail
  refine (H3.out).mono ?_
  rintro e w4 ⟨rfl, hF4, _⟩
  have H4 := Lib.hid ((show Fd TP w w4 p (under Y) [] from hF4).get 0)
  rw [get_under, orE_none] at H4
  clear hF4 H3
  go_wp2_with fail
  refine (H4.out).mono ?_
  rintro e w5 ⟨rfl, hF5⟩
  have H5 := Lib.hid (hF5.push (q := lc X) (HX.out.far hF5.mod) (by have := HN.out; simp; omega))
  rw [(push_some (L := under Y) (by simp) (lc X)).1, (push_some (L := under Y) (by simp) (lc X)).2] at H5
  unfold frV lc at H5
  dsimp only at H5
  clear hF5 H4
  go_wp2_with fail
  refine (H5.out).mono ?_
  rintro e w6 ⟨rfl, hF6, _⟩
  have HF6 := Lib.hid (show Fd TP w w6 p (under Y ++ lc X :: []) [] from hF6)
  clear hF6 H5
  go_wp2_with fail
  go_loopw [80] (fun z wr => ∃ (i : Nat) (U : List Fm), z = .int .i64 (i : Int) ∧ i ≤ r ∧ RowKit.Hid (Fd TP w wr p (under Y ++ lc X :: U) []) ∧ RowKit.Hid (Open U) ∧ RowKit.Hid (U.length = i)) (fun z _ => r - (intOf z).toNat)
  case atStart => exact ⟨0, [], rfl, by omega, HF6, Lib.hid (fun b hb => absurd hb (by simp)), Lib.hid rfl⟩
  case round =>
    obtain ⟨i, U, rfl, hi, hF, hU, hUl⟩ := hrel
    by_cases hlt : i < r
    · have hiI : (i : Int) < (r : Int) := by omega
      have hi0 : (0 : Int) ≤ (i : Int) := by omega
      obtain ⟨b, o, v, rfl, hc⟩ := HCT.out wr hF.out.mod i hlt
      have hlen : (under Y ++ lc X :: U).length < 128 := by have := hUl.out; simp; omega
      have H7 := Lib.hid (fun kd : Int => hF.out.push (q := ⟨kd, 0, 0, 7, 0, []⟩) (Ls.nil wr) (by simp))
      have HP := Lib.hid (fun q => push_some hlen q)
      clear HF6 hlen
      cases v with
      | true =>
        have H8 := Lib.hid (H7.out 3)
        rw [(HP.out zF).1, (HP.out _).2] at H8
        unfold frV at H8
        dsimp only at H8
        go_wp2_with fail
        refine (H8.out).mono ?_
        rintro e w8 ⟨rfl, hF8, _⟩
        have HF8 := Lib.hid (show Fd TP w w8 p (under Y ++ lc X :: (U ++ [⟨3, 0, 0, 7, 0, []⟩])) [] by simpa using hF8)
        clear hF8 H8 H7 hF
        go_wp2_with fail
        go_roundw
        case rel => exact ⟨i + 1, U ++ [⟨3, 0, 0, 7, 0, []⟩], by go_num, by omega, HF8, Lib.hid (hU.out.add (by decide)), Lib.hid (by have := hUl.out; simp; omega)⟩
        case measure => simp [intOf]; omega
      | false =>
        have H8 := Lib.hid (H7.out 2)
        rw [(HP.out zF).1, (HP.out _).2] at H8
        unfold frV at H8
        dsimp only at H8
        go_wp2_with fail
        refine (H8.out).mono ?_
        rintro e w8 ⟨rfl, hF8, _⟩
        have HF8 := Lib.hid (show Fd TP w w8 p (under Y ++ lc X :: (U ++ [⟨2, 0, 0, 7, 0, []⟩])) [] by simpa using hF8)
        clear hF8 H8 H7 hF
        go_wp2_with fail
        go_roundw
        case rel => exact ⟨i + 1, U ++ [⟨2, 0, 0, 7, 0, []⟩], by go_num, by omega, HF8, Lib.hid (hU.out.add (by decide)), Lib.hid (by have := hUl.out; simp; omega)⟩
        case measure => simp [intOf]; omega
    · have hiI : ¬ (i : Int) < (r : Int) := by omega
      obtain ⟨k, hk⟩ : ∃ k : Nat, at_ % 24 = (k : Int) := ⟨(at_ % 24).toNat, by omega⟩
      have hk24 : (k : Int) < 24 := by omega
      clear HF6 hlt hi
      go_upto_region 20 with fail
      rw [hk]
      have H9 := Lib.hid (hF.out.set (k : Int) x)
      rw [set_in hU.out] at H9
      by_cases hkn : k < n
      · have H10 := H9
        rw [get_in hU.out HN.out hkn, orE_is] at H10
        have hkI : (k : Int) < (n : Int) := by omega
        have hkB : decide (k < n) = true := decide_eq_true hkn
        clear hkn hF
        clear H9
        go_wp2_with fail
        refine (H10.out).mono ?_
        rintro e w10 ⟨rfl, hF10⟩
        have HF10 := Lib.hid hF10
        clear hF10 H10
        go_wp2_with fail
        go_loopw [106] (fun z wr2 => ∃ j : Nat, z = .int .i64 (j : Int) ∧ j ≤ n ∧ RowKit.Hid (Fd TP w wr2 p (under Y ++ lc (X.set k x) :: U) [])) (fun z _ => n - (intOf z).toNat)
        case atStart => exact ⟨0, rfl, by omega, HF10⟩
        case round =>
          obtain ⟨j, rfl, hj, hF⟩ := hrel
          by_cases hlt : j < n
          · have hjI : (j : Int) < (n : Int) := by omega
            have hj0 : (0 : Int) ≤ (j : Int) := by omega
            obtain ⟨b, o, rfl, hc⟩ := HAT.out wr hF.out.mod j hlt
            have H11 := Lib.hid (hF.out.get (j : Int))
            rw [get_in (n := n) hU.out (by rw [List.length_set]; exact HN.out) hlt, orE_is, Option.getD_some, set_at HN.out hlt] at H11
            obtain ⟨y, hy⟩ : ∃ y, y = X.getD j 0 := ⟨_, rfl⟩
            rw [← hy] at hc H11
            clear hy HF10
            by_cases hjk : j = k
            · have q1 : ((j : Int) == (k : Int)) = true := beq_iff_eq.2 (by omega)
              rw [if_pos hjk] at H11
              clear hjk
              go_wp2_with fail
              refine (H11.out).mono ?_
              rintro e w12 ⟨rfl, hF12⟩
              have HF12 := Lib.hid hF12
              clear hF12 H11 hF
              go_wp2_with fail
              go_roundw
              case rel => exact ⟨j + 1, by go_num, by omega, HF12⟩
              case measure => simp [intOf]; omega
            · have q1 : ((j : Int) == (k : Int)) = false := beq_eq_false_iff_ne.2 (by omega)
              rw [if_neg hjk] at H11
              clear hjk
              go_wp2_with fail
              refine (H11.out).mono ?_
              rintro e w12 ⟨rfl, hF12⟩
              have HF12 := Lib.hid hF12
              clear hF12 H11 hF
              go_wp2_with fail
              go_roundw
              case rel => exact ⟨j + 1, by go_num, by omega, HF12⟩
              case measure => simp [intOf]; omega
          · have hjI : ¬ (j : Int) < (n : Int) := by omega
            have H11 := Lib.hid (hF.out.get (n : Int))
            rw [get_out hU.out (by rw [List.length_set, ← HN.out]; omega), orE_none, Option.getD_none] at H11
            clear HF10 hlt hj hF
            go_wp2_with fail
            refine (H11.out).mono ?_
            rintro e w12 ⟨rfl, hF12⟩
            have H12 := Lib.hid (hF12.get (-1))
            rw [get_out hU.out (by omega), orE_none, Option.getD_none] at H12
            clear hF12 H11
            go_wp2_with fail
            refine (H12.out).mono ?_
            rintro e w13 ⟨rfl, hF13⟩
            have H13 := Lib.hid (hF13.cut 1)
            rw [show cutL 1 (under Y ++ lc (X.set k x) :: U) = [lc Y] from rfl] at H13
            clear hF13 H12
            go_wp2_with fail
            refine (H13.out).mono ?_
            rintro e w14 ⟨⟨r14, rfl⟩, hF14, _⟩
            have HF14 := Lib.hid hF14
            clear hF14 H13
            go_wp2_with fail
            go_loopw [146] (fun z wr3 => ∃ j : Nat, z = .int .i64 (j : Int) ∧ j ≤ m ∧ RowKit.Hid (Fd TP w wr3 p [lc Y] [])) (fun z _ => m - (intOf z).toNat)
            case atStart => exact ⟨0, rfl, by omega, HF14⟩
            case round =>
              obtain ⟨j, rfl, hj, hF⟩ := hrel
              by_cases hlt : j < m
              · have hjI : (j : Int) < (m : Int) := by omega
                have hj0 : (0 : Int) ≤ (j : Int) := by omega
                obtain ⟨b, o, rfl, hc⟩ := HBT.out wr hF.out.mod j hlt
                have H15 := Lib.hid (hF.out.get (j : Int))
                rw [get_one HM.out hlt, orE_is, Option.getD_some] at H15
                obtain ⟨y, hy⟩ : ∃ y, y = Y.getD j 0 := ⟨_, rfl⟩
                rw [← hy] at hc H15
                clear hy HF14
                go_wp2_with fail
                refine (H15.out).mono ?_
                rintro e w16 ⟨rfl, hF16⟩
                have HF16 := Lib.hid hF16
                clear hF16 H15 hF
                go_wp2_with fail
                go_roundw
                case rel => exact ⟨j + 1, by go_num, by omega, HF16⟩
                case measure => simp [intOf]; omega
              · have hjI : ¬ (j : Int) < (m : Int) := by omega
                have HMM := Lib.hid hF.out.mod
                go_wp2_with fail
                go_ret
                exact ⟨rfl, HMM.out⟩
      · have H10 := H9
        rw [get_out hU.out (by rw [← HN.out]; omega), orE_none] at H10
        have hkI : ¬ (k : Int) < (n : Int) := by omega
        have hkB : decide (k < n) = false := decide_eq_false hkn
        clear hkn hF
        clear H9
        go_wp2_with fail
        refine (H10.out).mono ?_
        rintro e w10 ⟨rfl, hF10⟩
        have HF10 := Lib.hid hF10
        clear hF10 H10
        go_wp2_with fail
        go_loopw [106] (fun z wr2 => ∃ j : Nat, z = .int .i64 (j : Int) ∧ j ≤ n ∧ RowKit.Hid (Fd TP w wr2 p (under Y ++ lc (X.set k x) :: U) [])) (fun z _ => n - (intOf z).toNat)
        case atStart => exact ⟨0, rfl, by omega, HF10⟩
        case round =>
          obtain ⟨j, rfl, hj, hF⟩ := hrel
          by_cases hlt : j < n
          · have hjI : (j : Int) < (n : Int) := by omega
            have hj0 : (0 : Int) ≤ (j : Int) := by omega
            obtain ⟨b, o, rfl, hc⟩ := HAT.out wr hF.out.mod j hlt
            have H11 := Lib.hid (hF.out.get (j : Int))
            rw [get_in (n := n) hU.out (by rw [List.length_set]; exact HN.out) hlt, orE_is, Option.getD_some, set_at HN.out hlt] at H11
            obtain ⟨y, hy⟩ : ∃ y, y = X.getD j 0 := ⟨_, rfl⟩
            rw [← hy] at hc H11
            clear hy HF10
            by_cases hjk : j = k
            · have q1 : ((j : Int) == (k : Int)) = true := beq_iff_eq.2 (by omega)
              rw [if_pos hjk] at H11
              clear hjk
              go_wp2_with fail
              refine (H11.out).mono ?_
              rintro e w12 ⟨rfl, hF12⟩
              have HF12 := Lib.hid hF12
              clear hF12 H11 hF
              go_wp2_with fail
              go_roundw
              case rel => exact ⟨j + 1, by go_num, by omega, HF12⟩
              case measure => simp [intOf]; omega
            · have q1 : ((j : Int) == (k : Int)) = false := beq_eq_false_iff_ne.2 (by omega)
              rw [if_neg hjk] at H11
              clear hjk
              go_wp2_with fail
              refine (H11.out).mono ?_
              rintro e w12 ⟨rfl, hF12⟩
              have HF12 := Lib.hid hF12
              clear hF12 H11 hF
              go_wp2_with fail
              go_roundw
              case rel => exact ⟨j + 1, by go_num, by omega, HF12⟩
              case measure => simp [intOf]; omega
          · have hjI : ¬ (j : Int) < (n : Int) := by omega
            have H11 := Lib.hid (hF.out.get (n : Int))
            rw [get_out hU.out (by rw [List.length_set, ← HN.out]; omega), orE_none, Option.getD_none] at H11
            clear HF10 hlt hj hF
            go_wp2_with fail
            refine (H11.out).mono ?_
            rintro e w12 ⟨rfl, hF12⟩
            have H12 := Lib.hid (hF12.get (-1))
            rw [get_out hU.out (by omega), orE_none, Option.getD_none] at H12
            clear hF12 H11
            go_wp2_with fail
            refine (H12.out).mono ?_
            rintro e w13 ⟨rfl, hF13⟩
            have H13 := Lib.hid (hF13.cut 1)
            rw [show cutL 1 (under Y ++ lc (X.set k x) :: U) = [lc Y] from rfl] at H13
            clear hF13 H12
            go_wp2_with fail
            refine (H13.out).mono ?_
            rintro e w14 ⟨⟨r14, rfl⟩, hF14, _⟩
            have HF14 := Lib.hid hF14
            clear hF14 H13
            go_wp2_with fail
            go_loopw [146] (fun z wr3 => ∃ j : Nat, z = .int .i64 (j : Int) ∧ j ≤ m ∧ RowKit.Hid (Fd TP w wr3 p [lc Y] [])) (fun z _ => m - (intOf z).toNat)
            case atStart => exact ⟨0, rfl, by omega, HF14⟩
            case round =>
              obtain ⟨j, rfl, hj, hF⟩ := hrel
              by_cases hlt : j < m
              · have hjI : (j : Int) < (m : Int) := by omega
                have hj0 : (0 : Int) ≤ (j : Int) := by omega
                obtain ⟨b, o, rfl, hc⟩ := HBT.out wr hF.out.mod j hlt
                have H15 := Lib.hid (hF.out.get (j : Int))
                rw [get_one HM.out hlt, orE_is, Option.getD_some] at H15
                obtain ⟨y, hy⟩ : ∃ y, y = Y.getD j 0 := ⟨_, rfl⟩
                rw [← hy] at hc H15
                clear hy HF14
                go_wp2_with fail
                refine (H15.out).mono ?_
                rintro e w16 ⟨rfl, hF16⟩
                have HF16 := Lib.hid hF16
                clear hF16 H15 hF
                go_wp2_with fail
                go_roundw
                case rel => exact ⟨j + 1, by go_num, by omega, HF16⟩
                case measure => simp [intOf]; omega
              · have hjI : ¬ (j : Int) < (m : Int) := by omega
                have HMM := Lib.hid hF.out.mod
                go_wp2_with fail
                go_ret
                exact ⟨rfl, HMM.out⟩
end Go.Proofs.Ytacmidlhfcnkiaa
