/- Layer 9: the program's isNamed, In, Names. Condition: the block is such a dictionary (Pd9), names that are looked for have at most 9223372036854775807 bytes. -/
import Derived.Test.YtldnpppbnakcoaaD9Q
namespace Go.Proofs.Ytldnpppbnakcoaa
open Go.RowKit
set_option linter.unusedVariables false

theorem PdV.at {w : World} {p : Nat} {v : Value} {b : Nat} {u : Value} {Z : List (Nat × We)} {D : Di} (h : PdV w p v b u Z D) {k : Nat} {pre r : List (Nat × We)} {z : Nat × We} (e : Z.drop k = pre ++ z :: r) : WoAt w z.1 z.2 (headZ r z.2.l) ∧ z.2.n.length ≤ 31 ∧ r = Z.drop (k + pre.length + 1) ∧ (∀ l, rankV Z (ptO (headZ r l)) < rankV Z (PtW z.1)) := by
  have hk : Z = (Z.take k ++ pre) ++ z :: r := by rw [List.append_assoc, ← e, List.take_append_drop]
  refine ⟨(Ws.app (w := w) (pre := pre) (by rw [← e]; exact h.body.ws.drop k)).1, h.names z.2 ?_, ?_, fun l => rankV_head ?_ hk l⟩
  · rw [h.eW, List.mem_reverse]
    refine List.mem_map.2 ⟨z, ?_, rfl⟩
    rw [hk]
    simp
  · have : Z.drop (k + (pre.length + 1)) = (Z.drop k).drop (pre.length + 1) := by rw [List.drop_drop]
    rw [Nat.add_assoc, this, e, ← List.drop_drop]
    simp
  · have hn := (List.nodup_cons.1 h.nd).2
    unfold tailP at hn
    have hn2 := (List.nodup_cons.1 hn).2
    have hn3 := (List.nodup_append.1 hn2).2.1
    exact (List.nodup_append.1 hn3).2.1
set_option maxHeartbeats 1000000 in
theorem named_calls {w : World} {q : Nat} {a : We} {pr : Option Nat} (h : WoAt w q a pr) (ha : a.n.length ≤ 31) (n : List UInt8) : Calls Try.prog 48 #[PtW q, .string (str (foldL n))] w fun e w' => e = .returned (.bool (foldL a.n == foldL n)) ∧ Mod [] w w' := by
  have d0 := h.c0
  have hM := Lib.hid (Mod.refl [] w)
  have K1 := Lib.hid (fun W => fold_calls a.n (by omega) W)
  have hsN := str_size a.n
  have hsF := str_size (foldL n)
  have hlA := foldL_len a.n
  have hlF := foldL_len n
  obtain ⟨N, hN⟩ : ∃ N, N = str a.n := ⟨_, rfl⟩
  obtain ⟨FA, hFA⟩ : ∃ FA, FA = str (foldL a.n) := ⟨_, rfl⟩
  obtain ⟨FB, hFB⟩ : ∃ FB, FB = str (foldL n) := ⟨_, rfl⟩
  rw [← hN] at d0 K1 hsN
  rw [← hFA] at K1
  rw [← hFB] at hsF ⊢
  by_cases hl : a.n.length = n.length
  · have hI : ((N.size : Int) == (FB.size : Int)) = true := by rw [beq_iff_eq]; omega
    by_cases hf : FA = FB
    · have hr : (foldL a.n == foldL n) = true := by
        rw [beq_iff_eq]
        exact str_inj (by rw [← hFA, ← hFB, hf])
      rw [hr]
      subst hf
      clear h hN hFA hFB hsN hsF hlA hlF hl hr ha
      go_enter Try.func48, Try.ntmps48
      go_wp2_with fail
      refine (K1.out _).mono ?_
      rintro e u1 ⟨rfl, m1⟩
      go_wp2_with fail
      go_ret
      exact ⟨rfl, hM.out.trans m1⟩
    · have hr : (foldL a.n == foldL n) = false := by
        rw [beq_eq_false_iff_ne]
        exact fun e => hf (by rw [hFA, hFB, e])
      rw [hr]
      have hfl : (FA.toList == FB.toList) = false := by
        rw [beq_eq_false_iff_ne]
        exact fun e => hf (by
          rw [ByteArray.toList_eq, ByteArray.toList_eq] at e
          rw [str_back FA, str_back FB, e])
      clear h hN hFA hFB hsN hsF hlA hlF hl hr ha
      go_enter Try.func48, Try.ntmps48
      go_wp2_with fail
      refine (K1.out _).mono ?_
      rintro e u1 ⟨rfl, m1⟩
      go_wp2_with fail
      go_ret
      exact ⟨rfl, hM.out.trans m1⟩
  · have hI : ((N.size : Int) == (FB.size : Int)) = false := by rw [beq_eq_false_iff_ne]; omega
    have hr : (foldL a.n == foldL n) = false := by
      rw [beq_eq_false_iff_ne]
      exact fun e => hl (by rw [← hlA, ← hlF, e])
    rw [hr]
    clear h hN hFA hFB hsN hsF hlA hlF hl hr ha K1
    go_enter Try.func48, Try.ntmps48
    go_wp2_with fail
    go_ret
    exact ⟨rfl, hM.out⟩
set_option maxHeartbeats 4000000 in
theorem pin_calls {w : World} {p : Nat} {T : List Nat} {D : Di} (h : Pd9 w p T D) (l : Int) (n : List UInt8) (hn : n.length ≤ 9223372036854775807) :
    Calls Try.prog 29 #[PtD p, .int .i64 l, .string (str n)] w (DTells (resE (inW D.W l n)) w) := by
  obtain ⟨v, b, u, Z, hv, rfl⟩ := h
  have HV := Lib.hid hv
  have HE := Lib.hid (show inW D.W l n = inZ Z l n by rw [hv.eW]; exact inZ_W Z l n)
  have K0 := Lib.hid (fun W => fold_calls n hn W)
  have mA : Mod [] w (w.alloc (.cells #[.string ⟨#[]⟩, .int .i64 0, .bool false] 49)) := (Mod.refl [] w).alloc _
  have MA := Lib.hid mA
  obtain ⟨F, hF⟩ : ∃ F, F = str (foldL n) := ⟨_, rfl⟩
  rw [← hF] at K0
  have HF := Lib.hid hF
  clear hv mA hF
  unfold DTells
  go_enter Try.func29, Try.ntmps29
  go_wp2_with fail
  refine (K0.out _).mono ?_
  rintro e u1 ⟨rfl, m1⟩
  have M1 := Lib.hid m1
  have K1 := Lib.hid (lastOf_calls (HV.out.mod (MA.out.trans m1) (by simp)) l)
  clear m1
  go_wp2_with fail
  refine (K1.out).mono ?_
  rintro e u2 ⟨rfl, rfl⟩
  go_wp2_with fail
  go_loopw [9] (fun z wr => ∃ (k : Nat), z = ptO (headZ (Z.drop k) l) ∧ RowKit.Hid (Mod [] (w.alloc (.cells #[.string ⟨#[]⟩, .int .i64 0, .bool false] 49)) wr ∧ inZ Z l n = inZ (Z.drop k) l n)) (fun z _ => rankV Z z)
  case atStart => exact ⟨0, by rw [List.drop_zero], Lib.hid ⟨M1.out, by rw [List.drop_zero]⟩⟩
  case round =>
    obtain ⟨k, hz, hi⟩ := hrel
    cases hq : headZ (Z.drop k) l with
    | none =>
      rw [hq] at hz
      replace hz : _ = Value.pointer none := hz
      subst hz
      have HNO := Lib.hid (show inW D.W l n = none by rw [HE.out, hi.out.2]; exact inZ_none n hq)
      have MI := Lib.hid hi.out.1
      obtain ⟨c0, c1, c2, cf⟩ := E3.new w hi.out.1
      have f0 := cf 0
      have f1 := cf 1
      have f2 := cf 2
      obtain ⟨r0, r1, r2⟩ := set3 c0 c1 c2 (.string ⟨#[]⟩) (.int .i64 0) (.bool false)
      have R := Lib.hid (And.intro r0 (And.intro r1 r2))
      clear hi cf r0 r1 r2 hq
      go_wp2_with fail
      obtain ⟨r0, r1, r2⟩ := R.out
      refine bodyPost_ret (v := resE none) ?_ rfl ⟨by rw [HNO.out], mod_set3 (MA.out.trans MI.out) (Nat.le_refl _) _ _ _⟩
      simp [results, Try.results29, go_sem, r0, r1, r2, resE, entV, noneE, str]
    | some q =>
      rw [hq] at hz
      replace hz : _ = PtW q := hz
      subst hz
      have HI := Lib.hid hi.out
      obtain ⟨pre, z, r, e, rfl, hzl, hno⟩ := headZ_some hq
      have hvr := HV.out.mod (MA.out.trans hi.out.1) (by simp)
      obtain ⟨hat, hnl, hr, hrk⟩ := hvr.at e
      have KN := Lib.hid (named_calls hat hnl n)
      rw [← HF.out] at KN
      have HAT := Lib.hid hat
      have hin : inZ Z l n = inZ (z :: r) l n := by rw [hi.out.2, e]; exact inZ_app hno
      obtain ⟨q, hqz⟩ : ∃ q, q = z.1 := ⟨_, rfl⟩
      rw [← hqz] at KN HAT
      rw [← hqz] at hq
      by_cases hf : (foldL z.2.n == foldL n) = true
      · have HH := Lib.hid (show inW D.W l n = some z.2 by
          rw [HE.out, hin]
          unfold inZ
          simp [isW, hzl, hf])
        rw [hf] at KN
        obtain ⟨a, ha⟩ : ∃ a, a = z.2 := ⟨_, rfl⟩
        rw [← ha] at HAT HH
        clear hi hvr hat hnl hr hrk e hno hin hf hq
        rw [← hqz]
        clear hqz ha hzl
        go_wp2_with fail
        refine (KN.out).mono ?_
        rintro e u1 ⟨rfl, m1⟩
        have M2 := Lib.hid m1
        have hat2 := HAT.out.mod m1 (by simp)
        have g1 := hat2.c0
        have g2 := hat2.c1
        have g3 := hat2.c2
        obtain ⟨c0, c1, c2, cf⟩ := E3.new w (HI.out.1.trans M2.out)
        have f0 := cf 0
        have f1 := cf 1
        have f2 := cf 2
        obtain ⟨N, hN⟩ : ∃ N, N = str a.n := ⟨_, rfl⟩
        rw [← hN] at g1
        obtain ⟨ax, hax⟩ : ∃ ax, ax = a.x := ⟨_, rfl⟩
        obtain ⟨an, han⟩ : ∃ an, an = a.now := ⟨_, rfl⟩
        rw [← hax] at g2
        rw [← han] at g3
        obtain ⟨r0, r1, r2⟩ := set3 c0 c1 c2 (.string N) (.int .i64 ax) (.bool an)
        have R := Lib.hid (And.intro r0 (And.intro r1 r2))
        have HX2 := Lib.hid (And.intro hN (And.intro hax han))
        clear m1 hat2 cf r0 r1 r2 hN hax han
        go_wp2_with fail
        obtain ⟨r0, r1, r2⟩ := R.out
        have hv : resE (some a) = .tuple #[.agg #[.string N, .int .i64 ax, .bool an], .bool true] := by rw [HX2.out.1, HX2.out.2.1, HX2.out.2.2]; rfl
        refine bodyPost_ret (v := .tuple #[.agg #[.string N, .int .i64 ax, .bool an], .bool true]) ?_ rfl ⟨by rw [HH.out, hv], mod_set3 ((MA.out.trans HI.out.1).trans M2.out) (Nat.le_refl _) _ _ _⟩
        simp [results, Try.results29, go_sem, r0, r1, r2]
      · have hf : (foldL z.2.n == foldL n) = false := by simpa using hf
        rw [hf] at KN
        have HS := Lib.hid (show inZ Z l n = inZ (Z.drop (k + pre.length + 1)) l n by
          rw [hin, hr]
          unfold inZ
          simp [isW, hf])
        have HR := Lib.hid (And.intro hr (And.intro (hrk l) hqz))
        rw [hzl] at HAT
        obtain ⟨o, ho⟩ : ∃ o, o = ptO (headZ r l) := ⟨_, rfl⟩
        have HO := Lib.hid ho
        clear hi hvr hat hnl hr hrk e hno hin hf hq
        rw [← hqz]
        clear hqz hzl
        go_wp2_with fail
        refine (KN.out).mono ?_
        rintro e u1 ⟨rfl, m1⟩
        have M2 := Lib.hid m1
        have g4 := (HAT.out.mod m1 (by simp)).c4
        rw [← ho] at g4
        clear m1 ho
        go_wp2_with fail
        go_roundw
        case rel => exact ⟨k + pre.length + 1, by rw [HO.out, HR.out.1], Lib.hid ⟨HI.out.1.trans M2.out, HS.out⟩⟩
        case measure =>
          have h1 := HR.out.2.1
          rw [HO.out, HR.out.2.2]
          exact h1
set_option maxHeartbeats 4000000 in
theorem pnames_calls {w : World} {p : Nat} {T : List Nat} {D : Di} (h : Pd9 w p T D) (l : Int) :
    Calls Try.prog 20 #[PtD p, .int .i64 l] w (DNames (namesW D.W l) w) := by
  obtain ⟨v, b, u, Z, hv, rfl⟩ := h
  have HV := Lib.hid hv
  have HE := Lib.hid (show namesW D.W l = namesZ Z l by rw [hv.eW]; exact namesZ_W Z l)
  have K1 := Lib.hid (lastOf_calls hv l)
  have hM := Mod.refl [] w
  have HL := Lib.hid (Nat.le_trans (namesZ_len Z l) hv.dw)
  clear hv
  unfold DNames
  go_enter Try.func20, Try.ntmps20
  go_wp2_with fail
  refine (K1.out).mono ?_
  rintro e u2 ⟨rfl, rfl⟩
  go_wp2_with fail
  go_loopw [5, 6] (fun y z wr => ∃ (k : Nat) (X : List ByteArray), z = ptO (headZ (Z.drop k) l) ∧ RowKit.Hid (Sr wr w.heap.size y X ∧ Mod [] w wr ∧ namesZ Z l = X ++ namesZ (Z.drop k) l)) (fun _ z _ => rankV Z z)
  case atStart => exact ⟨0, [], by rw [List.drop_zero], Lib.hid ⟨Sr.nil _ _, hM, by rw [List.drop_zero, List.nil_append]⟩⟩
  case round =>
    clear hM
    obtain ⟨k, X, hz, hi⟩ := hrel
    cases hq : headZ (Z.drop k) l with
    | none =>
      rw [hq] at hz
      replace hz : _ = Value.pointer none := hz
      subst hz
      have HI := Lib.hid hi.out
      have HX := Lib.hid (show namesW D.W l = X by rw [HE.out, HI.out.2.2, namesZ_none hq, List.append_nil])
      clear hi hq
      go_wp2_with fail
      go_ret
      exact ⟨_, rfl, by rw [HX.out]; exact HI.out.1, HI.out.2.1⟩
    | some q =>
      rw [hq] at hz
      replace hz : _ = PtW q := hz
      subst hz
      have HI := Lib.hid hi.out
      obtain ⟨pre, z, r, e, rfl, hzl, hno⟩ := headZ_some hq
      have hvr := HV.out.mod hi.out.2.1 (by simp)
      obtain ⟨hat, hnl, hr, hrk⟩ := hvr.at e
      have HAT := Lib.hid hat
      have HAW := Lib.hid (HV.out.at e).1
      have hin : namesZ Z l = (X ++ [str z.2.n]) ++ namesZ r l := by
        rw [hi.out.2.2, e, namesZ_app hno]
        simp [namesZ, hzl]
      have hXl : X.length ≤ 1000000000 := by
        have h1 := HL.out
        rw [hi.out.2.2, List.length_append] at h1
        omega
      obtain ⟨q, hqz⟩ : ∃ q, q = z.1 := ⟨_, rfl⟩
      rw [← hqz] at HAT HAW
      rw [hzl] at HAT HAW
      obtain ⟨o, ho⟩ : ∃ o, o = ptO (headZ r l) := ⟨_, rfl⟩
      obtain ⟨N, hN⟩ : ∃ N, N = str z.2.n := ⟨_, rfl⟩
      rw [← hN] at hin
      have g0 := HAT.out.c0
      have g4 := HAT.out.c4
      rw [← hN] at g0
      rw [← ho] at g4
      have HS := Lib.hid hin
      have HR := Lib.hid (And.intro hr (And.intro (hrk l) hqz))
      have HO := Lib.hid ho
      have HB := Lib.hid (HI.out.1.far ((Mod.refl [] wr).alloc (.cells #[.string N] 9)))
      have HC := Lib.hid (one_str wr N 9)
      have HM2 := Lib.hid (HI.out.2.1.alloc (.cells #[.string N] 9))
      clear hi hvr hat hnl hr hrk e hno hin hq
      rw [← hqz]
      have g4' := Lib.hid g4
      clear hqz hzl hN ho g4
      go_wp2_with (refine wpList_appT rfl (.tmp 16) (.tmp 22) rfl HB.out HM2.out.size hXl _ 1 N HC.out rfl rfl ?_)
      intro v' w' b1 b2
      have B1 := Lib.hid b1
      have M1 := Lib.hid (HM2.out.below_of b2 (Nat.le_refl _))
      have g4 := (HAW.out.mod M1.out (by simp)).c4
      rw [← HO.out] at g4
      clear b1 b2 g4' g0
      go_wp2_with fail
      go_roundw
      case rel => exact ⟨k + pre.length + 1, X ++ [N], by rw [HO.out, HR.out.1], Lib.hid ⟨B1.out, M1.out, by rw [HS.out, HR.out.1]⟩⟩
      case measure =>
        have h1 := HR.out.2.1
        rw [HO.out, HR.out.2.2]
        exact h1
end Go.Proofs.Ytldnpppbnakcoaa
