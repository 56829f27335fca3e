/- Layer 9 (package rhytonref09): the walk of the document's Back. Condition: the block is such a dictionary (Rd9). -/
import Derived.Test.YtldnpppbnakcoaaD9G
namespace Go.Proofs.Ytldnpppbnakcoaa
open Go.RowKit
set_option linter.unusedVariables false

theorem v_int9 {a b : Int} (h : a = b) : Value.int .i64 a = Value.int .i64 b := by rw [h]
theorem filter_take (p : Int → Bool) (O : List Int) (i : Nat) (h : i < O.length) : (O.take (i + 1)).filter p = (O.take i).filter p ++ (if p O[i] = true then [O[i]] else []) := by
  rw [List.take_succ_eq_append_getElem h, List.filter_append]
  congr 1
  by_cases e : p O[i] = true
  · rw [if_pos e]; simp [e]
  · rw [if_neg e]; simp [e]
set_option maxHeartbeats 2500000 in
set_option maxRecDepth 100000 in
theorem back9_calls {w : World} {q : Nat} {T : List Nat} {D : Di} (h : Rd9 w q T D) (a b : Int) (ha : I64 a) (hb : I64 b) :
    Calls Try.prog 37 #[PtD q, .agg #[.int .i64 a, .int .i64 b]] w (DPlays q T (.int .i64 (backR D a b).1) (backR D a b).2 w) := by
  have mA : Mod [] w (w.alloc (.cells #[.int .i64 a, .int .i64 b] 31)) := (Mod.refl [] w).alloc _
  have hM0 := (MapKept.heap_alloc w (.cells #[.int .i64 a, .int .i64 b] 31)).1
  have m0 : (w.alloc (.cells #[.int .i64 a, .int .i64 b] 31)).cell? ⟨w.heap.size, 0, none⟩ = some (.int .i64 a) := by simp only [World.cell?, hM0]; rfl
  have m1 : (w.alloc (.cells #[.int .i64 a, .int .i64 b] 31)).cell? ⟨w.heap.size, 1, none⟩ = some (.int .i64 b) := by simp only [World.cell?, hM0]; rfl
  have HA := Lib.hid (h.far mA)
  obtain ⟨v, u, hv, rfl⟩ := h
  have HV := Lib.hid hv
  obtain ⟨A, cap, rfl, hcap, _⟩ := rowD_open hv.rv
  obtain ⟨Ao, co, rfl, _, _⟩ := rowD_open hv.ru
  have hvA := hv.mod mA (by simp)
  obtain ⟨n, hn⟩ : ∃ n, n = D.W.length := ⟨_, rfl⟩
  obtain ⟨k, hk⟩ : ∃ k, k = D.k := ⟨_, rfl⟩
  have hd := hv.dw
  have hdk := hv.dk
  have k0 := hvA.c0
  have k1 := hvA.c1
  rw [← hn] at hd k0 hcap
  rw [← hk] at hdk k1
  have HNK := Lib.hid (And.intro hn hk)
  have HM := Lib.hid mA
  obtain ⟨r, hr⟩ : ∃ r, r = backR D a b := ⟨_, rfl⟩
  rw [← hr]
  have HR := Lib.hid hr
  have hnI : (n : Int) ≤ 2000 := by omega
  have hkI : (k : Int) ≤ 8 := by omega
  clear hv hvA hn hk mA hM0 hr
  unfold DPlays
  by_cases h1 : a < 0
  · have hr9 : r = (1, D) := HR.out.trans (mayBack_bad fun hh => by omega)
    subst hr9
    clear HR
    have hg : decide (a < 0) = true := decide_eq_true h1
    go_enter Try.func37, Try.ntmps37
    go_upto_region 1 with fail
    go_quiet (fail)
    go_wp2_with fail
    go_ret
    exact ⟨rfl, _, HA.out.far ((Mod.refl [] _).drewN _), TurnD.of ((HM.out.drewN _).up (by simp))⟩
  · by_cases h2 : b < 1
    · have hr9 : r = (1, D) := HR.out.trans (mayBack_bad fun hh => by omega)
      subst hr9
      clear HR
      go_enter Try.func37, Try.ntmps37
      go_upto_region 1 with fail
      go_quiet (fail)
      go_wp2_with fail
      go_ret
      exact ⟨rfl, _, HA.out.far ((Mod.refl [] _).drewN _), TurnD.of ((HM.out.drewN _).up (by simp))⟩
    · by_cases h3 : (n : Int) < a
      · have hr9 : r = (1, D) := HR.out.trans (mayBack_bad fun hh => by have := HNK.out.1; omega)
        subst hr9
        clear HR
        go_enter Try.func37, Try.ntmps37
        go_upto_region 1 with fail
        go_quiet (fail)
        go_wp2_with fail
        go_ret
        exact ⟨rfl, _, HA.out.far ((Mod.refl [] _).drewN _), TurnD.of ((HM.out.drewN _).up (by simp))⟩
      · by_cases h4 : (k : Int) < b
        · have hr9 : r = (1, D) := HR.out.trans (mayBack_bad fun hh => by have := HNK.out.2; omega)
          subst hr9
          clear HR
          go_enter Try.func37, Try.ntmps37
          go_upto_region 1 with fail
          go_quiet (fail)
          go_wp2_with fail
          go_ret
          exact ⟨rfl, _, HA.out.far ((Mod.refl [] _).drewN _), TurnD.of ((HM.out.drewN _).up (by simp))⟩
        · obtain ⟨x, rfl⟩ : ∃ x : Nat, a = (x : Int) := ⟨a.toNat, by omega⟩
          obtain ⟨y, rfl⟩ : ∃ y : Nat, b = (y : Int) := ⟨b.toNat, by omega⟩
          have hxn : x ≤ n := by omega
          have hyk : y ≤ 8 := by omega
          have hy1 : 1 ≤ y := by omega
          have hx1 : ¬ (x : Int) < 0 := h1
          go_enter Try.func37, Try.ntmps37
          go_upto_region 1 with fail
          go_quiet (fail)
          go_wp2_with fail
          go_loopw [5] (fun z wr => ∃ i : Nat, z = .int .i64 (i : Int) ∧ i ≤ x ∧ RowKit.Hid (Mod [] (w.alloc (.cells #[.int .i64 (x : Int), .int .i64 (y : Int)] 31)) wr ∧ ∀ j (hj : j < D.W.length), j < i → D.W[j].l ≤ (y : Int))) (fun z _ => x - (intOf z).toNat)
          case atStart => exact ⟨0, rfl, by omega, Lib.hid ⟨(Mod.refl [] _).drewN _, fun j hj hk => by omega⟩⟩
          case round =>
            obtain ⟨i, rfl, hix, hi⟩ := hrel
            have HI := Lib.hid hi.out
            have g0 := HI.out.1.cell (x := ⟨w.heap.size, 0, none⟩) (by simp) m0
            have g1 := HI.out.1.cell (x := ⟨w.heap.size, 1, none⟩) (by simp) m1
            have j0 := HI.out.1.cell (x := ⟨q, 0, none⟩) (by simp) k0
            have j1 := HI.out.1.cell (x := ⟨q, 1, none⟩) (by simp) k1
            clear hi m0 m1 k0 k1
            by_cases hlt : i < x
            · have hltI : (i : Int) < (x : Int) := by omega
              have hil : i < D.W.length := by have := HNK.out.1; omega
              have hin : (i : Int) < (n : Int) := by omega
              have hvr := HV.out.mod (HM.out.trans HI.out.1) (by simp)
              obtain ⟨g, cap', he, hat⟩ := hvr.word i hil
              injection he with he1 he2 he3
              subst he1
              have d3 := hat.c3
              obtain ⟨l, hl⟩ : ∃ l, l = D.W[i].l := ⟨_, rfl⟩
              rw [← hl] at d3
              have HLL := Lib.hid hl
              clear hvr hat he2 he3 hl
              by_cases hly : (y : Int) < l
              · have hr9 : r = (1, D) := HR.out.trans (mayBack_word i hil (by omega) (by rw [← HLL.out]; exact hly))
                subst hr9
                clear HR
                go_upto_region 6 with fail
                go_quiet (fail)
                go_wp2_with fail
                go_ret
                exact ⟨rfl, _, HA.out.far ((HI.out.1).drewN _), TurnD.of ((HM.out.trans ((HI.out.1).drewN _)).up (by simp))⟩
              · go_upto_region 6 with fail
                go_quiet (fail)
                go_wp2_with fail
                go_roundw
                case rel => exact ⟨i + 1, by go_num, by omega, Lib.hid ⟨HI.out.1.drewN _, fun j hj hk => by
                  by_cases e : j = i
                  · subst e; rw [← HLL.out]; omega
                  · exact HI.out.2 j hj (by omega)⟩⟩
                case measure => simp [intOf]; omega
            · have hltI : ¬ (i : Int) < (x : Int) := by omega
              have hr9 := HR.out.trans (mayBack_ok ⟨by omega, by omega, by have := HNK.out.1; omega, by have := HNK.out.2; omega⟩ fun j hj hk => HI.out.2 j hj (by omega))
              rw [Int.toNat_natCast, Int.toNat_natCast] at hr9
              have HR9 := Lib.hid hr9
              have hsl := words_upto A n cap x (by omega)
              have hm2 := HM.out.trans HI.out.1
              have hcw := (show RdV w q (.slice A n cap) (.slice Ao D.O.length co) D by rw [HNK.out.1]; exact HV.out).cutW HNK.out.1 hxn hm2.drew
              have hf0 := ((hm2.frozen (x := ⟨q, 0, none⟩) (by simp) HV.out.lp)).trans (HV.out.f 0)
              have hcw1 : RdV (wr.setCell ⟨q, 0, none⟩ (.slice A x cap)).drew q (.slice A x cap) (.slice Ao D.O.length co) { D with W := D.W.take x } := hcw.1
              have hcw2 : TurnD (blocksD q (.slice A n cap) (.slice Ao D.O.length co)) (blocksD q (.slice A x cap) (.slice Ao D.O.length co)) w (wr.setCell ⟨q, 0, none⟩ (.slice A x cap)).drew := hcw.2
              have hmq : Mod [q] wr (wr.setCell ⟨q, 0, none⟩ (.slice A x cap)).drew := ((Mod.refl [q] wr).set (x := ⟨q, 0, none⟩) (Or.inl (by simp)) _).drew
              have HCW := Lib.hid (And.intro hcw1 (And.intro hcw2 (hmq.cell (x := ⟨w.heap.size, 1, none⟩) (by simp; have := HV.out.lp; omega) g1)))
              clear hr9 hcw hcw1 hcw2 hmq hm2 HR
              go_upto_region 8 with fail
              go_region
              all_goals
                clear g0 j0 j1 hsl hf0 g1
                generalize (wr.setCell ⟨q, 0, none⟩ (.slice A x cap)).drew = W1 at HCW ⊢
                have g1 := HCW.out.2.2
                have e1 := HCW.out.1.c1
                have ef := HCW.out.1.f 1
                have hs := HCW.out.1.setk y hyk
                have H2 := Lib.hid (And.intro hs.1 (HCW.out.2.1.trans (TurnD.of (up1 hs.2))))
                clear hs
                go_upto_region 10 with fail
                generalize W1.setCell ⟨q, 1, none⟩ (.int .i64 (y : Int)) = W2 at H2 ⊢
                clear g1 e1 ef HCW
                obtain ⟨o, ho⟩ : ∃ o, o = D.O.length := ⟨_, rfl⟩
                have f2 := H2.out.1.c2
                have f3 := H2.out.1.c3
                have hod : D.O.length ≤ 8 := H2.out.1.do_
                have HO := Lib.hid ho
                have f2 : W2.cell? ⟨q, 2, none⟩ = some (.slice Ao o co) := by rw [ho]; exact f2
                have ho8 : o ≤ 8 := by omega
                have ho8I : (o : Int) ≤ 8 := by omega
                clear ho hod
                go_wp2_with fail
                go_loopw [6, 7] (fun v z wq => ∃ (i : Nat) (X : List Int), z = .int .i64 (i : Int) ∧ i ≤ o ∧ RowKit.Hid (X = (D.O.take i).filter (inK (y : Int))) ∧ RowKit.Hid (wq.ownsRow W2.heap.size 3 1 v X.length (intsV X) ∧ Mod [] W2 wq)) (fun _ z _ => o - (intOf z).toNat)
                case atStart => exact ⟨0, [], rfl, by omega, Lib.hid rfl, Lib.hid ⟨World.ownsRow_nil _ _ _ _, Mod.refl _ _⟩⟩
                case round =>
                  obtain ⟨i, X, rfl, hio, hXe, hi⟩ := hrel
                  have HI := Lib.hid hi.out
                  have j2 := HI.out.2.cell (x := ⟨q, 2, none⟩) (by simp) f2
                  have j3 := HI.out.2.cell (x := ⟨q, 3, none⟩) (by simp) f3
                  clear hi f2 f3
                  have hvr := H2.out.1.mod HI.out.2 (by simp)
                  by_cases hlt : i < o
                  · have hltI : (i : Int) < (o : Int) := by omega
                    have hio2 : i < D.O.length := by rw [← HO.out]; exact hlt
                    obtain ⟨g, cap', he, hc⟩ := hvr.ord i hio2
                    injection he with he1 he2 he3
                    subst he1
                    have hst := filter_take (inK (y : Int)) D.O i hio2
                    rw [← hXe.out] at hst
                    have K1 := Lib.hid (known_calls ⟨_, _, hvr, rfl⟩ D.O[i])
                    obtain ⟨l, hl⟩ : ∃ l, l = D.O[i] := ⟨_, rfl⟩
                    replace hc : wr.cell? ⟨g, i, none⟩ = some (.int .i64 l) := by rw [hl]; exact hc
                    rw [← hl] at K1 hst
                    have K1 := Lib.hid (show Calls Try.prog 50 #[PtD q, .int .i64 l] wr fun e w' => e = .returned (.bool (inK (y : Int) l)) ∧ wr = w' from K1.out)
                    have hXl : X.length ≤ 1000000000 := by
                      have := List.length_filter_le (inK (y : Int)) (D.O.take i)
                      rw [← hXe.out, List.length_take] at this
                      omega
                    clear hvr he2 he3 hl
                    obtain ⟨bk, hbk⟩ : ∃ bk, bk = inK (y : Int) l := ⟨_, rfl⟩
                    rw [← hbk] at K1 hst
                    clear hbk
                    cases bk with
                    | true =>
                      rw [if_pos rfl] at hst
                      have HST := Lib.hid hst
                      have HB := Lib.hid (show World.ownsRow (wr.alloc (.cells #[.int .i64 l] 3)) W2.heap.size 3 1 _ _ _ from HI.out.1.alloc _)
                      have hcc : (wr.alloc (.cells #[.int .i64 l] 3)).cell? ((⟨wr.heap.size, 0, none⟩ : Addr).add 0) = some (.int .i64 l) := by
                        rw [WideShapes.add_plain, Nat.zero_add, World.cell?_alloc_new]
                        rfl
                      have HC := Lib.hid hcc
                      have HM2 := Lib.hid (HI.out.2.alloc (.cells #[.int .i64 l] 3))
                      clear hst hcc
                      go_wp2_with fail
                      refine (K1.out).mono ?_
                      rintro e u1 ⟨rfl, rfl⟩
                      go_wp2_with (refine wpList_appI9 rfl (.tmp 85) (.tmp 93) rfl HB.out HM2.out.size hXl _ 1 l HC.out rfl rfl ?_)
                      intro v' w' b1 b2
                      have B1 := Lib.hid b1
                      have M1 := Lib.hid (show Mod [] W2 w' from ⟨b2.os.trans HM2.out.os, b2.tape.trans HM2.out.tape, b2.output.trans HM2.out.output, Nat.le_trans HM2.out.size b2.size, fun t ht hh => (b2.block t (by omega)).trans (HM2.out.block t ht hh)⟩)
                      clear b1 b2
                      go_wp2_with fail
                      go_roundw
                      case rel => exact ⟨i + 1, X ++ [l], by go_num, by omega, Lib.hid HST.out.symm, Lib.hid ⟨by rw [List.length_append]; exact B1.out, M1.out⟩⟩
                      case measure => simp [intOf]; omega
                    | false =>
                      rw [if_neg (by simp), List.append_nil] at hst
                      have HST := Lib.hid hst
                      clear hst
                      go_wp2_with fail
                      refine (K1.out).mono ?_
                      rintro e u1 ⟨rfl, rfl⟩
                      go_wp2_with fail
                      go_roundw
                      case rel => exact ⟨i + 1, X, by go_num, by omega, Lib.hid HST.out.symm, HI⟩
                      case measure => simp [intOf]; omega
                  · have hltI : ¬ (i : Int) < (o : Int) := by omega
                    have hrow := HI.out.1
                    have hXf : X = D.O.filter (inK (y : Int)) := by rw [hXe.out, List.take_of_length_le (by rw [← HO.out]; omega)]
                    obtain ⟨Ar, nr, cr, hvs⟩ : ∃ Ar nr cr, u6 = .slice Ar nr cr := by
                      rcases hrow.2 with ⟨e, _⟩ | ⟨g, cp, cur, e, _⟩
                      · exact ⟨_, _, _, e⟩
                      · exact ⟨_, _, _, e⟩
                    subst hvs
                    have hlo : X.length ≤ 8 := by rw [hXf]; exact Nat.le_trans (List.length_filter_le _ _) (by rw [← HO.out]; exact ho8)
                    have hso := H2.out.1.setO HI.out.2 ⟨hrow.1, hrow.2.elim Or.inl fun ⟨g, c, cur, e1, e2, e3⟩ => Or.inr ⟨g, c, cur, e1, Nat.zero_le _, e3⟩⟩ (fun g hg => (World.ownsRow.lt hrow g hg).1) hlo
                    have kf := hvr.f 2
                    have HSO := Lib.hid hso
                    have hXf0 := hXf
                    clear hso hrow hvr
                    clear hXf hlo hXe HI
                    go_upto_region 17 with fail
                    have w3 := HSO.out.1.c3
                    have f3 := HSO.out.1.f 3
                    obtain ⟨l, hl⟩ : ∃ l, l = D.c := ⟨_, rfl⟩
                    have K3 := known_calls ⟨_, _, HSO.out.1, rfl⟩ D.c
                    have K3 : Calls Try.prog 50 #[PtD q, .int .i64 D.c] (wr.setCell ⟨q, 2, none⟩ (.slice Ar nr cr)) fun e w' => e = .returned (.bool (inK (y : Int) D.c)) ∧ wr.setCell ⟨q, 2, none⟩ (.slice Ar nr cr) = w' := K3
                    rw [← hl] at K3
                    replace w3 : (wr.setCell ⟨q, 2, none⟩ (.slice Ar nr cr)).cell? ⟨q, 3, none⟩ = some (.int .i64 l) := by rw [hl]; exact w3
                    obtain ⟨bk, hbk⟩ : ∃ bk, bk = inK (y : Int) l := ⟨_, rfl⟩
                    rw [← hbk] at K3
                    have HB := Lib.hid (And.intro hbk hl)
                    have HK3 := Lib.hid K3
                    have HX := Lib.hid hXf0
                    clear hbk hl K3 hXf0 j2 j3 kf
                    generalize hW : wr.setCell ⟨q, 2, none⟩ (.slice Ar nr cr) = W3 at HSO HK3 w3 f3 ⊢
                    clear hW
                    cases bk with
                    | true =>
                      go_wp2_with fail
                      refine (HK3.out).mono ?_
                      rintro e u1 ⟨rfl, rfl⟩
                      go_wp2_with fail
                      go_ret
                      rw [HR9.out, ← HB.out.2, ← HB.out.1, if_pos rfl, ← HX.out, HB.out.2, ← HNK.out.1]
                      exact ⟨rfl, _, ⟨_, _, HSO.out.1, rfl⟩, H2.out.2.trans HSO.out.2⟩
                    | false =>
                      have hsc := HSO.out.1.setc 1
                      have HSC := Lib.hid hsc
                      clear hsc
                      go_wp2_with fail
                      refine (HK3.out).mono ?_
                      rintro e u1 ⟨rfl, rfl⟩
                      go_wp2_with fail
                      go_ret
                      rw [HR9.out, ← HB.out.2, ← HB.out.1, if_neg (by simp), ← HX.out, ← HNK.out.1]
                      exact ⟨rfl, _, ⟨_, _, HSC.out.1, rfl⟩, (H2.out.2.trans HSO.out.2).trans (TurnD.of (up1 HSC.out.2))⟩
end Go.Proofs.Ytldnpppbnakcoaa
