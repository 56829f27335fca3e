/- Layer 10: the document's Loops, walked. Condition: there are at most 1000000 instructions. -/
import Derived.Test.YtnclfopdgilgaaaIG
import Derived.Deep.CutRange
import Derived.BigQuiet
namespace Go.Proofs.Ytnclfopdgilgaaa
open Go.RowKit
set_option linter.unusedVariables false

/-- The rows of the ways. -/
def toW (x : Xi) (i : Nat) : List Int := (if onX x.op then [(i : Int) + 1] else []) ++ (if goesX x.op then [x.a] else [])
def manyW (x : Xi) (v : Int) : List Int := (if onX x.op then [v + (moreX x.op).1] else []) ++ (if goesX x.op then [v + (moreX x.op).2] else [])
theorem toW_is (x : Xi) (i : Nat) : toW x i = (waysX x i).map (·.1) := by
  rw [ways_doc]; unfold toW
  split <;> split <;> rfl
theorem manyW_is (x : Xi) (i : Nat) (v : Int) : manyW x v = (waysX x i).map (fun tm => v + tm.2) := by
  rw [ways_doc]; unfold manyW
  split <;> split <;> rfl
theorem more_le (op : Nat) : -1 ≤ (moreX op).1 ∧ (moreX op).1 ≤ 1 ∧ -1 ≤ (moreX op).2 ∧ (moreX op).2 ≤ 1 := by
  unfold moreX
  repeat' split
  all_goals simp
set_option maxHeartbeats 4000000 in
set_option maxRecDepth 100000 in
theorem rloops_calls {w : World} {A : Option Addr} {n cap : Nat} {L : List Xi} (hL : InsAt w A L) (hn : n = L.length) (hb : n ≤ 1000000) : Calls Try.prog 37 #[defV A n cap] w (TellsL L w) := by
  have hM := Mod.refl [] w
  by_cases h0 : n = 0
  · subst h0
    have hL0 : L = [] := List.eq_nil_of_length_eq_zero hn.symm
    subst hL0
    clear hn hL hb
    go_enter Try.func37, Try.ntmps37
    go_wp2
    go_ret2
    exact Or.inr ⟨rfl, bad_nil, hM.alloc _⟩
  · have h0I : ((n : Int) == 0) = false := by rw [beq_eq_false_iff_ne]; omega
    have hnI : (n : Int) ≤ 1000000 := by omega
    have HN := Lib.hid hn
    have HMw := Lib.hid ((Mod.refl [] w).alloc (.cells #[.slice A n cap] 41))
    have HL1 := Lib.hid (hL.far HMw.out)
    have hd : (w.alloc (.cells #[.slice A n cap] 41)).cell? ⟨w.heap.size, 0, none⟩ = some (.slice A n cap) := by rw [World.cell?_alloc_new]; rfl
    have HD := Lib.hid hd
    have hmk := make_ints (w.alloc (.cells #[.slice A n cap] 41)) n (by omega)
    have H0 := Lib.hid (And.intro (Iv.new (w.alloc (.cells #[.slice A n cap] 41)) (List.replicate n 0) (by rw [List.length_replicate]; omega)) ((Mod.refl [] (w.alloc (.cells #[.slice A n cap] 41))).alloc (.cells (intsV (List.replicate n 0)).toArray 3)))
    have hsz := size_allocI w (.cells #[.slice A n cap] 41)
    clear hL hn hM hd
    go_enter Try.func37, Try.ntmps37
    go_wp2_with fail
    obtain ⟨w0, hw0⟩ : ∃ w0, w0 = w.alloc (.cells #[.slice A n cap] 41) := ⟨_, rfl⟩
    rw [← hw0] at HMw HL1 HD H0 hsz
    rw [← hw0]
    clear hw0 hmk
    obtain ⟨b, hbb⟩ : ∃ b, b = w.heap.size + 1 := ⟨_, rfl⟩
    rw [hsz, ← hbb] at H0
    rw [← hbb] at hsz
    rw [← hbb]
    have HB := Lib.hid (show w0.heap.size ≤ b by omega)
    clear hsz hbb
    go_loopg [6] n (fun g z wr => ∃ k : Nat, z = .int .i64 (k : Int) ∧ k + g = n ∧ RowKit.Hid (Iv wr b (List.replicate k (-1) ++ List.replicate (n - k) 0) ∧ Mod [] w0 wr))
    case atStart => exact ⟨0, rfl, by omega, by simpa using H0⟩
    case round =>
      clear H0
      obtain ⟨k, rfl, hkn, hi⟩ := hrel
      by_cases hlt : k < n
      · have hltI : (k : Int) < (n : Int) := by omega
        have hc := hi.out.1.cell (rep_get n k hlt)
        have hf := hi.out.1.free k
        have HI := Lib.hid hi.out
        clear hi
        go_wp2_with fail
        go_roundg (gk - 1)
        case measure => omega
        case rel =>
          refine ⟨k + 1, by go_num, by omega, Lib.hid ⟨?_, HI.out.2.then (set_mod _ _ _ _) (by simpa using HB.out)⟩⟩
          rw [← rep_set n k hlt]
          exact HI.out.1.set k (-1)
      · have hltI : ¬ (k : Int) < (n : Int) := by omega
        have hkn2 : k = n := by omega
        have h1 : Iv wr b (List.replicate n (-1)) := by have := hi.out.1; rw [hkn2] at this; simpa using this
        have hc0 := h1.cell (k := 0) (v := -1) (by rw [List.getElem?_replicate, if_pos (by omega)])
        have hf0 := h1.free 0
        have HI := Lib.hid (show Rm w0 (wr.setCell ⟨b, 0, none⟩ (.int .i64 0)) b ((List.replicate n (-1)).set 0 0) (.slice none 0 0) (.slice none 0 0) [] [] from ⟨h1.set 0 0, Ir.nil _ _, Ir.nil _ _, (by intro e; cases e), (by intro e; cases e), (fun g e => by cases e), hi.out.2.then (set_mod wr b 0 (.int .i64 0)) (by simpa using HB.out), HB.out⟩)
        clear hi h1 hkn hkn2
        go_wp2_with fail
        clear hc0 hf0 hltI hlt
        go_loopg [7] (2 * cnt ((List.replicate n (-1)).set 0 0) + 1) (fun g z wr => ∃ (c : Bool) (o : List Int), z = .bool c ∧ RowKit.Hid (Rm w0 wr b o (.slice none 0 0) (.slice none 0 0) [] [] ∧ Sr2 L o c n 0 ∧ g = 2 * cnt o + c.toNat))
        case atStart => exact ⟨true, _, rfl, Lib.hid ⟨HI.out, Sr2.start HN.out (by omega) n 0, rfl⟩⟩
        case round =>
          clear HI
          obtain ⟨c, o, rfl, hi⟩ := hrel
          cases c with
          | false =>
            have HI := Lib.hid (And.intro hi.out.1 (hi.out.2.1.lab (by have := HN.out; omega)))
            clear hi
            go_wp2_with fail
            go_ret2
            have e : n = o.length := by rw [HI.out.2.len]; exact HN.out
            exact Or.inl ⟨b, o, by rw [← e]; rfl, HI.out.2, HI.out.1.iv, HMw.out.trans HI.out.1.m, Nat.le_trans HMw.out.size HI.out.1.nb⟩
          | true =>
            obtain ⟨gO, hgO⟩ : ∃ gO, gO = gk := ⟨_, rfl⟩
            have HI := Lib.hid (And.intro hi.out.1 (And.intro hi.out.2.1.again (show gO = 2 * cnt o + 1 by rw [hgO]; exact hi.out.2.2)))
            have HGO := Lib.hid hgO
            obtain ⟨C, hC⟩ : ∃ C, C = cnt o := ⟨_, rfl⟩
            have HC := Lib.hid hC
            clear hi hgO hC
            go_wp2_with fail
            go_loopg [7, 8] n (fun g z y wr => ∃ (c : Bool) (o : List Int) (i : Nat), z = .bool c ∧ y = .int .i64 (i : Int) ∧ i + g = n ∧ RowKit.Hid (Rm w0 wr b o (.slice none 0 0) (.slice none 0 0) [] [] ∧ Sr2 L o c i 0 ∧ cnt o ≤ C ∧ (c = true → cnt o + 1 ≤ C)))
            case atStart => exact ⟨false, o, 0, rfl, rfl, by omega, Lib.hid ⟨HI.out.1, HI.out.2.1, by rw [HC.out]; exact Nat.le_refl _, fun h => by cases h⟩⟩
            case round =>
              obtain ⟨c, o', i, rfl, rfl, hig, hi⟩ := hrel
              by_cases hlt : i < n
              · have hltI : (i : Int) < (n : Int) := by omega
                obtain ⟨hi1, hi2, hi3, hi4⟩ := hi.out
                clear hi
                have hiI : (i : Int) ≤ 1000000 := by omega
                obtain ⟨v, hv⟩ : ∃ v, o'[i]? = some v := ⟨_, List.getElem?_eq_getElem (by rw [hi2.b.len]; have := HN.out; omega)⟩
                have hcv := hi1.iv.cell hv
                have HK := Lib.hid hig
                by_cases hv0 : v = -1
                · subst hv0
                  have HJ := Lib.hid (And.intro hi1 (And.intro (hi2.skip hv) (And.intro hi3 hi4)))
                  clear hi1 hi2 hi3 hi4 hv hig HI
                  go_wp2_with fail
                  go_roundg (gk - 1)
                  case measure => have := HK.out; omega
                  case rel => exact ⟨c, o', i + 1, rfl, by go_num, by have := HK.out; omega, HJ⟩
                · obtain ⟨x, hx⟩ : ∃ x, L[i]? = some x := ⟨_, List.getElem?_eq_getElem (by have := HN.out; omega)⟩
                  have hvl := hi2.b.get hv
                  have hol : (o'.length : Int) = n := by rw [hi2.b.len]; have := HN.out; omega
                  have hvb : decide (v < 0) = false := decide_eq_false (by omega)
                  obtain ⟨B, off, rfl, hat, hwx⟩ := (HL1.out.far hi1.m).get hx
                  have hc0 := hat.c0
                  have hc1 := hat.c1
                  have hc2 := hat.c2
                  have hd := hi1.m.cell (by simp) HD.out
                  obtain ⟨p1, hp1⟩ : ∃ p1, p1 = (moreX x.op).1 := ⟨_, rfl⟩
                  obtain ⟨p2, hp2⟩ : ∃ p2, p2 = (moreX x.op).2 := ⟨_, rfl⟩
                  obtain ⟨pn, hpn⟩ : ∃ pn, pn = onX x.op := ⟨_, rfl⟩
                  obtain ⟨pg, hpg⟩ : ∃ pg, pg = goesX x.op := ⟨_, rfl⟩
                  have hml := more_le x.op
                  rw [← hp1, ← hp2] at hml
                  obtain ⟨s1, hs1⟩ : ∃ s1, s1 = v + p1 := ⟨_, rfl⟩
                  obtain ⟨s2, hs2⟩ : ∃ s2, s2 = v + p2 := ⟨_, rfl⟩
                  have hw1 : wrap64 (v + p1) = s1 := by rw [hs1]; apply wrap_id; unfold I64; omega
                  have hw2 : wrap64 (v + p2) = s2 := by rw [hs2]; apply wrap_id; unfold I64; omega
                  have kM := fun W => rmore_calls W x.op
                  rw [← hp1, ← hp2] at kM
                  have kO := fun W => ron_calls W x.op
                  rw [← hpn] at kO
                  have kG := fun W => rgoes_calls W x.op
                  rw [← hpg] at kG
                  have HKM := Lib.hid kM
                  have HKO := Lib.hid kO
                  have HKG := Lib.hid kG
                  have HTM : RowKit.Hid (toW x i = (if pn then [(i : Int) + 1] else []) ++ (if pg then [x.a] else []) ∧ manyW x v = (if pn then [s1] else []) ++ (if pg then [s2] else [])) := Lib.hid ⟨by unfold toW; rw [← hpn, ← hpg], by unfold manyW; rw [← hpn, ← hpg, ← hp1, ← hp2, ← hs1, ← hs2]⟩
                  have hm1 := (Mod.refl [] wr).alloc (.cells #[.int .u8 (x.op : Int), .int .i64 x.a, .int .i64 x.w] 35)
                  have HJ := Lib.hid (And.intro (hi1.far hm1) (And.intro hi2 (And.intro hi3 (And.intro hi4 (And.intro hv (And.intro hv0 hx))))))
                  clear hi1 hi2 hi3 hi4 hv hv0 hx hvl hol hat hwx hp1 hp2 hpn hpg hml hs1 hs2 kM kO kG hm1 hig HI
                  go_upto_if 56 with (first | (refine (HKM.out _).mono ?_; rintro e w4 ⟨rfl, rfl⟩) | (refine (HKO.out _).mono ?_; rintro e w4 ⟨rfl, rfl⟩))
                  go_cut [12, 13] from 33 to 155 (fun z y wc => ∃ (A1 : Option Addr) (n1 c1 : Nat) (A2 : Option Addr) (n2 c2 : Nat), z = .slice A1 n1 c1 ∧ y = .slice A2 n2 c2 ∧ RowKit.Hid (Rm w0 wc b o' (.slice A1 n1 c1) (.slice A2 n2 c2) (if pn then [(i : Int) + 1] else []) (if pn then [s1] else []) ∧ Mod [] (wr.alloc (.cells #[.int .u8 (x.op : Int), .int .i64 x.a, .int .i64 x.w] 35)) wc))
                  case first =>
                    cases pn with
                    | true =>
                      obtain ⟨A1, n1, c1, w5, A2, n2, c2, w6, e1, e2, l1, l2, hv5, hr6, hm6⟩ := HJ.out.1.both (by simp) (by simp) ((i : Int) + 1) s1
                      have hc5 := hv5.cell HJ.out.2.2.2.2.1
                      rw [size_allocI] at e1
                      have HR := Lib.hid (And.intro hr6 hm6)
                      clear hv5 hr6 hm6 l1 l2
                      go_wp2_with fail
                      go_meet
                      case rel => exact ⟨A1, n1, c1, A2, n2, c2, rfl, rfl, Lib.hid ⟨HR.out.1, HR.out.2⟩⟩
                    | false =>
                      go_wp2_with fail
                      go_meet
                      case rel => exact ⟨_, _, _, _, _, _, rfl, rfl, Lib.hid ⟨HJ.out.1, Mod.refl [] _⟩⟩
                  case rest =>
                    obtain ⟨A1, n1, c1, A2, n2, c2, rfl, rfl, hc⟩ := hcut
                    have hx0 := hc.out.2.cell (x := ⟨wr.heap.size, 0, none⟩) (v := .int .u8 (x.op : Int)) (by simp) (by rw [World.cell?_alloc_new]; rfl)
                    have hx1 := hc.out.2.cell (x := ⟨wr.heap.size, 1, none⟩) (v := .int .i64 x.a) (by simp) (by rw [World.cell?_alloc_new]; rfl)
                    have HC1 := Lib.hid hc.out
                    have hcv1 := hc.out.1.iv.cell HJ.out.2.2.2.2.1
                    clear hc
                    go_upto_if 73 with (refine (HKG.out _).mono ?_; rintro e w4 ⟨rfl, rfl⟩)
                    go_cut [12, 13] from 33 to 155 (fun z y wc => ∃ (A1 : Option Addr) (n1 c1 : Nat) (A2 : Option Addr) (n2 c2 : Nat), z = .slice A1 n1 c1 ∧ y = .slice A2 n2 c2 ∧ RowKit.Hid (Rm w0 wc b o' (.slice A1 n1 c1) (.slice A2 n2 c2) (toW x i) (manyW x v)))
                    case first =>
                      cases pg with
                      | true =>
                        obtain ⟨A3, n3, c3, w5, A4, n4, c4, w6, e1, e2, l1, l2, hv5, hr6, hm6⟩ := HC1.out.1.both (by cases pn <;> simp) (by cases pn <;> simp) x.a s2
                        have hc5 := hv5.cell HJ.out.2.2.2.2.1
                        have HR := Lib.hid hr6
                        clear hv5 hr6 hm6 l1 l2
                        go_wp2_with fail
                        go_meet
                        case rel => exact ⟨A3, n3, c3, A4, n4, c4, rfl, rfl, Lib.hid (by rw [HTM.out.1, HTM.out.2]; exact HR.out)⟩
                      | false =>
                        go_wp2_with fail
                        go_meet
                        case rel => exact ⟨_, _, _, _, _, _, rfl, rfl, Lib.hid (by rw [HTM.out.1, HTM.out.2]; simpa using HC1.out.1)⟩
                    case rest =>
                      clear hx0 hx1 hcv1 hcv hd hc0 hc1 hc2
                      obtain ⟨A3, n3, c3, A4, n4, c4, rfl, rfl, hc⟩ := hcut
                      have HR := Lib.hid hc.out
                      obtain ⟨W, hW⟩ : ∃ W, W = waysX x i := ⟨_, rfl⟩
                      have hTl : (toW x i).length = W.length := by rw [toW_is, hW, List.length_map]
                      have hMl : (manyW x v).length = W.length := by rw [manyW_is x i v, hW, List.length_map]
                      obtain ⟨A3', c3', e3, hT, hc3', hT2, hT3⟩ := hc.out.r1.opened
                      obtain ⟨rfl, rfl, rfl⟩ : A3 = A3' ∧ n3 = (toW x i).length ∧ c3 = c3' := by injection e3 with a b c; exact ⟨a, b, c⟩
                      obtain ⟨A4', c4', e4, hMn, hc4', hM2, hM3⟩ := hc.out.r2.opened
                      obtain ⟨rfl, rfl, rfl⟩ : A4 = A4' ∧ n4 = (manyW x v).length ∧ c4 = c4' := by injection e4 with a b c; exact ⟨a, b, c⟩
                      rw [hTl, hMl] at HR
                      obtain ⟨nW, hnW⟩ : ∃ nW, nW = W.length := ⟨_, rfl⟩
                      have hn2 : nW ≤ 2 := by rw [hnW, hW]; exact ways_two x i
                      rw [hTl, hMl, ← hnW]
                      rw [← hnW] at HR
                      have HWW := Lib.hid (And.intro hW hnW)
                      have hJ : RowKit.Hid (Rm w0 wc b o' (.slice A3 nW c3) (.slice A4 nW c4) (toW x i) (manyW x v) ∧ Sr2 L o' c i 0 ∧ cnt o' ≤ C ∧ (c = true → cnt o' + 1 ≤ C)) := Lib.hid ⟨HR.out, HJ.out.2.1, HJ.out.2.2.1, HJ.out.2.2.2.1⟩
                      have HX := Lib.hid HJ.out.2.2.2.2.2.2
                      have HV := Lib.hid (And.intro HJ.out.2.2.2.2.1 HJ.out.2.2.2.2.2.1)
                      clear hc hW hnW hTl hMl e3 e4 hT hMn hc3' hT2 hT3 hc4' hM2 hM3 HR HJ
                      go_wp2_with fail
                      go_loopg [7, 14] nW (fun g z y wy => ∃ (k : Nat) (c : Bool) (o : List Int), k + g = nW ∧ z = .bool c ∧ y = .int .i64 (k : Int) ∧ RowKit.Hid (Rm w0 wy b o (.slice A3 nW c3) (.slice A4 nW c4) (toW x i) (manyW x v) ∧ Sr2 L o c i k ∧ cnt o ≤ C ∧ (c = true → cnt o + 1 ≤ C) ∧ o[i]? = some v))
                      case atStart => exact ⟨0, c, o', by omega, rfl, rfl, Lib.hid ⟨hJ.out.1, hJ.out.2.1, hJ.out.2.2.1, hJ.out.2.2.2, HV.out.1⟩⟩
                      case round =>
                        clear hJ
                        obtain ⟨k, c, o, hk, rfl, rfl, hi⟩ := hrel
                        by_cases hlt : k < nW
                        · have hltI : (k : Int) < (nW : Int) := by omega
                          obtain ⟨⟨t, m⟩, htm⟩ : ∃ tm, W[k]? = some tm := ⟨_, List.getElem?_eq_getElem (by rw [← HWW.out.2]; exact hlt)⟩
                          have htm' : (waysX x i)[k]? = some (t, m) := by rw [← HWW.out.1]; exact htm
                          have hmm := ways_more x i _ (List.mem_of_getElem? htm')
                          simp only at hmm
                          have ht1 : (toW x i)[k]? = some t := by rw [toW_is, List.getElem?_map, htm']; rfl
                          have ht2 : (manyW x v)[k]? = some (v + m) := by rw [manyW_is x i v, List.getElem?_map, htm']; rfl
                          obtain ⟨s, hs⟩ : ∃ s, s = v + m := ⟨_, rfl⟩
                          rw [← hs] at ht2
                          obtain ⟨g1, og1, rfl, hct⟩ := hi.out.1.r1.at k (List.getElem?_eq_some_iff.1 ht1).1
                          obtain ⟨g2, og2, rfl, hcm⟩ := hi.out.1.r2.at k (List.getElem?_eq_some_iff.1 ht2).1
                          rw [(List.getElem?_eq_some_iff.1 ht1).2] at hct
                          rw [(List.getElem?_eq_some_iff.1 ht2).2] at hcm
                          have hol : (o.length : Int) = n := by rw [hi.out.2.1.b.len]; have := HN.out; omega
                          have HS := Lib.hid (And.intro hs (And.intro hi.out.2.2.2.2 (And.intro HV.out.2 (And.intro htm' hol))))
                          have HZ := Lib.hid hi.out
                          have HG4 := Lib.hid hk
                          clear hi htm htm' hmm ht1 ht2 hol hk hs
                          by_cases h1 : t < 0
                          · have hbad : RowKit.Hid (Bad L) := Lib.hid (HZ.out.2.1.b.bad HS.out.2.1 HS.out.2.2.1 HX.out (List.mem_of_getElem? HS.out.2.2.2.1) (Or.inr (Or.inl h1)))
                            have h1b : decide (t < 0) = true := decide_eq_true h1
                            clear h1
                            go_wp2_with fail
                            go_quiet (fail)
                            all_goals
                              go_wp2_with fail
                              go_ret2
                              exact Or.inr ⟨rfl, hbad.out, HMw.out.trans (HZ.out.1.m.drewN _)⟩
                          · have h1b : decide (t < 0) = false := decide_eq_false h1
                            by_cases h2 : (n : Int) ≤ t
                            · have hbad : RowKit.Hid (Bad L) := Lib.hid (HZ.out.2.1.b.bad HS.out.2.1 HS.out.2.2.1 HX.out (List.mem_of_getElem? HS.out.2.2.2.1) (Or.inr (Or.inr (Or.inl (by rw [HS.out.2.2.2.2]; exact h2)))))
                              have h2b : decide ((n : Int) ≤ t) = true := decide_eq_true h2
                              clear h1 h2
                              go_wp2_with fail
                              go_quiet (fail)
                              all_goals
                                go_wp2_with fail
                                go_ret2
                                exact Or.inr ⟨rfl, hbad.out, HMw.out.trans (HZ.out.1.m.drewN _)⟩
                            · have h2b : decide ((n : Int) ≤ t) = false := decide_eq_false h2
                              by_cases h3 : s < 0
                              · have hbad : RowKit.Hid (Bad L) := Lib.hid (HZ.out.2.1.b.bad HS.out.2.1 HS.out.2.2.1 HX.out (List.mem_of_getElem? HS.out.2.2.2.1) (Or.inl (by rw [← HS.out.1]; exact h3)))
                                have h3b : decide (s < 0) = true := decide_eq_true h3
                                clear h1 h2 h3
                                go_wp2_with fail
                                go_quiet (fail)
                                all_goals
                                  go_wp2_with fail
                                  go_ret2
                                  exact Or.inr ⟨rfl, hbad.out, HMw.out.trans (HZ.out.1.m.drewN _)⟩
                              · have h3b : decide (s < 0) = false := decide_eq_false h3
                                obtain ⟨t', rfl⟩ := Int.eq_ofNat_of_zero_le (Int.not_lt.1 h1)
                                have htn : (t' : Int) < (n : Int) := by omega
                                have htnb : decide (n ≤ t') = false := decide_eq_false (by omega)
                                obtain ⟨u, hu⟩ : ∃ u, o[t']? = some u := ⟨_, List.getElem?_eq_getElem (by have := HS.out.2.2.2.2; omega)⟩
                                have hcu := HZ.out.1.iv.cell hu
                                have hul := HZ.out.2.1.b.get hu
                                have HU := Lib.hid (And.intro hu (And.intro h3 hul.1))
                                clear hu hul h1 h2 h3
                                by_cases h4 : u < 0
                                · have h4b : decide (0 ≤ u) = false := decide_eq_false (by omega)
                                  have h4c : decide (u < 0) = true := decide_eq_true h4
                                  have hfu := HZ.out.1.iv.free t'
                                  have HU4 := Lib.hid h4
                                  clear h4
                                  go_wp2_with fail
                                  go_quiet (fail)
                                  all_goals
                                    go_wp2_with fail
                                    go_region
                                    all_goals
                                      go_wp2_with fail
                                      go_roundg (gk - 1)
                                      case measure => have := HG4.out; omega
                                      case rel =>
                                        have hu1 : u = -1 := by have := HU.out.2.2; have := HU4.out; omega
                                        have hk := HG4.out
                                        have h0s := HU.out.2.1
                                        have hp := HZ.out.2.1.put HX.out HS.out.2.2.2.1 HS.out.2.1 HS.out.2.2.1 rfl (by rw [HU.out.1, hu1]) (by rw [← HS.out.1]; omega)
                                        have hcn := cnt_set (v := s) (t := t') (by rw [HU.out.1, hu1]) (show s ≠ -1 by omega)
                                        rw [← HS.out.1] at hp
                                        have hz3 := HZ.out.2.2.1
                                        refine ⟨k + 1, true, o.set t' s, by omega, rfl, by go_num, Lib.hid ⟨?_, hp, by omega, fun _ => by omega, ?_⟩⟩
                                        · exact (HZ.out.1.far ((Mod.refl [] wr).drewN _)).set t' s
                                        · rw [List.getElem?_set_ne]
                                          · exact HS.out.2.1
                                          · intro e
                                            subst e
                                            have h1 := HU.out.1
                                            rw [HS.out.2.1] at h1
                                            injection h1 with h1
                                            exact HS.out.2.2.1 (by rw [h1]; exact hu1)
                                · have h4b : decide (0 ≤ u) = true := decide_eq_true (by omega)
                                  have h4c : decide (u < 0) = false := decide_eq_false h4
                                  have HU4 := Lib.hid h4
                                  clear h4
                                  by_cases h5 : u = s
                                  · subst h5
                                    go_wp2_with fail
                                    go_quiet (fail)
                                    all_goals
                                      go_wp2_with fail
                                      go_roundg (gk - 1)
                                      case measure => have := HG4.out; omega
                                      case rel =>
                                        have hk := HG4.out
                                        have h0s := HU.out.2.1
                                        refine ⟨k + 1, c, o, by omega, rfl, by go_num, Lib.hid ⟨?_, HZ.out.2.1.there HX.out HS.out.2.2.2.1 HS.out.2.1 rfl (by rw [← HS.out.1]; exact HU.out.1) (by rw [← HS.out.1]; omega), HZ.out.2.2.1, HZ.out.2.2.2.1, HS.out.2.1⟩⟩
                                        exact HZ.out.1.far ((Mod.refl [] wr).drewN _)
                                  · have h5b : (u != s) = true := by simpa using h5
                                    have hbad : RowKit.Hid (Bad L) := Lib.hid (HZ.out.2.1.b.bad HS.out.2.1 HS.out.2.2.1 HX.out (List.mem_of_getElem? HS.out.2.2.2.1) (Or.inr (Or.inr (Or.inr ⟨t', u, rfl, HU.out.1, (by have := HU4.out; omega), by rw [← HS.out.1]; exact h5⟩))))
                                    clear h5
                                    go_wp2_with fail
                                    go_quiet (fail)
                                    all_goals
                                      go_wp2_with fail
                                      go_ret2
                                      exact Or.inr ⟨rfl, hbad.out, HMw.out.trans (HZ.out.1.m.drewN _)⟩
                        · have hltI : ¬ (k : Int) < (nW : Int) := by omega
                          have HY := Lib.hid (And.intro hi.out.1.drop (And.intro (hi.out.2.1.next HX.out (by have h1 := HWW.out.1; have h2 := HWW.out.2; rw [← h1]; omega)) (And.intro hi.out.2.2.1 hi.out.2.2.2.1)))
                          clear hi
                          go_wp2_with fail
                          go_roundg (n - (i + 1))
                          case measure => have := HK.out; omega
                          case rel => exact ⟨c, o, i + 1, rfl, by go_num, by omega, HY⟩
              · have hltI : ¬ (i : Int) < (n : Int) := by omega
                have hin : i = n := by omega
                have HJ := Lib.hid (And.intro hi.out.1 (And.intro (show Sr2 L o' c n 0 by rw [← hin]; exact hi.out.2.1) hi.out.2.2))
                have HG2 := Lib.hid HI.out.2.2
                clear hi hin HI
                go_wp2_with fail
                go_roundg (2 * cnt o' + c.toNat)
                case measure =>
                  have h1 := HJ.out.2.2.1
                  have h2 := HJ.out.2.2.2
                  have h3 := HG2.out
                  have h4 := HGO.out
                  have h5 := HC.out
                  cases c
                  · simp only [Bool.toNat_false]; omega
                  · have := h2 rfl; simp only [Bool.toNat_true]; omega
                case rel => exact ⟨c, o', rfl, Lib.hid ⟨HJ.out.1, HJ.out.2.1, rfl⟩⟩
end Go.Proofs.Ytnclfopdgilgaaa
