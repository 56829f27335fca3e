/- Layer 10: InsLoops, walked. Condition: the table reads as the program's text lays it. -/
import Derived.Test.YtheealjhmndbgaaDoorIZC
import Derived.Deep.CutRange
import Derived.Deep.DeepCutAuto
namespace Go.Proofs.YtheealjhmndbgaaDoor
open Go.RowKit
set_option linter.unusedVariables false

/-- Some of a row's first instructions, in a new row. -/
theorem Xm.copy {w0 w : World} {g n cap : Nat} {Y R : List Xi} (h : Xm w0 w (.slice (some ⟨g, 0, none⟩) n cap) (Y ++ R)) (hl : (Y ++ R).length ≤ 100000) (k : Nat) (hk : k = Y.length) :
    ∃ A m cap' w', (appIns 22 #[.slice (some ⟨w.heap.size, 0, none⟩) 0 0, .slice (some ⟨g, 0, none⟩) k cap]).run Tryd.prog (w.alloc (.cells #[] 36)) = .ok (.slice A m cap') w' ∧ m = k ∧ Xm w w' (.slice A m cap') Y := by
  subst hk
  have h0 := Xr.lit w w.heap.size (Nat.le_refl _) [] (by simp) #[] rfl
  have m0 : Mod [] w (w.alloc (.cells #[] 36)) := (Mod.refl [] w).alloc _
  have h1 := h.row.far m0
  obtain rfl := h1.len.1
  have hc : ∀ j u, (flatsX Y)[j]? = some u → (w.alloc (.cells #[] 36)).cell? ((⟨g, 0, none⟩ : Addr).add j) = some u := fun j u hj => by
    have hjl := (List.getElem?_eq_some_iff.1 hj).1
    rw [flatsX_len] at hjl
    have hown : (w.alloc (.cells #[] 36)).ownsRow w0.heap.size 36 3 (.slice (some ⟨g, 0, none⟩) (Y ++ R).length cap) (Y ++ R).length (flatsX (Y ++ R)) := h1
    rw [WideShapes.add_plain, Nat.zero_add, hown.cellAt j (by rw [List.length_append]; omega), flatsX_app, List.getElem?_append_left (by rw [flatsX_len]; exact hjl)]
    exact hj
  rw [List.length_append] at hl
  obtain ⟨A, m, cap', w', e1, e2, h2, h3⟩ := h0.app (by rw [size_allocI]; omega) Y (by simp; omega) 22 ⟨g, 0, none⟩ Y.length cap rfl hc
  refine ⟨A, m, cap', w', e1, by simpa using e2, ⟨by simpa using h2, m0.then h3 fun x hx => ?_, fun y hy => h.well y (List.mem_append_left _ hy)⟩⟩
  right
  have : x = w.heap.size := by simpa [Value.ownBlock, eq_comm] using hx
  omega
/-- Two instructions appended. -/
theorem Xm.app2 {w0 w : World} {v : Value} {K : List Xi} (h : Xm w0 w v K) (hl : K.length ≤ 100000) (x y : Xi) (hx : WellX x) (hy : WellX y) (cs : Array Value) (hcs : cs = (flatsX [x, y]).toArray) :
    ∃ A m cap w', (appIns 22 #[v, .slice (some ⟨w.heap.size, 0, none⟩) 2 2]).run Tryd.prog (w.alloc (.cells cs 36)) = .ok (.slice A m cap) w' ∧ m = K.length + 2 ∧ Xm w0 w' (.slice A m cap) (K ++ [x, y]) := by
  subst hcs
  have h' := h.far ((Mod.refl [] w).alloc (.cells (flatsX [x, y]).toArray 36))
  obtain ⟨A, m, cap, w', h1, h2, h3, h4⟩ := h'.row.app h'.m.size [x, y] (by simp; omega) 22 ⟨w.heap.size, 0, none⟩ 2 2 rfl (fun j u hj => by
    rw [WideShapes.add_plain, Nat.zero_add, World.cell?_alloc_new, ← hj]
    simp)
  exact ⟨A, m, cap, w', h1, h2, h3, h'.m.then h4 fun z hz => Or.inr (h'.row.own z (by simpa using hz)).1, fun z hz => (List.mem_append.1 hz).elim (h.well z) fun hz => by
    simp at hz
    rcases hz with rfl | rfl
    · exact hx
    · exact hy⟩
theorem Xm.nil (w : World) : Xm w w (.slice none 0 0) [] := ⟨Xr.nil w _, Mod.refl [] w, fun x hx => by cases hx⟩
set_option maxHeartbeats 8000000 in
set_option maxRecDepth 100000 in
theorem nest_walk {w : World} (g : Good w) (c : Nat) (hc : c < 256) (asks : Bool) :
    Calls Tryd.prog 6 #[.int .u8 (c : Int), .bool asks] w fun e w' => e = .returned (.bool true) ∧ Mod [] w w' := by
  have H1 := Lib.hid (shown_calls g)
  have HG := Lib.hid g
  obtain ⟨m, hm⟩ : ∃ m, m = c % 20 := ⟨_, rfl⟩
  have hmI : (c : Int) % 20 = (m : Int) := by omega
  have hmB : (m : Int) ≤ 19 := by omega
  have hcI : (c : Int) < 256 := by omega
  obtain ⟨N, hN⟩ : ∃ N, N = m + 1 := ⟨_, rfl⟩
  have hNI : (m : Int) + 1 = (N : Int) := by omega
  have hN1 : 1 ≤ N := by omega
  have hN20 : N ≤ 20 := by omega
  have hNB : (N : Int) ≤ 20 := by omega
  clear g hc hm hN
  go_enter Tryd.func6, Tryd.ntmps6
  go_wp2_with fail
  refine (H1.out).mono ?_
  rintro e w1 ⟨rfl, hm1⟩
  have HM1 := Lib.hid hm1
  have HS := Lib.hid (Xm.nil w1)
  clear hm1
  go_wp2_with fail
  go_loopg [7, 28] N (fun g z y wr => ∃ (i : Nat) (A : Option Addr) (n cap : Nat), z = .slice A n cap ∧ y = .int .i64 (i : Int) ∧ i + g = N ∧ RowKit.Hid (Xm w1 wr (.slice A n cap) (lpL N asks i)))
  case atStart => exact ⟨0, _, _, _, rfl, rfl, by omega, HS⟩
  case round =>
    clear HS
    obtain ⟨i, A, n, cap, rfl, rfl, hig, hi⟩ := hrel
    by_cases hlt : i < N
    · have hltI : (i : Int) < (N : Int) := by omega
      have HK := Lib.hid hig
      obtain ⟨x, hx⟩ : ∃ x, x = eltX N asks i := ⟨_, rfl⟩
      obtain ⟨A2, n2, cap2, w2, e2, hdrop, hX2⟩ := hi.out.app (by rw [lp_len]; omega) x (by rw [hx]; exact elt_well N asks i hN20 (by omega))
      have HX2 := Lib.hid (show Xm w1 w2 (.slice A2 n2 cap2) (lpL N asks (i + 1)) by rw [← lp_next, ← hx]; exact hX2)
      unfold eltX at hx
      rw [if_pos hlt] at hx
      cases asks with
      | true =>
        rw [if_pos rfl] at hx
        subst hx
        replace e2 : (appIns 22 #[.slice A n cap, .slice (some ⟨wr.heap.size, 0, none⟩) 1 1]).run Tryd.prog (wr.alloc (.cells #[.int .u8 6, .int .i64 (3 * (N : Int) - (i : Int)), .int .i64 0] 36)) = .ok (.slice A2 n2 cap2) w2 := e2
        clear hi hig hX2 hdrop
        go_wp2_with fail
        go_roundg (gk - 1)
        case measure => have := HK.out; omega
        case rel => exact ⟨i + 1, A2, n2, cap2, rfl, by go_num, by have := HK.out; omega, HX2⟩
      | false =>
        rw [if_neg (by simp)] at hx
        subst hx
        replace e2 : (appIns 22 #[.slice A n cap, .slice (some ⟨wr.heap.size, 0, none⟩) 1 1]).run Tryd.prog (wr.alloc (.cells #[.int .u8 5, .int .i64 0, .int .i64 0] 36)) = .ok (.slice A2 n2 cap2) w2 := e2
        clear hi hig hX2 hdrop
        go_wp2_with fail
        go_roundg (gk - 1)
        case measure => have := HK.out; omega
        case rel => exact ⟨i + 1, A2, n2, cap2, rfl, by go_num, by have := HK.out; omega, HX2⟩
    · have hltI : ¬ (i : Int) < (N : Int) := by omega
      obtain rfl : i = N := by omega
      have HI := Lib.hid hi.out
      clear hi hig hlt
      go_wp2_with fail
      go_loopg [7, 44] i (fun g z y wr => ∃ (j : Nat) (A : Option Addr) (n cap : Nat), z = .slice A n cap ∧ y = .int .i64 (j : Int) ∧ j + g = i ∧ RowKit.Hid (Xm w1 wr (.slice A n cap) (lpL i asks (i + j))))
      case atStart => exact ⟨0, _, _, _, rfl, rfl, by omega, HI⟩
      case round =>
        clear HI
        obtain ⟨j, A, n, cap, rfl, rfl, hig, hi⟩ := hrel
        by_cases hlt : j < i
        · have hltJ : (j : Int) < (i : Int) := by omega
          have HK := Lib.hid hig
          obtain ⟨A2, n2, cap2, w2, e2, hdrop, hX2⟩ := hi.out.app (by rw [lp_len]; omega) (eltX i asks (i + j)) (elt_well i asks (i + j) hN20 (by omega))
          have HX2 := Lib.hid (show Xm w1 w2 (.slice A2 n2 cap2) (lpL i asks (i + (j + 1))) by rw [← Nat.add_assoc, ← lp_next]; exact hX2)
          rw [show eltX i asks (i + j) = ⟨11, 0, 0⟩ by unfold eltX; rw [if_neg (by omega), if_pos (by omega)]] at e2
          replace e2 : (appIns 22 #[.slice A n cap, .slice (some ⟨wr.heap.size, 0, none⟩) 1 1]).run Tryd.prog (wr.alloc (.cells #[.int .u8 11, .int .i64 0, .int .i64 0] 36)) = .ok (.slice A2 n2 cap2) w2 := e2
          clear hi hig hX2 hdrop
          go_wp2_with fail
          go_roundg (gk - 1)
          case measure => have := HK.out; omega
          case rel => exact ⟨j + 1, A2, n2, cap2, rfl, by go_num, by have := HK.out; omega, HX2⟩
        · have hltJ : ¬ (j : Int) < (i : Int) := by omega
          obtain rfl : j = i := by omega
          have HI := Lib.hid hi.out
          clear hi hig hlt
          go_wp2_with fail
          go_loopg [7, 52] j (fun g z y wr => ∃ (k : Nat) (A : Option Addr) (n cap : Nat), z = .slice A n cap ∧ y = .int .i64 (k : Int) ∧ k + g = j ∧ RowKit.Hid (Xm w1 wr (.slice A n cap) (lpL j asks (j + j + k))))
          case atStart => exact ⟨0, _, _, _, rfl, rfl, by omega, HI⟩
          case round =>
            clear HI
            obtain ⟨k, A, n, cap, rfl, rfl, hig, hi⟩ := hrel
            by_cases hlt : k < j
            · have hltK : (k : Int) < (j : Int) := by omega
              have HK := Lib.hid hig
              obtain ⟨A2, n2, cap2, w2, e2, hdrop, hX2⟩ := hi.out.app (by rw [lp_len]; omega) (eltX j asks (j + j + k)) (elt_well j asks (j + j + k) hN20 (by omega))
              have HX2 := Lib.hid (show Xm w1 w2 (.slice A2 n2 cap2) (lpL j asks (j + j + (k + 1))) by rw [← Nat.add_assoc, ← lp_next]; exact hX2)
              rw [show eltX j asks (j + j + k) = ⟨7, (j : Int) - (k : Int), 0⟩ by unfold eltX; rw [if_neg (by omega), if_neg (by omega)]; congr 1; omega] at e2
              replace e2 : (appIns 22 #[.slice A n cap, .slice (some ⟨wr.heap.size, 0, none⟩) 1 1]).run Tryd.prog (wr.alloc (.cells #[.int .u8 7, .int .i64 ((j : Int) - (k : Int)), .int .i64 0] 36)) = .ok (.slice A2 n2 cap2) w2 := e2
              clear hi hig hX2 hdrop
              go_wp2_with fail
              go_roundg (gk - 1)
              case measure => have := HK.out; omega
              case rel => exact ⟨k + 1, A2, n2, cap2, rfl, by go_num, by have := HK.out; omega, HX2⟩
            · have hltK : ¬ (k : Int) < (j : Int) := by omega
              obtain rfl : k = j := by omega
              obtain ⟨t, ht⟩ : ∃ t, t = 3 * k := ⟨_, rfl⟩
              obtain ⟨d, hd⟩ : ∃ d, t = d + 1 := ⟨t - 1, by omega⟩
              have htI : 3 * (k : Int) = (t : Int) := by omega
              have hdI : (t : Int) - 1 = (d : Int) := by omega
              have htB : (t : Int) ≤ 60 := by omega
              have hX0 := hi.out
              rw [show k + k + k = t by omega] at hX0
              obtain ⟨A2, n2, cap2, w2, e2, hdrop, hX2⟩ := hX0.app (by rw [lp_len]; omega) ⟨15, 0, 0⟩ ⟨by decide, by unfold I64; decide, by unfold I64; decide⟩
              replace e2 : (appIns 22 #[.slice A n cap, .slice (some ⟨wr.heap.size, 0, none⟩) 1 1]).run Tryd.prog (wr.alloc (.cells #[.int .u8 15, .int .i64 0, .int .i64 0] 36)) = .ok (.slice A2 n2 cap2) w2 := e2
              clear hdrop
              replace hX2 : Xm w1 w2 (.slice A2 n2 cap2) (nestL k asks) := by unfold nestL; rw [← ht]; exact hX2
              obtain ⟨g2, rfl⟩ := hX2.block (by rw [nest_len]; omega)
              obtain rfl : n2 = t + 1 := by rw [hX2.row.len.1, nest_len, ← ht]
              have hcap := hX2.row.len.2.2
              have hcapI : (t : Int) + 1 ≤ (cap2 : Int) := by omega
              have hdc : (d : Int) ≤ (cap2 : Int) := by omega
              have htc : (t : Int) ≤ (cap2 : Int) := by omega
              have hX3 := hX2.far ((Mod.refl [] w2).alloc (.cells #[.slice (some ⟨g2, 0, none⟩) (t + 1) cap2] 24))
              have hbox : (w2.alloc (.cells #[.slice (some ⟨g2, 0, none⟩) (t + 1) cap2] 24)).cell? ⟨w2.heap.size, 0, none⟩ = some (.slice (some ⟨g2, 0, none⟩) (t + 1) cap2) := by rw [World.cell?_alloc_new]; rfl
              have HBOX := Lib.hid hbox
              have HTL := Lib.hid (show t + 1 = (nestL k asks).length ∧ t + 1 ≤ 1000000 from ⟨by rw [nest_len, ← ht], by omega⟩)
              have H2 := Lib.hid (loops_calls (cap := cap2) hX3.ins HTL.out.1 HTL.out.2)
              have HX3 := Lib.hid hX3
              have HDT := Lib.hid (And.intro ht hd)
              clear hi hX0 hX2 hX3 hig hlt hcap hbox ht hd
              go_wp2_with fail
              refine (H2.out).mono ?_
              rintro e w3 (⟨b, o, rfl, hlab, hiv, hm3, hnb⟩ | ⟨rfl, hbad, hm3⟩)
              · obtain rfl := hlab.same (nest_lab k asks)
                rw [show ((List.range (3 * k + 1)).map (labN k)).length = t + 1 by simp; exact HDT.out.1.symm]
                have hX4 := HX3.out.far hm3
                have hbox3 := hm3.cell (by simp) HBOX.out
                have H3 := Lib.hid ((may_calls (cap := cap2) (HG.out.far (HM1.out.trans hX4.m)) hX4.ins HTL.out.1 HTL.out.2 0).mono fun e w' q => may_at (may_yes (nest_may k asks hN1 hN20)) q)
                have HX4 := Lib.hid hX4
                have HIV := Lib.hid hiv
                clear hlab hm3 hX4 hiv hnb H2
                go_wp2_with fail
                refine (H3.out).mono ?_
                rintro e w4 ⟨rfl, hm4⟩
                have HX5 := Lib.hid (HX4.out.far hm4)
                have HIV4 := Lib.hid (HIV.out.far hm4)
                clear hm4 hbox3 H3
                go_wp2_with fail
                go_loopg [90] (t + 1) (fun g z wr => ∃ i : Nat, z = .int .i64 (i : Int) ∧ i + g = t + 1 ∧ RowKit.Hid (Mod [] w4 wr))
                case atStart => exact ⟨0, rfl, by omega, Lib.hid (Mod.refl [] _)⟩
                case round =>
                  obtain ⟨i, rfl, hig, hi⟩ := hrel
                  by_cases hlt : i < t + 1
                  · have hltI : (i : Int) < (t : Int) + 1 := by omega
                    have hc := (HIV4.out.far hi.out).cell (k := i) (v := labN k i) (by rw [List.getElem?_map, List.getElem?_range (by have := HDT.out.1; omega)]; rfl)
                    obtain ⟨q, hq⟩ : ∃ q, q = min i k := ⟨_, rfl⟩
                    have hqI : min (i : Int) (k : Int) = (q : Int) := by omega
                    have HI := Lib.hid hi.out
                    have HG4 := Lib.hid hig
                    by_cases h2 : 2 * k < i
                    · have h2I : decide (2 * (k : Int) < (i : Int)) = true := decide_eq_true (by omega)
                      rw [show labN k i = (t : Int) - (i : Int) by unfold labN; rw [if_pos h2, htI]] at hc
                      clear hi hig hlt hq h2
                      go_wp2_with fail
                      go_roundg (gk - 1)
                      case measure => have := HG4.out; omega
                      case rel => exact ⟨i + 1, by go_num, by have := HG4.out; omega, HI⟩
                    · have h2I : decide (2 * (k : Int) < (i : Int)) = false := decide_eq_false (by omega)
                      rw [show labN k i = (q : Int) by unfold labN; rw [if_neg h2, hq]; split <;> omega] at hc
                      clear hi hig hlt hq h2
                      go_wp2_with fail
                      go_roundg (gk - 1)
                      case measure => have := HG4.out; omega
                      case rel => exact ⟨i + 1, by go_num, by have := HG4.out; omega, HI⟩
                  · have hltI : ¬ (i : Int) < (t : Int) + 1 := by omega
                    have hX6 := HX5.out.far hi.out
                    have hL1 : nestL k asks = lpL k asks d ++ ((List.range (t - d)).map (fun i => eltX k asks (d + i)) ++ [⟨15, 0, 0⟩]) := by
                      unfold nestL
                      rw [← HDT.out.1, lp_take k asks t d (by have := HDT.out.2; omega), List.append_assoc]
                    have hL2 : nestL k asks = lpL k asks t ++ [⟨15, 0, 0⟩] := by unfold nestL; rw [← HDT.out.1]
                    have hXa := hX6
                    rw [hL1] at hXa
                    obtain ⟨A5, m5, c5, w5, e5, hm5, hX5b⟩ := hXa.copy (by rw [← hL1, nest_len]; omega) d (by rw [lp_len])
                    subst hm5
                    obtain ⟨A6, m6, c6, w6, e6, hdrop, hY6⟩ := hX5b.app (by rw [lp_len]; omega) ⟨15, 0, 0⟩ ⟨by decide, by unfold I64; decide, by unfold I64; decide⟩
                    replace e6 : (appIns 22 #[.slice A5 m5 c5, .slice (some ⟨w5.heap.size, 0, none⟩) 1 1]).run Tryd.prog (w5.alloc (.cells #[.int .u8 15, .int .i64 0, .int .i64 0] 36)) = .ok (.slice A6 m6 c6) w6 := e6
                    clear hdrop
                    have hm67 := (Mod.refl [] w6).alloc (.cells #[.slice A6 m6 c6] 24)
                    have hbox6 : (w6.alloc (.cells #[.slice A6 m6 c6] 24)).cell? ⟨w6.heap.size, 0, none⟩ = some (.slice A6 m6 c6) := by rw [World.cell?_alloc_new]; rfl
                    have hXb := hX6.far (hY6.m.trans hm67)
                    rw [hL2] at hXb
                    obtain ⟨A8, m8, c8, w8, e8, hm8, hX8⟩ := hXb.copy (by rw [← hL2, nest_len]; omega) t (by rw [lp_len])
                    subst hm8
                    obtain ⟨A9, m9, c9, w9, e9, hdrop, hY9⟩ := hX8.app2 (by rw [lp_len]; omega) ⟨7, 0, 0⟩ ⟨15, 0, 0⟩ ⟨by decide, by unfold I64; decide, by unfold I64; decide⟩ ⟨by decide, by unfold I64; decide, by unfold I64; decide⟩ #[.int .u8 7, .int .i64 0, .int .i64 0, .int .u8 15, .int .i64 0, .int .i64 0] rfl
                    clear hdrop
                    have hm910 := (Mod.refl [] w9).alloc (.cells #[.slice A9 m9 c9] 24)
                    have hbox9 : (w9.alloc (.cells #[.slice A9 m9 c9] 24)).cell? ⟨w9.heap.size, 0, none⟩ = some (.slice A9 m9 c9) := by rw [World.cell?_alloc_new]; rfl
                    rw [size_allocI] at e8
                    have hM610 : Mod [] w6 (w9.alloc (.cells #[.slice A9 m9 c9] 24)) := hm67.trans (hY9.m.trans hm910)
                    have hMw : Mod [] w (w9.alloc (.cells #[.slice A9 m9 c9] 24)) := (HM1.out.trans hX6.m).trans (hY6.m.trans hM610)
                    have hY6b := hY6.far hM610
                    have hY9b := hY9.far hm910
                    have hl6 : m6 = (lpL k asks m5 ++ [(⟨15, 0, 0⟩ : Xi)]).length := hY6.row.len.1
                    have hl9 : m9 = (lpL k asks m8 ++ [(⟨7, 0, 0⟩ : Xi), ⟨15, 0, 0⟩]).length := hY9.row.len.1
                    have hB6 : (w9.alloc (.cells #[.slice A9 m9 c9] 24)).cell? ⟨w6.heap.size, 0, none⟩ = some (.slice A6 m6 c6) := (hY9.m.trans hm910).cell (by simp) hbox6
                    have hs6 : m6 ≤ 1000000 := by rw [hl6, List.length_append, lp_len, List.length_singleton]; omega
                    have hs9 : m9 ≤ 1000000 := by rw [hl9, List.length_append, lp_len]; simp; omega
                    have HBad := Lib.hid (show Bad (lpL k asks m8 ++ [(⟨7, 0, 0⟩ : Xi), ⟨15, 0, 0⟩]) by rw [HDT.out.1]; exact twice_bad k asks)
                    have HOpen := Lib.hid (show ¬ MayP (lpL k asks m5 ++ [(⟨15, 0, 0⟩ : Xi)]) 0 by
                      have h1 := HDT.out.1
                      have h2 := HDT.out.2
                      rw [show m5 = 3 * k - 1 by omega]
                      exact open_may k asks hN1)
                    have H6 := Lib.hid (loops_calls (cap := c9) hY9b.ins hl9 hs9)
                    have HYs := Lib.hid (And.intro hMw (And.intro hY6b (And.intro hY9b (And.intro (And.intro hl6 hs6) (And.intro hl9 hs9)))))
                    have HBX := Lib.hid (And.intro hB6 hbox9)
                    clear hi hig hlt hX6 hL1 hL2 hXa hX5b hY6 hm67 hbox6 hXb hX8 hY9 hm910 hbox9 hM610 hMw hY6b hY9b hl6 hl9 hB6 hs6 hs9
                    go_wp2_with fail
                    refine (H6.out).mono ?_
                    rintro e w11 (⟨b2, o2, _, hlab2, _⟩ | ⟨rfl, _, hm11⟩)
                    · exact absurd HBad.out hlab2.good
                    · have hd18 := hm11.cell (by simp) HBX.out.1
                      have hd19 := hm11.cell (by simp) HBX.out.2
                      have HD19 := Lib.hid hd19
                      have H7 := Lib.hid ((may_calls (cap := c6) (HG.out.far (HYs.out.1.trans hm11)) (HYs.out.2.1.far hm11).ins HYs.out.2.2.2.1.1 HYs.out.2.2.2.1.2 0).mono fun e w' q => may_at (may_no HOpen.out) q)
                      have HM11 := Lib.hid hm11
                      clear hm11 H6 hd19
                      go_wp2_with fail
                      refine (H7.out).mono ?_
                      rintro e w12 ⟨rfl, hm12⟩
                      have hd20 := hm12.cell (by simp) HD19.out
                      have H8 := Lib.hid ((may_calls (cap := c9) (HG.out.far ((HYs.out.1.trans HM11.out).trans hm12)) ((HYs.out.2.2.1.far HM11.out).far hm12).ins HYs.out.2.2.2.2.1 HYs.out.2.2.2.2.2 0).mono fun e w' q => may_at (may_no (MayP.bad HBad.out)) q)
                      have HM12 := Lib.hid ((HYs.out.1.trans HM11.out).trans hm12)
                      clear hm12 H7 hd18
                      go_wp2_with fail
                      refine (H8.out).mono ?_
                      rintro e w13 ⟨rfl, hm13⟩
                      have HM13 := Lib.hid (HM12.out.trans hm13)
                      clear hm13 H8
                      go_wp2_with fail
                      go_ret
                      exact ⟨by simp, HM13.out⟩
              · exact absurd hbad (nest_lab k asks).good
end Go.Proofs.YtheealjhmndbgaaDoor
