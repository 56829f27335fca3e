/- Layer 10: InsMoves, walked. Condition: the table reads as the program's text lays it. -/
import Derived.Test.YtheealjhmndbgaaDoorIZG
import Derived.Deep.CutRange
import Derived.Deep.DeepCutAuto
namespace Go.Proofs.YtheealjhmndbgaaDoor
open Go.RowKit
set_option linter.unusedVariables false

theorem Xm.nil0 (w : World) : Xm w w (.slice none 0 0) [] := ⟨Xr.nil w _, Mod.refl [] w, fun x hx => by cases hx⟩
set_option maxHeartbeats 20000000 in
set_option maxRecDepth 100000 in
theorem moves_walk {w : World} (g : Good w) {A : Option Addr} {n cap : Nat} {L : List Xi} (hL : InsAt w A L) (hn : n = L.length) (hA : A = none → cap = 0) (hnc : n ≤ cap) (hc : cap ≤ 9223372036854775807) (c : Nat) (hc256 : c < 256) :
    Calls Tryd.prog 5 #[defV A n cap, .int .u8 (c : Int)] w fun e w' => e = .returned (.bool true) ∧ Mod [] w w' := by
  have hm0 := (Mod.refl [] w).alloc (.cells #[.slice A n cap] 24)
  have H1 := Lib.hid (shown_calls (g.far hm0))
  have hd : (w.alloc (.cells #[.slice A n cap] 24)).cell? ⟨w.heap.size, 0, none⟩ = some (.slice A n cap) := by rw [World.cell?_alloc_new]; rfl
  have HD := Lib.hid hd
  have HM0 := Lib.hid hm0
  obtain ⟨q, hq⟩ : ∃ q, q = min n 30 := ⟨_, rfl⟩
  obtain ⟨K, hK⟩ : ∃ K, K = L.take 30 := ⟨_, rfl⟩
  have hql : q = K.length ∧ q ≤ 30 := by rw [hK, List.length_take]; omega
  have hKw : ∀ x ∈ K, WellX x := fun x hx => by
    rw [hK] at hx
    obtain ⟨i, hi, rfl⟩ := List.getElem_of_mem (List.mem_of_mem_take hx)
    obtain ⟨_, _, _, _, hw⟩ := hL i hi
    exact hw
  have HG := Lib.hid (And.intro g (And.intro (show InsAt w A K by rw [hK]; exact hL.take 30) hKw))
  have HQ := Lib.hid hql
  have hqI : (q : Int) ≤ 30 := by omega
  obtain ⟨p, hp⟩ : ∃ p, p = c % 9 := ⟨_, rfl⟩
  have hp8 : p ≤ 8 := by omega
  have hpI : (c : Int) % 9 = (p : Int) := by omega
  have hpB : (p : Int) ≤ 8 := by omega
  have hcI : (c : Int) < 256 := by omega
  have HAQ := Lib.hid (And.intro hA (And.intro hnc (And.intro hc hq)))
  clear hm0 hd g hL hn hA hnc hc hql hK hKw hp hq
  go_enter Tryd.func5, Tryd.ntmps5
  go_wp2_with fail
  refine (H1.out).mono ?_
  rintro e w1 ⟨rfl, hm1⟩
  have hd1 := hm1.cell (by simp) HD.out
  have HM1 := Lib.hid (HM0.out.trans hm1)
  clear hm1
  go_upto_region 2 with fail
  go_cut [6] (fun u wx => ∃ p6, u = .pointer (some ⟨p6, 0, none⟩) ∧ RowKit.Hid (wx.cell? ⟨p6, 0, none⟩ = some (.slice A q cap) ∧ Mod [] w1 wx))
  case first =>
    have hcI2 : (cap : Int) ≤ 9223372036854775807 := by have := HAQ.out.2.2.1; omega
    have hfin : ∀ q', q' = q → RowKit.Hid ((w1.alloc (.cells #[.slice A q' cap] 24)).cell? ⟨w1.heap.size, 0, none⟩ = some (.slice A q cap) ∧ Mod [] w1 (w1.alloc (.cells #[.slice A q' cap] 24))) := fun q' e => Lib.hid ⟨by rw [e, World.cell?_alloc_new]; rfl, (Mod.refl [] w1).alloc _⟩
    have HF := Lib.hid (hfin q rfl)
    have hqm : min (n : Int) 30 = (q : Int) := by have := HAQ.out.2.2.2; omega
    have hqc : (q : Int) ≤ (cap : Int) := by have := HAQ.out.2.2.2; have := HAQ.out.2.1; omega
    have hqn : (q : Int) ≤ (n : Int) := by have := HAQ.out.2.2.2; omega
    cases A with
    | none =>
      obtain rfl := HAQ.out.1 rfl
      obtain rfl : n = 0 := by have := HAQ.out.2.1; omega
      obtain rfl : q = 0 := by have := HAQ.out.2.2.2; omega
      clear hfin hqm hqc hqn hcI2
      go_wp2_with fail
      go_meet
      case rel => exact ⟨_, rfl, HF.out⟩
    | some a =>
      obtain ⟨b, o, s⟩ := a
      clear hfin
      go_wp2_with fail
      go_meet
      case rel => exact ⟨_, rfl, HF.out⟩
  case rest =>
    obtain ⟨p6, rfl, hc6⟩ := hcut
    have HB6 := Lib.hid hc6.out.1
    have HM6 := Lib.hid (HM1.out.trans hc6.out.2)
    have HS := Lib.hid (Xm.nil0 wc)
    clear hc6 hd1
    go_wp2_with fail
    go_loopg [8, 27] p (fun g z y wr => ∃ (i : Nat) (A : Option Addr) (n cap : Nat), z = .slice A n cap ∧ y = .int .i64 (i : Int) ∧ i + g = p ∧ RowKit.Hid (Xm wc wr (.slice A n cap) (preX i)))
    case atStart => exact ⟨0, _, _, _, rfl, rfl, by omega, HS⟩
    case round =>
      clear HS
      obtain ⟨i, A1, n1, cap1, rfl, rfl, hig, hi⟩ := hrel
      by_cases hlt : i < p
      · have hltI : (i : Int) < (p : Int) := by omega
        have HK := Lib.hid hig
        obtain ⟨A2, n2, cap2, w2, e2, hdrop, hX2⟩ := hi.out.app (by rw [pre_len]; omega) ⟨3, (i : Int) + 1, 0⟩ ⟨by simp, by unfold I64; simp only; omega, by unfold I64; simp only; omega⟩
        rw [pre_next] at hX2
        have HX2 := Lib.hid hX2
        replace e2 : (appIns 22 #[.slice A1 n1 cap1, .slice (some ⟨wr.heap.size, 0, none⟩) 1 1]).run Tryd.prog (wr.alloc (.cells #[.int .u8 3, .int .i64 ((i : Int) + 1), .int .i64 0] 36)) = .ok (.slice A2 n2 cap2) w2 := e2
        clear hi hig hX2 hdrop
        go_wp2_with fail
        go_roundg (gk - 1)
        case measure => have := HK.out; omega
        case rel => exact ⟨i + 1, A2, n2, cap2, rfl, by go_num, by have := HK.out; omega, HX2⟩
      · have hltI : ¬ (i : Int) < (p : Int) := by omega
        obtain rfl : i = p := by omega
        have HI := Lib.hid (show Xm wc wr (.slice A1 n1 cap1) (preX i ++ (K.take 0).map (mvX i)) by simpa using hi.out)
        have hd6 := hi.out.m.cell (by simp) HB6.out
        clear hi hig hlt
        go_wp2_with fail
        clear hd6
        go_loopg [8, 40] q (fun g z y wr => ∃ (j : Nat) (A : Option Addr) (n cap : Nat), z = .slice A n cap ∧ y = .int .i64 (j : Int) ∧ j + g = q ∧ RowKit.Hid (Xm wc wr (.slice A n cap) (preX i ++ (K.take j).map (mvX i)) ∧ ∀ x ∈ K.take j, x.op ≠ 12))
        case atStart => exact ⟨0, _, _, _, rfl, rfl, by omega, Lib.hid ⟨HI.out, fun x hx => by simp at hx⟩⟩
        case round =>
          clear HI
          obtain ⟨j, A2, n2, cap2, rfl, rfl, hjg, hj⟩ := hrel
          by_cases hlt : j < q
          · have hltJ : (j : Int) < (q : Int) := by omega
            obtain ⟨y, hy⟩ : ∃ y, K[j]? = some y := ⟨_, List.getElem?_eq_getElem (by have := HQ.out.1; omega)⟩
            obtain ⟨B, off, rfl, hat, hwy⟩ := (HG.out.2.1.far (HM6.out.trans hj.out.1.m)).get hy
            have hc0 := hat.c0
            have hc1 := hat.c1
            have hc2 := hat.c2
            have HGJ := Lib.hid hjg
            have HJ := Lib.hid hj.out
            have htake : K.take (j + 1) = K.take j ++ [y] := by
              obtain ⟨h1, h2⟩ := List.getElem?_eq_some_iff.1 hy
              rw [List.take_succ_eq_append_getElem h1, h2]
            have HTK := Lib.hid htake
            have hwell := mv_well i y hwy
            obtain ⟨a2, ha2⟩ : ∃ a2, a2 = wrap64 (y.a + (i : Int)) := ⟨_, rfl⟩
            have HWY := Lib.hid (And.intro hwy (And.intro hwell ha2))
            have hop256 : (y.op : Int) < 256 := by have := hwy.op; omega
            clear hj hjg hy hat hwy htake hwell ha2
            have hw1 : wrap64 (y.a + (i : Int)) = a2 := HWY.out.2.2.symm
            have happ : ∀ (m : Xi) (W : World), Mod [] wr W → WellX m → y.op ≠ 12 → m = mvX i y → ∃ A3 n3 cap3 w3, (appIns 22 #[.slice A2 n2 cap2, .slice (some ⟨W.heap.size, 0, none⟩) 1 1]).run Tryd.prog (W.alloc (.cells #[.int .u8 (m.op : Int), .int .i64 m.a, .int .i64 m.w] 36)) = .ok (.slice A3 n3 cap3) w3 ∧ RowKit.Hid (Xm wc w3 (.slice A3 n3 cap3) (preX i ++ (K.take (j + 1)).map (mvX i)) ∧ ∀ x ∈ K.take (j + 1), x.op ≠ 12) := fun m W hm hw h12 he => by
              obtain ⟨A3, n3, cap3, w3, e3, _, hX3⟩ := (HJ.out.1.far hm).app (by rw [List.length_append, pre_len, List.length_map, List.length_take]; omega) m hw
              refine ⟨A3, n3, cap3, w3, e3, Lib.hid ⟨?_, fun x hx => ?_⟩⟩
              · rw [HTK.out, List.map_append, List.map_singleton, ← List.append_assoc, ← he]
                exact hX3
              · rw [HTK.out] at hx
                rcases List.mem_append.1 hx with hx | hx
                · exact HJ.out.2 x hx
                · rw [List.mem_singleton.1 hx]; exact h12
            by_cases h3 : y.op = 3
            · have b3 : ((y.op : Int) == 3) = true := by rw [h3]; rfl
              have hmv : mvX i y = ⟨y.op, a2, y.w⟩ := by rw [HWY.out.2.2]; unfold mvX; rw [if_pos (by rw [h3]; rfl)]
              have h12 : y.op ≠ 12 := by omega
              obtain ⟨A3, n3, cap3, w3, e3, HX3⟩ := happ ⟨y.op, a2, y.w⟩ (wr.alloc (.cells #[.int .u8 (y.op : Int), .int .i64 a2, .int .i64 y.w] 36)) ((Mod.refl [] wr).alloc _) (by have := HWY.out.2.1; rw [hmv] at this; exact this) h12 hmv.symm
              rw [size_allocI] at e3
              replace e3 : (appIns 22 #[.slice A2 n2 cap2, .slice (some ⟨wr.heap.size + 1, 0, none⟩) 1 1]).run Tryd.prog ((wr.alloc (.cells #[.int .u8 (y.op : Int), .int .i64 a2, .int .i64 y.w] 36)).alloc (.cells #[.int .u8 (y.op : Int), .int .i64 a2, .int .i64 y.w] 36)) = .ok (.slice A3 n3 cap3) w3 := e3
              clear h3 h12 happ hmv
              go_wp2_with fail
              go_roundg (gk - 1)
              case measure => have := HGJ.out; omega
              case rel => exact ⟨j + 1, A3, n3, cap3, rfl, by go_num, by have := HGJ.out; omega, HX3⟩
            · have b3 : ((y.op : Int) == 3) = false := by rw [beq_eq_false_iff_ne]; omega
              by_cases h4 : y.op = 4
              · have b4 : ((y.op : Int) == 4) = true := by rw [h4]; rfl
                have hmv : mvX i y = ⟨y.op, a2, y.w⟩ := by rw [HWY.out.2.2]; unfold mvX; rw [if_pos (by rw [h4]; rfl)]
                have h12 : y.op ≠ 12 := by omega
                obtain ⟨A3, n3, cap3, w3, e3, HX3⟩ := happ ⟨y.op, a2, y.w⟩ (wr.alloc (.cells #[.int .u8 (y.op : Int), .int .i64 a2, .int .i64 y.w] 36)) ((Mod.refl [] wr).alloc _) (by have := HWY.out.2.1; rw [hmv] at this; exact this) h12 hmv.symm
                rw [size_allocI] at e3
                replace e3 : (appIns 22 #[.slice A2 n2 cap2, .slice (some ⟨wr.heap.size + 1, 0, none⟩) 1 1]).run Tryd.prog ((wr.alloc (.cells #[.int .u8 (y.op : Int), .int .i64 a2, .int .i64 y.w] 36)).alloc (.cells #[.int .u8 (y.op : Int), .int .i64 a2, .int .i64 y.w] 36)) = .ok (.slice A3 n3 cap3) w3 := e3
                clear h3 h4 h12 happ hmv
                go_wp2_with fail
                go_roundg (gk - 1)
                case measure => have := HGJ.out; omega
                case rel => exact ⟨j + 1, A3, n3, cap3, rfl, by go_num, by have := HGJ.out; omega, HX3⟩
              · have b4 : ((y.op : Int) == 4) = false := by rw [beq_eq_false_iff_ne]; omega
                by_cases h6 : y.op = 6
                · have b6 : ((y.op : Int) == 6) = true := by rw [h6]; rfl
                  have hmv : mvX i y = ⟨y.op, a2, y.w⟩ := by rw [HWY.out.2.2]; unfold mvX; rw [if_pos (by rw [h6]; rfl)]
                  have h12 : y.op ≠ 12 := by omega
                  obtain ⟨A3, n3, cap3, w3, e3, HX3⟩ := happ ⟨y.op, a2, y.w⟩ (wr.alloc (.cells #[.int .u8 (y.op : Int), .int .i64 a2, .int .i64 y.w] 36)) ((Mod.refl [] wr).alloc _) (by have := HWY.out.2.1; rw [hmv] at this; exact this) h12 hmv.symm
                  rw [size_allocI] at e3
                  replace e3 : (appIns 22 #[.slice A2 n2 cap2, .slice (some ⟨wr.heap.size + 1, 0, none⟩) 1 1]).run Tryd.prog ((wr.alloc (.cells #[.int .u8 (y.op : Int), .int .i64 a2, .int .i64 y.w] 36)).alloc (.cells #[.int .u8 (y.op : Int), .int .i64 a2, .int .i64 y.w] 36)) = .ok (.slice A3 n3 cap3) w3 := e3
                  clear h3 h4 h6 h12 happ hmv
                  go_wp2_with fail
                  go_roundg (gk - 1)
                  case measure => have := HGJ.out; omega
                  case rel => exact ⟨j + 1, A3, n3, cap3, rfl, by go_num, by have := HGJ.out; omega, HX3⟩
                · have b6 : ((y.op : Int) == 6) = false := by rw [beq_eq_false_iff_ne]; omega
                  by_cases h7 : y.op = 7
                  · have b7 : ((y.op : Int) == 7) = true := by rw [h7]; rfl
                    have hmv : mvX i y = ⟨y.op, a2, y.w⟩ := by rw [HWY.out.2.2]; unfold mvX; rw [if_pos (by rw [h7]; rfl)]
                    have h12 : y.op ≠ 12 := by omega
                    obtain ⟨A3, n3, cap3, w3, e3, HX3⟩ := happ ⟨y.op, a2, y.w⟩ (wr.alloc (.cells #[.int .u8 (y.op : Int), .int .i64 a2, .int .i64 y.w] 36)) ((Mod.refl [] wr).alloc _) (by have := HWY.out.2.1; rw [hmv] at this; exact this) h12 hmv.symm
                    rw [size_allocI] at e3
                    replace e3 : (appIns 22 #[.slice A2 n2 cap2, .slice (some ⟨wr.heap.size + 1, 0, none⟩) 1 1]).run Tryd.prog ((wr.alloc (.cells #[.int .u8 (y.op : Int), .int .i64 a2, .int .i64 y.w] 36)).alloc (.cells #[.int .u8 (y.op : Int), .int .i64 a2, .int .i64 y.w] 36)) = .ok (.slice A3 n3 cap3) w3 := e3
                    clear h3 h4 h6 h7 h12 happ hmv
                    go_wp2_with fail
                    go_roundg (gk - 1)
                    case measure => have := HGJ.out; omega
                    case rel => exact ⟨j + 1, A3, n3, cap3, rfl, by go_num, by have := HGJ.out; omega, HX3⟩
                  · have b7 : ((y.op : Int) == 7) = false := by rw [beq_eq_false_iff_ne]; omega
                    by_cases h8 : y.op = 8
                    · have b8 : ((y.op : Int) == 8) = true := by rw [h8]; rfl
                      have hmv : mvX i y = ⟨y.op, a2, y.w⟩ := by rw [HWY.out.2.2]; unfold mvX; rw [if_pos (by rw [h8]; rfl)]
                      have h12 : y.op ≠ 12 := by omega
                      obtain ⟨A3, n3, cap3, w3, e3, HX3⟩ := happ ⟨y.op, a2, y.w⟩ (wr.alloc (.cells #[.int .u8 (y.op : Int), .int .i64 a2, .int .i64 y.w] 36)) ((Mod.refl [] wr).alloc _) (by have := HWY.out.2.1; rw [hmv] at this; exact this) h12 hmv.symm
                      rw [size_allocI] at e3
                      replace e3 : (appIns 22 #[.slice A2 n2 cap2, .slice (some ⟨wr.heap.size + 1, 0, none⟩) 1 1]).run Tryd.prog ((wr.alloc (.cells #[.int .u8 (y.op : Int), .int .i64 a2, .int .i64 y.w] 36)).alloc (.cells #[.int .u8 (y.op : Int), .int .i64 a2, .int .i64 y.w] 36)) = .ok (.slice A3 n3 cap3) w3 := e3
                      clear h3 h4 h6 h7 h8 h12 happ hmv
                      go_wp2_with fail
                      go_roundg (gk - 1)
                      case measure => have := HGJ.out; omega
                      case rel => exact ⟨j + 1, A3, n3, cap3, rfl, by go_num, by have := HGJ.out; omega, HX3⟩
                    · have b8 : ((y.op : Int) == 8) = false := by rw [beq_eq_false_iff_ne]; omega
                      by_cases h9 : y.op = 9
                      · have b9 : ((y.op : Int) == 9) = true := by rw [h9]; rfl
                        have hmv : mvX i y = ⟨y.op, a2, y.w⟩ := by rw [HWY.out.2.2]; unfold mvX; rw [if_pos (by rw [h9]; rfl)]
                        have h12 : y.op ≠ 12 := by omega
                        obtain ⟨A3, n3, cap3, w3, e3, HX3⟩ := happ ⟨y.op, a2, y.w⟩ (wr.alloc (.cells #[.int .u8 (y.op : Int), .int .i64 a2, .int .i64 y.w] 36)) ((Mod.refl [] wr).alloc _) (by have := HWY.out.2.1; rw [hmv] at this; exact this) h12 hmv.symm
                        rw [size_allocI] at e3
                        replace e3 : (appIns 22 #[.slice A2 n2 cap2, .slice (some ⟨wr.heap.size + 1, 0, none⟩) 1 1]).run Tryd.prog ((wr.alloc (.cells #[.int .u8 (y.op : Int), .int .i64 a2, .int .i64 y.w] 36)).alloc (.cells #[.int .u8 (y.op : Int), .int .i64 a2, .int .i64 y.w] 36)) = .ok (.slice A3 n3 cap3) w3 := e3
                        clear h3 h4 h6 h7 h8 h9 h12 happ hmv
                        go_wp2_with fail
                        go_roundg (gk - 1)
                        case measure => have := HGJ.out; omega
                        case rel => exact ⟨j + 1, A3, n3, cap3, rfl, by go_num, by have := HGJ.out; omega, HX3⟩
                      · have b9 : ((y.op : Int) == 9) = false := by rw [beq_eq_false_iff_ne]; omega
                        by_cases h10 : y.op = 10
                        · have b10 : ((y.op : Int) == 10) = true := by rw [h10]; rfl
                          have hmv : mvX i y = ⟨y.op, a2, y.w⟩ := by rw [HWY.out.2.2]; unfold mvX; rw [if_pos (by rw [h10]; rfl)]
                          have h12 : y.op ≠ 12 := by omega
                          obtain ⟨A3, n3, cap3, w3, e3, HX3⟩ := happ ⟨y.op, a2, y.w⟩ (wr.alloc (.cells #[.int .u8 (y.op : Int), .int .i64 a2, .int .i64 y.w] 36)) ((Mod.refl [] wr).alloc _) (by have := HWY.out.2.1; rw [hmv] at this; exact this) h12 hmv.symm
                          rw [size_allocI] at e3
                          replace e3 : (appIns 22 #[.slice A2 n2 cap2, .slice (some ⟨wr.heap.size + 1, 0, none⟩) 1 1]).run Tryd.prog ((wr.alloc (.cells #[.int .u8 (y.op : Int), .int .i64 a2, .int .i64 y.w] 36)).alloc (.cells #[.int .u8 (y.op : Int), .int .i64 a2, .int .i64 y.w] 36)) = .ok (.slice A3 n3 cap3) w3 := e3
                          clear h3 h4 h6 h7 h8 h9 h10 h12 happ hmv
                          go_wp2_with fail
                          go_roundg (gk - 1)
                          case measure => have := HGJ.out; omega
                          case rel => exact ⟨j + 1, A3, n3, cap3, rfl, by go_num, by have := HGJ.out; omega, HX3⟩
                        · have b10 : ((y.op : Int) == 10) = false := by rw [beq_eq_false_iff_ne]; omega
                          by_cases h12 : y.op = 12
                          · have b12 : ((y.op : Int) == 12) = true := by rw [h12]; rfl
                            clear h3 h4 h6 h7 h8 h9 h10 h12 happ
                            go_wp2_with fail
                            go_ret
                            exact ⟨by simp, (HM6.out.trans HJ.out.1.m).alloc _⟩
                          · have b12 : ((y.op : Int) == 12) = false := by rw [beq_eq_false_iff_ne]; omega
                            obtain ⟨A3, n3, cap3, w3, e3, HX3⟩ := happ y _ ((Mod.refl [] wr).alloc (.cells #[.int .u8 (y.op : Int), .int .i64 y.a, .int .i64 y.w] 36)) HWY.out.1 h12 (by
                              unfold mvX
                              rw [if_neg]
                              unfold goesX
                              simp
                              omega)
                            rw [size_allocI] at e3
                            clear h3 h4 h6 h7 h8 h9 h10 h12 happ
                            go_wp2_with fail
                            go_roundg (gk - 1)
                            case measure => have := HGJ.out; omega
                            case rel => exact ⟨j + 1, A3, n3, cap3, rfl, by go_num, by have := HGJ.out; omega, HX3⟩
          · have hltJ : ¬ (j : Int) < (q : Int) := by omega
            obtain rfl : j = q := by omega
            have hkt : K.take j = K := List.take_of_length_le (by have := HQ.out.1; omega)
            have hX0 := hj.out
            rw [hkt] at hX0
            have HX0 := Lib.hid (show Xm wc wr (.slice A2 n2 cap2) (mvL i K) ∧ ∀ x ∈ K, x.op ≠ 12 from hX0)
            have hd6 := hX0.1.m.cell (by simp) HB6.out
            have HD6 := Lib.hid hd6
            have HN2 := Lib.hid (show n2 = (mvL i K).length ∧ n2 ≤ 1000000 by
              have h1 := HX0.out.1.row.len.1
              refine ⟨h1, ?_⟩
              rw [h1, mv_len]
              have := HQ.out
              omega)
            clear hj hjg hlt hkt hX0
            by_cases hk0 : 0 < i ∧ j = 0
            · obtain ⟨hi0, rfl⟩ := hk0
              have hi0I : decide ((0 : Int) < (i : Int)) = true := decide_eq_true (by omega)
              have hi0b : decide (0 < i) = true := decide_eq_true hi0
              have hK0 : K = [] := List.eq_nil_of_length_eq_zero HQ.out.1.symm
              have hno : ¬ MayP (mvL i K) 5 := by
                rw [hK0, show mvL i [] = preX i by simp [mvL]]
                exact MayP.bad (pre_bad i hi0)
              have H3 := Lib.hid ((may_calls (cap := cap2) (HG.out.1.far (HM6.out.trans HX0.out.1.m)) HX0.out.1.ins HN2.out.1 HN2.out.2 5).mono fun e w' q => may_at (may_no hno) q)
              clear hi0 hK0 hno
              go_wp2_with fail
              refine (H3.out).mono ?_
              rintro e w4 ⟨rfl, hm4⟩
              have HM4 := Lib.hid ((HM6.out.trans HX0.out.1.m).trans hm4)
              clear hm4
              go_wp2_with fail
              go_ret
              exact ⟨by simp, HM4.out⟩
            · go_upto_region 26 with fail
              go_cut [74] (fun u wx => u = .bool false ∧ wr = wx)
              case first =>
                by_cases hi0 : 0 < i
                · have hi0I : decide ((0 : Int) < (i : Int)) = true := decide_eq_true (by omega)
                  have hi0b : decide (0 < i) = true := decide_eq_true hi0
                  have hj0 : ((j : Int) == 0) = false := by rw [beq_eq_false_iff_ne]; omega
                  have hj0b : (j == 0) = false := by rw [beq_eq_false_iff_ne]; omega
                  clear hk0 hi0
                  go_wp2_with fail
                  go_meet
                  case rel => exact ⟨rfl, rfl⟩
                · have hi0I : decide ((0 : Int) < (i : Int)) = false := decide_eq_false (by omega)
                  have hi0b : decide (0 < i) = false := decide_eq_false hi0
                  clear hk0 hi0
                  go_wp2_with fail
                  go_meet
                  case rel => exact ⟨rfl, rfl⟩
              case rest =>
                obtain ⟨rfl, rfl⟩ := hcut
                have HK0 := Lib.hid hk0
                clear hk0
                go_wp2_with fail
                clear hd6
                go_loopg [85] j (fun g z wx => ∃ t : Nat, z = .int .i64 (t : Int) ∧ t + g = j ∧ RowKit.Hid (Mod [] wr wx ∧ ∀ x ∈ K.take t, 0 ≤ x.a ∧ x.a ≤ 1000))
                case atStart => exact ⟨0, rfl, by omega, Lib.hid ⟨Mod.refl [] _, fun x hx => by simp at hx⟩⟩
                case round =>
                  obtain ⟨t, rfl, htg, ht⟩ := hrel
                  by_cases hlt : t < j
                  · have hltT : (t : Int) < (j : Int) := by omega
                    obtain ⟨y, hy⟩ : ∃ y, K[t]? = some y := ⟨_, List.getElem?_eq_getElem (by have := HQ.out.1; omega)⟩
                    obtain ⟨B, off, rfl, hat, hwy⟩ := (HG.out.2.1.far ((HM6.out.trans HX0.out.1.m).trans ht.out.1)).get hy
                    have hc0 := hat.c0
                    have hc1 := hat.c1
                    have hc2 := hat.c2
                    have HGT := Lib.hid htg
                    have HT := Lib.hid ht.out
                    have htake : K.take (t + 1) = K.take t ++ [y] := by
                      obtain ⟨h1, h2⟩ := List.getElem?_eq_some_iff.1 hy
                      rw [List.take_succ_eq_append_getElem h1, h2]
                    have HTK := Lib.hid htake
                    clear ht htg hy hat hwy htake
                    by_cases z1 : 1000 < y.a
                    · have z1b : decide (1000 < y.a) = true := decide_eq_true z1
                      clear z1
                      go_wp2_with fail
                      go_ret
                      exact ⟨by simp, ((HM6.out.trans HX0.out.1.m).trans HT.out.1).alloc _⟩
                    · have z1b : decide (1000 < y.a) = false := decide_eq_false z1
                      by_cases z2 : y.a < 0
                      · have z2b : decide (y.a < 0) = true := decide_eq_true z2
                        clear z1 z2
                        go_wp2_with fail
                        go_ret
                        exact ⟨by simp, ((HM6.out.trans HX0.out.1.m).trans HT.out.1).alloc _⟩
                      · have z2b : decide (y.a < 0) = false := decide_eq_false z2
                        have HZ := Lib.hid (And.intro z1 z2)
                        clear z1 z2
                        go_wp2_with fail
                        go_roundg (gk - 1)
                        case measure => have := HGT.out; omega
                        case rel =>
                          refine ⟨t + 1, by go_num, by have := HGT.out; omega, Lib.hid ⟨HT.out.1.alloc _, fun x hx => ?_⟩⟩
                          rw [HTK.out] at hx
                          rcases List.mem_append.1 hx with hx | hx
                          · exact HT.out.2 x hx
                          · rw [List.mem_singleton.1 hx]; have := HZ.out; omega
                  · have hltT : ¬ (t : Int) < (j : Int) := by omega
                    have hkt : K.take t = K := List.take_of_length_le (by have := HQ.out.1; omega)
                    have hfine : FineX K := fun x hx => by
                      have h1 := ht.out.2 x (by rw [hkt]; exact hx)
                      exact ⟨h1.1, h1.2, HX0.out.2 x hx⟩
                    obtain ⟨r, hr⟩ : ∃ r : Bool, r = true ↔ MayP K 5 := by
                      by_cases h : MayP K 5
                      · exact ⟨true, may_yes h⟩
                      · exact ⟨false, may_no h⟩
                    have hr2 : r = true ↔ MayP (mvL i K) 5 := by
                      rw [hr]
                      by_cases hi0 : i = 0
                      · rw [hi0, mv_zero HG.out.2.2]
                      · have h0 : 0 < K.length := by have := HK0.out; have := HQ.out.1; omega
                        exact (mv_may (by omega) hp8 hfine h0 (by have := HQ.out; omega)).symm
                    have HM7 := Lib.hid ((HM6.out.trans HX0.out.1.m).trans ht.out.1)
                    have hX7 := HX0.out.1.far ht.out.1
                    have HX7 := Lib.hid hX7
                    have hd7 := ht.out.1.cell (by simp) HD6.out
                    have HD7 := Lib.hid hd7
                    obtain ⟨wz, hwz⟩ : ∃ wz, wz = wr := ⟨_, rfl⟩
                    have HWZ := Lib.hid hwz
                    clear hwz
                    have H5 := Lib.hid (fun (W : World) (m : Mod [] wr W) => (may_calls (cap := cap2) (HG.out.1.far (HM7.out.trans m)) (HX7.out.far m).ins HN2.out.1 HN2.out.2 5).mono fun e w' q => may_at hr2 q)
                    have H6 := Lib.hid (fun (W : World) (m : Mod [] wr W) => (may_calls (cap := cap) (HG.out.1.far (HM7.out.trans m)) (HG.out.2.1.far (HM7.out.trans m)) HQ.out.1 (by have := HQ.out.2; omega) 5).mono fun e w' q => may_at hr q)
                    clear ht htg hlt hkt hfine hr hr2 hX7 HWZ
                    go_wp2_with fail
                    go_region_with (first
                      | (go_at_call 13; (with_reducible refine (H5.out _ ?_).mono ?_); (first | exact (Mod.refl [] wr).drew | exact HX.out); rintro e w8 ⟨rfl, hm8⟩; first | (have HX2 := Lib.hid (HX.out.trans hm8); clear hm8) | (have HX := Lib.hid ((Mod.refl [] wr).drew.trans hm8); have hd8 := hm8.cell (by simp) HD7.out; clear hm8))
                      | (go_at_call 13; (with_reducible refine (H6.out _ ?_).mono ?_); (first | exact (Mod.refl [] wr).drew | exact HX.out); rintro e w9 ⟨rfl, hm9⟩; first | (have HX2 := Lib.hid (HX.out.trans hm9); clear hm9) | (have HX := Lib.hid ((Mod.refl [] wr).drew.trans hm9); have hd9 := hm9.cell (by simp) HD7.out; clear hm9))
                      | fail)
                    all_goals
                      go_wp2_with fail
                      go_ret
                      exact ⟨rfl, HM7.out.trans HX2.out⟩
end Go.Proofs.YtheealjhmndbgaaDoor
