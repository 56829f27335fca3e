/- Layer 9: the walk of DictPlays. Condition: the argument is a slice of acts. -/
import Derived.Test.YtldnpppbnakcoaaDP3
namespace Go.Proofs.Ytldnpppbnakcoaa
open Go.RowKit
set_option linter.unusedVariables false

theorem does_calls {w0 w : World} {p q : Nat} {U : List Nat} {D : Di} {a : Ac} (h : Dp w0 w p q U D D) (ha : ShortA w0 a) :
    Calls Try.prog 13 #[PtD p, PtD q, .agg #[.int .u8 (a.c.toNat : Int), .string a.s, .int .i64 a.x, .slice a.A a.n a.cap, .int .i64 a.a, .int .i64 a.b]] w (DoesP w0 w p q U) := by
  rcases (show a.c.toNat % 9 = 0 ∨ a.c.toNat % 9 = 1 ∨ a.c.toNat % 9 = 2 ∨ a.c.toNat % 9 = 3 ∨ a.c.toNat % 9 = 4 ∨ a.c.toNat % 9 = 5 ∨ a.c.toNat % 9 = 6 ∨ a.c.toNat % 9 = 7 ∨ a.c.toNat % 9 = 8 by omega) with e | e | e | e | e | e | e | e | e
  · exact does_0 h ha e
  · exact does_1 h ha e
  · exact does_2 h ha e
  · exact does_3 h ha e
  · exact does_4 h ha e
  · exact does_5 h ha e
  · exact does_6 h ha e
  · exact does_7 h ha e
  · exact does_8 h ha e
theorem ActRow.keep {w w' : World} {base : Nat} {v : Value} {K : List Ac} {U : List Nat} (h : ActRow w base v K) (m : Keep U w w') (hU : ∀ g, v.ownBlock = some g → g ∈ U) : ActRow w' base v K := row_keep h m hU
theorem ActRow.own {w : World} {b : Nat} {v : Value} {K : List Ac} (h : ActRow w b v K) : ∀ g, v.ownBlock = some g → b ≤ g ∧ g < w.heap.size := fun g hg => World.ownsRow.lt h g hg
/-- The dictionaries and the acts. -/
def Pa9 (w1 : World) (p q : Nat) (base : Nat) (v : Value) (K : List Ac) (D : Di) (w : World) : Prop := Dp w1 w p q v.ownBlock.toList D D ∧ ActRow w base v K
theorem Pa9.far {w1 w w' : World} {p q base : Nat} {v : Value} {K : List Ac} {D : Di} (h : Pa9 w1 p q base v K D w) (m : Mod [] w w') : Pa9 w1 p q base v K D w' := ⟨h.1.far m, h.2.far m⟩
theorem Pa9.tellP {w1 w : World} {p q base : Nat} {v : Value} {K : List Ac} {D : Di} {r : Value} {f : Nat} {xs : Array Value} (h : Pa9 w1 p q base v K D w) (k : ∀ T, Pd9 w p T D → Calls Try.prog f xs w (DTells r w)) :
    Calls Try.prog f xs w fun e w' => e = .returned r ∧ Pa9 w1 p q base v K D w' ∧ Mod [] w w' := (h.1.tellP k).mono fun e w' ⟨e1, _, m⟩ => ⟨e1, h.far m, m⟩
theorem Pa9.tellQ {w1 w : World} {p q base : Nat} {v : Value} {K : List Ac} {D : Di} {r : Value} {f : Nat} {xs : Array Value} (h : Pa9 w1 p q base v K D w) (k : ∀ T, Rd9 w q T D → Calls Try.prog f xs w (DTells r w)) :
    Calls Try.prog f xs w fun e w' => e = .returned r ∧ Pa9 w1 p q base v K D w' ∧ Mod [] w w' := (h.1.tellQ k).mono fun e w' ⟨e1, _, m⟩ => ⟨e1, h.far m, m⟩
theorem Pa9.orderP {w1 w : World} {p q base : Nat} {v : Value} {K : List Ac} {D : Di} {n : Nat} (h : Pa9 w1 p q base v K D w) (hn : n = D.O.length) :
    Calls Try.prog 16 #[PtD p] w fun e w' => ∃ A cap, e = .returned (.slice A n cap) ∧ IntsAt w' A D.O ∧ Pa9 w1 p q base v K D w' ∧ Mod [] w w' :=
  (h.1.orderP rfl hn).mono fun e w' ⟨A, cap, e1, i, _, m⟩ => ⟨A, cap, e1, i, h.far m, m⟩
theorem Pa9.ord {w1 w : World} {p q base : Nat} {v : Value} {K : List Ac} {D : Di} (h : Pa9 w1 p q base v K D w) : ∃ n A cap, n = D.O.length ∧ n ≤ 1000000000 ∧ w.cell? ⟨q, 2, none⟩ = some (.slice A n cap) ∧ IntsAt w A D.O := by
  obtain ⟨A, cap, h1, h2⟩ := h.1.ordQ
  exact ⟨_, A, cap, rfl, by have := h.1.ordle; omega, h1, h2⟩
theorem Pa9.does {w1 w : World} {p q base : Nat} {v : Value} {K : List Ac} {D : Di} {a : Ac} (h : Pa9 w1 p q base v K D w) (ha : ShortA w1 a) :
    Calls Try.prog 13 #[PtD p, PtD q, .agg #[.int .u8 (a.c.toNat : Int), .string a.s, .int .i64 a.x, .slice a.A a.n a.cap, .int .i64 a.a, .int .i64 a.b]] w fun e w' => e = .returned (.bool true) ∧ ∃ D', Pa9 w1 p q base v K D' w' :=
  (does_calls h.1 ha).mono fun e w' ⟨e1, D', h1, k⟩ => ⟨e1, D', h1, h.2.keep k fun g hg => by simp [hg]⟩
set_option maxHeartbeats 16000000 in
set_option maxRecDepth 100000 in
theorem plays_walk9 (w : World) (A : Option Addr) (len cap : Nat) (hA : ActsIn w A len) (hn : len ≤ 9223372036854775807) :
    Calls Try.prog 3 #[.slice A len cap] w fun e w' => e = .returned (.bool true) ∧ Mod [] w w' := by
  have HA := Lib.hid hA
  have H0 := Lib.hid (shown_calls w)
  clear hA
  go_enter Try.func3, Try.ntmps3
  go_wp2_with fail
  refine (H0.out).mono ?_
  rintro e w1 ⟨rfl, hx⟩
  have HM1 := Lib.hid hx
  have H1 := Lib.hid (Du.new w1)
  clear hx H0
  go_wp2_with fail
  refine (H1.out).mono ?_
  rintro e w2 ⟨p, rfl, h2, _⟩
  have H2 := Lib.hid (Dp.new h2)
  clear h2 H1
  go_wp2_with fail
  refine (H2.out).mono ?_
  rintro e w3 ⟨q, rfl, h3⟩
  have hA1 : ActsIn w1 A len := fun i hi => by
    obtain ⟨b, o, a, e, h1, h2⟩ := HA.out i hi
    exact ⟨b, o, a, e, h1.far HM1.out, h2.far HM1.out⟩
  have K3 := Lib.hid (few_calls w1 w3 h3.m A len cap hA1 hn)
  have H3 := Lib.hid h3
  clear h3 hA1 H2
  go_wp2_with fail
  refine (K3.out).mono ?_
  rintro e w4 ⟨v, K, rfl, row, hK80, hsh, m4⟩
  obtain ⟨Ak, ck, rfl, hcells⟩ := row.cells
  have HP := Lib.hid (show Pa9 w1 p q w3.heap.size (.slice Ak K.length ck) K (one []) w4 from ⟨H3.out.more m4 fun x hx => Or.inr (row.own x (by simpa using hx)), row⟩)
  have HS := Lib.hid hsh
  obtain ⟨nk, hnk⟩ : ∃ nk, nk = K.length := ⟨_, rfl⟩
  rw [← hnk] at HP hK80 ⊢
  have HNK := Lib.hid hnk
  clear row hsh m4 hcells K3 hnk
  go_wp2_with fail
  go_loopw [17] (fun z wx => ∃ (j : Nat), z = .int .i64 (j : Int) ∧ j ≤ nk ∧ RowKit.Hid (∃ D, Pa9 w1 p q w3.heap.size (.slice Ak nk ck) K D wx)) (fun z _ => nk - (intOf z).toNat)
  case atStart => exact ⟨0, rfl, by omega, Lib.hid ⟨_, HP.out⟩⟩
  case round =>
    clear HP
    obtain ⟨j, rfl, hjn, hi⟩ := hrel
    obtain ⟨D, hD⟩ := hi.out
    clear hi
    by_cases hlt : j < nk
    · have hltI : (j : Int) < (nk : Int) := by omega
      have hjK : j < K.length := by rw [← HNK.out]; exact hlt
      obtain ⟨Ak', ck', e, hcells⟩ := hD.2.cells
      injection e with e1 e2 e3
      subst e1 e3
      clear e2
      obtain ⟨b, hAx, hat⟩ := hcells j hjK
      have ha := HS.out _ (List.getElem_mem hjK)
      obtain ⟨a, haa⟩ : ∃ a, a = K[j] := ⟨_, rfl⟩
      rw [← haa] at hat ha
      have c0 := hat.c0
      have c1 := hat.c1
      have c2 := hat.c2
      have c3 := hat.c3
      have c4 := hat.c4
      have c5 := hat.c5
      have bx := act_cells wr a
      have b0 := bx.c0
      have b1 := bx.c1
      have b2 := bx.c2
      have b3 := bx.c3
      have b4 := bx.c4
      have b5 := bx.c5
      rw [Nat.zero_add] at b1 b2 b3 b4 b5
      have m5 : Mod [] wr (wr.alloc (.cells (flatA a).toArray 33)) := (Mod.refl [] wr).alloc _
      have d0 := (hD.far m5).far (Mod.refl [] _).drew
      have K1 := Lib.hid (show Calls Try.prog 13 #[PtD p, PtD q, .agg #[.int .u8 (a.c.toNat : Int), .string a.s, .int .i64 a.x, .slice a.A a.n a.cap, .int .i64 a.a, .int .i64 a.b]] (wr.alloc (.cells #[.int .u8 (a.c.toNat : Int), .string a.s, .int .i64 a.x, .slice a.A a.n a.cap, .int .i64 a.a, .int .i64 a.b] 33)).drew _ from d0.does ha)
      subst hAx
      clear hat ha haa hcells hD m5 d0 bx
      go_upto_region 8 with fail
      go_cut [51] (fun u wy => u = .bool false ∧ RowKit.Hid (∃ D', Pa9 w1 p q w3.heap.size (.slice (some ⟨b, 0, none⟩) nk ck) K D' wy))
      case first =>
        go_region_with (first
          | (go_at_call 13; (with_reducible refine (K1.out).mono ?_); rintro e y1 ⟨rfl, D', h1⟩; have u3 := h1.1.curQ; obtain ⟨no, Aq, cq, hno, hno9, u2, uI⟩ := h1.ord; have HNO := Lib.hid hno; have UI := Lib.hid uI; have K2 := Lib.hid (h1.tellP fun T g => pcurrent_calls g); clear h1 hno uI K1)
          | (go_at_call 14; (with_reducible refine (K2.out).mono ?_); rintro e y2 ⟨rfl, h2, m2⟩; have v3 := m2.cell (by simp) u3; have v2 := m2.cell (by simp) u2; have VI := Lib.hid (UI.out.far m2); have K3 := Lib.hid (h2.orderP HNO.out); clear h2 m2 K2 UI)
          | (go_at_call 16; (with_reducible refine (K3.out).mono ?_); rintro e y3 ⟨A3, c3', rfl, i3, h3, m3⟩; have x2 := m3.cell (by simp) v2; have K4 := Lib.hid (ints_same (c := c3') (d := cq) i3 (VI.out.far m3) HNO.out HNO.out hno9); have H3 := Lib.hid h3; clear h3 m3 i3 K3 VI)
          | (go_at_call 15; (with_reducible refine (K4.out).mono ?_); rintro e y4 ⟨rfl, m4⟩; have K5 := Lib.hid ((H3.out.far m4).tellP fun T g => pmark_calls g); clear m4 H3 K4)
          | (go_at_call 17; (with_reducible refine (K5.out).mono ?_); rintro e y5 ⟨rfl, h5, m5⟩; have K6 := Lib.hid (h5.tellQ fun T g => mark_calls g); clear h5 m5 K5)
          | (go_at_call 18; (with_reducible refine (K6.out).mono ?_); rintro e y6 ⟨rfl, h6, m6⟩; have H6 := Lib.hid h6; clear h6 m6 K6)
          | fail)
        all_goals
          go_wp2_with fail
          go_meet
          exact ⟨by simp, Lib.hid ⟨_, H6.out⟩⟩
      case rest =>
        obtain ⟨rfl, hb⟩ := hcut
        go_wp2_with fail
        go_roundw
        case rel => exact ⟨j + 1, by go_num, by omega, hb⟩
        case measure => simp [intOf]; omega
    · have hltI : ¬ (j : Int) < (nk : Int) := by omega
      have HD := Lib.hid hD
      clear hD
      go_wp2_with fail
      go_loopw [53] (fun z wx => ∃ (i : Nat), z = .int .i64 (i : Int) ∧ i ≤ 10 ∧ RowKit.Hid (Pa9 w1 p q w3.heap.size (.slice Ak nk ck) K D wx)) (fun z _ => 10 - (intOf z).toNat)
      case atStart => exact ⟨0, rfl, by omega, HD⟩
      case round =>
        clear HD
        obtain ⟨i, rfl, hi10, hi⟩ := hrel
        by_cases hlt2 : i < 10
        · have hltI2 : (i : Int) < 10 := by omega
          obtain ⟨X, hX⟩ : ∃ X, X = namesW D.W (i : Int) := ⟨_, rfl⟩
          obtain ⟨nx, hnx⟩ : ∃ nx, nx = X.length := ⟨_, rfl⟩
          have hnx9 : nx ≤ 1000000000 := by rw [hnx, hX]; have := namesW_len D.W (i : Int); have := hi.out.1.ordle; omega
          have K1 := Lib.hid (hi.out.1.namesP (i : Int) hX hnx)
          have HX := Lib.hid (And.intro hX hnx)
          have HI := Lib.hid hi.out
          clear hi hX hnx
          go_wp2_with fail
          refine (K1.out).mono ?_
          rintro e w5 ⟨A5, c5, rfl, t5, h5, m5⟩
          have K2 := Lib.hid (h5.namesQ (i : Int) HX.out.1 HX.out.2)
          have H5 := Lib.hid (And.intro t5 (HI.out.far m5))
          clear h5 m5 t5 K1 HI
          go_wp2_with fail
          refine (K2.out).mono ?_
          rintro e w6 ⟨A6, c6, rfl, t6, h6, m6⟩
          have K3 := Lib.hid (texts_same (c := c5) (d := c6) (H5.out.1.far m6) t6 HX.out.2 HX.out.2 hnx9)
          have H6 := Lib.hid (H5.out.2.far m6)
          clear h6 m6 t6 K2 H5
          go_wp2_with fail
          refine (K3.out).mono ?_
          rintro e w7 ⟨rfl, m7⟩
          have H7 := Lib.hid (H6.out.far m7)
          clear m7 K3 H6
          go_wp2_with fail
          go_roundw
          case rel => exact ⟨i + 1, by go_num, by omega, H7⟩
          case measure => simp [intOf]; omega
        · have hltI2 : ¬ (i : Int) < 10 := by omega
          have HE := Lib.hid (HM1.out.trans hi.out.1.m)
          clear hi
          go_wp2_with fail
          go_ret
          exact ⟨rfl, HE.out⟩
end Go.Proofs.Ytldnpppbnakcoaa
