/- Layer 6: StackRows's walk. Condition: the arguments are a slice of cells and a number of its kind. -/
import Derived.Test.YtjmbmhjhnoiclaaS6U
namespace Go.Proofs.Ytjmbmhjhnoiclaa
open Go.RowKit
set_option linter.unusedVariables false

theorem Ow.put {w : World} {b c : Nat} {X : List Int} (h : Ow w b X c) (i : Nat) (hi : i < X.length) (v : Int) : Ow (w.setCell ⟨b, i, none⟩ (.int .i64 v)) b (X.set i v) c := by
  have hl := h.lt
  obtain ⟨cur, h1, h2, h3, h4, h5⟩ := h
  have hic : i < cur.size := by omega
  refine ⟨cur.setIfInBounds i (.int .i64 v), ?_, by simpa using h2, by simpa using h3, h4, ?_⟩
  · show (w.setCell ⟨b, i, none⟩ (.int .i64 v)).heap[b]? = _
    unfold World.setCell
    simp only [Array.getElem?_modify, h1]
    simp
  · rw [Array.toList_setIfInBounds, List.length_set, List.take_set, h5]
    unfold cellsI
    rw [List.map_set]
/-- The rows on the way: that taken (Y, in block ba), that gathered (Z, from B on). -/
structure Rs (w W : World) (p q : Nat) (L M : List Int) (ba ca : Nat) (Y : List Int) (B : Option Addr) (cb : Nat) (Z : List Int) : Prop where
  pr : Pr w W p q L M
  o : Ow W ba Y ca
  ap : ba ≠ p
  aq : ba ≠ q
  s : Sl W B Z
  n : B = none → cb = 0
  b : ∀ x, B = some x → x.block ≠ p ∧ x.block ≠ q ∧ x.block ≠ ba ∧ x.block < W.heap.size
theorem Rs.far {w W W' : World} {p q : Nat} {L M : List Int} {ba ca : Nat} {Y : List Int} {B : Option Addr} {cb : Nat} {Z : List Int} (h : Rs w W p q L M ba ca Y B cb Z) (k : Mod [] W W') : Rs w W' p q L M ba ca Y B cb Z :=
  ⟨h.pr.far k, h.o.mod k (by simp), h.ap, h.aq, h.s.far k, h.n, fun x hx => ⟨(h.b x hx).1, (h.b x hx).2.1, (h.b x hx).2.2.1, Nat.lt_of_lt_of_le (h.b x hx).2.2.2 k.size⟩⟩
theorem Rs.two {w W W' : World} {p q : Nat} {L M M' : List Int} {ba ca : Nat} {Y : List Int} {B : Option Addr} {cb : Nat} {Z : List Int} (h : Rs w W p q L M ba ca Y B cb Z) (s : St W' q M') (k : Mod [q] W W') : Rs w W' p q L M' ba ca Y B cb Z :=
  ⟨h.pr.two s k, h.o.mod k (by simpa using h.aq), h.ap, h.aq, h.s.mod k (fun x hx => by simpa using (h.b x hx).2.1), h.n, fun x hx => ⟨(h.b x hx).1, (h.b x hx).2.1, (h.b x hx).2.2.1, Nat.lt_of_lt_of_le (h.b x hx).2.2.2 k.size⟩⟩
theorem Rs.incr {w W : World} {p q : Nat} {L M : List Int} {ba ca : Nat} {Y : List Int} {B : Option Addr} {cb : Nat} {Z : List Int} (h : Rs w W p q L M ba ca Y B cb Z) (hba : w.heap.size ≤ ba) (i : Nat) (hi : i < Y.length) (v : Int) : Rs w (W.setCell ⟨ba, i, none⟩ (.int .i64 v)) p q L M ba ca (Y.set i v) B cb Z := by
  have k := (Mod.refl [ba] W).one (p := ba) (by simp) i (.int .i64 v)
  exact ⟨⟨h.pr.s.mod k (by simpa [eq_comm] using h.ap), h.pr.t.mod k (by simpa [eq_comm] using h.aq), h.pr.ne, h.pr.lp, h.pr.lq, h.pr.m.far1 k hba⟩, h.o.put i hi v, h.ap, h.aq, h.s.mod k (fun x hx => by simpa using (h.b x hx).2.2.1), h.n, fun x hx => ⟨(h.b x hx).1, (h.b x hx).2.1, (h.b x hx).2.2.1, Nat.lt_of_lt_of_le (h.b x hx).2.2.2 k.size⟩⟩
theorem take_last {X : List Int} {j k : Nat} (hk : X.length = k) (hj : j < k) : ∃ x, X.take (k - j) = X.take (k - (j + 1)) ++ [x] ∧ x :: X.drop (k - j) = X.drop (k - (j + 1)) := by
  refine ⟨X[k - (j + 1)], ?_, ?_⟩
  · rw [show k - j = (k - (j + 1)) + 1 by omega, List.take_succ_eq_append_getElem (by omega)]
  · rw [List.drop_eq_getElem_cons (i := k - (j + 1)) (by omega), show k - (j + 1) + 1 = k - j by omega]
set_option maxHeartbeats 8000000 in
set_option maxRecDepth 100000 in
theorem rows_walk (w : World) (A : Option Addr) (len cap : Nat) (zs : List Int) (many : Int) (R : Row .i64 w A len cap zs) (hb : (Lit.int .u8 many).wf = true) :
    Calls Try.prog 8 #[.slice A len cap, .int .u8 many] w fun e w' => e = .returned (.bool true) ∧ Mod [] w w' := by
  obtain ⟨X, k, C⟩ := R.came 100
  have hu := bounds_u8 hb
  have hm1 : (if (100 : Int) < (len : Int) then (100 : Int) else (len : Int)) = (k : Int) := by rw [C.e]; split <;> omega
  have hs1 := C.h
  have hk : k ≤ 100 := by rw [C.e]; exact Nat.min_le_right _ _
  have HX := Lib.hid (show X.length = k from C.n)
  have D := Lib.hid C
  obtain ⟨n, hn⟩ : ∃ n : Nat, many % ((k : Int) + 1) = (n : Int) := ⟨(many % ((k : Int) + 1)).toNat, by have := Int.emod_nonneg many (b := (k : Int) + 1) (by omega); omega⟩
  have hnk : n ≤ k := by have := Int.emod_lt_of_pos many (b := (k : Int) + 1) (by omega); omega
  clear C R hb
  go_enter Try.func8, Try.ntmps8
  go_wp2_with fail
  refine (shown_calls w).mono ?_
  rintro e w1 ⟨rfl, m1⟩
  have M1 := Lib.hid m1
  clear m1
  go_wp2_with fail
  refine (new_calls _).mono ?_
  rintro e w2 ⟨p, rfl, s2, m2, l2⟩
  have H2 := Lib.hid (And.intro s2 (And.intro (M1.out.far m2) (Nat.le_trans M1.out.size l2)))
  clear s2 m2 l2 M1
  go_wp2_with fail
  refine (new_calls _).mono ?_
  rintro e w3 ⟨q, rfl, s3, m3, l3⟩
  have P3 := Lib.hid (fresh2 H2.out.1 H2.out.2.1 H2.out.2.2 s3 m3 l3)
  clear s3 m3 l3 H2
  go_wp2_with fail
  refine (P3.out.put1 cap (D.out.s.far P3.out.m) D.out.n.symm D.out.i (by have := D.out.c; have := D.out.m; omega)).mono ?_
  rintro e w4 ⟨rfl, h4⟩
  rw [putL_nil X (by rw [HX.out]; omega)] at h4 ⊢
  have P4 := Lib.hid h4
  clear h4 P3
  go_wp2_with fail
  go_loopw [41] (fun i wr => ∃ j : Nat, j ≤ k ∧ i = .int .i64 (j : Int) ∧ RowKit.Hid (Pr w wr p q X (X.take j))) (fun i _ => k - (intOf i).toNat)
  case atStart => exact ⟨0, by omega, rfl, P4⟩
  case round =>
    clear P4
    obtain ⟨j, hj, rfl, HT⟩ := hrel
    by_cases hlt : j < k
    · obtain ⟨b, off, hA, hc⟩ := (D.out.s.far HT.out.m) j (by rw [HX.out]; exact hlt)
      have hI := D.out.i _ (List.getElem_mem (show j < X.length by rw [HX.out]; exact hlt))
      obtain ⟨x, hx⟩ : ∃ x, x = X[j]'(by rw [HX.out]; exact hlt) := ⟨_, rfl⟩
      rw [← hx] at hc hI
      have HXX := Lib.hid hx
      have HI := Lib.hid hI
      have g1 : (0 : Int) ≤ (j : Int) := by omega
      have g2 : (j : Int) < (k : Int) := by omega
      subst hA
      clear hx hI
      go_wp2_with fail
      refine (HT.out.push2 x HI.out).mono ?_
      rintro e w5 ⟨rfl, h5⟩
      rw [putL_ok (by simp; omega)] at h5 ⊢
      have T5 := Lib.hid (show Pr w w5 p q X (X.take (j + 1)) by rw [List.take_succ_eq_append_getElem (by rw [HX.out]; exact hlt), ← HXX.out]; exact h5)
      clear h5 HT hc
      go_wp2_with fail
      go_roundw
      case rel => exact ⟨j + 1, by omega, by go_num, T5⟩
      case measure => simp [intOf]; omega
    · have hjk : j = k := by omega
      subst hjk
      have T5 := Lib.hid (show Pr w wr p q X X by have := HT.out; rw [← HX.out, List.take_length] at this; exact this)
      clear HT hj hlt
      go_wp2_with fail
      refine (take_ok T5.out.s n (by rw [HX.out]; exact hnk)).mono ?_
      rintro e w6 ⟨ba, ca, rfl, ho, hbb, hs, hm⟩
      rw [HX.out] at ho hs
      have p6 := T5.out.one hs hm
      have R6 := Lib.hid (show Rs w w6 p q (X.take (j - n)) (X.take (j - 0)) ba ca (X.drop (j - n)) none 0 (X.drop (j - 0)) from
        ⟨by rw [Nat.sub_zero, ← HX.out, List.take_length, HX.out]; exact p6, ho, by have := T5.out.s.lp; omega, by have := T5.out.t.lp; omega, by rw [Nat.sub_zero, ← HX.out, List.drop_length]; exact Sl.nil _ _, fun _ => rfl, by simp⟩)
      have HBA := Lib.hid (Nat.le_trans T5.out.m.size hbb)
      clear ho hbb hs hm p6 T5
      go_wp2_with fail
      go_loopw [14, 63] (fun v i wr => ∃ (t : Nat) (B : Option Addr) (cb : Nat), t ≤ n ∧ i = .int .i64 (t : Int) ∧ v = .slice B t cb ∧ RowKit.Hid (Rs w wr p q (X.take (j - n)) (X.take (j - t)) ba ca (X.drop (j - n)) B cb (X.drop (j - t)))) (fun _ i _ => n - (intOf i).toNat)
      case atStart => exact ⟨0, none, 0, by omega, rfl, rfl, R6⟩
      case round =>
        clear R6
        obtain ⟨t, B, cb, ht, rfl, rfl, HT⟩ := hrel
        by_cases htn : t < n
        · obtain ⟨x, hx1, hx2⟩ := take_last (X := X) HX.out (show t < j by omega)
          have r := HT.out
          rw [hx1] at r
          have R0 := Lib.hid r
          have HX2 := Lib.hid hx2
          have HLn := Lib.hid (show (X.drop (j - t)).length = t by rw [List.length_drop, HX.out]; omega)
          clear r hx1 hx2 HT
          go_wp2_with fail
          refine (pop_some R0.out.pr.t).mono ?_
          rintro e w7 ⟨rfl, h7, m7⟩
          have r7 := R0.out.two h7 m7
          have R7 := Lib.hid r7
          have r8 := r7.far ((Mod.refl [] w7).alloc (.cells #[.int .i64 x] 31))
          have R8 := Lib.hid r8
          have o8 : Ow (w7.alloc (.cells #[.int .i64 x] 31)) w7.heap.size [x] 1 := Ow.new w7 [x] (by unfold maxLen; simp)
          have O8 := Lib.hid o8
          clear h7 m7 r7 r8 o8 R0
          go_wp2_with (refine wpList_app rfl (.tmp 73) (.tmp 74) rfl O8.out R8.out.s rfl HLn.out.symm R8.out.n (by rw [HLn.out]; simp; omega) rfl rfl ?_)
          intro b9 c9 W9 o9 m9 l9
          have q1 := R7.out.pr.s.lp
          have q2 := R7.out.pr.t.lp
          have q3 := R7.out.o.lt
          have q4 := fun y hy => (R7.out.b y hy).2.2.2
          have R9 := Lib.hid (show Rs w W9 p q (X.take (j - n)) (X.take (j - (t + 1))) ba ca (X.drop (j - n)) (some ⟨b9, 0, none⟩) c9 (X.drop (j - (t + 1))) from
            ⟨⟨R8.out.pr.s.mod m9 (by simp; omega), R8.out.pr.t.mod m9 (by simp; omega), R8.out.pr.ne, R8.out.pr.lp, R8.out.pr.lq, R8.out.pr.m.far1 m9 (by have := R7.out.pr.lp; omega)⟩, R8.out.o.mod m9 (by simp; omega), R8.out.ap, R8.out.aq, by rw [← HX2.out]; exact o9.sl, by simp, fun y hy => by injection hy with hy; subst hy; exact ⟨by simp; omega, by simp; omega, by simp; omega, o9.lt⟩⟩)
          have ht1 : 1 + t = t + 1 := by omega
          clear o9 m9 l9 R7 R8 O8 q1 q2 q3 q4
          go_wp2
          go_roundw
          case rel => exact ⟨t + 1, _, _, by omega, by go_num, by rw [← ht1], R9⟩
          case measure => simp [intOf]; omega
        · have htn2 : t = n := by omega
          subst htn2
          clear htn ht
          go_wp2_with fail
          obtain ⟨l, hl⟩ : ∃ l, l = j - t := ⟨_, rfl⟩
          rw [← hl] at HT
          have hjl : (j : Int) - (t : Int) = (l : Int) := by omega
          have hlj : l ≤ j := by omega
          have HLl := Lib.hid (show (X.take l).length = l by rw [List.length_take, HX.out]; omega)
          have HLd := Lib.hid (show (X.drop l).length = t by rw [List.length_drop, HX.out]; omega)
          have HJL := Lib.hid (show j - l = t by omega)
          clear hl
          refine (all_calls HT.out.pr.s).mono ?_
          rintro e w10 ⟨bl, cl, rfl, ho, hbl, hm⟩
          rw [HLl.out]
          have R10 := Lib.hid (show Rs w w10 p q (X.take l) (X.take l) ba ca (X.drop l) B cb (X.drop l) ∧ Ow w10 bl (X.take l) cl from ⟨HT.out.far hm, ho⟩)
          have HBL := Lib.hid (show bl ≠ ba ∧ bl ≠ p ∧ bl ≠ q by have h1 := HT.out.o.lt; have h2 := HT.out.pr.s.lp; have h3 := HT.out.pr.t.lp; omega)
          clear ho hbl hm HT
          go_wp2_with fail
          go_loopw [81] (fun i wr => ∃ (s : Nat) (Y : List Int), s ≤ t ∧ i = .int .i64 (s : Int) ∧ RowKit.Hid (Y.length = t ∧ Rs w wr p q (X.take l) (X.take l) ba ca Y B cb (X.drop l) ∧ Ow wr bl (X.take l) cl)) (fun i _ => t - (intOf i).toNat)
          case atStart => exact ⟨0, X.drop l, by omega, rfl, Lib.hid ⟨HLd.out, R10.out⟩⟩
          case round =>
            clear R10
            obtain ⟨s, Y, hs, rfl, HT⟩ := hrel
            by_cases hst : s < t
            · have hc := HT.out.2.1.o.cell s (by rw [HT.out.1]; exact hst)
              have hf := HT.out.2.1.o.free s
              generalize Y[s]'(by rw [HT.out.1]; exact hst) = y at hc
              have g1 : (0 : Int) ≤ (s : Int) := by omega
              have g2 : (s : Int) < (t : Int) := by omega
              go_wp2_with fail
              go_roundw
              case rel =>
                refine ⟨s + 1, _, by omega, by go_num, Lib.hid ⟨?_, HT.out.2.1.incr HBA.out s (by rw [HT.out.1]; exact hst) _, ?_⟩⟩
                · rw [List.length_set]; exact HT.out.1
                · exact HT.out.2.2.mod ((Mod.refl [ba] wr).one (p := ba) (by simp) s _) (by simpa using HBL.out.1)
              case measure => simp [intOf]; omega
            · have hst2 : s = t := by omega
              subst hst2
              clear hst hs
              have hsl1 := fun W => cells_from_on W A j cap l hlj D.out.c
              have hsl2 := fun W => cells_upto W A j cap l (by have := D.out.c; omega)
              have hsd := D.out.s.drop l cap (by rw [HX.out]; exact D.out.c)
              have hst := D.out.s.take l
              obtain ⟨m1, hm1e⟩ : ∃ m1, m1 = j - l := ⟨_, rfl⟩
              rw [← hm1e] at hsl1
              have HM1 := Lib.hid (show m1 = (X.drop l).length by rw [HLd.out, hm1e, HJL.out])
              generalize fromA A l cap = Af at hsl1 hsd
              generalize cap - l = c2 at hsl1
              have HSD := Lib.hid hsd
              have HST := Lib.hid hst
              clear hsd hst hm1e
              go_wp2_with fail
              refine (same_calls HT.out.2.1.s (HSD.out.far HT.out.2.1.pr.m) HLd.out.symm HM1.out (by rw [HLd.out]; omega) (by rw [HLd.out]; omega)).mono ?_
              rintro e w11 ⟨rfl, m11⟩
              rw [decide_eq_true rfl]
              have T11 := Lib.hid (show Rs w w11 p q (X.take l) (X.take l) ba ca Y B cb (X.drop l) ∧ Ow w11 bl (X.take l) cl from ⟨HT.out.2.1.far m11, HT.out.2.2.mod m11 (by simp)⟩)
              clear m11 HT
              go_wp2_with fail
              refine (same_calls T11.out.2.sl (HST.out.far T11.out.1.pr.m) HLl.out.symm HLl.out.symm (by rw [HLl.out]; omega) (by rw [HLl.out]; omega)).mono ?_
              rintro e w12 ⟨rfl, m12⟩
              rw [decide_eq_true rfl]
              have T12 := Lib.hid (show Rs w w12 p q (X.take l) (X.take l) ba ca Y B cb (X.drop l) ∧ Ow w12 bl (X.take l) cl from ⟨T11.out.1.far m12, T11.out.2.mod m12 (by simp)⟩)
              clear m12 T11
              go_wp2_with fail
              refine (all_calls T12.out.1.pr.t).mono ?_
              rintro e w13 ⟨b13, c13, rfl, o13, l13, m13⟩
              rw [HLl.out]
              have T13 := Lib.hid (show Rs w w13 p q (X.take l) (X.take l) ba ca Y B cb (X.drop l) ∧ Ow w13 bl (X.take l) cl ∧ Ow w13 b13 (X.take l) c13 from ⟨T12.out.1.far m13, T12.out.2.mod m13 (by simp), o13⟩)
              clear o13 l13 m13 T12
              go_wp2_with fail
              refine (same_calls T13.out.2.2.sl T13.out.2.1.sl HLl.out.symm HLl.out.symm (by rw [HLl.out]; omega) (by rw [HLl.out]; omega)).mono ?_
              rintro e w14 ⟨rfl, m14⟩
              rw [decide_eq_true rfl]
              have T14 := Lib.hid (show Rs w w14 p q (X.take l) (X.take l) ba ca Y B cb (X.drop l) ∧ Ow w14 bl (X.take l) cl from ⟨T13.out.1.far m14, T13.out.2.1.mod m14 (by simp)⟩)
              clear m14 T13
              go_wp2_with fail
              refine (all_calls T14.out.1.pr.s).mono ?_
              rintro e w15 ⟨b15, c15, rfl, o15, l15, m15⟩
              rw [HLl.out]
              have T15 := Lib.hid (show Rs w w15 p q (X.take l) (X.take l) ba ca Y B cb (X.drop l) ∧ Ow w15 bl (X.take l) cl ∧ Ow w15 b15 (X.take l) c15 from ⟨T14.out.1.far m15, T14.out.2.mod m15 (by simp), o15⟩)
              clear o15 l15 m15 T14
              go_wp2_with fail
              refine (same_calls T15.out.2.2.sl T15.out.2.1.sl HLl.out.symm HLl.out.symm (by rw [HLl.out]; omega) (by rw [HLl.out]; omega)).mono ?_
              rintro e w16 ⟨rfl, m16⟩
              rw [decide_eq_true rfl]
              have T16 := Lib.hid (T15.out.1.far m16)
              clear m16 T15
              go_wp2
              go_ret
              exact ⟨rfl, T16.out.pr.m⟩
end Go.Proofs.Ytjmbmhjhnoiclaa
