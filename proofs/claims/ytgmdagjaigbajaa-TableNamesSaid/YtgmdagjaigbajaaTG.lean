/- Layer 12: Find and Name of package table. Condition: names of at most 9223372036854775807 bytes. -/
import Derived.Test.YtgmdagjaigbajaaTF
import Derived.Test.YtgmdagjaigbajaaFold
namespace Go.Proofs.Ytgmdagjaigbajaa
open Go.RowKit
set_option linter.unusedVariables false

/-- What Find tells. -/
def fiV : Option En → Value
  | none => .tuple #[.agg #[.string ⟨#[]⟩, .int .i64 0, .int .i64 0, .bool false, .bool false], .bool false]
  | some x => .tuple #[buV x, .bool true]
theorem At.find {k : Int} {s : List UInt8} {z : Int} (h : At (namesK k) s z) : (tabK k).find? (fun x => decide (x.s = s)) = if z < 0 then none else some (entK k z.toNat s) := by
  rcases h with ⟨rfl, h⟩ | ⟨j, rfl, h1, h2⟩
  · rw [if_pos (by omega)]
    exact tabF_none k s _ 0 h
  · rw [if_neg (by omega)]
    have := tabF_some k s _ 0 j h1 h2
    rw [Nat.zero_add] at this
    exact this
theorem upK_find (s : List UInt8) (n : Nat) (h : (upK n).find? (fun x => decide (x.s = s)) = none) : (upK (n + 1)).find? (fun x => decide (x.s = s)) = (tabK ((n : Int) + 1)).find? (fun x => decide (x.s = s)) := by
  simp only [upK, List.find?_append, h, Option.none_or]
theorem upK_more (s : List UInt8) {x : En} : ∀ (n m : Nat), n ≤ m → (upK n).find? (fun x => decide (x.s = s)) = some x → (upK m).find? (fun x => decide (x.s = s)) = some x := by
  intro n m hnm h
  induction m with
  | zero => obtain rfl : n = 0 := by omega
            exact h
  | succ m ih =>
    by_cases e : n = m + 1
    · rw [← e]; exact h
    · simp only [upK, List.find?_append, ih (by omega), Option.some_or]
set_option maxRecDepth 100000 in
set_option maxHeartbeats 4000000 in
theorem find_calls (L : List UInt8) (hl : L.length ≤ 9223372036854775807) (w : World) : Calls Try.prog 8 #[.string (str L)] w fun e w' => e = .returned (fiV (findT (foldL L))) ∧ Mod [] w w' := by
  have b0 := Bx5.new w (.string ⟨#[]⟩) (.int .i64 0) (.int .i64 0) (.bool false) (.bool false) 24
  have m0 : Mod [] w (w.alloc (.cells #[.string ⟨#[]⟩, .int .i64 0, .int .i64 0, .bool false, .bool false] 24)) := (Mod.refl [] w).alloc _
  obtain ⟨q, hq⟩ : ∃ q, q = w.heap.size := ⟨_, rfl⟩
  have HQ := Lib.hid (show w.heap.size ≤ q from Nat.le_of_eq hq.symm)
  rw [← hq] at b0
  have Hq := Lib.hid hq
  clear hq
  have F1 := Lib.hid (fun W => fold_calls L hl W)
  obtain ⟨s, hs⟩ : ∃ s, s = foldL L := ⟨_, rfl⟩
  rw [← hs] at F1 ⊢
  obtain ⟨S, hS⟩ : ∃ S, S = str L := ⟨_, rfl⟩
  rw [← hS] at F1 ⊢
  obtain ⟨U, hU⟩ : ∃ U, U = str s := ⟨_, rfl⟩
  rw [← hU] at F1
  have HU := Lib.hid hU
  have B0 := Lib.hid b0
  have M0 := Lib.hid m0
  clear hs hS hU hl b0 m0
  go_enter Try.func8, Try.ntmps8
  go_upto_region 1 with fail
  generalize w.alloc (.cells #[.string ⟨#[]⟩, .int .i64 0, .int .i64 0, .bool false, .bool false] 24) = W at *
  rw [← Hq.out]
  go_wp2_with fail
  refine (F1.out _).mono ?_
  rintro e w1 ⟨rfl, m1⟩
  have B1 := Lib.hid (B0.out.far m1)
  have M1 := Lib.hid (M0.out.trans m1)
  clear m1
  go_wp2_with fail
  go_loopw [5] (fun y wr => ∃ kk : Nat, y = .int .i64 ((kk : Int) + 1) ∧ kk ≤ 4 ∧ RowKit.Hid ((upK kk).find? (fun x => decide (x.s = s)) = none ∧ Mod [] w1 wr)) (fun y _ => 6 - (intOf y).toNat)
  case atStart => exact ⟨0, rfl, by omega, Lib.hid ⟨rfl, Mod.refl _ _⟩⟩
  case round =>
    obtain ⟨kk, rfl, hk4, hi⟩ := hrel
    by_cases hlt : kk < 4
    · have hkI : (kk : Int) + 1 ≤ 4 := by omega
      have G1 := Lib.hid (group_calls wr ((kk : Int) + 1))
      obtain ⟨k, hk⟩ : ∃ k, k = (kk : Int) + 1 := ⟨_, rfl⟩
      have HK := Lib.hid hk
      rw [← hk] at G1 hkI ⊢
      have hwk : wrap64 (k + 1) = k + 1 := IntWalk.wrap64_in _ (by omega)
      have HI := Lib.hid hi.out
      clear hk hi
      go_wp2_with fail
      refine (G1.out).mono ?_
      rintro e w2 ⟨g, rfl, hg, m2⟩
      have hg' := hg
      obtain ⟨A1, c1, A2, c2, A3, c3, rfl, t1, _⟩ := hg'
      have b4 := Bx4.new w2 (.int .i64 k) (.slice A1 (namesK k).length c1) (.slice A2 (nowK k).length c2) (.slice A3 (onlyK k).length c3) 41
      have m3 : Mod [] w2 (w2.alloc (.cells #[.int .i64 k, .slice A1 (namesK k).length c1, .slice A2 (nowK k).length c2, .slice A3 (onlyK k).length c3] 41)) := (Mod.refl [] w2).alloc _
      have hnl := names_len k
      have t1 := t1.far m3
      have hg := hg.far m3
      have MM := Lib.hid ((HI.out.2.trans m2).trans m3)
      obtain ⟨n1, hn1⟩ : ∃ n, n = (namesK k).length := ⟨_, rfl⟩
      obtain ⟨n2, hn2⟩ : ∃ n, n = (nowK k).length := ⟨_, rfl⟩
      obtain ⟨n3, hn3⟩ : ∃ n, n = (onlyK k).length := ⟨_, rfl⟩
      rw [← hn1, ← hn2, ← hn3] at b4 hg t1 MM
      rw [← hn1, ← hn2, ← hn3]
      rw [← hn1] at hnl
      obtain ⟨p0, p1, p2, p3, _, _⟩ := b4
      have I1 := index_calls (c := c1) t1 hn1 (by omega) s
      rw [← HU.out] at I1
      have I1 := Lib.hid I1
      have HG := Lib.hid hg
      have HN := Lib.hid hn1
      clear hn1 hn2 hn3 t1 hg m2 m3 G1
      go_upto_region 6 with fail
      generalize w2.alloc (.cells #[.int .i64 k, .slice A1 n1 c1, .slice A2 n2 c2, .slice A3 n3 c3] 41) = w3 at *
      obtain ⟨p, hp⟩ : ∃ p, p = w2.heap.size := ⟨_, rfl⟩
      rw [← hp] at p0 p1 p2 p3 ⊢
      clear hp
      go_wp2_with fail
      refine (I1.out).mono ?_
      rintro e w4 ⟨⟨z, rfl, hz⟩, rfl⟩
      have hf := hz.find
      rcases hz with ⟨rfl, hno⟩ | ⟨j, rfl, hj, hj2⟩
      · have REL := Lib.hid (show (upK (kk + 1)).find? (fun x => decide (x.s = s)) = none from by
          rw [upK_find s kk HI.out.1, ← HK.out, hf]; rfl)
        clear hf hno
        go_wp2_with fail
        go_roundw
        case rel => exact ⟨kk + 1, by rw [hwk, HK.out]; rfl, by omega, Lib.hid ⟨REL.out, MM.out⟩⟩
        case measure => have := HK.out; simp [intOf]; omega
      · have hjn : j < (namesK k).length := (List.getElem?_eq_some_iff.1 hj).1
        have hjs : (namesK k)[j] = s := (List.getElem?_eq_some_iff.1 hj).2
        have K1 := built_en HG.out j hjn
        rw [hjs] at K1
        have hjI : (j : Int) < (n1 : Int) := by have := HN.out; omega
        have hfind : findT s = some (entK k j s) := by
          unfold findT
          rw [← upK_all]
          refine upK_more s (kk + 1) 4 (by omega) ?_
          rw [upK_find s kk HI.out.1, ← HK.out, hf, if_neg (by omega)]
          rfl
        obtain ⟨x, hx⟩ : ∃ x, x = entK k j s := ⟨_, rfl⟩
        rw [← hx] at K1 hfind
        have HF := Lib.hid hfind
        have KK := Lib.hid K1
        clear K1 hx hfind hjn hjs hj hj2 hf
        go_wp2_with fail
        refine (KK.out).mono ?_
        rintro e w5 ⟨rfl, m5⟩
        have m6 := MM.out.trans m5
        obtain ⟨q0, q1, q2, q3, q4, qf, _⟩ := B1.out.far m6
        have qf0 := qf 0
        have qf1 := qf 1
        have qf2 := qf 2
        have qf3 := qf 3
        have qf4 := qf 4
        have M6 := Lib.hid (M1.out.trans m6)
        clear m5 m6 p0 p1 p2 p3 qf
        unfold buV
        go_wp2_with fail
        refine bodyPost_ret (v := .tuple #[.agg #[.string (str x.s), .int .i64 x.k, .int .i64 (x.n : Int), .bool x.now, .bool x.only], .bool true]) (by simp [results, Try.results8, go_sem, q0, q1, q2, q3, q4]) rfl ⟨by rw [HF.out]; rfl, ?_⟩
        exact ((((M6.out.set (x := ⟨q, 0, none⟩) (Or.inr HQ.out) _).set (x := ⟨q, 1, none⟩) (Or.inr HQ.out) _).set (x := ⟨q, 2, none⟩) (Or.inr HQ.out) _).set (x := ⟨q, 3, none⟩) (Or.inr HQ.out) _).set (x := ⟨q, 4, none⟩) (Or.inr HQ.out) _
    · have hkI : ¬ (kk : Int) + 1 ≤ 4 := by omega
      obtain ⟨h1, h2⟩ := hi.out
      have e4 : kk = 4 := by omega
      subst e4
      have hfind : findT s = none := by unfold findT; rw [← upK_all]; exact h1
      have HF := Lib.hid hfind
      obtain ⟨q0, q1, q2, q3, q4, qf, _⟩ := B1.out.far h2
      have qf0 := qf 0
      have qf1 := qf 1
      have qf2 := qf 2
      have qf3 := qf 3
      have qf4 := qf 4
      have M6 := Lib.hid (M1.out.trans h2)
      clear hi h1 h2 hfind qf
      go_wp2_with fail
      refine bodyPost_ret (v := .tuple #[.agg #[.string ⟨#[]⟩, .int .i64 0, .int .i64 0, .bool false, .bool false], .bool false]) (by simp [results, Try.results8, go_sem, q0, q1, q2, q3, q4]) rfl ⟨by rw [HF.out]; rfl, ?_⟩
      exact ((((M6.out.set (x := ⟨q, 0, none⟩) (Or.inr HQ.out) _).set (x := ⟨q, 1, none⟩) (Or.inr HQ.out) _).set (x := ⟨q, 2, none⟩) (Or.inr HQ.out) _).set (x := ⟨q, 3, none⟩) (Or.inr HQ.out) _).set (x := ⟨q, 4, none⟩) (Or.inr HQ.out) _
end Go.Proofs.Ytgmdagjaigbajaa
