/- Layer 12: All of package table. No condition. -/
import Derived.Test.YtgmdagjaigbajaaTD
import Derived.Test.YtgmdagjaigbajaaTE
namespace Go.Proofs.Ytgmdagjaigbajaa
open Go.RowKit
set_option linter.unusedVariables false

theorem names_len (k : Int) : (namesK k).length ≤ 107 := by unfold namesK; repeat' split
                                                            all_goals decide
theorem now_len (k : Int) : (nowK k).length ≤ 107 := by unfold nowK; repeat' split
                                                        all_goals decide
theorem only_len (k : Int) : (onlyK k).length ≤ 107 := by unfold onlyK; repeat' split
                                                          all_goals decide
theorem built_en {w : World} {lo : Nat} {g : Value} {k : Int} (h : Gp w lo g k (namesK k) (nowK k) (onlyK k)) (i : Nat) (hi : i < (namesK k).length) :
    Calls Try.prog 17 #[g, .int .i64 (i : Int)] w fun e w' => e = .returned (buV (entK k i (namesK k)[i])) ∧ Mod [] w w' := by
  have h1 := names_len k
  have h2 := now_len k
  have h3 := only_len k
  refine (built_calls h (by omega) (by omega) (by omega) i hi).mono fun e w' ⟨he, hm⟩ => ⟨?_, hm⟩
  rw [he]
  unfold buV entK
  simp
/-- The words of the first kinds. -/
def upK : Nat → List En
  | 0 => []
  | n + 1 => upK n ++ tabK ((n : Int) + 1)
theorem upK_all : upK 4 = tab := by unfold tab; simp only [upK, List.nil_append, List.append_assoc]; rfl
theorem upK_len : ∀ n, (upK n).length ≤ n * 107
  | 0 => by simp [upK]
  | n + 1 => by
    have := upK_len n
    have h2 := names_len ((n : Int) + 1)
    simp only [upK, List.length_append, tabK, tabF_len]
    omega
theorem out_cells {w w1 : World} {lo p : Nat} {x0 x1 x2 x3 : Value} (h : Bx4 w p x0 x1 x2 x3) (hp : lo ≤ p) (k : Kept lo w w1) : Bx4 w1 p x0 x1 x2 x3 :=
  ⟨k.cell hp h.c0, k.cell hp h.c1, k.cell hp h.c2, k.cell hp h.c3, fun i => by rw [k.frozen hp h.lt]; exact h.f i, Nat.lt_of_lt_of_le h.lt k.size⟩
set_option maxRecDepth 100000 in
set_option maxHeartbeats 4000000 in
theorem all_calls (w : World) : Calls Try.prog 10 #[] w fun e w' => ∃ v, e = .returned v ∧ Er w' w.heap.size v tab ∧ Mod [] w w' := by
  go_enter Try.func10, Try.ntmps10
  go_wp2_with fail
  go_loopw [1, 2] (fun v y wr => ∃ kk : Nat, y = .int .i64 ((kk : Int) + 1) ∧ kk ≤ 4 ∧ RowKit.Hid (Er wr w.heap.size v (upK kk) ∧ Mod [] w wr)) (fun _ y _ => 6 - (intOf y).toNat)
  case atStart => exact ⟨0, rfl, by omega, Lib.hid ⟨Er.nil _ _, Mod.refl _ _⟩⟩
  case round =>
    obtain ⟨kk, rfl, hk4, hi⟩ := hrel
    obtain ⟨wo, hwo⟩ : ∃ wo, wo = wr := ⟨_, rfl⟩
    subst hwo
    obtain ⟨hE, hM⟩ := hi.out
    clear hi
    by_cases hlt : kk < 4
    · have hkI : (kk : Int) + 1 ≤ 4 := by omega
      have HE := Lib.hid hE
      have HM := Lib.hid hM
      have G1 := Lib.hid (group_calls wo ((kk : Int) + 1))
      have hup := upK_len kk
      obtain ⟨k, hk⟩ : ∃ k, k = (kk : Int) + 1 := ⟨_, rfl⟩
      have HK := Lib.hid hk
      rw [← hk] at G1 hkI ⊢
      have hwk : wrap64 (k + 1) = k + 1 := IntWalk.wrap64_in _ (by omega)
      clear hE hM hk
      go_wp2_with fail
      refine (G1.out).mono ?_
      rintro e w1 ⟨g, rfl, hg, m1⟩
      have HG0 := Lib.hid hg
      obtain ⟨A1, c1, A2, c2, A3, c3, rfl, _⟩ := hg
      have b4 := Bx4.new w1 (.int .i64 k) (.slice A1 (namesK k).length c1) (.slice A2 (nowK k).length c2) (.slice A3 (onlyK k).length c3) 41
      have m2 : Mod [] w1 (w1.alloc (.cells #[.int .i64 k, .slice A1 (namesK k).length c1, .slice A2 (nowK k).length c2, .slice A3 (onlyK k).length c3] 41)) := (Mod.refl [] w1).alloc _
      have hnl := names_len k
      obtain ⟨n1, hn1⟩ : ∃ n, n = (namesK k).length := ⟨_, rfl⟩
      obtain ⟨n2, hn2⟩ : ∃ n, n = (nowK k).length := ⟨_, rfl⟩
      obtain ⟨n3, hn3⟩ : ∃ n, n = (onlyK k).length := ⟨_, rfl⟩
      rw [← hn1, ← hn2, ← hn3] at b4 m2 HG0
      rw [← hn1, ← hn2, ← hn3]
      have HN1 := Lib.hid hn1
      rw [← hn1] at hnl
      have B4 := Lib.hid b4
      have M2 := Lib.hid m2
      have M1 := Lib.hid m1
      have p1 := b4.c1
      clear hn1 hn2 hn3 b4 m1 m2
      go_upto_region 6 with fail
      generalize w1.alloc (.cells #[.int .i64 k, .slice A1 n1 c1, .slice A2 n2 c2, .slice A3 n3 c3] 41) = w2 at *
      obtain ⟨p, hp⟩ : ∃ p, p = w1.heap.size := ⟨_, rfl⟩
      rw [← hp] at B4 p1 ⊢
      have HP := Lib.hid (show wo.heap.size ≤ p by rw [hp]; exact M1.out.size)
      clear hp
      go_wp2_with fail
      go_loopw [1, 14] (fun v y wi => ∃ j : Nat, y = .int .i64 (j : Int) ∧ j ≤ n1 ∧ RowKit.Hid (Er wi w.heap.size v (upK kk ++ tabF k 0 ((namesK k).take j)) ∧ Kept wo.heap.size w2 wi ∧ Mod [] w wi ∧ ∀ b, v.ownBlock = some b → b < wo.heap.size ∨ w2.heap.size ≤ b)) (fun _ y _ => n1 - (intOf y).toNat)
      case atStart =>
        have hM2 := M1.out.trans M2.out
        refine ⟨0, rfl, by omega, Lib.hid ⟨?_, Kept.refl _ _, HM.out.trans hM2, fun b hb => Or.inl ?_⟩⟩
        · have := HE.out.far hM2
          simpa [tabF] using this
        · rcases HE.out.2 with ⟨e, _⟩ | ⟨g', cap, cur, e, _, h3, _⟩
          · rw [e] at hb; cases hb
          · rw [e] at hb
            have : g' = b := by simpa [Value.ownBlock] using hb
            rw [← this]
            exact (Array.getElem?_eq_some_iff.1 h3).1
      case round =>
        clear p1
        obtain ⟨j, rfl, hjn, hi⟩ := hrel
        by_cases hjl : j < n1
        · have hjI : (j : Int) < (n1 : Int) := by omega
          have hjN : j < (namesK k).length := by rw [← HN1.out]; exact hjl
          obtain ⟨h1, h2, h3, h4⟩ := hi.out
          have GG : Gp w2 wo.heap.size (.agg #[.int .i64 k, .slice A1 n1 c1, .slice A2 n2 c2, .slice A3 n3 c3]) k (namesK k) (nowK k) (onlyK k) := HG0.out.far M2.out
          have K1 := built_en (GG.kept h2) j hjN
          have q := out_cells B4.out HP.out h2
          obtain ⟨p0, p1, p2, p3, _, _⟩ := q
          obtain ⟨c, hc⟩ : ∃ c, c = entK k j (namesK k)[j] := ⟨_, rfl⟩
          rw [← hc] at K1
          have HC := Lib.hid hc
          have HI := Lib.hid (And.intro h1 (And.intro h2 (And.intro h3 h4)))
          have KK := Lib.hid K1
          clear K1 hc h1 h2 h3 h4 hi GG
          go_wp2_with fail
          refine (KK.out).mono ?_
          rintro e w3 ⟨rfl, m3⟩
          obtain ⟨e1, e2, e3, e4⟩ := HI.out
          have M3 := Lib.hid m3
          have X1 := Lib.hid ((e1.far m3).far ((Mod.refl [] w3).alloc (.cells #[.string (str c.s), .int .i64 c.k, .int .i64 (c.n : Int), .bool c.now, .bool c.only] 24)))
          have X2 := Lib.hid ((e2.far m3).far ((Mod.refl [] w3).alloc (.cells #[.string (str c.s), .int .i64 c.k, .int .i64 (c.n : Int), .bool c.now, .bool c.only] 24)))
          have X3 := Lib.hid ((e3.trans m3).trans ((Mod.refl [] w3).alloc (.cells #[.string (str c.s), .int .i64 c.k, .int .i64 (c.n : Int), .bool c.now, .bool c.only] 24)))
          have X4 := Lib.hid e4
          have XC := Lib.hid (en_new w3 c 24)
          have XL := Lib.hid (show (upK kk ++ tabF k 0 ((namesK k).take j)).length ≤ 1000000 by rw [List.length_append, tabF_len, List.length_take]; omega)
          clear m3 e1 e2 e3 e4 p0 p1 p2 p3
          unfold buV
          go_wp2_with (refine wpList_appE rfl (.tmp 17) (.tmp 21) rfl X1.out X3.out.size XL.out _ 1 c XC.out rfl rfl ?_)
          intro v' w' b1 b2 b3
          have R1 := Lib.hid b1
          have R2 := Lib.hid (X2.out.mod b2 fun x hx => X4.out x (by simpa using hx))
          have R3 := Lib.hid (X3.out.then b2 fun x hx => Or.inr (X1.out.own x (by simpa using hx)))
          have R4 := Lib.hid (show ∀ b, v'.ownBlock = some b → b < wo.heap.size ∨ w2.heap.size ≤ b from fun b hb => b3.elim (fun e => X4.out b (by rw [← e]; exact hb)) fun e => by
            have hb2 := Option.some.inj (e.symm.trans hb)
            rw [← hb2]
            have := X2.out.size
            rw [size_allocT] at this
            exact Or.inr this)
          clear b1 b2 b3
          go_wp2_with fail
          go_roundw
          case rel => exact ⟨j + 1, by go_num, by omega, Lib.hid ⟨by rw [tabF_take k _ j hjN, ← HC.out]; exact R1.out, R2.out, R3.out, R4.out⟩⟩
          case measure => simp [intOf]; omega
        · have hjI : ¬ (j : Int) < (n1 : Int) := by omega
          have hj : j = (namesK k).length := by have := HN1.out; omega
          have hi2 := hi.out
          rw [hj, List.take_of_length_le (Nat.le_refl _)] at hi2
          have HI := Lib.hid hi2
          clear hi hi2 hj
          go_wp2_with fail
          go_roundw
          case rel => exact ⟨kk + 1, by rw [hwk, HK.out]; rfl, by omega, Lib.hid ⟨by have := HI.out.1; unfold upK; unfold tabK; rw [← HK.out]; exact this, HI.out.2.2.1⟩⟩
          case measure => have := HK.out; simp [intOf]; omega
    · have hkI : ¬ (kk : Int) + 1 ≤ 4 := by omega
      have e4 : kk = 4 := by omega
      subst e4
      rw [upK_all] at hE
      have HE := Lib.hid hE
      have HM := Lib.hid hM
      clear hE hM
      go_wp2_with fail
      go_ret
      exact ⟨_, rfl, HE.out, HM.out⟩
end Go.Proofs.Ytgmdagjaigbajaa
