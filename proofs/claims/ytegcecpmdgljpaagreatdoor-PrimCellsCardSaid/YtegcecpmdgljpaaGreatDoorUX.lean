/- Layer 13: the whole stack is told. Condition: cells are cells. -/
import Derived.Test.YtegcecpmdgljpaaGreatDoorUW
namespace Go.Proofs.YtegcecpmdgljpaaGreatDoor
open Go.RowKit
set_option linter.unusedVariables false

section
variable {W : World} {a : Ad} {T : List Nat} {R : List Int} {μ : Mu}
theorem show_err (hb : baseE μ ≠ 0) (h : Stt W a T R μ) : Calls Tryz.prog 171 #[Pt a.s] W (Acted a T W ⟨[], baseE μ, R, μ⟩) := by
  obtain ⟨q1, q2⟩ := q_ne hb
  have HC := Lib.hid (base_of h)
  have HH := Lib.hid h
  obtain ⟨e, he⟩ : ∃ e, e = baseE μ := ⟨_, rfl⟩
  obtain ⟨v, hv⟩ : ∃ e, e = baseV μ := ⟨_, rfl⟩
  rw [← he, ← hv] at HC
  rw [← he] at q1 q2 ⊢
  clear h hb he hv
  go_enter Tryz.func171, Tryz.ntmps171
  go_wp2_with fail
  refine (HC.out).mono ?_
  rintro e' w2 ⟨rfl, rfl⟩
  go_wp2
  go_ret2
  exact ⟨none, 0, 0, T, rfl, rfl, Sl.nil _ _, Tn.refl _ _, HH.out⟩
def showH (R : List Int) : ByteArray := (⟨#[60]⟩ ++ ⟨(Lib.itoa (R.length : Int)).toArray⟩) ++ ⟨#[62, 32]⟩
def showF (B : Nat) (O : List UInt8) (x : Int) : List UInt8 := sayL O (str (numL B (lo x) (hi x)))
def showO (B : Nat) (R : List Int) (O : List UInt8) : List UInt8 := R.foldl (showF B) (sayL O (showH R))
theorem fold_step {α : Type} (f : α → Int → α) (a : α) (R : List Int) (j : Nat) (h : j < R.length) : (R.take (j + 1)).foldl f a = f ((R.take j).foldl f a) R[j] := by
  rw [List.take_add_one, List.foldl_append, List.getElem?_eq_getElem h]; rfl
theorem show_ok (B : Nat) (hB : baseC μ = (B : Int)) (h2 : 2 ≤ B) (h36 : B ≤ 36) (h : Stt W a T R μ) : Calls Tryz.prog 171 #[Pt a.s] W (Acted a T W ⟨[], 0, R, { μ with O := showO B R μ.O }⟩) := by
  have e1 : baseV μ = (B : Int) := by unfold baseV; rw [if_pos (by omega), hB]
  have e2 : baseE μ = 0 := by unfold baseE; rw [if_pos (by omega)]
  have HC := Lib.hid (base_of h)
  rw [e1, e2] at HC
  have c0 := h.c0
  have hn := h.st.n
  have hi : I64 (R.length : Int) := by unfold I64; omega
  have HL := Lib.hid h.st.2
  have HD := Lib.hid (depth_calls h.st)
  have HI := Lib.hid (itoa_calls (R.length : Int) hi W h.good)
  have hl := itoa_len hi
  obtain ⟨S1, hS1⟩ : ∃ S : ByteArray, S = ⟨(Lib.itoa (R.length : Int)).toArray⟩ := ⟨_, rfl⟩
  have hs1 : S1.size ≤ 21 := by rw [hS1, size_list]; exact hl
  rw [← hS1] at HI
  have k1 : (⟨#[60]⟩ : ByteArray).size = 1 := rfl
  have k2 : (⟨#[62, 32]⟩ : ByteArray).size = 2 := rfl
  have hadd1 := fun V' => run_string_add_sum (P := Tryz.prog) V' ⟨#[60]⟩ S1 (by omega)
  have hadd2 := fun V' => run_string_add_sum (P := Tryz.prog) V' (⟨#[60]⟩ ++ S1) ⟨#[62, 32]⟩ (by rw [ByteArray.size_append]; omega)
  obtain ⟨S2, hS2⟩ : ∃ S : ByteArray, S = ⟨#[60]⟩ ++ S1 := ⟨_, rfl⟩
  have hs2 : S2.size ≤ 22 := by rw [hS2, ByteArray.size_append]; omega
  rw [← hS2] at hadd1 hadd2
  obtain ⟨S3, hS3⟩ : ∃ S : ByteArray, S = S2 ++ ⟨#[62, 32]⟩ := ⟨_, rfl⟩
  have hs3 : S3.size ≤ 24 := by rw [hS3, ByteArray.size_append]; omega
  rw [← hS3] at hadd2
  have hsh : S3 = showH R := by rw [hS3, hS2, hS1]; rfl
  have HSH := Lib.hid hsh
  have HH := Lib.hid (And.intro h (show S3.size ≤ 9223372036854775807 by omega))
  have HB := Lib.hid (And.intro h2 h36)
  have hWB : wrap64 (B : Int) = (B : Int) := by unfold wrap64; omega
  obtain ⟨n, hN⟩ : ∃ n, n = R.length := ⟨_, rfl⟩
  rw [← hN] at HD HI hn
  have HN := Lib.hid hN
  clear h hl hsh hS1 hs1 hS2 hs2 hS3 hs3 k1 k2 hi hB h2 h36 e1 e2 hN
  go_enter Tryz.func171, Tryz.ntmps171
  go_wp2_with fail
  refine (HC.out).mono ?_
  rintro e' w2 ⟨rfl, rfl⟩
  clear HC
  go_wp2_with fail
  refine (HD.out).mono ?_
  rintro e' w2 ⟨rfl, rfl⟩
  clear HD
  go_wp2_with fail
  refine (HI.out).mono ?_
  rintro e' w2 ⟨rfl, hf⟩
  have h2 := HH.out.1.far (Mod.of_below hf)
  have HS := Lib.hid (say_of h2 S3 HH.out.2)
  have HT := Lib.hid (Tn.far (T := T) (Mod.of_below hf))
  clear HI hf h2 c0
  go_wp2_with fail
  refine (HS.out).mono ?_
  rintro e' w3 ⟨rfl, T1, tn1, h3⟩
  have c0 := h3.c0
  have HA := Lib.hid (all_calls h3.st)
  have HT2 := Lib.hid (HT.out.trans tn1)
  have H3 := Lib.hid h3
  clear HS HT tn1 h3
  go_wp2_with fail
  refine (HA.out).mono ?_
  rintro e' w4 ⟨b, c, rfl, ho, hb, hm⟩
  have h4 := H3.out.far hm
  have hbT : b ∉ T1 := fun hx => by have := H3.out.tl _ hx; omega
  rw [← HN.out]
  have hlc : b < w4.heap.size := ho.lt
  have HT3 := Lib.hid (And.intro (HT2.out.trans (Tn.far hm)) (And.intro h4 (And.intro hbT hlc)))
  clear HA HT2 H3 c0 hm h4 hbT hlc hb
  go_wp2_with fail
  go_loopw [32] (fun i wr => ∃ (j : Nat) (O1 : List UInt8) (T2 : List Nat), j ≤ n ∧ i = .int .i64 (j : Int) ∧ Ow wr b R c ∧ RowKit.Hid (O1 = (R.take j).foldl (showF B) (sayL μ.O S3)) ∧ RowKit.Hid (Tn T T2 W wr ∧ Stt wr a T2 R { μ with O := O1 } ∧ b ∉ T2 ∧ b < wr.heap.size)) (fun i _ => n - (intOf i).toNat)
  case atStart => exact ⟨0, _, T1, Nat.zero_le _, rfl, ho, Lib.hid rfl, HT3⟩
  case round =>
    obtain ⟨j, O1, T2, hj, rfl, ho, HE, HX⟩ := hrel
    by_cases hlt : j < n
    · have hjR : j < R.length := by rw [← HN.out]; exact hlt
      have hx := ho.cell j hjR
      have hix := HL.out _ (List.getElem_mem hjR)
      obtain ⟨x, hxx⟩ : ∃ x, x = R[j] := ⟨_, rfl⟩
      rw [← hxx] at hx hix
      have HO := Lib.hid ((Rt.ext (fun W => of_calls W x hix W (Ext.refl W)) : Rt wr _ _ _) wr (Mod.refl [] wr))
      have HG := Lib.hid (fun V' => signed_calls (lo x) (hi x) (B : Int) (lo_i64 x) (hi_i64 x) (Go.Proofs.YtegcecpmdgljpaaGreatDoor.W (lo x) (hi x)).toNat B (by have := W_bd (lo x) (hi x); omega) rfl HB.out.1 HB.out.2 V')
      have hl := signed_len13 B (lo x) (hi x) (lo_i64 x) (hi_i64 x) HB.out.1
      have hadd : ∀ V', (Op.stringOp .add (bytes (signed B (Go.Proofs.YtegcecpmdgljpaaGreatDoor.W (lo x) (hi x)).toNat (V (lo x) (hi x)))) ⟨#[32]⟩).run Tryz.prog V' = .ok (.string (str (numL B (lo x) (hi x)))) V' := fun V' => by
        have hs : (bytes (signed B (Go.Proofs.YtegcecpmdgljpaaGreatDoor.W (lo x) (hi x)).toNat (V (lo x) (hi x)))).size = (signed B (Go.Proofs.YtegcecpmdgljpaaGreatDoor.W (lo x) (hi x)).toNat (V (lo x) (hi x))).length := str_size _
        rw [run_string_add_sum (P := Tryz.prog) (w := V') _ _ (by rw [hs]; have : (⟨#[32]⟩ : ByteArray).size = 1 := rfl; omega)]
        have : bytes (signed B (Go.Proofs.YtegcecpmdgljpaaGreatDoor.W (lo x) (hi x)).toNat (V (lo x) (hi x))) ++ ⟨#[32]⟩ = str (numL B (lo x) (hi x)) := str_append (signed B (Go.Proofs.YtegcecpmdgljpaaGreatDoor.W (lo x) (hi x)).toNat (V (lo x) (hi x))) [32]
        rw [this]
      have hnl : (str (numL B (lo x) (hi x))).size ≤ 9223372036854775807 := by rw [str_size]; unfold numL; simp; omega
      have HES := Lib.hid (show sayL O1 (str (numL B (lo x) (hi x))) = (R.take (j + 1)).foldl (showF B) (sayL μ.O S3) by rw [fold_step _ _ _ _ hjR, ← HE.out, ← hxx]; rfl)
      obtain ⟨S4, hS4⟩ : ∃ S, S = bytes (signed B (Go.Proofs.YtegcecpmdgljpaaGreatDoor.W (lo x) (hi x)).toNat (V (lo x) (hi x))) := ⟨_, rfl⟩
      obtain ⟨S5, hS5⟩ : ∃ S, S = str (numL B (lo x) (hi x)) := ⟨_, rfl⟩
      rw [← hS4] at HG hadd
      rw [← hS5] at hadd hnl HES
      obtain ⟨u, hu⟩ : ∃ u, u = lo x := ⟨_, rfl⟩
      obtain ⟨v, hv⟩ : ∃ u, u = hi x := ⟨_, rfl⟩
      rw [← hu, ← hv] at HG HO
      have HNL := Lib.hid hnl
      have HOW := Lib.hid ho
      have h1 : (0 : Int) ≤ (j : Int) := by omega
      have h2 : (j : Int) < (n : Int) := by omega
      clear hnl hl hS4 hS5 hu hv hix hxx ho hjR
      go_wp2_with fail
      refine (HO.out).mono ?_
      rintro e' w5 ⟨rfl, hm5⟩
      have HM5 := Lib.hid hm5
      clear hm5 HO
      go_wp2_with fail
      refine (HG.out _).mono ?_
      rintro e' w6 ⟨rfl, hx6⟩
      have hm6 := HM5.out.trans (Mod.of_below hx6.1)
      have HS := Lib.hid (say_of (HX.out.2.1.far hm6) S5 HNL.out)
      have HM6 := Lib.hid hm6
      clear hx6 hm6 HG HM5
      go_wp2_with fail
      refine (HS.out).mono ?_
      rintro e' w7 ⟨rfl, T3, tn, h7⟩
      have hb7 : b ∉ T3 := fun hx => (tn.new _ hx).elim HX.out.2.2.1 fun k => by have := HM6.out.size; have := HX.out.2.2.2; omega
      have HR := Lib.hid (And.intro (HOW.out.mod (HM6.out) (by simp)) (And.intro tn (And.intro h7 hb7)))
      clear HS tn h7 hb7
      go_wp2_with fail
      obtain ⟨r1, r2, r3, r4⟩ := HR.out
      exact ⟨⟨j + 1, _, T3, hlt, by simp, r1.mod r2.m HX.out.2.2.1, HES, Lib.hid ⟨(HX.out.1.trans (Tn.far HM6.out)).trans r2, r3, r4, (r1.mod r2.m HX.out.2.2.1).lt⟩⟩, by simp [intOf]; omega⟩
    · obtain rfl : j = n := by omega
      go_wp2
      go_ret2
      have e := HE.out
      rw [HN.out, List.take_length, HSH.out] at e
      refine ⟨none, 0, 0, T2, rfl, rfl, Sl.nil _ _, HX.out.1, ?_⟩
      have := HX.out.2.1
      rw [e] at this
      exact this
theorem act_99 (B : Nat) (R : List Int) (μ : Mu) (hB : baseC μ = (B : Int)) (h2 : 2 ≤ B) (h36 : B ≤ 36) (a : Ad) : Act13 a 99 0 R [] μ ⟨[], 0, R, { μ with O := showO B R μ.O }⟩ := act_self rfl fun w T b c bx h ho hb hlo hbx hc => by
  have HC := Lib.hid (show_ok B hB h2 h36 h)
  clear ho h
  go_enter Tryz.func170, Tryz.ntmps170
  go_wp2_with fail
  refine (HC.out).mono ?_
  rintro e w3 ⟨A, m, cap, T', rfl, hmx, hsl, tn, h2⟩
  go_wp2
  go_ret2
  exact ⟨_, _, _, T', rfl, rfl, hsl, tn, h2⟩
theorem act_99e (R : List Int) (μ : Mu) (hb : baseE μ ≠ 0) (a : Ad) : Act13 a 99 0 R [] μ ⟨[], baseE μ, R, μ⟩ := act_self rfl fun w T b c bx h ho hb' hlo hbx hc => by
  have HC := Lib.hid (show_err hb h)
  clear ho h
  go_enter Tryz.func170, Tryz.ntmps170
  go_wp2_with fail
  refine (HC.out).mono ?_
  rintro e w3 ⟨A, m, cap, T', rfl, hmx, hsl, tn, h2⟩
  go_wp2
  go_ret2
  exact ⟨_, _, _, T', rfl, rfl, hsl, tn, h2⟩
end
end Go.Proofs.YtegcecpmdgljpaaGreatDoor
