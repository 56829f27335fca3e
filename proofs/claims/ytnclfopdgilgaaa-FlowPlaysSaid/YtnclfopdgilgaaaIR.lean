/- Layer 10: Text of the program and of the document. Condition: the table reads as the program's text lays it; there are at most 1000 instructions. -/
import Derived.Test.YtnclfopdgilgaaaIQ
namespace Go.Proofs.Ytnclfopdgilgaaa
open Go.RowKit
set_option linter.unusedVariables false

/-- The document's names. -/
def rnames : List (List UInt8) := [63] :: (List.range 15).map fun k => nameX (k + 1)
theorem rnames_at (op : Nat) (h : op < 16) : rnames[op]? = some (if isOpX op then nameX op else [63]) := by
  have : op ∈ List.range 16 := List.mem_range.2 h
  simp only [List.range, List.range.loop, List.mem_cons, List.not_mem_nil, or_false] at this
  rcases this with rfl | rfl | rfl | rfl | rfl | rfl | rfl | rfl | rfl | rfl | rfl | rfl | rfl | rfl | rfl | rfl <;> rfl
/-- The document's table in block q. -/
def Names (w : World) (q : Nat) : Prop := ∀ op, op < 16 → w.cell? ⟨q, op, none⟩ = some (.string (str (if isOpX op then nameX op else [63])))
theorem Names.far {w w' : World} {q : Nat} (h : Names w q) (m : Mod [] w w') : Names w' q := fun op ho => m.cell (by simp) (h op ho)
theorem names_new (w : World) (t : TypeId) : Names (w.alloc (.cells #[.string ⟨#[63]⟩, .string ⟨#[108, 105, 116]⟩, .string ⟨#[99, 97, 108, 108]⟩, .string ⟨#[106, 117, 109, 112]⟩, .string ⟨#[122, 101, 114, 111]⟩, .string ⟨#[100, 111]⟩, .string ⟨#[113, 100, 111]⟩, .string ⟨#[108, 111, 111, 112]⟩, .string ⟨#[112, 108, 117, 115]⟩, .string ⟨#[108, 101, 97, 118, 101]⟩, .string ⟨#[111, 102]⟩, .string ⟨#[100, 114, 111, 112]⟩, .string ⟨#[108, 111, 99, 97, 108, 115]⟩, .string ⟨#[108, 111, 99, 97, 108]⟩, .string ⟨#[116, 111]⟩, .string ⟨#[101, 120, 105, 116]⟩] t)) w.heap.size := fun op h => by
  rw [World.cell?_alloc_new]
  have h2 : op ∈ List.range 16 := List.mem_range.2 h
  simp only [List.range, List.range.loop, List.mem_cons, List.not_mem_nil, or_false] at h2
  rcases h2 with rfl | rfl | rfl | rfl | rfl | rfl | rfl | rfl | rfl | rfl | rfl | rfl | rfl | rfl | rfl | rfl <;> rfl
set_option maxHeartbeats 4000000 in
theorem rtexts_calls {w : World} {A : Option Addr} {n cap : Nat} {L : List Xi} (hL : InsAt w A L) (hn : n = L.length) (hb : n ≤ 1000) : Calls Try.prog 24 #[defV A n cap] w fun e w' => e = .returned (.string (str (joinX L))) ∧ Mod [] w w' := by
  have hM := Mod.refl [] w
  have hMw := hM.alloc (.cells #[.slice A n cap] 41)
  have hd : (w.alloc (.cells #[.slice A n cap] 41)).cell? ⟨w.heap.size, 0, none⟩ = some (.slice A n cap) := by rw [World.cell?_alloc_new]; rfl
  have HD := Lib.hid hd
  have HMw := Lib.hid hMw
  have HN := Lib.hid (And.intro hn hL)
  have hnI : (n : Int) ≤ 1000 := by omega
  clear hM hMw hd hn hL
  go_enter Try.func24, Try.ntmps24
  go_wp2_with fail
  obtain ⟨w0, hw0⟩ : ∃ w0, w0 = w.alloc (.cells #[.slice A n cap] 41) := ⟨_, rfl⟩
  have hsz : w0.heap.size = w.heap.size + 1 := by rw [hw0, size_allocI]
  rw [← hw0] at HD HMw
  rw [← hw0]
  clear hw0
  have hnm := names_new w0 9
  rw [hsz] at hnm
  have h0 := Lib.hid (And.intro hnm ((Mod.refl [] w0).alloc (.cells #[.string ⟨#[63]⟩, .string ⟨#[108, 105, 116]⟩, .string ⟨#[99, 97, 108, 108]⟩, .string ⟨#[106, 117, 109, 112]⟩, .string ⟨#[122, 101, 114, 111]⟩, .string ⟨#[100, 111]⟩, .string ⟨#[113, 100, 111]⟩, .string ⟨#[108, 111, 111, 112]⟩, .string ⟨#[112, 108, 117, 115]⟩, .string ⟨#[108, 101, 97, 118, 101]⟩, .string ⟨#[111, 102]⟩, .string ⟨#[100, 114, 111, 112]⟩, .string ⟨#[108, 111, 99, 97, 108, 115]⟩, .string ⟨#[108, 111, 99, 97, 108]⟩, .string ⟨#[116, 111]⟩, .string ⟨#[101, 120, 105, 116]⟩] 9)))
  clear hnm hsz
  go_loopg [4, 5] n (fun g z y wr => ∃ (i : Nat) (S : List UInt8), z = .string (str S) ∧ y = .int .i64 (i : Int) ∧ i + g = n ∧ RowKit.Hid (Names wr (w.heap.size + 1) ∧ Mod [] w0 wr ∧ S = joinX (L.take i)))
  case atStart => exact ⟨0, [], rfl, rfl, by omega, Lib.hid ⟨h0.out.1, h0.out.2, rfl⟩⟩
  case round =>
    clear h0
    obtain ⟨i, S, rfl, rfl, hig, hi⟩ := hrel
    have hd1 := hi.out.2.1.cell (by simp) HD.out
    by_cases hlt : i < n
    · have hltI : (i : Int) < (n : Int) := by omega
      obtain ⟨x, hx⟩ : ∃ x, L[i]? = some x := ⟨_, List.getElem?_eq_getElem (by have := HN.out.1; omega)⟩
      obtain ⟨B, off, rfl, hat, hwx⟩ := (HN.out.2.far (HMw.out.trans hi.out.2.1)).get hx
      have hc0 := hat.c0
      have hc1 := hat.c1
      have hc2 := hat.c2
      have hm1 := (Mod.refl [] wr).alloc (.cells #[.int .u8 (x.op : Int), .int .i64 x.a, .int .i64 x.w] 35)
      obtain ⟨N, hN⟩ : ∃ N, N = (if isOpX x.op then nameX x.op else [63]) := ⟨_, rfl⟩
      obtain ⟨m, hm⟩ : ∃ m, m = (if x.op = 1 then x.w else x.a) := ⟨_, rfl⟩
      obtain ⟨D, hD⟩ : ∃ D, D = decL m := ⟨_, rfl⟩
      have htx : textX x = N ++ [32] ++ D := by rw [hN, hD, hm]; rfl
      have hNl : N.length ≤ 6 := by
        rw [hN]
        split
        · exact name_len _
        · simp
      have hDl := dec_len m
      rw [← hD] at hDl
      have hmI : I64 m := by
        rw [hm]
        split
        · exact hwx.w
        · exact hwx.a
      have hSl : S.length ≤ 137000 := by
        rw [hi.out.2.2]
        have := join_len L i (by have := HN.out.1; omega)
        omega
      obtain ⟨S1, hS1⟩ : ∃ S1, S1 = (if i = 0 then S else S ++ [32]) := ⟨_, rfl⟩
      have hS1l : S1.length ≤ 137001 := by
        rw [hS1]
        split
        · omega
        · rw [List.length_append, List.length_singleton]; omega
      have hres : joinX (L.take (i + 1)) = S1 ++ N ++ [32] ++ D := by
        rw [join_take L i x hx, ← hi.out.2.2, hS1, htx]
        split <;> simp
      obtain ⟨T1, hT1⟩ : ∃ T1, T1 = S1 ++ N := ⟨_, rfl⟩
      obtain ⟨T2, hT2⟩ : ∃ T2, T2 = T1 ++ [32] := ⟨_, rfl⟩
      obtain ⟨T3, hT3⟩ : ∃ T3, T3 = T2 ++ D := ⟨_, rfl⟩
      have e1 : ∀ W, (Op.stringOp .add (str S1) (str N)).run Try.prog W = .ok (.string (str T1)) W := fun W => by rw [hT1]; exact add_str _ _ (by omega) (by omega) W
      have e2 : ∀ W, (Op.stringOp .add (str T1) ⟨#[32]⟩).run Try.prog W = .ok (.string (str T2)) W := fun W => by rw [hT2]; exact add_str _ [32] (by rw [hT1, List.length_append]; omega) (by simp) W
      have e3 : ∀ W, (Op.stringOp .add (str T2) (str D)).run Try.prog W = .ok (.string (str T3)) W := fun W => by rw [hT3]; exact add_str _ _ (by rw [hT2, hT1, List.length_append, List.length_append, List.length_singleton]; omega) (by omega) W
      have HR := Lib.hid (show T3 = joinX (L.take (i + 1)) by rw [hT3, hT2, hT1, hres])
      have hnm := hi.out.1.far hm1
      have kO : ∀ W, Calls Try.prog 40 #[.int .i64 m] W fun e w' => e = .returned (.agg #[.int .i64 (lo m), .int .i64 (Go.Proofs.Ytnclfopdgilgaaa.hi m)]) ∧ Ext W w' := fun W => rof_calls W m hmI W (Ext.refl W)
      have kS : ∀ W, Calls Try.prog 39 #[.agg #[.int .i64 (lo m), .int .i64 (Go.Proofs.Ytnclfopdgilgaaa.hi m)], .int .i64 10] W fun e w' => e = .returned (.string (str D)) ∧ Ext W w' := fun W => by
        rw [hD]
        exact rsigned_calls W (lo m) (Go.Proofs.Ytnclfopdgilgaaa.hi m) 10 (lo_i64 m) (hi_i64 m) _ 10 (dec_P m) rfl (by decide) (by decide) W (Ext.refl W)
      obtain ⟨l1, hl1⟩ : ∃ l1, l1 = lo m := ⟨_, rfl⟩
      obtain ⟨l2, hl2⟩ : ∃ l2, l2 = Go.Proofs.Ytnclfopdgilgaaa.hi m := ⟨_, rfl⟩
      rw [← hl1, ← hl2] at kO
      simp only [← hl1, ← hl2] at kS
      have HO := Lib.hid kO
      have HS := Lib.hid kS
      have HI := Lib.hid (And.intro hnm (hi.out.2.1.trans hm1))
      have HK := Lib.hid hig
      have e0 : i ≠ 0 → ∀ W, (Op.stringOp .add (str S) ⟨#[32]⟩).run Try.prog W = .ok (.string (str S1)) W := fun h W => by rw [hS1, if_neg h]; exact add_str S [32] (by omega) (by simp) W
      have hS0 : i = 0 → S1 = S := fun h => by rw [hS1, if_pos h]
      have hnl : x.op < 16 → (wr.alloc (.cells #[.int .u8 (x.op : Int), .int .i64 x.a, .int .i64 x.w] 35)).cell? ⟨w.heap.size + 1, x.op, none⟩ = some (.string (str N)) := fun h => by rw [hN]; exact hnm x.op h
      have hNo : ¬ x.op < 16 → N = [63] := fun h => by rw [hN, if_neg]; unfold isOpX; simp; omega
      have hm1' : x.op = 1 → m = x.w := fun h => by rw [hm, if_pos h]
      have hm2' : ¬ x.op = 1 → m = x.a := fun h => by rw [hm, if_neg h]
      clear hi hx hat hwx hm1 hN hm hD htx hNl hDl hmI hSl hS1 hS1l hres hT1 hT2 hT3 hnm kO kS hl1 hl2 hig
      by_cases h16 : x.op < 16
      · have h16b : decide ((x.op : Int) < 16) = true := decide_eq_true (by omega)
        have h16c : decide (x.op < 16) = true := decide_eq_true h16
        have h16I : (x.op : Int) < 16 := by omega
        replace hnl := hnl h16
        clear hNo h16
        by_cases h1 : x.op = 1
        · have h1b : ((x.op : Int) == 1) = true := by rw [h1]; rfl
          obtain rfl := hm1' h1
          clear hm1' hm2' h1
          by_cases h0 : i = 0
          · obtain rfl := hS0 h0
            have hib : decide ((0 : Int) < (i : Int)) = false := decide_eq_false (by omega)
            have hib2 : decide (0 < i) = false := decide_eq_false (by omega)
            clear e0 hS0 h0
            go_wp2_with fail
            refine (HO.out _).mono ?_
            rintro e w4 ⟨rfl, hx4⟩
            have HX4 := Lib.hid (Mod.of_ext hx4)
            clear hx4
            go_wp2_with fail
            refine (HS.out _).mono ?_
            rintro e w5 ⟨rfl, hx5⟩
            have HX5 := Lib.hid (Mod.of_ext hx5)
            clear hx5
            go_wp2_with fail
            go_roundg (gk - 1)
            case measure => have := HK.out; omega
            case rel => exact ⟨i + 1, T3, rfl, by go_num, by have := HK.out; omega, Lib.hid ⟨(HI.out.1.far HX4.out).far HX5.out, (HI.out.2.trans HX4.out).trans HX5.out, HR.out⟩⟩
          · replace e0 := e0 h0
            have hib : decide ((0 : Int) < (i : Int)) = true := decide_eq_true (by omega)
            have hib2 : decide (0 < i) = true := decide_eq_true (by omega)
            clear hS0 h0
            go_wp2_with fail
            refine (HO.out _).mono ?_
            rintro e w4 ⟨rfl, hx4⟩
            have HX4 := Lib.hid (Mod.of_ext hx4)
            clear hx4
            go_wp2_with fail
            refine (HS.out _).mono ?_
            rintro e w5 ⟨rfl, hx5⟩
            have HX5 := Lib.hid (Mod.of_ext hx5)
            clear hx5
            go_wp2_with fail
            go_roundg (gk - 1)
            case measure => have := HK.out; omega
            case rel => exact ⟨i + 1, T3, rfl, by go_num, by have := HK.out; omega, Lib.hid ⟨(HI.out.1.far HX4.out).far HX5.out, (HI.out.2.trans HX4.out).trans HX5.out, HR.out⟩⟩
        · have h1b : ((x.op : Int) == 1) = false := by rw [beq_eq_false_iff_ne]; omega
          obtain rfl := hm2' h1
          clear hm1' hm2' h1
          by_cases h0 : i = 0
          · obtain rfl := hS0 h0
            have hib : decide ((0 : Int) < (i : Int)) = false := decide_eq_false (by omega)
            have hib2 : decide (0 < i) = false := decide_eq_false (by omega)
            clear e0 hS0 h0
            go_wp2_with fail
            refine (HO.out _).mono ?_
            rintro e w4 ⟨rfl, hx4⟩
            have HX4 := Lib.hid (Mod.of_ext hx4)
            clear hx4
            go_wp2_with fail
            refine (HS.out _).mono ?_
            rintro e w5 ⟨rfl, hx5⟩
            have HX5 := Lib.hid (Mod.of_ext hx5)
            clear hx5
            go_wp2_with fail
            go_roundg (gk - 1)
            case measure => have := HK.out; omega
            case rel => exact ⟨i + 1, T3, rfl, by go_num, by have := HK.out; omega, Lib.hid ⟨(HI.out.1.far HX4.out).far HX5.out, (HI.out.2.trans HX4.out).trans HX5.out, HR.out⟩⟩
          · replace e0 := e0 h0
            have hib : decide ((0 : Int) < (i : Int)) = true := decide_eq_true (by omega)
            have hib2 : decide (0 < i) = true := decide_eq_true (by omega)
            clear hS0 h0
            go_wp2_with fail
            refine (HO.out _).mono ?_
            rintro e w4 ⟨rfl, hx4⟩
            have HX4 := Lib.hid (Mod.of_ext hx4)
            clear hx4
            go_wp2_with fail
            refine (HS.out _).mono ?_
            rintro e w5 ⟨rfl, hx5⟩
            have HX5 := Lib.hid (Mod.of_ext hx5)
            clear hx5
            go_wp2_with fail
            go_roundg (gk - 1)
            case measure => have := HK.out; omega
            case rel => exact ⟨i + 1, T3, rfl, by go_num, by have := HK.out; omega, Lib.hid ⟨(HI.out.1.far HX4.out).far HX5.out, (HI.out.2.trans HX4.out).trans HX5.out, HR.out⟩⟩
      · have h16b : decide ((x.op : Int) < 16) = false := decide_eq_false (by omega)
        have h16c : decide (x.op < 16) = false := decide_eq_false h16
        obtain rfl := hNo h16
        replace e1 : ∀ W, (Op.stringOp .add (str S1) ⟨#[63]⟩).run Try.prog W = .ok (.string (str T1)) W := e1
        have h1 : ¬ x.op = 1 := by omega
        have h1b : ((x.op : Int) == 1) = false := by rw [beq_eq_false_iff_ne]; omega
        obtain rfl := hm2' h1
        clear hm1' hm2' h1 hnl h16 hNo
        by_cases h0 : i = 0
        · obtain rfl := hS0 h0
          have hib : decide ((0 : Int) < (i : Int)) = false := decide_eq_false (by omega)
          have hib2 : decide (0 < i) = false := decide_eq_false (by omega)
          clear e0 hS0 h0
          go_wp2_with fail
          refine (HO.out _).mono ?_
          rintro e w4 ⟨rfl, hx4⟩
          have HX4 := Lib.hid (Mod.of_ext hx4)
          clear hx4
          go_wp2_with fail
          refine (HS.out _).mono ?_
          rintro e w5 ⟨rfl, hx5⟩
          have HX5 := Lib.hid (Mod.of_ext hx5)
          clear hx5
          go_wp2_with fail
          go_roundg (gk - 1)
          case measure => have := HK.out; omega
          case rel => exact ⟨i + 1, T3, rfl, by go_num, by have := HK.out; omega, Lib.hid ⟨(HI.out.1.far HX4.out).far HX5.out, (HI.out.2.trans HX4.out).trans HX5.out, HR.out⟩⟩
        · replace e0 := e0 h0
          have hib : decide ((0 : Int) < (i : Int)) = true := decide_eq_true (by omega)
          have hib2 : decide (0 < i) = true := decide_eq_true (by omega)
          clear hS0 h0
          go_wp2_with fail
          refine (HO.out _).mono ?_
          rintro e w4 ⟨rfl, hx4⟩
          have HX4 := Lib.hid (Mod.of_ext hx4)
          clear hx4
          go_wp2_with fail
          refine (HS.out _).mono ?_
          rintro e w5 ⟨rfl, hx5⟩
          have HX5 := Lib.hid (Mod.of_ext hx5)
          clear hx5
          go_wp2_with fail
          go_roundg (gk - 1)
          case measure => have := HK.out; omega
          case rel => exact ⟨i + 1, T3, rfl, by go_num, by have := HK.out; omega, Lib.hid ⟨(HI.out.1.far HX4.out).far HX5.out, (HI.out.2.trans HX4.out).trans HX5.out, HR.out⟩⟩
    · have hltI : ¬ (i : Int) < (n : Int) := by omega
      have hS := hi.out.2.2
      rw [List.take_of_length_le (by have := HN.out.1; omega)] at hS
      have HS := Lib.hid hS
      have HI := Lib.hid hi.out.2.1
      clear hi hS
      go_wp2_with fail
      go_ret
      exact ⟨by rw [HS.out]; rfl, HMw.out.trans HI.out⟩
end Go.Proofs.Ytnclfopdgilgaaa
