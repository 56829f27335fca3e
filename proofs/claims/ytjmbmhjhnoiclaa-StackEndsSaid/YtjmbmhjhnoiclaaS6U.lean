/- Layer 6: StackEnds's walk. Condition: the arguments are numbers of their kinds. -/
import Derived.Test.YtjmbmhjhnoiclaaS6T
namespace Go.Proofs.Ytjmbmhjhnoiclaa
open Go.RowKit
set_option linter.unusedVariables false

/-- A stack of the cells L, new since w. -/
structure On (w W : World) (p : Nat) (L : List Int) : Prop where
  s : St W p L
  lp : w.heap.size ≤ p
  m : Mod [] w W
theorem On.far {w W W' : World} {p : Nat} {L : List Int} (h : On w W p L) (m : Mod [] W W') : On w W' p L := ⟨h.s.far m, h.lp, h.m.far m⟩
theorem On.turn {w W W' : World} {p : Nat} {L L' : List Int} (h : On w W p L) (s : St W' p L') (m : Mod [p] W W') : On w W' p L' := ⟨s, h.lp, h.m.far1 m h.lp⟩
theorem On.doo {w W : World} {p : Nat} {L : List Int} (h : On w W p L) (op : Int) :
    Calls Try.prog 18 #[Pt p, .int .i64 op] W fun e w' => e = .returned (.int .i64 (doL op L).1) ∧ On w w' p (doL op L).2 := (do_calls h.s op).mono fun e w' ⟨he, a, b⟩ => ⟨he, h.turn a b⟩
theorem On.push {w W : World} {p : Nat} {L : List Int} (h : On w W p L) (x : Int) (hx : I64 x) :
    Calls Try.prog 20 #[Pt p, .int .i64 x] W fun e w' => e = .returned (.int .i64 (putL [x] L).1) ∧ On w w' p (putL [x] L).2 := (push_calls h.s x hx).mono fun e w' ⟨he, a, b⟩ => ⟨he, h.turn a b⟩
theorem On.cut {w W : World} {p : Nat} {L : List Int} (h : On w W p L) (n : Int) (hn : I64 n) :
    Calls Try.prog 21 #[Pt p, .int .i64 n] W fun e w' => e = .returned (.tuple #[]) ∧ On w w' p (cutL (clamp n) L) := (cut_calls h.s n hn).mono fun e w' ⟨he, a, b⟩ => ⟨he, h.turn a b⟩
theorem cutL_zero (L : List Int) : cutL (clamp 0) L = [] := by
  have e : clamp 0 = 0 := by decide
  rw [e]
  simp [cutL]
def upToL (k : Nat) : List Int := (List.range k).map fun (i : Nat) => (i : Int)
theorem upToL_len (k : Nat) : (upToL k).length = k := by simp [upToL]
theorem upToL_succ (k : Nat) : upToL (k + 1) = upToL k ++ [(k : Int)] := by simp [upToL, List.range_succ]
/-- With an error nothing is changed; what is none of the operations is refused. -/
theorem doL_still (op : Int) (L : List Int) : ((doL op L).1 ≠ 0 → (doL op L).2 = L) ∧ (¬ (28 ≤ op ∧ op ≤ 42) → doL op L = (1, L)) ∧ ((28 ≤ op ∧ op ≤ 42) → (doL op L).1 ≠ 1) := by
  obtain ⟨l1, l2, l3, l4⟩ := shapeL_le op (topZ L)
  unfold doL
  by_cases h40 : op = 40
  · rw [if_pos h40]
    refine ⟨fun h => ?_, fun h => absurd (show 28 ≤ op ∧ op ≤ 42 by omega) h, fun _ => by rcases pickL_err L with h | h <;> rw [h] <;> decide⟩
    unfold pickL at h ⊢
    split at h
    · rfl
    · exact absurd rfl h
  rw [if_neg h40]
  by_cases h41 : op = 41
  · rw [if_pos h41]
    refine ⟨fun h => ?_, fun h => absurd (show 28 ≤ op ∧ op ≤ 42 by omega) h, fun _ => by rcases rollL_err L with h | h <;> rw [h] <;> decide⟩
    unfold rollL at h ⊢
    split at h
    · rfl
    · exact absurd rfl h
  rw [if_neg h41]
  by_cases h42 : op = 42
  · rw [if_pos h42]
    refine ⟨fun h => ?_, fun h => absurd (show 28 ≤ op ∧ op ≤ 42 by omega) h, fun _ => ?_⟩
    · unfold putL at h ⊢
      split
      · rename_i h1
        rw [if_pos h1] at h
        exact absurd rfl h
      · rfl
    · unfold putL
      split
      · show (0 : Int) ≠ 1; decide
      · show (-3 : Int) ≠ 1; decide
  rw [if_neg h42]
  by_cases h0 : (shapeL op (topZ L)).1 = 0
  · rw [if_pos h0]
    have := l4.1 h0
    exact ⟨fun _ => rfl, fun _ => rfl, fun h => absurd (show 28 ≤ op ∧ op ≤ 39 by omega) this⟩
  · rw [if_neg h0]
    refine ⟨fun h => ?_, fun h => absurd (l4.2 (by omega)) h0, fun _ => ?_⟩
    · unfold replL at h ⊢
      split
      · rfl
      · rename_i h1
        rw [if_neg h1] at h
        split
        · rfl
        · rename_i h2
          rw [if_neg h2] at h
          exact absurd rfl h
    · unfold replL
      split
      · show (-4 : Int) ≠ 1; decide
      · split
        · show (-3 : Int) ≠ 1; decide
        · show (0 : Int) ≠ 1; decide
set_option maxHeartbeats 8000000 in
set_option maxRecDepth 100000 in
theorem ends_walk (w : World) (many op : Int) (ha : (Lit.int .u8 many).wf = true) (hb : (Lit.int .i64 op).wf = true) :
    Calls Try.prog 6 #[.int .u8 many, .int .i64 op] w fun e w' => e = .returned (.bool true) ∧ Mod [] w w' := by
  have hu := bounds_u8 ha
  have hI := Lib.hid (i64_of_wf hb)
  obtain ⟨n, hn⟩ : ∃ n : Nat, many % 129 = (n : Int) := ⟨(many % 129).toNat, by omega⟩
  have hn1 : n ≤ 128 := by omega
  clear ha hb
  go_enter Try.func6, Try.ntmps6
  go_wp2_with fail
  refine (shown_calls w).mono ?_
  rintro e w1 ⟨rfl, m1⟩
  have M1 := Lib.hid m1
  clear m1
  go_wp2_with fail
  refine (new_calls _).mono ?_
  rintro e w2 ⟨p, rfl, s2, m2, l2⟩
  have P2 := Lib.hid (show On w w2 p (upToL 0) from ⟨s2, Nat.le_trans M1.out.size l2, M1.out.trans m2⟩)
  clear s2 m2 l2 M1
  go_wp2_with fail
  go_loopw [27] (fun i wr => ∃ j : Nat, j ≤ n ∧ i = .int .i64 (j : Int) ∧ RowKit.Hid (On w wr p (upToL j))) (fun i _ => n - (intOf i).toNat)
  case atStart => exact ⟨0, by omega, rfl, P2⟩
  case round =>
    clear P2
    obtain ⟨j, hj, rfl, HT⟩ := hrel
    by_cases hlt : j < n
    · go_wp2_with fail
      refine (HT.out.push (j : Int) (by unfold I64; omega)).mono ?_
      rintro e w3 ⟨rfl, h3⟩
      rw [putL_ok (by rw [upToL_len]; simp; omega)] at h3 ⊢
      have T3 := Lib.hid (show On w w3 p (upToL (j + 1)) by rw [upToL_succ]; exact h3)
      clear h3 HT
      go_wp2_with fail
      go_roundw
      case rel => exact ⟨j + 1, by omega, by go_num, T3⟩
      case measure => simp [intOf]; omega
    · have hjn : j = n := by omega
      subst hjn
      clear hlt hj
      obtain ⟨L, hL⟩ : ∃ L, L = upToL j := ⟨_, rfl⟩
      rw [← hL] at HT
      have HLn := Lib.hid (show L.length = j by rw [hL, upToL_len])
      clear hL
      go_wp2_with fail
      refine (all_calls HT.out.s).mono ?_
      rintro e w4 ⟨b, c, rfl, ho, hl, hm⟩
      rw [HLn.out]
      have T4 := Lib.hid (HT.out.far hm)
      have O4 := Lib.hid ho
      have HB := Lib.hid (Nat.lt_of_lt_of_le HT.out.s.lp hl)
      clear ho hl hm HT
      obtain ⟨s1, s2, s3⟩ := doL_still op L
      go_wp2_with fail
      refine (do_calls T4.out.s op).mono ?_
      rintro e w5 ⟨rfl, h5, m5⟩
      have O5 := Lib.hid (O4.out.mod m5 (by have := HB.out; simp; omega))
      have t5 := T4.out.turn h5 m5
      obtain ⟨M, hM⟩ : ∃ M, M = (doL op L).2 := ⟨_, rfl⟩
      obtain ⟨a, ha⟩ : ∃ a, a = (doL op L).1 := ⟨_, rfl⟩
      rw [← hM] at t5 s1
      rw [← ha] at s1 s3 ⊢
      have T5 := Lib.hid t5
      have hM1 : ¬ (128 : Int) < (M.length : Int) := by have := t5.s.n; omega
      have HM := Lib.hid hM
      have HA := Lib.hid ha
      have S1 := Lib.hid s1
      have S2 := Lib.hid s2
      have S3 := Lib.hid s3
      clear h5 m5 t5 hM ha s1 s2 s3 O4 T4 HB
      by_cases h28 : op < 28
      · have ha1 : a = 1 := by rw [HA.out, S2.out (by omega)]
        subst ha1
        have han : (1 : Int) ≠ 0 := by decide
        have hML : M = L := S1.out (by first | exact han | decide)
        subst hML
        go_wp2_with fail
        refine (all_calls T5.out.s).mono ?_
        rintro e w6 ⟨b6, c6, rfl, ho6, hl6, hm6⟩
        have T6 := Lib.hid (T5.out.far hm6)
        have O6 := Lib.hid (And.intro ho6 (O5.out.mod hm6 (by simp)))
        clear ho6 hl6 hm6 T5 O5
        go_wp2_with fail
        refine (same_row O6.out.1 O6.out.2.sl HLn.out.symm (by have := HLn.out; omega) (by have := HLn.out; omega)).mono ?_
        rintro e w7 ⟨rfl, m7⟩
        rw [decide_eq_true rfl]
        have T7 := Lib.hid (T6.out.far m7)
        clear m7 T6 O6
        go_wp2_with fail
        refine (depth_calls T7.out.s).mono ?_
        rintro e w7x ⟨rfl, rfl⟩
        go_wp2_with fail
        refine (T7.out.cut 128 (by unfold I64; omega)).mono ?_
        rintro e w8 ⟨rfl, h8⟩
        have T8 := Lib.hid h8
        clear h8 T7
        go_wp2_with fail
        refine (T8.out.push 1 (by unfold I64; omega)).mono ?_
        rintro e w9 ⟨rfl, h9⟩
        rw [putL_no (by rw [cutL_len]; decide)] at h9 ⊢
        have T9 := Lib.hid h9
        clear h9 T8
        go_wp2_with fail
        refine (T9.out.cut 0 (by unfold I64; omega)).mono ?_
        rintro e w10 ⟨rfl, h10⟩
        have T10 := Lib.hid (show On w w10 p [] by rw [cutL_zero] at h10; exact h10)
        clear h10 T9
        go_wp2_with fail
        refine (pop_none T10.out.s).mono ?_
        rintro e w11 ⟨rfl, rfl⟩
        go_wp2_with fail
        refine (take_under T10.out.s 1 (by unfold I64; omega) (by simp)).mono ?_
        rintro e w11 ⟨rfl, rfl⟩
        go_wp2_with fail
        refine (pop_nil _).mono ?_
        rintro e w11 ⟨rfl, rfl⟩
        go_wp2_with fail
        refine (depth_calls T10.out.s).mono ?_
        rintro e w11 ⟨rfl, rfl⟩
        go_wp2_with fail
        refine (push_nil 1 _).mono ?_
        rintro e w11 ⟨rfl, m11⟩
        have T11 := Lib.hid (T10.out.far m11)
        clear m11 T10
        go_wp2_with fail
        refine (do_nil op _).mono ?_
        rintro e w12 ⟨rfl, rfl⟩
        go_wp2_with fail
        refine (depth_nil _).mono ?_
        rintro e w12 ⟨rfl, rfl⟩
        go_wp2
        go_ret
        exact ⟨rfl, T11.out.m⟩
      by_cases h42 : 42 < op
      · have ha1 : a = 1 := by rw [HA.out, S2.out (by omega)]
        subst ha1
        have han : (1 : Int) ≠ 0 := by decide
        have h28' : 28 ≤ op := by omega
        clear h28
        have hML : M = L := S1.out (by first | exact han | decide)
        subst hML
        go_wp2_with fail
        refine (all_calls T5.out.s).mono ?_
        rintro e w6 ⟨b6, c6, rfl, ho6, hl6, hm6⟩
        have T6 := Lib.hid (T5.out.far hm6)
        have O6 := Lib.hid (And.intro ho6 (O5.out.mod hm6 (by simp)))
        clear ho6 hl6 hm6 T5 O5
        go_wp2_with fail
        refine (same_row O6.out.1 O6.out.2.sl HLn.out.symm (by have := HLn.out; omega) (by have := HLn.out; omega)).mono ?_
        rintro e w7 ⟨rfl, m7⟩
        rw [decide_eq_true rfl]
        have T7 := Lib.hid (T6.out.far m7)
        clear m7 T6 O6
        go_wp2_with fail
        refine (depth_calls T7.out.s).mono ?_
        rintro e w7x ⟨rfl, rfl⟩
        go_wp2_with fail
        refine (T7.out.cut 128 (by unfold I64; omega)).mono ?_
        rintro e w8 ⟨rfl, h8⟩
        have T8 := Lib.hid h8
        clear h8 T7
        go_wp2_with fail
        refine (T8.out.push 1 (by unfold I64; omega)).mono ?_
        rintro e w9 ⟨rfl, h9⟩
        rw [putL_no (by rw [cutL_len]; decide)] at h9 ⊢
        have T9 := Lib.hid h9
        clear h9 T8
        go_wp2_with fail
        refine (T9.out.cut 0 (by unfold I64; omega)).mono ?_
        rintro e w10 ⟨rfl, h10⟩
        have T10 := Lib.hid (show On w w10 p [] by rw [cutL_zero] at h10; exact h10)
        clear h10 T9
        go_wp2_with fail
        refine (pop_none T10.out.s).mono ?_
        rintro e w11 ⟨rfl, rfl⟩
        go_wp2_with fail
        refine (take_under T10.out.s 1 (by unfold I64; omega) (by simp)).mono ?_
        rintro e w11 ⟨rfl, rfl⟩
        go_wp2_with fail
        refine (pop_nil _).mono ?_
        rintro e w11 ⟨rfl, rfl⟩
        go_wp2_with fail
        refine (depth_calls T10.out.s).mono ?_
        rintro e w11 ⟨rfl, rfl⟩
        go_wp2_with fail
        refine (push_nil 1 _).mono ?_
        rintro e w11 ⟨rfl, m11⟩
        have T11 := Lib.hid (T10.out.far m11)
        clear m11 T10
        go_wp2_with fail
        refine (do_nil op _).mono ?_
        rintro e w12 ⟨rfl, rfl⟩
        go_wp2_with fail
        refine (depth_nil _).mono ?_
        rintro e w12 ⟨rfl, rfl⟩
        go_wp2
        go_ret
        exact ⟨rfl, T11.out.m⟩
      have h28' : 28 ≤ op := by omega
      have h42' : op ≤ 42 := by omega
      have ha1 := S3.out ⟨h28', h42'⟩
      have b1 : (a == 1) = false := by simpa using ha1
      by_cases han0 : a = 0
      · subst han0
        clear h28 h42 ha1
        have T7 := Lib.hid T5.out
        clear T5
        go_wp2_with fail
        refine (depth_calls T7.out.s).mono ?_
        rintro e w7x ⟨rfl, rfl⟩
        go_wp2_with fail
        refine (T7.out.cut 128 (by unfold I64; omega)).mono ?_
        rintro e w8 ⟨rfl, h8⟩
        have T8 := Lib.hid h8
        clear h8 T7
        go_wp2_with fail
        refine (T8.out.push 1 (by unfold I64; omega)).mono ?_
        rintro e w9 ⟨rfl, h9⟩
        rw [putL_no (by rw [cutL_len]; decide)] at h9 ⊢
        have T9 := Lib.hid h9
        clear h9 T8
        go_wp2_with fail
        refine (T9.out.cut 0 (by unfold I64; omega)).mono ?_
        rintro e w10 ⟨rfl, h10⟩
        have T10 := Lib.hid (show On w w10 p [] by rw [cutL_zero] at h10; exact h10)
        clear h10 T9
        go_wp2_with fail
        refine (pop_none T10.out.s).mono ?_
        rintro e w11 ⟨rfl, rfl⟩
        go_wp2_with fail
        refine (take_under T10.out.s 1 (by unfold I64; omega) (by simp)).mono ?_
        rintro e w11 ⟨rfl, rfl⟩
        go_wp2_with fail
        refine (pop_nil _).mono ?_
        rintro e w11 ⟨rfl, rfl⟩
        go_wp2_with fail
        refine (depth_calls T10.out.s).mono ?_
        rintro e w11 ⟨rfl, rfl⟩
        go_wp2_with fail
        refine (push_nil 1 _).mono ?_
        rintro e w11 ⟨rfl, m11⟩
        have T11 := Lib.hid (T10.out.far m11)
        clear m11 T10
        go_wp2_with fail
        refine (do_nil op _).mono ?_
        rintro e w12 ⟨rfl, rfl⟩
        go_wp2_with fail
        refine (depth_nil _).mono ?_
        rintro e w12 ⟨rfl, rfl⟩
        go_wp2
        go_ret
        exact ⟨rfl, T11.out.m⟩
      · have han : a ≠ 0 := han0
        have b0 : (a != 0) = true := by simpa using han
        have b0' : (a == 0) = false := by simpa using han
        clear h28 h42 ha1 han0
        have hML : M = L := S1.out (by first | exact han | decide)
        subst hML
        go_wp2_with fail
        refine (all_calls T5.out.s).mono ?_
        rintro e w6 ⟨b6, c6, rfl, ho6, hl6, hm6⟩
        have T6 := Lib.hid (T5.out.far hm6)
        have O6 := Lib.hid (And.intro ho6 (O5.out.mod hm6 (by simp)))
        clear ho6 hl6 hm6 T5 O5
        go_wp2_with fail
        refine (same_row O6.out.1 O6.out.2.sl HLn.out.symm (by have := HLn.out; omega) (by have := HLn.out; omega)).mono ?_
        rintro e w7 ⟨rfl, m7⟩
        rw [decide_eq_true rfl]
        have T7 := Lib.hid (T6.out.far m7)
        clear m7 T6 O6
        go_wp2_with fail
        refine (depth_calls T7.out.s).mono ?_
        rintro e w7x ⟨rfl, rfl⟩
        go_wp2_with fail
        refine (T7.out.cut 128 (by unfold I64; omega)).mono ?_
        rintro e w8 ⟨rfl, h8⟩
        have T8 := Lib.hid h8
        clear h8 T7
        go_wp2_with fail
        refine (T8.out.push 1 (by unfold I64; omega)).mono ?_
        rintro e w9 ⟨rfl, h9⟩
        rw [putL_no (by rw [cutL_len]; decide)] at h9 ⊢
        have T9 := Lib.hid h9
        clear h9 T8
        go_wp2_with fail
        refine (T9.out.cut 0 (by unfold I64; omega)).mono ?_
        rintro e w10 ⟨rfl, h10⟩
        have T10 := Lib.hid (show On w w10 p [] by rw [cutL_zero] at h10; exact h10)
        clear h10 T9
        go_wp2_with fail
        refine (pop_none T10.out.s).mono ?_
        rintro e w11 ⟨rfl, rfl⟩
        go_wp2_with fail
        refine (take_under T10.out.s 1 (by unfold I64; omega) (by simp)).mono ?_
        rintro e w11 ⟨rfl, rfl⟩
        go_wp2_with fail
        refine (pop_nil _).mono ?_
        rintro e w11 ⟨rfl, rfl⟩
        go_wp2_with fail
        refine (depth_calls T10.out.s).mono ?_
        rintro e w11 ⟨rfl, rfl⟩
        go_wp2_with fail
        refine (push_nil 1 _).mono ?_
        rintro e w11 ⟨rfl, m11⟩
        have T11 := Lib.hid (T10.out.far m11)
        clear m11 T10
        go_wp2_with fail
        refine (do_nil op _).mono ?_
        rintro e w12 ⟨rfl, rfl⟩
        go_wp2_with fail
        refine (depth_nil _).mono ?_
        rintro e w12 ⟨rfl, rfl⟩
        go_wp2
        go_ret
        exact ⟨rfl, T11.out.m⟩
end Go.Proofs.Ytjmbmhjhnoiclaa
