/- The document's answers for layer 3: numbers as text. Condition: cells are integers of 64 bits. -/
import Derived.Test.YtnclfopdgilgaaaC3RefB
import Derived.Laws.IdiomStrings
namespace Go.Proofs.Ytnclfopdgilgaaa
open Go.RowKit
set_option linter.unusedVariables false

def bytes (l : List UInt8) : ByteArray := ⟨l.toArray⟩
theorem bytes_size (l : List UInt8) : (bytes l).size = l.length := by show l.toArray.size = _; simp
theorem bytes_append (l m : List UInt8) : bytes l ++ bytes m = bytes (l ++ m) := by
  unfold bytes
  rw [ByteArray.mk_append_mk]
  try simp
theorem conv_byte (W : World) (o : Obj) (u : UInt8) : (convert 48 9 (.slice (some ⟨W.heap.size + 1, 0, none⟩) 1 1)).run Try.prog ((W.alloc o).alloc (.cells #[.int .u8 (u.toNat : Int)] 5)) = .ok (.string (bytes [u])) ((W.alloc o).alloc (.cells #[.int .u8 (u.toNat : Int)] 5)) := by
  refine run_convert_bytes_back (P := Try.prog) _ 48 9 5 ⟨W.heap.size + 1, 0, none⟩ 1 [u] Try.underlying48 Try.underlying5 Try.underlying9 ?_
  intro j hj
  have hj0 : j = 0 := by simpa using hj
  subst hj0
  have hb : ((W.alloc o).alloc (.cells #[.int .u8 (u.toNat : Int)] 5)).heap[W.heap.size + 1]? = some (.cells #[.int .u8 (u.toNat : Int)] 5) := by
    have := (MapKept.heap_alloc (W.alloc o) (.cells #[.int .u8 (u.toNat : Int)] 5)).1
    rwa [size_alloc] at this
  have ha : (⟨W.heap.size + 1, 0, none⟩ : Addr).add 0 = ⟨W.heap.size + 1, 0, none⟩ := by simp [Addr.add]
  rw [ha]
  simp only [World.cell?, hb]
  rfl
theorem add_byte (u : UInt8) (l : List UInt8) (h : l.length ≤ 1000000) (W : World) : (Op.stringOp .add (bytes [u]) (bytes l)).run Try.prog W = .ok (.string (bytes (u :: l))) W := by
  rw [run_string_add_sum W _ _ (by rw [bytes_size, bytes_size]; simp; omega), bytes_append]
  rfl
def strLen : Value → Nat
  | .string b => b.size
  | _ => 0
theorem W_at (a c : Int) (ha : I64 a) (hc : I64 c) (P : Nat) (hP : W a c = P) : a = lo (P : Int) ∧ c = hi (P : Int) ∧ P < two128 := by
  have h1 := W_bd a c
  obtain ⟨k, hk⟩ := W_V a c
  rw [hP] at hk h1
  refine ⟨?_, ?_, by unfold two128; omega⟩
  · rw [hk, lo_off, lo_V ha]
  · rw [hk, hi_off, hi_V hc]
theorem W_of (N : Nat) (h : N < two128) : W (lo (N : Int)) (hi (N : Int)) = N := W_mk _ (by omega) (by unfold two128 at h; omega)
theorem zero_pair (N : Nat) (h : N < two128) : (lo (N : Int) == 0 && hi (N : Int) == 0) = decide (N = 0) := by
  rw [Bool.eq_iff_iff]
  simp only [Bool.and_eq_true, beq_iff_eq, decide_eq_true_eq]
  unfold two128 at h
  unfold lo hi wrap64
  omega
set_option maxRecDepth 100000 in
set_option maxHeartbeats 2000000 in
theorem rtext_calls (w0 : World) (a c b : Int) (ha : I64 a) (hc : I64 c) (P B : Nat) (hP : W a c = P) (hb : b = B) (h2 : 2 ≤ B) (h36 : B ≤ 36) (w : World) (h : Ext w0 w) :
    Calls Try.prog 60 #[.agg #[.int .i64 a, .int .i64 c], .int .i64 b] w fun e w' => e = .returned (.string (bytes (text B P))) ∧ Ext w0 w' := by
  obtain ⟨e1, e2, hPl⟩ := W_at a c ha hc P hP
  have hr := Lib.hid (rright_calls b)
  have hd : decide (2 ≤ b ∧ b ≤ 36) = true := decide_eq_true ⟨by omega, by omega⟩
  rw [hd] at hr
  have hst := Lib.hid (fun (N : Nat) (hN : N < two128) W' => rstep_calls W' (lo (N : Int)) (hi (N : Int)) b (lo_i64 _) (hi_i64 _) N B (W_of N hN) hb h2 h36 W' (Ext.refl W'))
  have HE := Lib.hid (And.intro e1 e2)
  have HP := Lib.hid hPl
  have HB := Lib.hid (And.intro h2 h36)
  clear e1 e2 ha hc hP hb hd hPl h2 h36
  go_enter Try.func60, Try.ntmps60
  go_wp2_with fail
  refine (hr.out _).mono ?_
  rintro e w1 ⟨rfl, rfl⟩
  have o0 := Own.last (X := w) (x := Value.int .i64 a) (y := Value.int .i64 c) (t := 84)
  have hs0 := h.1.size
  have hX := h.cells #[.int .i64 a, .int .i64 c] 84
  clear h hr
  go_wp2_with fail
  go_loopw [5] (fun s wr => ∃ (N : Nat) (l : List UInt8), N < two128 ∧ s = .string (bytes l) ∧ RowKit.Hid (text B P = text B N ++ l) ∧ Own wr w.heap.size (.int .i64 (lo (N : Int))) (.int .i64 (hi (N : Int))) ∧ Ext w0 wr) (fun s _ => 128 - strLen s)
  case atStart =>
    refine ⟨P, [], HP.out, rfl, Lib.hid (by simp), ?_, hX⟩
    rw [← HE.out.1, ← HE.out.2]
    exact o0
  case round =>
    obtain ⟨N, l, hN, rfl, HT, o, hE⟩ := hrel
    clear o0 hX
    have HN := Lib.hid hN
    have p0 := o.c0
    have p1 := o.c1
    have hstN := Lib.hid (hst.out N hN)
    obtain ⟨M, hM⟩ : ∃ m, m = N / B := ⟨_, rfl⟩
    obtain ⟨u, hu⟩ : ∃ m, m = letter (N % B) := ⟨_, rfl⟩
    rw [← hM, ← hu] at hstN
    obtain ⟨m0, hm0⟩ : ∃ m, m = lo (M : Int) := ⟨_, rfl⟩
    obtain ⟨m1, hm1⟩ : ∃ m, m = hi (M : Int) := ⟨_, rfl⟩
    rw [← hm0, ← hm1] at hstN
    have HM0 := Lib.hid hm0
    have HM1 := Lib.hid hm1
    clear hm0 hm1
    have HM := Lib.hid hM
    have HU := Lib.hid hu
    clear hM hu
    clear hN
    go_wp2_with fail
    refine (hstN.out _).mono ?_
    rintro e w2 ⟨rfl, hx⟩
    replace o := o.ext hx
    replace hE := hE.trans hx
    clear hx hstN p0 p1
    have p0 := o.c0
    have p1 := o.c1
    have f0 := o.f0
    have f1 := o.f1
    have lt := o.lt
    have hlen : l.length ≤ 1000000 := by
      have e := congrArg List.length HT.out
      rw [List.length_append] at e
      have := text_length B P HB.out.1 HP.out
      omega
    have hcv := conv_byte w2 (.cells #[.int .i64 m0, .int .i64 m1] 84) u
    have had := add_byte u l hlen
    have HL := Lib.hid hlen
    clear hlen
    have hMl : M < two128 := by rw [HM.out]; exact Nat.lt_of_le_of_lt (Nat.div_le_self _ _) HN.out
    have hzp := zero_pair M hMl
    have HML := Lib.hid hMl
    clear hMl
    rw [← HM0.out, ← HM1.out] at hzp
    by_cases hz : M = 0
    · rw [decide_eq_true hz] at hzp
      have HZ := Lib.hid hz
      clear hz
      have hfin : RowKit.Hid (text B P = u :: l) := Lib.hid (by
        rw [HT.out, text_step B N HB.out.1 HN.out, if_pos (by rw [← HM.out]; exact HZ.out), HU.out]
        rfl)
      go_wp2_with fail
      go_ret
      exact ⟨by rw [hfin.out]; rfl, ((hE.set2 hs0 _ _).cells _ _).cells _ _⟩
    · rw [decide_eq_false hz] at hzp
      have HZ := Lib.hid hz
      clear hz
      go_wp2_with fail
      go_roundw
      case rel =>
        refine ⟨M, u :: l, HML.out, rfl, Lib.hid ?_, ?_, ((hE.set2 hs0 _ _).cells _ _).cells _ _⟩
        · rw [HT.out, text_step B N HB.out.1 HN.out, if_neg (by rw [← HM.out]; exact HZ.out), HU.out, HM.out, List.append_assoc]
          rfl
        · rw [← HM0.out, ← HM1.out]
          exact ((o.set _ _).alloc _ _).alloc _ _
      case measure =>
        have e := congrArg List.length HT.out
        rw [List.length_append] at e
        have h1 := text_length B P HB.out.1 HP.out
        have h2 := text_length B N HB.out.1 HN.out
        simp only [strLen, bytes_size, List.length_cons]
        omega
end Go.Proofs.Ytnclfopdgilgaaa
