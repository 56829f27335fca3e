/- Layer 3 (package digit): numbers as text. Condition: cells are integers of 64 bits, the base is from 2 to 36. -/
import Derived.Test.YtheealjhmndbgaaDoorC3ProgB
import Derived.Laws.IdiomStrings
namespace Go.Proofs.YtheealjhmndbgaaDoor
open Go.RowKit
set_option linter.unusedVariables false

def zeros128 : Array Value := Array.replicate 128 (.int .u8 0)
@[go_sem ↓] theorem zero128 (W : World) : (zeroValue 91).run Tryd.prog W = .ok (.agg zeros128) W := by
  kernel_rfl
/-- Block b of w holds 128 bytes that may be written. -/
structure Dig (w : World) (b : Nat) (L : List UInt8) : Prop where
  len : L.length = 128
  at_ : ∀ j, j < 128 → w.cell? ⟨b, j, none⟩ = some (.int .u8 ((L.getD j 0).toNat : Int))
  free : ∀ j, j < 128 → w.frozen? ⟨b, j, none⟩ = false
  lt : b < w.heap.size
theorem Dig.ext {w w' : World} {b : Nat} {L : List UInt8} (h : Dig w b L) (k : Ext w w') : Dig w' b L :=
  ⟨h.len, fun j hj => ext_keeps k (h.at_ j hj), fun j hj => (k.2 _).trans (h.free j hj), Nat.lt_of_lt_of_le h.lt k.1.size⟩
theorem Dig.set {w : World} {b : Nat} {L : List UInt8} (h : Dig w b L) (m : Nat) (hm : m < 128) (u : UInt8) : Dig (w.setCell ⟨b, m, none⟩ (.int .u8 (u.toNat : Int))) b (L.set m u) := by
  refine ⟨by rw [List.length_set]; exact h.len, ?_, ?_, ?_⟩
  · intro j hj
    by_cases e : j = m
    · subst e
      rw [World.cell?_setCell_same _ _ _ (h := h.at_ j hj)]
      have : (L.set j u).getD j 0 = u := by
        rw [List.getD_eq_getElem?_getD, List.getElem?_set_self (by rw [h.len]; exact hj)]; rfl
      rw [this]
    · have hne : (⟨b, m, none⟩ : Addr) ≠ ⟨b, j, none⟩ := fun x => e (by injection x with _ x _; exact x.symm)
      rw [World.cell?_setCell_other (h := hne), h.at_ j hj]
      have : (L.set m u).getD j 0 = L.getD j 0 := by
        rw [List.getD_eq_getElem?_getD, List.getD_eq_getElem?_getD, List.getElem?_set_ne (fun x => e x.symm)]
      rw [this]
  · intro j hj; rw [World.frozen?_setCell]; exact h.free j hj
  · simpa [World.setCell] using h.lt
theorem Dig.other {w : World} {b b' : Nat} {L : List UInt8} (h : Dig w b L) (hb : b' ≠ b) (u v : Value) : Dig ((w.setCell ⟨b', 0, none⟩ u).setCell ⟨b', 1, none⟩ v) b L := by
  have hne : ∀ i j, (⟨b', i, none⟩ : Addr) ≠ ⟨b, j, none⟩ := fun i j e => hb (by injection e)
  refine ⟨h.len, fun j hj => ?_, fun j hj => ?_, ?_⟩
  · rw [World.cell?_setCell_other (h := hne _ _), World.cell?_setCell_other (h := hne _ _)]; exact h.at_ j hj
  · rw [World.frozen?_setCell, World.frozen?_setCell]; exact h.free j hj
  · simpa [World.setCell] using h.lt
theorem Own.otherAt {w : World} {b b' o : Nat} {x y : Value} (h : Own w b x y) (hb : b' ≠ b) (v : Value) : Own (w.setCell ⟨b', o, none⟩ v) b x y := by
  have hne : ∀ j, (⟨b', o, none⟩ : Addr) ≠ ⟨b, j, none⟩ := fun j e => hb (by injection e)
  refine ⟨?_, ?_, ?_, ?_, ?_⟩
  · rw [World.cell?_setCell_other (h := hne _)]; exact h.c0
  · rw [World.cell?_setCell_other (h := hne _)]; exact h.c1
  · rw [World.frozen?_setCell]; exact h.f0
  · rw [World.frozen?_setCell]; exact h.f1
  · simpa [World.setCell] using h.lt
theorem Dig.last (X : World) : Dig (X.alloc (.cells zeros128 91)) X.heap.size (List.replicate 128 0) := by
  have hb : (X.alloc (.cells zeros128 91)).heap[X.heap.size]? = some (.cells zeros128 91) := (MapKept.heap_alloc X _).1
  refine ⟨by simp, ?_, ?_, by show X.heap.size < (X.heap.push _).size; simp⟩
  · intro j hj
    simp only [World.cell?, hb]
    have e1 : (List.replicate 128 (0 : UInt8)).getD j 0 = 0 := by rw [List.getD_eq_getElem?_getD, List.getElem?_replicate, if_pos hj]; rfl
    rw [e1]
    simp [zeros128, hj]
  · intro j hj
    simp only [World.frozen?, hb]
    simp

theorem slice128 (b m : Nat) (hm : m < 128) (W : World) : (Instr.sliceAt 91 (.pointer (some ⟨b, 0, none⟩)) (some (.int .i64 (m : Int))) none none).run Tryd.prog W = .ok (.slice (some ⟨b, m, none⟩) (128 - m) (128 - m)) W := by
  have hl : Tryd.prog.arrayLen 91 = 128 := by kernel_rfl
  have he : Tryd.prog.elem 91 = 5 := by kernel_rfl
  rw [run_sliceAt_array_l (P := Tryd.prog) W 91 ⟨b, 0, none⟩ (by kernel_rfl) .i64 (m : Int) (by omega) (by rw [hl]; omega), he, Tryd.sizeOf5]
  simp only [Result.andThen, slicedAt, hl, Int.toNat_natCast, Addr.add]
  rw [if_neg (by omega), Nat.zero_add, Nat.mul_one]
  by_cases h0 : m = 0
  · subst h0; rfl
  · rw [if_neg h0]
theorem conv128 {W : World} {b : Nat} {m : Nat} {l : List UInt8} (hm : m + l.length = 128) (h : Dig W b (List.replicate m 0 ++ l)) : (convert 69 9 (.slice (some ⟨b, m, none⟩) (128 - m) (128 - m))).run Tryd.prog W = .ok (.string (bytes l)) W := by
  have hl : 128 - m = l.length := by omega
  rw [hl]
  refine run_convert_bytes_back (P := Tryd.prog) _ 69 9 5 ⟨b, m, none⟩ l.length l Tryd.underlying69 Tryd.underlying5 Tryd.underlying9 ?_
  intro j hj
  have e := h.at_ (m + j) (by omega)
  rw [List.getD_eq_getElem?_getD, List.getElem?_append_right (by simp), List.length_replicate, Nat.add_sub_cancel_left, List.getElem?_eq_getElem hj] at e
  have ha : (⟨b, m, none⟩ : Addr).add j = ⟨b, m + j, none⟩ := by
    by_cases h0 : j = 0
    · subst h0; simp [Addr.add]
    · simp [Addr.add, h0]
  rw [ha, e]
  rfl
set_option maxRecDepth 100000 in
set_option maxHeartbeats 2000000 in
theorem text_calls (a c b : Int) (ha : I64 a) (hc : I64 c) (P B : Nat) (hP : W a c = P) (hb : b = B) (h2 : 2 ≤ B) (h36 : B ≤ 36) (w : World) :
    Calls Tryd.prog 45 #[.agg #[.int .i64 a, .int .i64 c], .int .i64 b] w fun e w' => e = .returned (.string (bytes (text B P))) ∧ Ext w w' := by
  obtain ⟨e1, e2, hPl⟩ := W_at a c ha hc P hP
  have hr := Lib.hid (isbase_calls b)
  have hd : decide (2 ≤ b ∧ b ≤ 36) = true := decide_eq_true ⟨by omega, by omega⟩
  rw [hd] at hr
  have hst := Lib.hid (fun (N : Nat) (hN : N < two128) W' => step_calls (lo (N : Int)) (hi (N : Int)) b (lo_i64 _) (hi_i64 _) N B (W_of N hN) hb h2 h36 W')
  have HE := Lib.hid (And.intro e1 e2)
  have HP := Lib.hid hPl
  have HB := Lib.hid (And.intro h2 h36)
  clear e1 e2 ha hc hP hb hd hPl h2 h36
  go_enter Tryd.func45, Tryd.ntmps45
  go_wp2_with fail
  refine (hr.out _).mono ?_
  rintro e w1 ⟨rfl, rfl⟩
  obtain ⟨o0, hX⟩ : Own ((w.alloc (.cells #[.int .i64 a, .int .i64 c] 57)).alloc (.cells zeros128 91)) w.heap.size (.int .i64 a) (.int .i64 c) ∧ Ext w ((w.alloc (.cells #[.int .i64 a, .int .i64 c] 57)).alloc (.cells zeros128 91)) :=
    ⟨(Own.last (X := w)).alloc _ _, ((Ext.refl w).cells _ _).cells _ _⟩
  have dg := Dig.last (w.alloc (.cells #[.int .i64 a, .int .i64 c] 57))
  rw [size_alloc] at dg
  clear hr
  go_wp2_with fail
  go_loopw [11] (fun i wr => ∃ (N k : Nat) (l : List UInt8), N < two128 ∧ RowKit.Hid (l.length = k) ∧ k ≤ 127 ∧ i = .int .i64 (k : Int) ∧ RowKit.Hid (text B P = text B N ++ l) ∧ Own wr w.heap.size (.int .i64 (lo (N : Int))) (.int .i64 (hi (N : Int))) ∧ Dig wr (w.heap.size + 1) (List.replicate (128 - k) 0 ++ l) ∧ Ext w wr) (fun i _ => 128 - (intOf i).toNat)
  case atStart =>
    refine ⟨P, 0, [], HP.out, Lib.hid rfl, by omega, rfl, Lib.hid (by simp), ?_, ?_, hX⟩
    · rw [← HE.out.1, ← HE.out.2]
      exact o0
    · rw [List.append_nil]
      exact dg
  case round =>
    obtain ⟨N, k, l, hN, hl, hk, rfl, HT, o, dd, hE⟩ := hrel
    clear o0 hX dg
    have HN := Lib.hid hN
    have p0 := o.c0
    have p1 := o.c1
    have hstN := Lib.hid (hst.out N hN)
    obtain ⟨M, hM⟩ : ∃ m, m = N / B := ⟨_, rfl⟩
    obtain ⟨u, hu⟩ : ∃ m, m = letter (N % B) := ⟨_, rfl⟩
    rw [← hM, ← hu] at hstN
    obtain ⟨m0, hm0⟩ : ∃ m, m = lo (M : Int) := ⟨_, rfl⟩
    obtain ⟨m1, hm1⟩ : ∃ m, m = hi (M : Int) := ⟨_, rfl⟩
    rw [← hm0, ← hm1] at hstN
    have HM0 := Lib.hid hm0
    have HM1 := Lib.hid hm1
    clear hm0 hm1
    have HM := Lib.hid hM
    have HU := Lib.hid hu
    clear hM hu
    clear hN
    obtain ⟨m, hm⟩ : ∃ m : Nat, k + m = 127 := ⟨127 - k, by omega⟩
    have hm2 : (127 : Int) - (k : Int) = (m : Int) := by omega
    have hm3 : (m : Int) < 128 := by omega
    have hk2 : (k : Int) < 128 := by omega
    have HK := Lib.hid hm
    clear hm
    obtain ⟨L, hL⟩ : ∃ L, L = List.replicate (128 - k) 0 ++ l := ⟨_, rfl⟩
    rw [← hL] at dd
    have HL := Lib.hid hL
    clear hL
    go_wp2_with fail
    refine (hstN.out _).mono ?_
    rintro e w2 ⟨rfl, hx⟩
    replace o := o.ext hx
    replace dd := dd.ext hx
    replace hE := hE.trans hx
    clear hx hstN p0 p1
    have p0 := o.c0
    have p1 := o.c1
    have f0 := o.f0
    have f1 := o.f1
    have lt := o.lt
    have q0 := dd.at_ m (by omega)
    have r0 := dd.free m (by omega)
    have hMl : M < two128 := by rw [HM.out]; exact Nat.lt_of_le_of_lt (Nat.div_le_self _ _) HN.out
    have hzp := zero_pair M hMl
    have HML := Lib.hid hMl
    clear hMl
    rw [← HM0.out, ← HM1.out] at hzp
    have o' := (o.set (.int .i64 m0) (.int .i64 m1)).otherAt (b' := w.heap.size + 1) (o := m) (by omega) (.int .u8 (u.toNat : Int))
    have dd' := (dd.other (b' := w.heap.size) (by omega) (.int .i64 m0) (.int .i64 m1)).set m (by omega) u
    have hE' := (hE.set2 (Nat.le_refl _) (.int .i64 m0) (.int .i64 m1)).setCell (p := ⟨w.heap.size + 1, m, none⟩) (Nat.le_succ _) (.int .u8 (u.toNat : Int))
    have hL2 : L.set m u = List.replicate (128 - (k + 1)) 0 ++ u :: l := by
      rw [HL.out, show 128 - k = m + 1 by have := HK.out; omega, show 128 - (k + 1) = m by have := HK.out; omega]
      rw [List.replicate_succ', List.append_assoc, List.set_append_right _ _ (by simp)]
      simp
    rw [hL2] at dd'
    clear hL2
    by_cases hz : M = 0
    · rw [decide_eq_true hz] at hzp
      have HZ := Lib.hid hz
      clear hz
      have hfin : RowKit.Hid (text B P = u :: l) := Lib.hid (by
        rw [HT.out, text_step B N HB.out.1 HN.out, if_pos (by rw [← HM.out]; exact HZ.out), HU.out]
        rfl)
      have hsl := slice128 (w.heap.size + 1) m (by omega)
      have hcv := conv128 (m := 128 - (k + 1)) (l := u :: l) (by rw [List.length_cons, hl.out]; omega) dd'
      rw [show 128 - (k + 1) = m by have := HK.out; omega] at hcv
      go_wp2_with fail
      go_ret
      exact ⟨by rw [hfin.out]; rfl, hE'⟩
    · rw [decide_eq_false hz] at hzp
      have HZ := Lib.hid hz
      clear hz
      go_wp2_with fail
      go_roundw
      case rel =>
        refine ⟨M, k + 1, u :: l, HML.out, Lib.hid ?_, ?_, by go_num, Lib.hid ?_, ?_, dd', hE'⟩
        · rw [List.length_cons, hl.out]
        · have e := congrArg List.length HT.out
          rw [List.length_append, text_step B N HB.out.1 HN.out, if_neg (by rw [← HM.out]; exact HZ.out), List.length_append, List.length_singleton, hl.out] at e
          have h1 := text_length B P HB.out.1 HP.out
          have h2 := text_length B (N / B) HB.out.1 (by rw [← HM.out]; exact HML.out)
          omega
        · rw [HT.out, text_step B N HB.out.1 HN.out, if_neg (by rw [← HM.out]; exact HZ.out), HU.out, HM.out, List.append_assoc]
          rfl
        · rw [← HM0.out, ← HM1.out]
          exact o'
      case measure => simp [intOf]; omega
end Go.Proofs.YtheealjhmndbgaaDoor
