/- The document's answers for layer 4: the text of a finite cell. Condition: cells are integers of 64 bits. -/
import Derived.Test.YthmdobajilladaaDoorR4X
import Derived.Deep.RegionHeld3
namespace Go.Proofs.YthmdobajilladaaDoor
open Go.RowKit
set_option linter.unusedVariables false
open Ieee (double)

theorem digits_held (w0 : World) (n : Int) (D : ByteArray) (hD : ∀ W, Calls Tryd.prog 35 #[.int .i64 n] W fun e w' => e = .returned (.string D) ∧ Ext W w') (w : World) (p q : Addr) (x y : Value) (h : (w.cell? p = some x ∧ w.cell? q = some y) ∧ Ext w0 w) :
    Calls Tryd.prog 35 #[.int .i64 n] w fun e w' => e = .returned (.string D) ∧ ((w'.cell? p = some x ∧ w'.cell? q = some y) ∧ Ext w0 w') :=
  (hD w).mono fun e w' ⟨he, hx⟩ => ⟨he, ⟨ext_keeps hx h.1.1, ext_keeps hx h.1.2⟩, h.2.trans hx⟩
theorem half_test {N : Nat} (t : Bool) (h : (N % 2 == 0) = t) : ((N : Int) % 2 == 0) = t := by
  rw [← h, Bool.eq_iff_iff, beq_iff_eq, beq_iff_eq]; omega
def celN : Option Value → Nat
  | some (.int _ n) => n.toNat
  | _ => 0
def sgn (s : Bool) : ByteArray := if s then ⟨#[45]⟩ else ⟨#[]⟩
theorem text_res {s : Bool} {r : Nat} (h0 : r ≠ 0) (h : r < 9218868437227405312) {N : Nat} {F : Int} (i : HalfInv (rM r) (rE r) N F) (o : ¬ N % 2 = 0) :
    sgn s ++ ⟨(Lib.itoa (N : Int)).toArray⟩ ++ ⟨#[112]⟩ ++ ⟨(Lib.itoa F).toArray⟩ = (⟨(realText s r).toArray⟩ : ByteArray) := by
  have hl := (rung_can h).lt
  obtain ⟨e1, e2⟩ := i.stop (by omega) o
  obtain ⟨u1, u2⟩ := odd_nE h0 h
  have en : Lib.itoa (N : Int) = Lib.decDigits (nM r / 2 ^ zN r) := by
    unfold Lib.itoa
    rw [if_neg (by omega), Int.toNat_natCast, e1, u1]
  have ef : F = nE r + (zN r : Nat) := by rw [e2, u2]
  have er : realText s r = (if s then [45] else []) ++ (Lib.itoa (N : Int) ++ 112 :: Lib.itoa F) := by
    unfold realText bodyText uText
    have h1 : ¬ r = 9218868437227405312 := by omega
    rw [if_neg h0, if_neg h1, en, ef]
    cases s <;> rfl
  rw [er]
  unfold sgn
  cases s <;> simp [ByteArray.mk_append_mk]
theorem text_adds (T : ByteArray) (hT : T.size ≤ 1) (N : Nat) (F : Int) (hF : I64 F) (hNI : I64 (N : Int)) :
    (∀ W, (Op.stringOp .add T ⟨(Lib.itoa (N : Int)).toArray⟩).run Tryd.prog W = .ok (.string (T ++ ⟨(Lib.itoa (N : Int)).toArray⟩)) W) ∧
    (∀ W, (Op.stringOp .add (T ++ ⟨(Lib.itoa (N : Int)).toArray⟩) ⟨#[112]⟩).run Tryd.prog W = .ok (.string (T ++ ⟨(Lib.itoa (N : Int)).toArray⟩ ++ ⟨#[112]⟩)) W) ∧
    (∀ W, (Op.stringOp .add (T ++ ⟨(Lib.itoa (N : Int)).toArray⟩ ++ ⟨#[112]⟩) ⟨(Lib.itoa F).toArray⟩).run Tryd.prog W = .ok (.string (T ++ ⟨(Lib.itoa (N : Int)).toArray⟩ ++ ⟨#[112]⟩ ++ ⟨(Lib.itoa F).toArray⟩)) W) := by
  have l1 := itoa_len hNI
  have l2 := itoa_len hF
  have z1 : (⟨(Lib.itoa (N : Int)).toArray⟩ : ByteArray).size ≤ 21 := by show (Lib.itoa (N : Int)).toArray.size ≤ 21; simpa using l1
  have z2 : (⟨(Lib.itoa F).toArray⟩ : ByteArray).size ≤ 21 := by show (Lib.itoa F).toArray.size ≤ 21; simpa using l2
  have zp : (⟨#[112]⟩ : ByteArray).size = 1 := rfl
  refine ⟨fun W => run_string_add_sum W _ _ ?_, fun W => run_string_add_sum W _ _ ?_, fun W => run_string_add_sum W _ _ ?_⟩
  all_goals (try simp only [ByteArray.size_append, zp]); omega
/-- The last line of the text: the pieces, joined. -/
structure Pieces (w0 : World) (T : ByteArray) (N : Nat) (F : Int) (D1 D2 X1 X2 X3 : ByteArray) : Prop where
  d1 : ∀ (w : World) (p q : Addr) (x y : Value), ((w.cell? p = some x ∧ w.cell? q = some y) ∧ Ext w0 w) → Calls Tryd.prog 35 #[.int .i64 (N : Int)] w fun e w' => e = .returned (.string D1) ∧ ((w'.cell? p = some x ∧ w'.cell? q = some y) ∧ Ext w0 w')
  d2 : ∀ (w : World) (p q : Addr) (x y : Value), ((w.cell? p = some x ∧ w.cell? q = some y) ∧ Ext w0 w) → Calls Tryd.prog 35 #[.int .i64 F] w fun e w' => e = .returned (.string D2) ∧ ((w'.cell? p = some x ∧ w'.cell? q = some y) ∧ Ext w0 w')
  a1 : ∀ W, (Op.stringOp .add T D1).run Tryd.prog W = .ok (.string X1) W
  a2 : ∀ W, (Op.stringOp .add X1 ⟨#[112]⟩).run Tryd.prog W = .ok (.string X2) W
  a3 : ∀ W, (Op.stringOp .add X2 D2).run Tryd.prog W = .ok (.string X3) W
theorem pieces (w0 : World) (T : ByteArray) (hT : T.size ≤ 1) (N : Nat) (F : Int) (hF : I64 F) (hNI : I64 (N : Int)) (res : ByteArray)
    (h : T ++ ⟨(Lib.itoa (N : Int)).toArray⟩ ++ ⟨#[112]⟩ ++ ⟨(Lib.itoa F).toArray⟩ = res) : ∃ D1 D2 X1 X2, Pieces w0 T N F D1 D2 X1 X2 res := by
  obtain ⟨b1, b2, b3⟩ := text_adds T hT N F hF hNI
  rw [h] at b3
  exact ⟨_, _, _, _, fun w p q x y k => digits_held w0 _ _ (fun W => rdigits4 _ hNI W) w p q x y k, fun w p q x y k => digits_held w0 _ _ (fun W => rdigits4 _ hF W) w p q x y k, b1, b2, b3⟩
set_option maxRecDepth 100000 in
set_option maxHeartbeats 4000000 in
theorem rtext_fin (f : Int) (hf : I64 f) (s : Bool) (r : Nat) (hx : fbits f = double.word s r) (h0 : r ≠ 0) (h : r < 9218868437227405312) (w : World) :
    Calls Tryd.prog 12 #[.int .i64 f] w fun e w' => e = .returned (.string ⟨(realText s r).toArray⟩) ∧ Ext w w' := by
  have ho := Lib.hid (ropen_word f hf s r hx h)
  have RES := Lib.hid (fun N F => @text_res s r h0 h N F)
  have hM0 : rM r ≠ 0 := by
    intro q
    have hb := nM_bd h0 h
    have : nM r = 0 := by unfold nM; rw [q, Nat.zero_mul]
    omega
  have hMl := (rung_can h).lt
  have hE1 := (rung_can h).lo
  have hE2 := (rung_can h).hi
  clear hx h h0 hf
  generalize (⟨(realText s r).toArray⟩ : ByteArray) = res at *
  generalize rM r = M at *
  generalize rE r = E at *
  have M1 := nat_low M
  have M2 : ((M : Nat) : Int) < 9007199254740992 := by omega
  have mz : ((M : Int) == 0) = false := by rw [beq_eq_false_iff_ne]; omega
  have HB := Lib.hid (And.intro hM0 (And.intro hMl (And.intro hE1 hE2)))
  clear hM0 hMl hE1 hE2
  have PIE : RowKit.Hid (∀ w0 N F, HalfInv M E N F → ¬ N % 2 = 0 → ∃ D1 D2 X1 X2, Pieces w0 (sgn s) N F D1 D2 X1 X2 res) := Lib.hid (fun w0 N F i o => by
    have bd := i.bd (by have := HB.out.2.1; omega)
    have le := i.le
    have hb := HB.out
    exact pieces w0 (sgn s) (by cases s <;> decide) N F (by unfold I64; omega) (by unfold I64; omega) res (RES.out N F i o))
  clear RES
  cases s
  case false =>
    replace PIE : RowKit.Hid (∀ w0 N F, HalfInv M E N F → ¬ N % 2 = 0 → ∃ D1 D2 X1 X2, Pieces w0 ⟨#[]⟩ N F D1 D2 X1 X2 res) := PIE
    go_enter Tryd.func12, Tryd.ntmps12
    go_wp2_with fail
    refine (ho.out _).mono ?_
    rintro e w1 ⟨rfl, hw1⟩
    have o := Own4.last (X := w1) (k := Value.int .i64 2) (n := Value.bool false) (m := Value.int .u64 (M : Int)) (e := Value.int .i64 E) (t := 58)
    have hX := hw1.cells #[Value.int .i64 2, Value.bool false, Value.int .u64 (M : Int), Value.int .i64 E] 58
    have HSZ := Lib.hid hw1.1.size
    clear hw1 ho
    go_wp2_with fail
    go_loopw [22] (fun _ wr => ∃ (N : Nat) (F : Int), HalfInv M E N F ∧ Own4 wr w1.heap.size (.int .i64 2) (.bool false) (.int .u64 (N : Int)) (.int .i64 F) ∧ Ext w wr) (fun _ wr => celN (wr.cell? ⟨w1.heap.size, 2, none⟩))
    case atStart => exact ⟨M, E, HalfInv.start HB.out.1, o, hX⟩
    case round =>
      obtain ⟨N, F, i, p, hx⟩ := hrel
      clear o hX M1 M2 mz
      have bd := i.bd (by have := HB.out.2.1; omega)
      have le := i.le
      have N1 := nat_low N
      have N2 : ((N : Nat) : Int) < 9007199254740992 := by have := HB.out; omega
      have F1 : -1074 ≤ F := by have := HB.out; omega
      have F2 : F ≤ 1031 := by have := HB.out; omega
      have HI := Lib.hid i
      clear i bd le
      have c2 := p.c2
      have c3 := p.c3
      have f2 := p.f2
      have f3 := p.f3
      have lt := p.lt
      by_cases hz : N % 2 = 0
      · have ht := half_test (N := N) true (by rw [hz]; rfl)
        have HZ := Lib.hid hz
        obtain ⟨i2, il⟩ := HI.out.step hz
        have HI2 := Lib.hid i2
        have HL := Lib.hid il
        clear hz i2 il
        obtain ⟨q, hq⟩ : ∃ q : Nat, q = N / 2 := ⟨_, rfl⟩
        have eq2 : (N : Int) / 2 = (q : Int) := by rw [hq]; rfl
        have q0 := nat_low q
        rw [← hq] at HI2 HL
        clear hq
        go_wp2_with fail
        go_roundw
        case rel => exact ⟨q, _, HI2.out, p.set _ _, hx.set4 HSZ.out _ _⟩
        case measure =>
          have e1 := (p.set (.int .u64 (q : Int)) (.int .i64 (F + 1))).c2
          have h2 := HL.out
          simp only [e1, c2, celN]
          omega
      · have ht := half_test (N := N) false (by rw [beq_eq_false_iff_ne]; exact hz)
        obtain ⟨D1, D2, X1, X2, pi⟩ := PIE.out w N F HI.out hz
        have hwN : IntKind.i64.wrap (N : Int) = (N : Int) := IntWalk.i64_in _ (by omega)
        have d1' := pi.d1
        rw [← hwN] at d1'
        have d1 := Lib.hid d1'
        clear d1' hwN
        have d2 := Lib.hid pi.d2
        have a1 := pi.a1
        have a2 := pi.a2
        have a3 := pi.a3
        clear pi hz PIE
        go_wp2_with fail
        go_region_held3 (fun W => (W.cell? ⟨w1.heap.size, 2, none⟩ = some (.int .u64 (N : Int)) ∧ W.cell? ⟨w1.heap.size, 3, none⟩ = some (.int .i64 F)) ∧ Ext w W) (first | exact ⟨⟨c2, c3⟩, hx⟩ | exact ⟨⟨c2, c3⟩, hx.drew⟩ | exact hy | assumption)
          (first | (go_at_call 35; (first | (with_reducible refine (d1.out _ ⟨w1.heap.size, 2, none⟩ ⟨w1.heap.size, 3, none⟩ (.int .u64 (N : Int)) (.int .i64 F) ?_).mono ?_) | (with_reducible refine (d2.out _ ⟨w1.heap.size, 2, none⟩ ⟨w1.heap.size, 3, none⟩ (.int .u64 (N : Int)) (.int .i64 F) ?_).mono ?_)); assumption; rintro e w' ⟨rfl, hy⟩))
        go_wp2_with fail
        go_ret
        exact ⟨rfl, hy.2⟩
  case true =>
    replace PIE : RowKit.Hid (∀ w0 N F, HalfInv M E N F → ¬ N % 2 = 0 → ∃ D1 D2 X1 X2, Pieces w0 ⟨#[45]⟩ N F D1 D2 X1 X2 res) := PIE
    go_enter Tryd.func12, Tryd.ntmps12
    go_wp2_with fail
    refine (ho.out _).mono ?_
    rintro e w1 ⟨rfl, hw1⟩
    have o := Own4.last (X := w1) (k := Value.int .i64 2) (n := Value.bool true) (m := Value.int .u64 (M : Int)) (e := Value.int .i64 E) (t := 58)
    have hX := hw1.cells #[Value.int .i64 2, Value.bool true, Value.int .u64 (M : Int), Value.int .i64 E] 58
    have HSZ := Lib.hid hw1.1.size
    clear hw1 ho
    go_wp2_with fail
    go_loopw [22] (fun _ wr => ∃ (N : Nat) (F : Int), HalfInv M E N F ∧ Own4 wr w1.heap.size (.int .i64 2) (.bool true) (.int .u64 (N : Int)) (.int .i64 F) ∧ Ext w wr) (fun _ wr => celN (wr.cell? ⟨w1.heap.size, 2, none⟩))
    case atStart => exact ⟨M, E, HalfInv.start HB.out.1, o, hX⟩
    case round =>
      obtain ⟨N, F, i, p, hx⟩ := hrel
      clear o hX M1 M2 mz
      have bd := i.bd (by have := HB.out.2.1; omega)
      have le := i.le
      have N1 := nat_low N
      have N2 : ((N : Nat) : Int) < 9007199254740992 := by have := HB.out; omega
      have F1 : -1074 ≤ F := by have := HB.out; omega
      have F2 : F ≤ 1031 := by have := HB.out; omega
      have HI := Lib.hid i
      clear i bd le
      have c2 := p.c2
      have c3 := p.c3
      have f2 := p.f2
      have f3 := p.f3
      have lt := p.lt
      by_cases hz : N % 2 = 0
      · have ht := half_test (N := N) true (by rw [hz]; rfl)
        have HZ := Lib.hid hz
        obtain ⟨i2, il⟩ := HI.out.step hz
        have HI2 := Lib.hid i2
        have HL := Lib.hid il
        clear hz i2 il
        obtain ⟨q, hq⟩ : ∃ q : Nat, q = N / 2 := ⟨_, rfl⟩
        have eq2 : (N : Int) / 2 = (q : Int) := by rw [hq]; rfl
        have q0 := nat_low q
        rw [← hq] at HI2 HL
        clear hq
        go_wp2_with fail
        go_roundw
        case rel => exact ⟨q, _, HI2.out, p.set _ _, hx.set4 HSZ.out _ _⟩
        case measure =>
          have e1 := (p.set (.int .u64 (q : Int)) (.int .i64 (F + 1))).c2
          have h2 := HL.out
          simp only [e1, c2, celN]
          omega
      · have ht := half_test (N := N) false (by rw [beq_eq_false_iff_ne]; exact hz)
        obtain ⟨D1, D2, X1, X2, pi⟩ := PIE.out w N F HI.out hz
        have hwN : IntKind.i64.wrap (N : Int) = (N : Int) := IntWalk.i64_in _ (by omega)
        have d1' := pi.d1
        rw [← hwN] at d1'
        have d1 := Lib.hid d1'
        clear d1' hwN
        have d2 := Lib.hid pi.d2
        have a1 := pi.a1
        have a2 := pi.a2
        have a3 := pi.a3
        clear pi hz PIE
        go_wp2_with fail
        go_region_held3 (fun W => (W.cell? ⟨w1.heap.size, 2, none⟩ = some (.int .u64 (N : Int)) ∧ W.cell? ⟨w1.heap.size, 3, none⟩ = some (.int .i64 F)) ∧ Ext w W) (first | exact ⟨⟨c2, c3⟩, hx⟩ | exact ⟨⟨c2, c3⟩, hx.drew⟩ | exact hy | assumption)
          (first | (go_at_call 35; (first | (with_reducible refine (d1.out _ ⟨w1.heap.size, 2, none⟩ ⟨w1.heap.size, 3, none⟩ (.int .u64 (N : Int)) (.int .i64 F) ?_).mono ?_) | (with_reducible refine (d2.out _ ⟨w1.heap.size, 2, none⟩ ⟨w1.heap.size, 3, none⟩ (.int .u64 (N : Int)) (.int .i64 F) ?_).mono ?_)); assumption; rintro e w' ⟨rfl, hy⟩))
        go_wp2_with fail
        go_ret
        exact ⟨rfl, hy.2⟩
end Go.Proofs.YthmdobajilladaaDoor
