/- Layer 5 (package mem): bytes are got, texts are told, written and moved. Conditions: the block is a memory (Mm). -/
import Derived.Test.YtahnbllmgalgpaaM5D
import Derived.Laws.BytesArg
namespace Go.Proofs.Ytahnbllmgalgpaa
open Go.RowKit
set_option linter.unusedVariables false

theorem getbyte_err (v : Value) (a x : Int) (w : World) (hx : (x == 0) = false) (hc : Calls Try.prog 42 #[v, .int .i64 a, .int .i64 1] w fun e w' => e = .returned (.tuple #[.slice none 0 0, .int .i64 x]) ∧ w = w') :
    Calls Try.prog 22 #[v, .int .i64 a] w fun e w' => e = .returned (.tuple #[.int .u8 0, .int .i64 x]) ∧ w = w' := by
  have hp := Lib.hid hc
  clear hc
  go_enter Try.func22, Try.ntmps22
  go_wp2_with ((with_reducible refine (hp.out).mono ?_); rintro e w' ⟨rfl, rfl⟩)
  go_ret2
  exact ⟨rfl, rfl⟩
theorem getbyte_ok {w : World} {p q : Nat} {B : List UInt8} {h : Int} (m : Mm w p q B h) (o : Nat) (ho : o < B.length) :
    Calls Try.prog 22 #[Pt p, .int .i64 (o : Int)] w fun e w' => e = .returned (.tuple #[.int .u8 (B[o].toNat : Int), .int .i64 0]) ∧ w = w' := by
  have HP := Lib.hid (part_lit m o 1 1 rfl (by omega))
  have hc := m.bs o ho
  obtain ⟨y, hy⟩ : ∃ y, y = B[o] := ⟨_, rfl⟩
  rw [← hy] at hc ⊢
  have hpa : pa o 1 = o := rfl
  clear m hy
  go_enter Try.func22, Try.ntmps22
  go_wp2_with ((with_reducible refine (HP.out).mono ?_); rintro e w' ⟨rfl, rfl⟩)
  go_ret2
  exact ⟨rfl, rfl⟩
theorem text_err (v : Value) (a n x : Int) (w : World) (hc : Calls Try.prog 42 #[v, .int .i64 a, .int .i64 n] w fun e w' => e = .returned (.tuple #[.slice none 0 0, .int .i64 x]) ∧ w = w') :
    Calls Try.prog 23 #[v, .int .i64 a, .int .i64 n] w fun e w' => e = .returned (.tuple #[.string ⟨#[]⟩, .int .i64 x]) ∧ w = w' := by
  have hp := Lib.hid hc
  have hcv := run_convert_bytes_nil (P := Try.prog) w 38 5 Try.underlying38 Try.underlying5 0 0 9 Try.underlying9
  clear hc
  go_enter Try.func23, Try.ntmps23
  go_wp2_with ((with_reducible refine (hp.out).mono ?_); rintro e w' ⟨rfl, rfl⟩)
  go_ret2
  exact ⟨rfl, rfl⟩
def textB (l : List UInt8) : ByteArray := ⟨l.toArray⟩
theorem Mm.conv {w : World} {p q : Nat} {B : List UInt8} {h : Int} (m : Mm w p q B h) (o n : Nat) (ho : o + n ≤ B.length) (cap : Nat) :
    (convert 38 9 (.slice (some ⟨q, pa o n, none⟩) n cap)).run Try.prog w = .ok (.string (textB ((B.drop o).take n))) w := by
  have hl : ((B.drop o).take n).length = n := by simp; omega
  have hr := run_convert_bytes_back (P := Try.prog) w 38 9 5 ⟨q, pa o n, none⟩ cap ((B.drop o).take n) Try.underlying38 Try.underlying5 Try.underlying9 (fun j hj => by
    have hn : j < n := by omega
    have hpa : pa o n = o := if_neg (by omega)
    have hplain : (⟨q, pa o n, none⟩ : Addr).add j = ⟨q, o + j, none⟩ := by rw [hpa]; unfold Addr.add; split <;> simp_all
    rw [hplain, m.bs (o + j) (by omega)]
    simp)
  rw [hl] at hr
  exact hr
theorem text_ok {w : World} {p q : Nat} {B : List UInt8} {h : Int} (m : Mm w p q B h) (o n : Nat) (ho : o + n ≤ B.length) :
    Calls Try.prog 23 #[Pt p, .int .i64 (o : Int), .int .i64 (n : Int)] w fun e w' => e = .returned (.tuple #[.string (textB ((B.drop o).take n)), .int .i64 0]) ∧ w = w' := by
  have hp := Lib.hid (part_ok m o n ho)
  have hcv := m.conv o n ho n
  generalize textB ((B.drop o).take n) = T at *
  clear m
  go_enter Try.func23, Try.ntmps23
  go_wp2_with ((with_reducible refine (hp.out).mono ?_); rintro e w' ⟨rfl, rfl⟩)
  go_ret2
  exact ⟨rfl, rfl⟩
theorem Mm.copy_text {w : World} {p q : Nat} {B : List UInt8} {h : Int} (m : Mm w p q B h) (o : Nat) (s : ByteArray) (ho : o + s.size ≤ B.length) (ty : TypeId) :
    (Builtin.copy_ #[38, 9] ty #[.slice (some ⟨q, pa o s.size, none⟩) s.size s.size, .string s]).run Try.prog w = .ok (goInt s.size) (w.setCells q o (cells8 s.data.toList)) := by
  have hz : ∀ w, (Go.sizeOf 5).run Try.prog w = .ok 1 w := fun w => by kernel_rfl
  by_cases h0 : s.size = 0
  · have hs : s.data.toList = [] := List.eq_nil_of_length_eq_zero (by rw [← Lib.size_eq]; exact h0)
    have hr := run_copy_string (P := Try.prog) w 38 9 ty 5 q (pa o s.size) s.size s.size s Try.underlying38 hz (Nat.le_refl _) (fun j hj => by omega) (fun j hj => by omega)
    rw [hs] at hr ⊢
    exact hr
  · have hpa : pa o s.size = o := if_neg h0
    rw [hpa]
    exact run_copy_string (P := Try.prog) w 38 9 ty 5 q o s.size s.size s Try.underlying38 hz (Nat.le_refl _) (fun j hj => by rw [m.bs (o + j) (by omega)]; rfl) (fun j hj => m.fb _)
theorem Mm.copy_row {w : World} {p q : Nat} {B : List UInt8} {h : Int} (m : Mm w p q B h) (f o n : Nat) (hf : f + n ≤ B.length) (ho : o + n ≤ B.length) (ty : TypeId) :
    (Builtin.copy_ #[38, 38] ty #[.slice (some ⟨q, pa o n, none⟩) n n, .slice (some ⟨q, pa f n, none⟩) n n]).run Try.prog w = .ok (goInt n) (w.setCells q o (cells8 ((B.drop f).take n))) := by
  have hl : (cells8 ((B.drop f).take n)).length = n := by rw [cells8_len]; simp; omega
  have hr := run_copy_cells (P := Try.prog) w 38 38 ty 5 q (pa o n) n n ⟨q, pa f n, none⟩ n n (cells8 ((B.drop f).take n)) Try.underlying38 (by kernel_rfl) (by rw [hl]; exact (Nat.min_self n).symm) (fun j v hj => by
      have hjn : j < n := by rw [← hl]; exact (List.getElem?_eq_some_iff.1 hj).1
      have hpa : pa f n = f := if_neg (by omega)
      have hplain : (⟨q, pa f n, none⟩ : Addr).add j = ⟨q, f + j, none⟩ := by rw [hpa]; unfold Addr.add; split <;> simp_all
      rw [hplain, m.bs (f + j) (by omega)]
      rw [← hj]
      simp [cells8, hjn]
      rw [List.getElem?_eq_getElem (by omega)]
      rfl) (fun j hj => by
      have hjn : j < n := by omega
      have hpa : pa o n = o := if_neg (by omega)
      rw [hpa, m.bs (o + j) (by omega)]; rfl) (fun j hj => m.fb _) (fun v hv => by
      obtain ⟨x, _, rfl⟩ := List.mem_map.1 hv
      rfl)
  rw [hl] at hr
  by_cases h0 : n = 0
  · have hs : (cells8 ((B.drop f).take n)) = [] := List.eq_nil_of_length_eq_zero (by rw [hl]; exact h0)
    rw [hs] at hr ⊢
    exact hr
  · have hpa : pa o n = o := if_neg h0
    rw [hpa] at hr ⊢
    exact hr
theorem write_err (v : Value) (a x : Int) (s : ByteArray) (hs : s.size ≤ maxLen) (w : World) (hc : Calls Try.prog 42 #[v, .int .i64 a, .int .i64 (s.size : Int)] w fun e w' => e = .returned (.tuple #[.slice none 0 0, .int .i64 x]) ∧ w = w') :
    Calls Try.prog 17 #[v, .int .i64 a, .string s] w fun e w' => e = .returned (.int .i64 x) ∧ w = w' := by
  have hp := Lib.hid hc
  unfold maxLen at hs
  have hcp : ∀ ty, (Builtin.copy_ #[38, 9] ty #[.slice none 0 0, .string s]).run Try.prog w = .ok (goInt 0) w := fun ty => by
    simp [Builtin.copy_, run_underlying Try.underlying38, Builtin.lenOf, Builtin.firstCells]
  clear hc
  go_enter Try.func17, Try.ntmps17
  go_wp2_with ((with_reducible refine (hp.out).mono ?_); rintro e w' ⟨rfl, rfl⟩)
  go_ret
  exact ⟨rfl, rfl⟩
theorem write_ok {w : World} {p q : Nat} {B : List UInt8} {h : Int} (m : Mm w p q B h) (o : Nat) (s : ByteArray) (ho : o + s.size ≤ B.length) :
    Calls Try.prog 17 #[Pt p, .int .i64 (o : Int), .string s] w fun e w' => e = .returned (.int .i64 0) ∧ Mm w' p q (splice B o s.data.toList) h ∧ Kept p q w w' := by
  have hp := Lib.hid (part_ok m o s.size ho)
  have hcp := m.copy_text o s ho
  have HM := Lib.hid (m.puts o s.data.toList (by rw [← Lib.size_eq]; exact ho))
  have HK := Lib.hid ((Kept.refl p q w).puts o s.data.toList)
  have hb := m.hi
  have hs : (s.size : Int) ≤ 65536 := by omega
  generalize w.setCells q o (cells8 s.data.toList) = W' at *
  clear m hb ho
  go_enter Try.func17, Try.ntmps17
  go_wp2_with ((with_reducible refine (hp.out).mono ?_); rintro e w' ⟨rfl, rfl⟩)
  go_ret
  exact ⟨rfl, HM.out, HK.out⟩
theorem move_err (v : Value) (f a n x : Int) (w : World) (hx : (x == 0) = false) (hc : Calls Try.prog 42 #[v, .int .i64 f, .int .i64 n] w fun e w' => e = .returned (.tuple #[.slice none 0 0, .int .i64 x]) ∧ w = w') :
    Calls Try.prog 20 #[v, .int .i64 f, .int .i64 a, .int .i64 n] w fun e w' => e = .returned (.int .i64 x) ∧ w = w' := by
  have hp := Lib.hid hc
  clear hc
  go_enter Try.func20, Try.ntmps20
  go_wp2_with ((with_reducible refine (hp.out).mono ?_); rintro e w' ⟨rfl, rfl⟩)
  go_ret
  exact ⟨rfl, rfl⟩
theorem move_far {w : World} {p q : Nat} {B : List UInt8} {h : Int} (m : Mm w p q B h) (f n : Nat) (a : Int) (ha : I64 a) (hf : f + n ≤ B.length) (ho : inB B.length a n = false) :
    Calls Try.prog 20 #[Pt p, .int .i64 (f : Int), .int .i64 a, .int .i64 (n : Int)] w fun e w' => e = .returned (.int .i64 (-9)) ∧ w = w' := by
  have hb := m.hi
  have h1 := Lib.hid (part_ok m f n hf)
  have h2 := Lib.hid (part_no m a n ha (by unfold I64; omega) ho)
  have hcp : ∀ ty, (Builtin.copy_ #[38, 38] ty #[.slice none 0 0, .slice (some ⟨q, pa f n, none⟩) n n]).run Try.prog w = .ok (goInt 0) w := fun ty =>
    run_copy_none w _ _ ty 5 none _ 0 0 n n Try.underlying38 (by kernel_rfl) (Nat.min_zero n)
  clear m ha hf ho hb
  go_enter Try.func20, Try.ntmps20
  go_wp2_with fail
  refine (h1.out).mono ?_
  rintro e w' ⟨rfl, rfl⟩
  go_wp2_with fail
  refine (h2.out).mono ?_
  rintro e w' ⟨rfl, rfl⟩
  go_wp2_with fail
  go_ret
  exact ⟨rfl, rfl⟩
theorem move_ok {w : World} {p q : Nat} {B : List UInt8} {h : Int} (m : Mm w p q B h) (f o n : Nat) (hf : f + n ≤ B.length) (ho : o + n ≤ B.length) :
    Calls Try.prog 20 #[Pt p, .int .i64 (f : Int), .int .i64 (o : Int), .int .i64 (n : Int)] w fun e w' => e = .returned (.int .i64 0) ∧ Mm w' p q (splice B o ((B.drop f).take n)) h ∧ Kept p q w w' := by
  have h1 := Lib.hid (part_ok m f n hf)
  have h2 := Lib.hid (part_ok m o n ho)
  have hcp := m.copy_row f o n hf ho
  have HM := Lib.hid (m.puts o ((B.drop f).take n) (by simp; omega))
  have HK := Lib.hid ((Kept.refl p q w).puts o ((B.drop f).take n))
  generalize w.setCells q o (cells8 ((B.drop f).take n)) = W' at *
  clear m ho hf
  go_enter Try.func20, Try.ntmps20
  go_wp2_with fail
  refine (h1.out).mono ?_
  rintro e w' ⟨rfl, rfl⟩
  go_wp2_with fail
  refine (h2.out).mono ?_
  rintro e w' ⟨rfl, rfl⟩
  go_wp2_with fail
  go_ret
  exact ⟨rfl, HM.out, HK.out⟩
end Go.Proofs.Ytahnbllmgalgpaa
