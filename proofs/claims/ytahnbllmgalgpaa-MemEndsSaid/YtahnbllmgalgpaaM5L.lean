/- Layer 5: what the statements' helpers do; bytes that came in. Conditions: the block is a memory (Mm); the argument is a slice of bytes. -/
import Derived.Test.YtahnbllmgalgpaaM5F
import Derived.OpenShut
namespace Go.Proofs.Ytahnbllmgalgpaa
open Go.RowKit Go.ChangeShapes Go.WideShapes
set_option linter.unusedVariables false

theorem new_lit (n : Nat) (a : Int) (ha : a = (n : Int)) (w : World) (h0 : 1024 ≤ n) (h1 : n ≤ 65536) (h8 : n % 8 = 0) :
    Calls Try.prog 11 #[.int .i64 a] w (Fresh w n) := by
  subst ha
  exact new_ok n w h0 h1 h8
theorem get_err_ok {w : World} {p q : Nat} {B : List UInt8} {h : Int} (m : Mm w p q B h) (a : Int) (ha : I64 a) (ho : inB B.length a 8 = false) :
    Calls Try.prog 19 #[Pt p, .int .i64 a] w fun e w' => e = .returned (.tuple #[.int .i64 0, .int .i64 (-9)]) ∧ w = w' :=
  get_err (Pt p) a (-9) w (cellat_no m a ha ho)
theorem put_err_off {w : World} {p q : Nat} {B : List UInt8} {h : Int} (m : Mm w p q B h) (o : Nat) (x : Int) (ho : o + 8 ≤ B.length) (h8 : o % 8 ≠ 0) :
    Calls Try.prog 18 #[Pt p, .int .i64 (o : Int), .int .i64 x] w fun e w' => e = .returned (.int .i64 (-23)) ∧ w = w' :=
  put_err (Pt p) o x (-23) w (cellat_off m o ho h8)
theorem shown_byte : ((splice (zeros 1024) 8 (le8 (-2)))[8]?).map UInt8.toNat = some 254 := by decide +kernel
theorem shown_calls (w : World) : Calls Try.prog 10 #[] w fun e w' => e = .returned (.bool true) ∧ Ext w w' := by
  have hN := Lib.hid (new_lit 1024 1024 rfl w (by omega) (by omega) (by omega))
  go_enter Try.func10, Try.ntmps10
  go_wp2_with fail
  refine (hN.out).mono ?_
  rintro e w1 ⟨p, q, rfl, hm, hx, hp, hq⟩
  have hl : (zeros 1024).length = 1024 := List.length_replicate
  have hP := Lib.hid (show Calls Try.prog 18 #[Pt p, .int .i64 8, .int .i64 (-2)] w1 fun e w' => e = .returned (.int .i64 0) ∧ Mm w' p q (splice (zeros 1024) 8 (le8 (-2))) 0 ∧ Kept p q w1 w' from put_ok hm 8 (-2) (by unfold I64; omega) (by omega) (by omega))
  have hl2 := splice_len (B := zeros 1024) (o := 8) (l := le8 (-2)) (by rw [le8_len, hl]; omega)
  rw [hl] at hl2
  have HL := Lib.hid hl2
  have HX := Lib.hid hx
  have HP := Lib.hid (And.intro hp hq)
  clear hN hm hl hl2 hx hp hq
  go_wp2_with fail
  refine (hP.out).mono ?_
  rintro e w2 ⟨rfl, hm, hk⟩
  have hb := shown_byte
  rw [List.getElem?_eq_getElem (by rw [HL.out]; omega)] at hb
  simp only [Option.map_some, Option.some.injEq] at hb
  have hG := getbyte_ok hm 8 (by rw [HL.out]; omega)
  rw [hb] at hG
  have HG := Lib.hid (show Calls Try.prog 22 #[Pt p, .int .i64 8] w2 fun e w' => e = .returned (.tuple #[.int .u8 254, .int .i64 0]) ∧ w2 = w' from hG)
  have HE := Lib.hid (get_err_ok hm 1024 (by unfold I64; omega) (by rw [HL.out]; rfl))
  have HF := Lib.hid (show Calls Try.prog 18 #[Pt p, .int .i64 4, .int .i64 1] w2 fun e w' => e = .returned (.int .i64 (-23)) ∧ w2 = w' from put_err_off hm 4 1 (by rw [HL.out]; omega) (by omega))
  have HE2 := Lib.hid (HX.out.kept hk HP.out.1 HP.out.2)
  clear hP hm hk hb hG HL HX HP
  go_wp2_with (first | ((with_reducible refine (HG.out).mono ?_); rintro e w' ⟨rfl, rfl⟩) | ((with_reducible refine (HE.out).mono ?_); rintro e w' ⟨rfl, rfl⟩) | ((with_reducible refine (HF.out).mono ?_); rintro e w' ⟨rfl, rfl⟩))
  go_ret
  exact ⟨rfl, HE2.out⟩
theorem all_calls {w : World} {p q : Nat} {B : List UInt8} {h : Int} (m : Mm w p q B h) :
    Calls Try.prog 15 #[Pt p] w fun e w' => e = .returned (.string (textB B)) ∧ w = w' := by
  have hS := Lib.hid (size_calls m)
  have hT := text_ok m 0 B.length (by omega)
  rw [List.drop_zero, List.take_length] at hT
  have HT := Lib.hid (show Calls Try.prog 23 #[Pt p, .int .i64 0, .int .i64 (B.length : Int)] w fun e w' => e = .returned (.tuple #[.string (textB B), .int .i64 0]) ∧ w = w' from hT)
  clear hT m
  go_enter Try.func15, Try.ntmps15
  go_wp2_with (first | ((with_reducible refine (hS.out).mono ?_); rintro e w' ⟨rfl, rfl⟩) | ((with_reducible refine (HT.out).mono ?_); rintro e w' ⟨rfl, rfl⟩))
  go_ret
  exact ⟨rfl, rfl⟩
/-- A slice that came in: nil, or a row of numbers. -/
def Row (k : IntKind) (w : World) (a : Option Addr) (len cap : Nat) (zs : List Int) : Prop :=
  (a = none ∧ len = 0 ∧ cap = 0 ∧ zs = []) ∨
  ∃ x, a = some x ∧ len ≤ cap ∧ cap ≤ maxLen ∧ zs.length = cap ∧ (∀ i, i < zs.length → w.cell? (x.add i) = some (.int k (zs.getD i 0))) ∧ ∀ n ∈ zs, (Lit.int k n).wf = true
def Lies (w : World) (A : Option Addr) (l : List UInt8) : Prop := ∀ i (hi : i < l.length), ∃ x, A = some x ∧ w.cell? (x.add i) = some (.int .u8 (l[i].toNat : Int))
theorem Lies.ext {w w' : World} {A : Option Addr} {l : List UInt8} (h : Lies w A l) (k : Ext w w') : Lies w' A l := fun i hi => by
  obtain ⟨x, e, hc⟩ := h i hi
  exact ⟨x, e, ext_keeps k hc⟩
theorem Row.le {k : IntKind} {w : World} {a : Option Addr} {len cap : Nat} {zs : List Int} (h : Row k w a len cap zs) : len ≤ cap ∧ cap ≤ 9223372036854775807 := by
  rcases h with ⟨_, h1, h2, _⟩ | ⟨x, _, h1, h2, _⟩
  · omega
  · unfold maxLen at h2; omega
theorem u8_nat {a : Int} (h : (Lit.int .u8 a).wf = true) : ((UInt8.ofNat a.toNat).toNat : Int) = a := by
  have h2 := bounds_u8 h
  rw [UInt8.toNat_ofNat', Nat.mod_eq_of_lt (by omega)]
  omega
theorem Row.bytes {w : World} {a : Option Addr} {len cap : Nat} {zs : List Int} (h : Row .u8 w a len cap zs) : ∃ l : List UInt8, l.length = len ∧ Lies w a l := by
  rcases h with ⟨_, h1, h2, _⟩ | ⟨x, hx, h1, h2, h3, h4, h5⟩
  · exact ⟨[], by rw [h1]; rfl, fun i hi => absurd hi (by simp)⟩
  · refine ⟨(zs.take len).map fun n => UInt8.ofNat n.toNat, by simp; omega, fun i hi => ⟨x, hx, ?_⟩⟩
    have hi' : i < len := by simp at hi; omega
    have hz : i < zs.length := by omega
    rw [h4 i hz]
    simp only [List.getElem_map, List.getElem_take]
    rw [u8_nat (h5 _ (List.getElem_mem hz))]
    simp [List.getD, List.getElem?_eq_getElem hz]
theorem addr_zero (x : Addr) : x.add 0 = x := by unfold Addr.add; simp
/-- 's[:k]'. -/
theorem slice_upto (W : World) (t e : TypeId) (ht : Try.prog.underlying t = some (.slice e)) (hz : ∀ w, (Go.sizeOf e).run Try.prog w = .ok 1 w) (A : Option Addr) (len cap k : Nat) (hk : k ≤ cap) :
    (Instr.sliceAt t (.slice A len cap) none (some (.int .i64 (k : Int))) none).run Try.prog W = .ok (.slice A k cap) W := by
  have he : Try.prog.elem t = e := by simp [Program.elem, ht]
  have ht' : Try.prog.underlying t = some (.slice (Try.prog.elem t)) := by rw [he]; exact ht
  rw [run_sliceAt_slice W t _ _ _ _ ht', run_slice_h W t A len cap ht' .i64 k (by omega) (by omega), he, hz]
  show Result.ok (sliced A 0 (k : Int).toNat cap 1) W = _
  unfold sliced
  have e1 : (if cap = 0 then A else A.map fun x => x.add (0 * 1)) = A := by
    split
    · rfl
    · cases A with
      | none => rfl
      | some x => show some (x.add (0 * 1)) = _; rw [Nat.zero_mul, addr_zero]
  rw [e1, Int.toNat_natCast, Nat.sub_zero, Nat.sub_zero]
theorem Try.sizeByte : ∀ w, (Go.sizeOf 5).run Try.prog w = .ok 1 w := fun w => by kernel_rfl
theorem conv_lies {W : World} {A : Option Addr} {l : List UInt8} (h : Lies W A l) (k cap : Nat) (hk : k ≤ l.length) :
    (convert 38 9 (.slice A k cap)).run Try.prog W = .ok (.string (textB (l.take k))) W := by
  by_cases h0 : k = 0
  · subst h0
    cases A with
    | none => exact run_convert_bytes_nil (P := Try.prog) W 38 5 Try.underlying38 Try.underlying5 0 cap 9 Try.underlying9
    | some x => exact run_convert_bytes_back (P := Try.prog) W 38 9 5 x cap [] Try.underlying38 Try.underlying5 Try.underlying9 (fun j hj => absurd hj (by simp))
  · obtain ⟨x, hx, _⟩ := h 0 (by omega)
    subst hx
    have hl : (l.take k).length = k := by simp; omega
    have hr := run_convert_bytes_back (P := Try.prog) W 38 9 5 x cap (l.take k) Try.underlying38 Try.underlying5 Try.underlying9 (fun j hj => by
      obtain ⟨y, hy, hc⟩ := h j (by omega)
      injection hy with hy
      subst hy
      rw [hc]
      simp)
    rw [hl] at hr
    exact hr
end Go.Proofs.Ytahnbllmgalgpaa
