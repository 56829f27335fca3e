/- Layer 13: each operation does something that is known, or ends with an error and leaves all as it was: the memory's. Condition: cells are cells. -/
import Derived.Test.YtegcecpmdgljpaaGreatDoorUY0
namespace Go.Proofs.YtegcecpmdgljpaaGreatDoor
open Go.RowKit Ieee
set_option linter.unusedVariables false

/-- What an operation does, so far as errors and heights go. -/
def Any (n : Int) (k : Nat) (X : List Int) (μ : Mu) : Prop := ∃ (P : List Int) (e : Int) (μ' : Mu), Uni n k X μ P e μ' ∧ e ≠ 1 ∧ (e ≠ 0 → μ' = μ) ∧ P.length ≤ 2 ∧ (k < P.length → μ' = μ) ∧ ∀ x ∈ P, I64 x
structure Mu.ok (μ : Mu) : Prop where
  lo : 1024 ≤ μ.B.length
  hi : μ.B.length ≤ 65536
  h0 : 0 ≤ μ.h
  h1 : μ.h ≤ (μ.B.length : Int) - 512
  k : μ.K.length ≤ 200
theorem Stt.muok {w : World} {a : Ad} {T : List Nat} {R : List Int} {μ : Mu} (h : Stt w a T R μ) : μ.ok := ⟨h.mm.lo, h.mm.hi, h.mm.h0, h.mm.h1, h.lK⟩
theorem noB {n a k : Int} (h : ¬ (0 ≤ a ∧ 0 ≤ k ∧ a ≤ n - k)) : inB n a k = false := decide_eq_false h
theorem one64 : I64 1 := by unfold I64; omega
def MF (f : FuncId) (xs : List Value) (B : List UInt8) (h : Int) : Prop := ∃ (er : Int) (B' : List UInt8) (h' : Int), MT f xs (.int .i64 er) B h B' h' ∧ er ≠ 1 ∧ (er ≠ 0 → B' = B ∧ h' = h)
theorem MF.ok {f : FuncId} {xs : List Value} {B B' : List UInt8} {h h' : Int} (H : ∀ W p q, Mm W p q B h → Calls Tryz.prog f (Pt p :: xs).toArray W fun e w' => e = .returned (.int .i64 0) ∧ Mm w' p q B' h' ∧ Kept p q W w') : MF f xs B h :=
  ⟨0, B', h', MT.kept H, by decide, fun e => absurd rfl e⟩
theorem MF.no {f : FuncId} {xs : List Value} {B : List UInt8} {h er : Int} (h1 : er ≠ 1) (H : ∀ W p q, Mm W p q B h → Calls Tryz.prog f (Pt p :: xs).toArray W fun e w' => e = .returned (.int .i64 er) ∧ W = w') : MF f xs B h :=
  ⟨er, B, h, MT.same H, h1, fun _ => ⟨rfl, rfl⟩⟩
theorem any_mt {f : FuncId} {xs : List Value} {n : Int} {k : Nat} {X : List Int} {μ : Mu} (H : MF f xs μ.B μ.h) (U : ∀ er B1 h1, MT f xs (.int .i64 er) μ.B μ.h B1 h1 → Uni n k X μ [] er { μ with B := B1, h := h1 }) : Any n k X μ := by
  obtain ⟨er, B1, h1, H, n1, n2⟩ := H
  exact ⟨[], er, _, U er B1 h1 H, n1, fun e => by obtain ⟨e1, e2⟩ := n2 e; rw [e1, e2], by simp, by simp, by simp⟩
theorem get_all (B : List UInt8) (h a : Int) (ha : I64 a) : ∃ v e : Int, I64 v ∧ e ≠ 1 ∧ (e = 0 → ∃ o : Nat, a = (o : Int) ∧ o + 8 ≤ B.length ∧ o % 8 = 0) ∧ ∀ W p q, Mm W p q B h → Calls Tryz.prog 46 #[Pt p, .int .i64 a] W fun e' w' => e' = .returned (.tuple #[.int .i64 v, .int .i64 e]) ∧ W = w' := by
  by_cases hi : 0 ≤ a ∧ (0 : Int) ≤ 8 ∧ a ≤ (B.length : Int) - 8
  · obtain ⟨o, rfl⟩ := Int.eq_ofNat_of_zero_le hi.1
    by_cases h8 : o % 8 = 0
    · exact ⟨_, 0, cellOf_i64 _, by decide, fun _ => ⟨o, rfl, by omega, h8⟩, fun W p q m => get_ok m o (by omega) h8⟩
    · exact ⟨0, -23, zero_i64, by decide, fun e => absurd e (by decide), fun W p q m => get_err (Pt p) o (-23) W (cellat_off m o (by omega) h8)⟩
  · exact ⟨0, -9, zero_i64, by decide, fun e => absurd e (by decide), fun W p q m => get_err (Pt p) a (-9) W (cellat_no m a ha (noB hi))⟩
theorem put_all (B : List UInt8) (h a x : Int) (ha : I64 a) (hx : I64 x) : MF 66 [.int .i64 a, .int .i64 x] B h := by
  by_cases hi : 0 ≤ a ∧ (0 : Int) ≤ 8 ∧ a ≤ (B.length : Int) - 8
  · obtain ⟨o, rfl⟩ := Int.eq_ofNat_of_zero_le hi.1
    by_cases h8 : o % 8 = 0
    · exact MF.ok fun W p q m => mput_ok m o x hx (by omega) h8
    · exact MF.no (er := -23) (by decide) fun W p q m => put_err (Pt p) o x (-23) W (cellat_off m o (by omega) h8)
  · exact MF.no (er := -9) (by decide) fun W p q m => put_err (Pt p) a x (-9) W (cellat_no m a ha (noB hi))
theorem getbyte_all (B : List UInt8) (h a : Int) (ha : I64 a) : ∃ (c : UInt8) (e : Int), e ≠ 1 ∧ ∀ W p q, Mm W p q B h → Calls Tryz.prog 130 #[Pt p, .int .i64 a] W fun e' w' => e' = .returned (.tuple #[.int .u8 (c.toNat : Int), .int .i64 e]) ∧ W = w' := by
  by_cases hi : 0 ≤ a ∧ (0 : Int) ≤ 1 ∧ a ≤ (B.length : Int) - 1
  · obtain ⟨o, rfl⟩ := Int.eq_ofNat_of_zero_le hi.1
    exact ⟨B[o]'(by omega), 0, by decide, fun W p q m => getbyte_ok m o (by omega)⟩
  · exact ⟨0, -9, by decide, fun W p q m => getbyte_err (Pt p) a (-9) W (by decide) (part_no m a 1 ha one64 (noB hi))⟩
theorem putbyte_all (B : List UInt8) (h a : Int) (c : UInt8) (ha : I64 a) : MF 132 [.int .i64 a, .int .u8 (c.toNat : Int)] B h := by
  by_cases hi : 0 ≤ a ∧ (0 : Int) ≤ 1 ∧ a ≤ (B.length : Int) - 1
  · obtain ⟨o, rfl⟩ := Int.eq_ofNat_of_zero_le hi.1
    exact MF.ok fun W p q m => putbyte_ok m o c (by omega)
  · exact MF.no (er := -9) (by decide) fun W p q m => putbyte_err (Pt p) a c.toNat (-9) W (part_no m a 1 ha one64 (noB hi))
theorem text_all (B : List UInt8) (h a n : Int) (ha : I64 a) (hn : I64 n) (hB : B.length ≤ 65536) : ∃ (s : ByteArray) (e : Int), e ≠ 1 ∧ s.size ≤ 65536 ∧ ∀ W p q, Mm W p q B h → Calls Tryz.prog 17 #[Pt p, .int .i64 a, .int .i64 n] W fun e' w' => e' = .returned (.tuple #[.string s, .int .i64 e]) ∧ W = w' := by
  by_cases hi : 0 ≤ a ∧ 0 ≤ n ∧ a ≤ (B.length : Int) - n
  · obtain ⟨o, rfl⟩ := Int.eq_ofNat_of_zero_le hi.1
    obtain ⟨k, rfl⟩ := Int.eq_ofNat_of_zero_le hi.2.1
    refine ⟨_, 0, by decide, ?_, fun W p q m => text_ok m o k (by omega)⟩
    show (str ((B.drop o).take k)).size ≤ _
    rw [str_size]; simp; omega
  · refine ⟨_, -9, by decide, ?_, fun W p q m => text_err (Pt p) a n (-9) W (part_no m a n ha hn (noB hi))⟩
    show (0 : Nat) ≤ _
    omega
theorem fill_all (B : List UInt8) (h a n : Int) (c : UInt8) (ha : I64 a) (hn : I64 n) : MF 140 [.int .i64 a, .int .i64 n, .int .u8 (c.toNat : Int)] B h := by
  by_cases hi : 0 ≤ a ∧ 0 ≤ n ∧ a ≤ (B.length : Int) - n
  · obtain ⟨o, rfl⟩ := Int.eq_ofNat_of_zero_le hi.1
    obtain ⟨k, rfl⟩ := Int.eq_ofNat_of_zero_le hi.2.1
    exact MF.ok fun W p q m => fill_ok m o k c (by omega)
  · exact MF.no (er := -9) (by decide) fun W p q m => fill_err (Pt p) a n c.toNat (-9) W (part_no m a n ha hn (noB hi))
theorem move_all (B : List UInt8) (h f a n : Int) (hf : I64 f) (ha : I64 a) (hn : I64 n) : MF 142 [.int .i64 f, .int .i64 a, .int .i64 n] B h := by
  by_cases hi : 0 ≤ f ∧ 0 ≤ n ∧ f ≤ (B.length : Int) - n
  · obtain ⟨g, rfl⟩ := Int.eq_ofNat_of_zero_le hi.1
    obtain ⟨k, rfl⟩ := Int.eq_ofNat_of_zero_le hi.2.1
    by_cases hj : 0 ≤ a ∧ (0 : Int) ≤ (k : Int) ∧ a ≤ (B.length : Int) - (k : Int)
    · obtain ⟨o, rfl⟩ := Int.eq_ofNat_of_zero_le hj.1
      exact MF.ok fun W p q m => move_ok m g o k (by omega) (by omega)
    · exact MF.no (er := -9) (by decide) fun W p q m => move_far m g k a ha (by omega) (noB hj)
  · exact MF.no (er := -9) (by decide) fun W p q m => move_err (Pt p) f a n (-9) W (by decide) (part_no m f n hf hn (noB hi))
theorem allot_all (B : List UInt8) (h n : Int) (hn : I64 n) : MF 65 [.int .i64 n] B h := by
  cases hi : inH B.length h n with
  | true => exact MF.ok fun W p q m => allot_ok m n hi
  | false => exact MF.no (er := -8) (by decide) fun W p q m => allot_no m n hn hi
theorem upM64 (h : Int) : I64 (upM h) := by unfold I64 upM; omega
theorem align_all (B : List UInt8) (h : Int) : MF 153 [] B h := by
  obtain ⟨e, B', h', k1, k2, k3⟩ := allot_all B h (upM h) (upM64 h)
  exact ⟨e, B', h', fun W p q m => align_calls m (k1 W p q m), k2, k3⟩
theorem comma_all (B : List UInt8) (h x : Int) (hx : I64 x) : MF 40 [.int .i64 x] B h := by
  by_cases h8 : h % 8 = 0
  · cases hi : inH B.length h 8 with
    | true => exact MF.ok fun W p q m => comma_ok m x hx h8 hi
    | false => exact MF.no (er := -8) (by decide) fun W p q m => comma_no m x h8 hi
  · exact MF.no (er := -23) (by decide) fun W p q m => comma_off m x h8
theorem ccomma_all (B : List UInt8) (h : Int) (c : UInt8) : MF 151 [.int .u8 (c.toNat : Int)] B h := by
  cases hi : inH B.length h 1 with
  | true => exact MF.ok fun W p q m => ccomma_ok m c hi
  | false => exact MF.no (er := -8) (by decide) fun W p q m => ccomma_no m c.toNat hi
theorem byte_i64 (c : UInt8) : I64 (c.toNat : Int) := by have := c.toNat_lt; unfold I64; omega

variable {μ : Mu}
theorem any_73 (x : Int) (hx : I64 x) : Any 73 1 [x] μ := by
  obtain ⟨v, e, hv, he, _, H⟩ := get_all μ.B μ.h x hx
  exact ⟨[v], e, μ, act_73_of x v e μ (MT.same H) H, he, fun _ => rfl, by simp, fun _ => rfl, by simpa using hv⟩
theorem any_74 (x y : Int) (hx : I64 x) (hy : I64 y) : Any 74 2 [x, y] μ := any_mt (put_all μ.B μ.h y x hy hx) fun er B1 h1 H => act_74_of x y er B1 h1 μ H
theorem any_75 (x : Int) (hx : I64 x) : Any 75 1 [x] μ := by
  obtain ⟨c, e, he, H⟩ := getbyte_all μ.B μ.h x hx
  exact ⟨[(c.toNat : Int)], e, μ, act_75_of x e c μ H, he, fun _ => rfl, by simp, fun _ => rfl, by simpa using byte_i64 c⟩
theorem any_76 (x y : Int) (hx : I64 x) (hy : I64 y) : Any 76 2 [x, y] μ := any_mt (putbyte_all μ.B μ.h y (bt x) hy) fun er B1 h1 H => act_76_of x y er B1 h1 μ H
theorem any_77 (x y : Int) (hx : I64 x) (hy : I64 y) : Any 77 2 [x, y] μ := by
  obtain ⟨v, e, hv, he, _, H⟩ := get_all μ.B μ.h y hy
  by_cases h0 : e = 0
  · subst h0
    obtain ⟨er, B1, h1, K, n1, n2⟩ := put_all μ.B μ.h y (wrap64 (v + x)) hy (i64_wrap _)
    exact ⟨[], er, _, act_77_of x y er μ _ fun W a T R h => addto_ok (MT.same H) K h, n1, fun e => by obtain ⟨e1, e2⟩ := n2 e; rw [e1, e2], by simp, by simp, by simp⟩
  · exact ⟨[], e, μ, act_77_of x y e μ _ fun W a T R h => addto_err (MT.same H) h0 h, he, fun _ => rfl, by simp, by simp, by simp⟩
theorem any_78 (x : Int) (hx : I64 x) : Any 78 1 [x] μ := by
  obtain ⟨v, e, hv, he, _, H⟩ := get_all μ.B μ.h (wrap64 (x + 8)) (i64_wrap _)
  by_cases h0 : e = 0
  · subst h0
    obtain ⟨u, e2, hu, he2, _, K⟩ := get_all μ.B μ.h x hx
    exact ⟨[v, u], e2, μ, act_78_of x _ e2 μ μ fun W a T R h => gettwo_ok (MT.same H) (MT.same K) h, he2, fun _ => rfl, by simp, fun _ => rfl, by simp; exact ⟨hv, hu⟩⟩
  · exact ⟨[], e, μ, act_78_of x _ e μ μ fun W a T R h => gettwo_err (MT.same H) h0 h, he, fun _ => rfl, by simp, by simp, by simp⟩
theorem any_79 (x y z : Int) (hx : I64 x) (hy : I64 y) (hz : I64 z) (hm : μ.ok) : Any 79 3 [x, y, z] μ := by
  obtain ⟨v, e, hv, he, hin, H⟩ := get_all μ.B μ.h z hz
  by_cases h0 : e = 0
  · subst h0
    obtain ⟨o, rfl, ho2, ho3⟩ := hin rfl
    have hl := hm.hi
    have hw : wrap64 ((o : Int) + 8) = ((o + 8 : Nat) : Int) := by unfold wrap64; omega
    by_cases h2 : o + 16 ≤ μ.B.length
    · have K : MT 66 [.int .i64 (wrap64 ((o : Int) + 8)), .int .i64 x] (.int .i64 0) μ.B μ.h (splice μ.B (o + 8) (le8 x)) μ.h := by
        rw [hw]; exact MT.kept fun W p q m => mput_ok m (o + 8) x hx (by omega) (by omega)
      have hsl : (splice μ.B (o + 8) (le8 x)).length = μ.B.length := splice_len (by rw [show (le8 x).length = 8 from rfl]; omega)
      exact ⟨[], 0, _, act_79_of x y o 0 μ _ fun W a T R h => puttwo_ok (MT.same H) K (MT.kept fun W p q m => mput_ok m o y hy (by omega) ho3) h, by decide, fun e => absurd rfl e, by simp, by simp, by simp⟩
    · have K : MT 66 [.int .i64 (wrap64 ((o : Int) + 8)), .int .i64 x] (.int .i64 (-9)) μ.B μ.h μ.B μ.h := by
        rw [hw]; exact MT.same fun W p q m => put_err (Pt p) _ x (-9) W (cellat_no m _ (by unfold I64; omega) (noB (by omega)))
      exact ⟨[], -9, μ, act_79_of x y o (-9) μ _ fun W a T R h => puttwo_e2 (MT.same H) K (by decide) h, by decide, fun _ => rfl, by simp, by simp, by simp⟩
  · exact ⟨[], e, μ, act_79_of x y z e μ _ fun W a T R h => puttwo_e1 (MT.same H) h0 h, he, fun _ => rfl, by simp, by simp, by simp⟩
theorem any_80 (x y z : Int) (hx : I64 x) (hy : I64 y) (hz : I64 z) : Any 80 3 [x, y, z] μ := any_mt (fill_all μ.B μ.h x y (bt z) hx hy) fun er B1 h1 H => act_80_of x y z er B1 h1 μ H
theorem any_81 (x y z : Int) (hx : I64 x) (hy : I64 y) (hz : I64 z) : Any 81 3 [x, y, z] μ := any_mt (move_all μ.B μ.h x y z hx hy hz) fun er B1 h1 H => act_81_of x y z er B1 h1 μ H
theorem any_82 (hm : μ.ok) : Any 82 0 [] μ := ⟨[μ.h], 0, μ, act_82 μ, by decide, fun _ => rfl, by simp, fun _ => rfl, by have := hm.h0; have := hm.h1; have := hm.hi; simp; unfold I64; omega⟩
theorem any_83 (x : Int) (hx : I64 x) : Any 83 1 [x] μ := any_mt (allot_all μ.B μ.h x hx) fun er B1 h1 H => act_83_of x er B1 h1 μ H
theorem any_84 (x : Int) (hx : I64 x) : Any 84 1 [x] μ := any_mt (comma_all μ.B μ.h x hx) fun er B1 h1 H => act_84_of x er B1 h1 μ H
theorem any_85 (x : Int) (hx : I64 x) : Any 85 1 [x] μ := any_mt (ccomma_all μ.B μ.h (bt x)) fun er B1 h1 H => act_85_of x er B1 h1 μ H
theorem any_86 : Any 86 0 [] μ := any_mt (align_all μ.B μ.h) fun er B1 h1 H => act_86_of er B1 h1 μ H
theorem any_89 (x : Int) (hx : I64 x) : Any 89 1 [x] μ := by
  obtain ⟨c, e, he, H⟩ := getbyte_all μ.B μ.h x hx
  exact ⟨[wrap64 (x + 1), (c.toNat : Int)], e, μ, act_89_of x _ e μ μ fun W a T R h => count_of (MT.same H) h, he, fun _ => rfl, by simp, fun _ => rfl, by simp; exact ⟨i64_wrap _, byte_i64 c⟩⟩
theorem any_98 (x y : Int) (hx : I64 x) (hy : I64 y) (hm : μ.ok) : Any 98 2 [x, y] μ := by
  obtain ⟨s, e, he, hs, H⟩ := text_all μ.B μ.h x y hx hy hm.hi
  by_cases h0 : e = 0
  · subst h0
    exact ⟨[], 0, _, act_98_of x y _ 0 μ _ fun W a T R h => stored_ok (MT.same H) (by omega) h, by decide, fun e => absurd rfl e, by simp, by simp, by simp⟩
  · exact ⟨[], e, μ, act_98_of x y _ e μ μ fun W a T R h => stored_err (MT.same H) h0 h, he, fun _ => rfl, by simp, by simp, by simp⟩
theorem any_100 : Any 100 0 [] μ := any_mt (put_all μ.B μ.h 0 10 zero_i64 (by unfold I64; omega)) fun er B1 h1 H => act_100_of er B1 h1 μ H
theorem any_101 : Any 101 0 [] μ := any_mt (put_all μ.B μ.h 0 16 zero_i64 (by unfold I64; omega)) fun er B1 h1 H => act_101_of er B1 h1 μ H
end Go.Proofs.YtegcecpmdgljpaaGreatDoor
