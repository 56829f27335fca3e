/- Layer 2 (package pair): the three divisions. Condition: cells are integers of 64 bits. -/
import Derived.Test.YtfehpfcpeiopiaaC2ProgD
namespace Go.Proofs.Ytfehpfcpeiopiaa
open Go.RowKit
set_option linter.unusedVariables false

/-- Is an integer a cell? -/
def cel (q : Int) : Bool := decide (-9223372036854775808 ≤ q ∧ q ≤ 9223372036854775807)
theorem cel_yes {q : Int} (h : cel q = true) : I64 q := by unfold cel at h; simpa [I64] using h
theorem cel_no {q : Int} (h : cel q = false) : ¬ I64 q := by unfold cel at h; simpa [I64] using h
theorem cel_of {q : Int} (h : I64 q) : cel q = true := by unfold cel; simpa [I64] using h
/-- What a division tells: nothing by 0, nothing beyond; its code. -/
def okR (z ok : Bool) (r : Int) : Int := if z then 0 else if ok then r else 0
def okE (z ok : Bool) : Int := if z then -10 else if ok then 0 else -11
theorem in_range (q : Int) (h0 : -170141183460469231731687303715884105728 ≤ q) (h1 : q ≤ 170141183460469231731687303715884105728) :
    (lo q == lo (lo q) && hi q == hi (lo q)) = cel q := by
  rw [fits_is (lo q) (hi q) (lo_i64 q) (hi_i64 q), cel]
  rw [decide_eq_decide]
  unfold V U lo hi wrap64
  omega
theorem of_held (w0 : World) (a : Int) (ha : I64 a) (w : World) (p q : Addr) (x y : Value) (h : (w.cell? p = some x ∧ w.cell? q = some y) ∧ Ext w0 w) :
    Calls Try.prog 19 #[.int .i64 a] w fun e w' => e = .returned (.agg #[.int .i64 (lo a), .int .i64 (hi a)]) ∧ ((w'.cell? p = some x ∧ w'.cell? q = some y) ∧ Ext w0 w') :=
  (of_calls w a ha w (Ext.refl w)).mono fun e w' ⟨he, hx⟩ => ⟨he, ⟨ext_keeps hx h.1.1, ext_keeps hx h.1.2⟩, h.2.trans hx⟩
set_option maxRecDepth 100000 in
theorem incells_calls (w0 : World) (r q : Int) (h0 : -170141183460469231731687303715884105728 ≤ q) (h1 : q ≤ 170141183460469231731687303715884105728) (w : World) (h : Ext w0 w) :
    Calls Try.prog 44 #[.int .i64 r, .agg #[.int .i64 (lo q), .int .i64 (hi q)]] w fun e w' => e = .returned (.tuple #[.int .i64 (okR false (cel q) r), .int .i64 (okR false (cel q) q), .int .i64 (okE false (cel q))]) ∧ Ext w0 w' := by
  have HE := in_range q h0 h1
  have hlq : cel q = true → lo q = q := fun hc => wrap_id (cel_yes hc)
  have hc := Lib.hid (fun W p q' x y hW => of_held w0 (lo q) (lo_i64 q) W p q' x y hW)
  clear h0 h1
  obtain ⟨a, ha⟩ : ∃ a, a = lo q := ⟨_, rfl⟩
  obtain ⟨b, hb⟩ : ∃ a, a = hi q := ⟨_, rfl⟩
  rw [← ha] at HE hc hlq ⊢
  rw [← hb] at HE ⊢
  clear ha hb
  obtain ⟨x, hx⟩ : ∃ x, x = lo a := ⟨_, rfl⟩
  obtain ⟨y, hy⟩ : ∃ x, x = hi a := ⟨_, rfl⟩
  rw [← hx, ← hy] at HE hc
  clear hx hy
  by_cases hcq : cel q = true
  · rw [hcq] at HE
    obtain rfl : a = q := hlq hcq
    rw [hcq]
    clear hlq hcq
    go_enter Try.func44, Try.ntmps44
    go_wp2_with fail
    have hX := h.cells #[Value.int .i64 a, Value.int .i64 b] 24
    go_region_held3 (fun W => (W.cell? ⟨w.heap.size, 0, none⟩ = some (.int .i64 a) ∧ W.cell? ⟨w.heap.size, 1, none⟩ = some (.int .i64 b)) ∧ Ext w0 W) (first | exact ⟨⟨by simp, by simp⟩, hX.drew⟩ | exact hx | assumption)
      (first | (go_at_call 19; refine (hc.out _ ⟨w.heap.size, 0, none⟩ ⟨w.heap.size, 1, none⟩ (.int .i64 a) (.int .i64 b) ?_).mono ?_; assumption; rintro e w' ⟨rfl, hx⟩))
    have k0 := hx.1.1
    have hE := hx.2
    go_wp2_with fail
    go_region
    go_wp2
    go_ret3
    exact ⟨rfl, hE.drew⟩
  · have hcf : cel q = false := by simpa using hcq
    rw [hcf] at HE
    rw [hcf]
    clear hlq hcq hcf
    go_enter Try.func44, Try.ntmps44
    go_wp2_with fail
    have hX := h.cells #[Value.int .i64 a, Value.int .i64 b] 24
    go_region_held3 (fun W => (W.cell? ⟨w.heap.size, 0, none⟩ = some (.int .i64 a) ∧ W.cell? ⟨w.heap.size, 1, none⟩ = some (.int .i64 b)) ∧ Ext w0 W) (first | exact ⟨⟨by simp, by simp⟩, hX.drew⟩ | exact hx | assumption)
      (first | (go_at_call 19; refine (hc.out _ ⟨w.heap.size, 0, none⟩ ⟨w.heap.size, 1, none⟩ (.int .i64 a) (.int .i64 b) ?_).mono ?_; assumption; rintro e w' ⟨rfl, hx⟩))
    have hE := hx.2
    go_wp2
    go_ret3
    exact ⟨rfl, hE⟩

theorem trunc_bd (v b : Int) (hv : -170141183460469231731687303715884105728 ≤ v ∧ v ≤ 170141183460469231731687303715884105727) : -170141183460469231731687303715884105728 ≤ v.tdiv b ∧ v.tdiv b ≤ 170141183460469231731687303715884105728 := by
  have h : (v.tdiv b).natAbs ≤ v.natAbs := by rw [Int.natAbs_tdiv]; exact Nat.div_le_self _ _
  omega
/-- The two contracts of the signed division that rounds towards 0: by 0, and else. -/
theorem trunc_calls (w0 : World) (a c b : Int) (ha : I64 a) (hc : I64 c) (hb : I64 b) (w : World) (h : Ext w0 w) :
    Calls Try.prog 33 #[.agg #[.int .i64 a, .int .i64 c], .int .i64 b] w fun e w' => e = .returned (.tuple #[.int .i64 (okR (b == 0) (cel ((V a c).tdiv b)) ((V a c).tmod b)), .int .i64 (okR (b == 0) (cel ((V a c).tdiv b)) ((V a c).tdiv b)), .int .i64 (okE (b == 0) (cel ((V a c).tdiv b)))]) ∧ Ext w0 w' := by
  by_cases hz : b = 0
  · subst hz
    generalize cel ((V a c).tdiv 0) = k
    generalize (V a c).tdiv 0 = q
    generalize (V a c).tmod 0 = r
    clear ha hc hb
    go_enter Try.func33, Try.ntmps33
    go_wp2
    go_ret3
    exact ⟨rfl, h.cells _ _⟩
  · have hbd := trunc_bd (V a c) b (V_bd hc)
    have hz2 : (b == 0) = false := by simpa using hz
    have htr := Lib.hid (fun w => truncate_calls w a c b ha hc hb hz w (Ext.refl w))
    rw [hz2]
    have hz3 : ¬ b = 0 := hz
    obtain ⟨q, hq⟩ : ∃ q, q = (V a c).tdiv b := ⟨_, rfl⟩
    obtain ⟨r, hr⟩ : ∃ q, q = (V a c).tmod b := ⟨_, rfl⟩
    rw [← hq] at hbd htr ⊢
    rw [← hr] at htr ⊢
    have hin := Lib.hid (fun w => incells_calls w r q hbd.1 hbd.2 w (Ext.refl w))
    obtain ⟨l, hl⟩ : ∃ q', q' = lo q := ⟨_, rfl⟩
    obtain ⟨m, hm⟩ : ∃ q', q' = hi q := ⟨_, rfl⟩
    obtain ⟨o1, ho1⟩ : ∃ q', q' = okR false (cel q) r := ⟨_, rfl⟩
    obtain ⟨o2, ho2⟩ : ∃ q', q' = okR false (cel q) q := ⟨_, rfl⟩
    obtain ⟨o3, ho3⟩ : ∃ q', q' = okE false (cel q) := ⟨_, rfl⟩
    rw [← hl, ← hm] at htr hin
    rw [← ho1, ← ho2, ← ho3] at hin ⊢
    clear hq hr hl hm ho1 ho2 ho3 hbd ha hc hb hz
    go_enter Try.func33, Try.ntmps33
    go_wp2_with fail
    refine (htr.out _).mono ?_
    rintro e w1 ⟨rfl, hx1⟩
    have hX := (h.cells _ _).trans hx1
    clear h hx1 htr
    go_wp2_with fail
    refine (hin.out _).mono ?_
    rintro e w2 ⟨rfl, hx2⟩
    have hX2 := hX.trans hx2
    clear hX hx2 hin
    go_wp2
    go_ret3
    exact ⟨rfl, hX2⟩
end Go.Proofs.Ytfehpfcpeiopiaa
