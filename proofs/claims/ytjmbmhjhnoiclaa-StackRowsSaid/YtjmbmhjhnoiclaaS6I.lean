/- Layer 6: the document's stack: cells put, taken. Condition: block q is such a stack (Rf), apart from block p. -/
import Derived.Test.YtjmbmhjhnoiclaaS6H
namespace Go.Proofs.Ytjmbmhjhnoiclaa
open Go.RowKit
set_option linter.unusedVariables false

theorem addr_zero (x : Addr) : x.add 0 = x := by unfold Addr.add; simp
theorem Try.sizeCell : ∀ w, (Go.sizeOf 31).run Try.prog w = .ok 1 w := fun w => by kernel_rfl
theorem Try.elemCells : Try.prog.elem 27 = 31 := by kernel_rfl
/-- 's[:k]'. -/
theorem cells_upto (W : World) (A : Option Addr) (len cap k : Nat) (hk : k ≤ cap) :
    (Instr.sliceAt 27 (.slice A len cap) none (some (.int .i64 (k : Int))) none).run Try.prog W = .ok (.slice A k cap) W := by
  have ht' : Try.prog.underlying 27 = some (.slice (Try.prog.elem 27)) := by rw [Try.elemCells]; exact Try.underlying27
  rw [run_sliceAt_slice W 27 _ _ _ _ ht', run_slice_h W 27 A len cap ht' .i64 k (by omega) (by omega), Try.elemCells, Try.sizeCell]
  show Result.ok (sliced A 0 (k : Int).toNat cap 1) W = _
  unfold sliced
  have e1 : (if cap = 0 then A else A.map fun x => x.add (0 * 1)) = A := by
    split
    · rfl
    · cases A with
      | none => rfl
      | some x => show some (x.add (0 * 1)) = _; rw [Nat.zero_mul, addr_zero]
  rw [e1, Int.toNat_natCast, Nat.sub_zero, Nat.sub_zero]
/-- Where 's[a:]' begins. -/
def fromA (A : Option Addr) (a cap : Nat) : Option Addr := if cap = a then A else A.map fun x => x.add a
theorem cells_from_to (W : World) (A : Option Addr) (len cap a k : Nat) (hak : a ≤ k) (hk : k ≤ cap) :
    (Instr.sliceAt 27 (.slice A len cap) (some (.int .i64 (a : Int))) (some (.int .i64 (k : Int))) none).run Try.prog W = .ok (.slice (fromA A a cap) (k - a) (cap - a)) W := by
  have ht' : Try.prog.underlying 27 = some (.slice (Try.prog.elem 27)) := by rw [Try.elemCells]; exact Try.underlying27
  rw [run_sliceAt_slice W 27 _ _ _ _ ht', run_slice_lh W 27 A len cap ht' .i64 .i64 a k (by omega) (by omega) (by omega), Try.elemCells, Try.sizeCell]
  show Result.ok (sliced A (a : Int).toNat (k : Int).toNat cap 1) W = _
  unfold sliced fromA
  rw [Int.toNat_natCast, Int.toNat_natCast, Nat.mul_one]
theorem cells_from_on (W : World) (A : Option Addr) (len cap a : Nat) (hak : a ≤ len) (hk : len ≤ cap) :
    (Instr.sliceAt 27 (.slice A len cap) (some (.int .i64 (a : Int))) none none).run Try.prog W = .ok (.slice (fromA A a cap) (len - a) (cap - a)) W := by
  have ht' : Try.prog.underlying 27 = some (.slice (Try.prog.elem 27)) := by rw [Try.elemCells]; exact Try.underlying27
  rw [run_sliceAt_slice W 27 _ _ _ _ ht', run_slice_l W 27 A len cap ht' .i64 a (by omega) (by omega), Try.elemCells, Try.sizeCell]
  show Result.ok (sliced A (a : Int).toNat len cap 1) W = _
  unfold sliced fromA
  rw [Int.toNat_natCast, Nat.mul_one]
theorem fromA_none {A : Option Addr} {a cap : Nat} (h : A = none → cap = 0) : fromA A a cap = none → cap - a = 0 := fun e => by
  unfold fromA at e
  split at e
  · omega
  · cases A with
    | none => have := h rfl; omega
    | some x => simp at e
theorem Sl.drop {w : World} {A : Option Addr} {X : List Int} (h : Sl w A X) (a cap : Nat) (hc : X.length ≤ cap) : Sl w (fromA A a cap) (X.drop a) := fun j hj => by
  have hj' : a + j < X.length := by simp at hj; omega
  obtain ⟨b, off, rfl, hx⟩ := h (a + j) hj'
  refine ⟨b, off + a, ?_, ?_⟩
  · unfold fromA
    rw [if_neg (by omega)]
    show some ((⟨b, off, none⟩ : Addr).add a) = _
    congr 1
    unfold Addr.add
    split <;> simp_all
  · rw [Nat.add_assoc, hx]
    simp
theorem fromA_block {A : Option Addr} {a cap : Nat} {P : Nat → Prop} (h : ∀ x, A = some x → P x.block) : ∀ x, fromA A a cap = some x → P x.block := fun x e => by
  unfold fromA at e
  split at e
  · exact h x e
  · cases A with
    | none => simp at e
    | some y =>
      simp at e
      subst e
      have := h y rfl
      unfold Addr.add
      split <;> exact this
set_option maxRecDepth 10000 in
theorem rpush_no {w : World} {p q : Nat} {X : List Int} {A : Option Addr} {cap : Nat} (h : Rf w p q X A cap) (x : Int) (hb : ¬ X.length < 128) :
    Calls Try.prog 25 #[Pt q, .int .i64 x] w fun e w' => e = .returned (.int .i64 (-3)) ∧ w = w' := by
  have hc := h.c
  obtain ⟨n, hn⟩ : ∃ n, n = X.length := ⟨_, rfl⟩
  rw [← hn] at hc hb
  have hb1 : (128 : Int) ≤ (n : Int) := by omega
  clear h hn hb
  go_enter Try.func25, Try.ntmps25
  go_wp2
  go_ret
  exact ⟨rfl, rfl⟩
theorem rput_no {w : World} {p q : Nat} {X : List Int} {A : Option Addr} {cap : Nat} (h : Rf w p q X A cap) (B : Option Addr) (m c : Nat) (hm : m ≤ 9223372036854775807) (hb : ¬ X.length + m ≤ 128) :
    Calls Try.prog 28 #[Pt q, .slice B m c] w fun e w' => e = .returned (.int .i64 (-3)) ∧ w = w' := by
  have hc := h.c
  have hn1 := h.n
  obtain ⟨n, hn⟩ : ∃ n, n = X.length := ⟨_, rfl⟩
  rw [← hn] at hc hb hn1
  clear h hn
  go_enter Try.func28, Try.ntmps28
  go_wp2
  go_ret
  exact ⟨rfl, rfl⟩
set_option maxHeartbeats 1000000 in
set_option maxRecDepth 10000 in
theorem rput_ok {w : World} {p q : Nat} {X : List Int} {A : Option Addr} {cap : Nat} (h : Rf w p q X A cap) (hp : p < w.heap.size) {B : Option Addr} {m c : Nat} {Z : List Int} (hs : Sl w B Z) (hm : m = Z.length) (hB0 : B = none → c = 0) (hB : ∀ x, B = some x → x.block < w.heap.size) (hI : ∀ x ∈ Z, I64 x) (hb : X.length + m ≤ 128) :
    Calls Try.prog 28 #[Pt q, .slice B m c] w (RTurns p q w (.int .i64 0) (X ++ Z)) := by
  have hc := h.c
  have k1 := Wk.start h hp
  have s1 := hs.far k1.m
  have hc1 := k1.r.c
  obtain ⟨n, hn⟩ : ∃ n, n = X.length := ⟨_, rfl⟩
  rw [← hn] at hc hc1
  have K1 := Lib.hid k1
  have S1 := Lib.hid s1
  have HN := Lib.hid hn
  have HM := Lib.hid hm
  have hb2 : ¬ (128 : Int) - (n : Int) < (m : Int) := by omega
  have hb3 : (n : Int) ≤ 128 := by omega
  have HI := Lib.hid (all_app h.i hI)
  have HB0 := Lib.hid hB0
  have HB := Lib.hid hB
  have hn2 : n + m ≤ 128 := by omega
  clear h k1 hn hb hs s1 hm hI hB0 hB
  go_enter Try.func28, Try.ntmps28
  go_wp2_with (refine wpList_app rfl (.tmp 15) (.tmp 19) rfl K1.out.o K1.out.r.s rfl HN.out K1.out.r.a (by have := K1.out.r.n; simp; omega) rfl rfl ?_)
  intro b2 c2 W2 o2 m2 l2
  have k2 := K1.out.app o2 m2 l2
  have s2 := S1.out.mod m2 (fun x hx => by have := HB.out x hx; simp; omega)
  have hc3 := k2.r.c
  have hf3 := k2.r.f
  rw [← HN.out] at hc3
  have K3 := Lib.hid k2
  have S3 := Lib.hid s2
  clear K1 o2 m2 l2 k2 s2 S1
  go_wp2_with (refine wpList_app rfl (.tmp 20) (.tmp 21) rfl K3.out.o S3.out HN.out HM.out HB0.out (by have := K3.out.r.n; have := HM.out; simp; omega) rfl rfl ?_)
  intro b4 c4 W4 o4 m4 l4
  have k4 := K3.out.app o4 m4 l4
  have hc4 := k4.r.c
  have hf4 := k4.r.f
  have HF := Lib.hid (k4.fin (by simp; have := HN.out; have := HM.out; omega) HI.out (m := n + m) (by simp [HN.out, HM.out]))
  clear K3 S3 o4 m4 l4 k4
  go_wp2
  go_ret
  exact ⟨rfl, HF.out⟩
theorem rpop_none {w : World} {p q : Nat} {A : Option Addr} {cap : Nat} (h : Rf w p q [] A cap) :
    Calls Try.prog 26 #[Pt q] w fun e w' => e = .returned (.tuple #[.int .i64 0, .int .i64 (-4)]) ∧ w = w' := by
  have hc : w.cell? ⟨q, 0, none⟩ = some (.slice A 0 cap) := h.c
  clear h
  go_enter Try.func26, Try.ntmps26
  go_wp2
  go_ret2
  exact ⟨rfl, rfl⟩
set_option maxRecDepth 10000 in
theorem rpop_some {w : World} {p q : Nat} {R : List Int} {x : Int} {A : Option Addr} {cap : Nat} (h : Rf w p q (R ++ [x]) A cap) :
    Calls Try.prog 26 #[Pt q] w (RTurns p q w (.tuple #[.int .i64 x, .int .i64 0]) R) := by
  have hc := h.c
  have hf := h.f
  have hm := h.m
  obtain ⟨b, off, rfl, hx⟩ := h.s R.length (by simp)
  rw [List.getElem_concat_length rfl] at hx
  have hu := h.upto R.length (by simp)
  rw [List.take_left] at hu
  have hsl := fun W => cells_upto W (some ⟨b, off, none⟩) (R.length + 1) cap R.length (by simp at hm; omega)
  have HU := Lib.hid (And.intro hu ((Mod.refl [q] w).one (p := q) (by simp) 0 (.slice (some ⟨b, off, none⟩) R.length cap)))
  simp only [List.length_append, List.length_singleton] at hc hm
  have hn := h.n
  simp only [List.length_append, List.length_singleton] at hn
  obtain ⟨n, hne⟩ : ∃ n, n = R.length := ⟨_, rfl⟩
  rw [← hne] at hc hm hx hsl HU hn
  have g1 : ((n + 1 : Nat) : Int) = (n : Int) + 1 := rfl
  have g2 : (n : Int) ≤ 127 := by omega
  clear h hu hne
  go_enter Try.func26, Try.ntmps26
  go_wp2
  go_ret2
  exact ⟨rfl, ⟨_, _, HU.out.1⟩, HU.out.2⟩
end Go.Proofs.Ytjmbmhjhnoiclaa
