/- Layer 4 (library): what the calls leave as it was; the tables of the library; numbers as decimal texts. No condition. -/
import Derived.Test.YtegcecpmdgljpaaGreatDoorMGR
import Derived.Test.YtegcecpmdgljpaaGreatDoorShelfBits
import Derived.Shelf.Spec.TrailingZeros
import Derived.Lib.AppendIntMem
namespace Go.Proofs.YtegcecpmdgljpaaGreatDoor
open Go.RowKit Go.Sort
set_option linter.unusedVariables false

/-- Nothing that was there in w has changed in w'. -/
def Far (w w' : World) : Prop := Below w.heap.size w w'
theorem Far.refl (w : World) : Far w w := Below.refl _ _
theorem Far.trans {a b c : World} (h : Far a b) (k : Far b c) : Far a c := Below.trans h (Below.mono k h.size)
theorem Far.drew {a b : World} (h : Far a b) : Far a b.drew := Below.drew h
theorem Far.drewN {a b : World} (h : Far a b) (n : Nat) : Far a (b.drewN n) := below_drewN h n
theorem Ext.far {a b : World} (h : Ext a b) : Far a b := h.1
theorem far_same {a b : World} (h : a = b) : Far a b := h ▸ Far.refl a
theorem far_same' {a b : World} (h : b = a) : Far a b := h ▸ Far.refl b
theorem far_grow (w : World) (k : Nat) (os : Array Obj) : Far w (grow (w.drewN k) os) := Lib.below_grow w.heap.size w (Nat.le_refl _) k os

/-- The library's own variables hold what their texts lay. -/
structure Good (W : World) : Prop where
  big : 5 ≤ W.heap.size
  pow : Lib.TabIs Tryz.prog W "internal/strconv.uint64pow10" .u64 Lib.pow10Tab
  bru : Lib.TabIs Tryz.prog W "math/bits.deBruijn64tab" .u8 (Lib.deBruijn64tab.map Int.ofNat)
theorem var_far {W W' : World} (h : Far W W') {n : String} {g : Nat} (hg : Tryz.prog.globalNamed n = some g) (hl : g < W.heap.size) : W'.var? Tryz.prog n = W.var? Tryz.prog n := by
  unfold World.var?
  rw [hg]
  show (match W'.heap[g]? with | some (.cells cs _ _) => some cs | _ => none) = _
  rw [h.block g hl]
  rfl
theorem cell_far {W W' : World} (h : Far W W') {b o : Nat} {v : Value} (hc : W.cell? ⟨b, o, none⟩ = some v) (hl : b < W.heap.size) : W'.cell? ⟨b, o, none⟩ = some v := by
  rw [Below.cell h (p := ⟨b, o, none⟩) hl]; exact hc
theorem Good.far {W W' : World} (g : Good W) (h : Far W W') : Good W' := by
  have hs := g.big
  refine ⟨Nat.le_trans g.big h.size, ?_, ?_⟩
  · exact (var_far h (show Tryz.prog.globalNamed "internal/strconv.uint64pow10" = some 4 by kernel_rfl) (by omega)).trans g.pow
  · exact (var_far h (show Tryz.prog.globalNamed "math/bits.deBruijn64tab" = some 3 by kernel_rfl) (by omega)).trans g.bru
/-- f at xs returns v, in whatever world behind w, and leaves what was there in w. -/
abbrev From (w : World) (f : FuncId) (xs : Array Value) (v : Value) : Prop := ∀ W, Far w W → Calls Tryz.prog f xs W fun e w' => e = .returned v ∧ Far w w'
theorem From.far {w : World} {f : FuncId} {xs : Array Value} {v : Value} (h : ∀ W, Calls Tryz.prog f xs W fun e w' => e = .returned v ∧ Far W w') : From w f xs v := fun W hw =>
  (h W).mono fun _ _ ⟨a, b⟩ => ⟨a, hw.trans b⟩
theorem From.ext {w : World} {f : FuncId} {xs : Array Value} {v : Value} (h : ∀ W, Calls Tryz.prog f xs W fun e w' => e = .returned v ∧ Ext W w') : From w f xs v := fun W hw =>
  (h W).mono fun _ _ ⟨a, b⟩ => ⟨a, hw.trans b.far⟩
theorem From.same {w : World} {f : FuncId} {xs : Array Value} {v : Value} (h : ∀ W, Calls Tryz.prog f xs W fun e w' => e = .returned v ∧ W = w') : From w f xs v := fun W hw =>
  (h W).mono fun _ _ ⟨a, b⟩ => ⟨a, b ▸ hw⟩
theorem From.good {w : World} (g : Good w) {f : FuncId} {xs : Array Value} {v : Value} (h : ∀ W, Good W → Calls Tryz.prog f xs W fun e w' => e = .returned v ∧ Far W w') : From w f xs v := fun W hw =>
  (h W (g.far hw)).mono fun _ _ ⟨a, b⟩ => ⟨a, hw.trans b⟩
theorem small_calls (i : Nat) (h : i < 100) (w : World) : Calls Tryz.prog 268 #[.int .i64 (i : Int)] w fun e w' => e = .returned (.string ⟨(Lib.decDigits i).toArray⟩) ∧ w = w' :=
  (Tryz.internal_strconv_small i h w).mono fun e w' ⟨a, b⟩ => ⟨a, b.symm⟩
set_option maxHeartbeats 2000000 in
set_option maxRecDepth 100000 in
theorem formatuint_in (u : Nat) (hu64 : u < 18446744073709551616) (w : World) (g : Good w) : Calls Tryz.prog 257 #[.int .u64 (u : Int), .int .i64 10] w fun e w' => e = .returned (.string ⟨(Lib.decDigits u).toArray⟩) ∧ Far w w' := by
  by_cases hs : u < 100
  · have hc := Lib.hid (small_calls u hs)
    have h1 : (u : Int) < 100 := by omega
    clear g
    go_enter Tryz.func257, Tryz.ntmps257
    go_wp2_with fail
    refine (hc.out _).mono ?_
    rintro e w' ⟨rfl, rfl⟩
    go_wp2_with fail
    go_ret
    exact ⟨rfl, Far.refl _⟩
  · have hu1 : 1 ≤ u := by omega
    have hnd20 : Lib.nDigits u ≤ 20 := by have := Lib.numDigits_eq u hu1 hu64; split at this <;> omega
    have htab := Lib.hid g.pow
    have iu : (100 : Int) ≤ (u : Int) := by omega
    have hal : Tryz.prog.arrayLen 203 = 24 := by kernel_rfl
    have hsl : ∀ W, (Instr.sliceAt 203 (.pointer (some ⟨w.heap.size, 0, none⟩)) none (some (.int .i64 (Lib.nDigits u : Int))) none).run Tryz.prog W = .ok (.slice (some ⟨w.heap.size, 0, none⟩) (Lib.nDigits u) 24) W := fun W => by
      rw [run_sliceAt_array_h W 203 ⟨w.heap.size, 0, none⟩ (by simp [Program.arrayLen, Program.elem, Tryz.underlying203]) .i64 (Lib.nDigits u : Int) (by omega) (by rw [hal]; omega)]
      go_simp
    have hH0 := Lib.holds_zero0 w 203 (Lib.nDigits u) (by omega)
    have hfmt := Tryz.internal_strconv_formatBase10 w.heap.size 0 24 u (Array.replicate (Lib.nDigits u) 0) (w.alloc (.cells Lib.zeros24 203)) hH0 (by rw [Array.size_replicate]; exact Lib.lt_pow_nDigits u) hu64 (by rw [Array.size_replicate]; omega)
    rw [Array.size_replicate] at hfmt
    have HH0 := Lib.hid hH0
    have HF := Lib.hid hfmt
    clear hH0 hal hfmt g
    have hnum := Lib.hid (Tryz.internal_strconv_numDigits u hu1 hu64 (w.alloc (.cells Lib.zeros24 203)) (Lib.tabIs_alloc htab.out _))
    clear htab
    go_enter Tryz.func257, Tryz.ntmps257
    go_wp2_with fail
    refine hnum.out.mono ?_
    rintro e w' ⟨rfl, rfl⟩
    go_wp2_with fail
    refine HF.out.mono ?_
    rintro e w' ⟨rfl, k, v', dk, rfl, hF⟩
    have hcv : (convert 59 9 (.slice (some ⟨w.heap.size, 0, none⟩) (Lib.nDigits u) 24)).run Tryz.prog ((putRow (fun (b : UInt8) => Value.int .u8 (b.toNat : Int)) (w.alloc (.cells Lib.zeros24 203)) w.heap.size 0 dk).drewN k) = .ok (.string ⟨(Lib.decDigits u).toArray⟩) ((putRow (fun (b : UInt8) => Value.int .u8 (b.toNat : Int)) (w.alloc (.cells Lib.zeros24 203)) w.heap.size 0 dk).drewN k) := by
      have h := run_convert_bytes_back (P := Tryz.prog) ((putRow (fun (b : UInt8) => Value.int .u8 (b.toNat : Int)) (w.alloc (.cells Lib.zeros24 203)) w.heap.size 0 dk).drewN k) 59 9 5 ⟨w.heap.size, 0, none⟩ 24 (Lib.decDigits u) Tryz.underlying59 Tryz.underlying5 Tryz.underlying9 (fun j hj => by
        rw [Lib.row_is_numeral hF j hj, Lib.add_plain, World.cell?_drewN]
        exact cell?_putRow (fun (b : UInt8) => Value.int .u8 (b.toNat : Int)) _ w.heap.size 0 _ dk HH0.out (by rw [hF.size, Array.size_replicate]) j (by rw [hF.size]; rw [Lib.decDigits_length] at hj; exact hj))
      rw [Lib.decDigits_length] at h
      exact h
    go_wp2_with fail
    go_ret
    obtain ⟨os, eo⟩ := Lib.fin_at w (.cells Lib.zeros24 203) dk k 0
    refine ⟨rfl, ?_⟩
    rw [eo]
    exact far_grow w k os
theorem formatuint_calls (u : Nat) (hu64 : u < 18446744073709551616) (w : World) (g : Good w) : Calls Tryz.prog 243 #[.int .u64 (u : Int), .int .i64 10] w fun e w' => e = .returned (.string ⟨(Lib.decDigits u).toArray⟩) ∧ Far w w' := by
  have hc := Lib.hid (formatuint_in u hu64 w g)
  clear g hu64
  go_enter Tryz.func243, Tryz.ntmps243
  go_wp2_with fail
  refine hc.out.mono ?_
  rintro e w' ⟨rfl, hx⟩
  go_wp2_with fail
  go_ret
  exact ⟨rfl, hx⟩
theorem itoa_calls (n : Int) (h : I64 n) (w : World) (g : Good w) : Calls Tryz.prog 214 #[.int .i64 n] w fun e w' => e = .returned (.string ⟨(Lib.itoa n).toArray⟩) ∧ Far w w' :=
  (Tryz.strconv_Itoa n h.1 h.2 w g.pow).mono fun e w' ⟨a, k, os, b⟩ => ⟨a, b ▸ far_grow w k os⟩
set_option maxHeartbeats 1000000 in
theorem tz_core (x k idx : Nat) (w : World) (hx0 : ((x : Int) == 0) = false)
    (key : IntKind.u64.wrap (bits BinOp.and IntKind.u64 (x : Int) (IntKind.u64.wrap (-(x : Int))) * 285870213051353865) / 288230376151711744 = (idx : Int))
    (hi : idx < 64) (hk : k < 64) (hcell : w.cell? ⟨3, idx, none⟩ = some (.int .u8 k)) :
    Calls Tryz.prog 242 #[.int .u64 x] w fun e w' => e = .returned (.int .i64 k) ∧ w = w' := by
  go_enter Tryz.func242, Tryz.ntmps242
  go_wp2_with (simp only [key])
  go_ret
  exact ⟨rfl, rfl⟩
theorem tz_calls (x : Nat) (hx : x < 18446744073709551616) (hx0 : x ≠ 0) (w : World) (g : Good w) : Calls Tryz.prog 242 #[.int .u64 x] w fun e w' => e = .returned (.int .i64 (Lib.ctz 64 x : Nat)) ∧ w = w' := by
  obtain ⟨hlow, hk⟩ := Lib.lowest_bit 64 x hx0 hx
  obtain ⟨hi, htab⟩ := Lib.deBruijn64_at _ hk
  have hl : (Lib.deBruijn64tab.map Int.ofNat).length = 64 := by decide +kernel
  have hcell := g.bru.cell (show Tryz.prog.globalNamed "math/bits.deBruijn64tab" = some 3 by kernel_rfl) _ (by rw [hl]; exact hi)
  have e : (Lib.deBruijn64tab.map Int.ofNat).getD (2 ^ Lib.ctz 64 x * 285870213051353865 % 18446744073709551616 / 288230376151711744) 0 = ((Lib.ctz 64 x : Nat) : Int) := by
    refine Eq.trans ?_ (congrArg Int.ofNat htab)
    rw [List.getD_eq_getElem?_getD, List.getElem?_map, List.getD_eq_getElem?_getD]
    cases Lib.deBruijn64tab[2 ^ Lib.ctz 64 x * 285870213051353865 % 18446744073709551616 / 288230376151711744]? with
    | none => rfl
    | some n => rfl
  rw [e] at hcell
  exact tz_core x _ _ w (by simp; omega) (tz64_key x _ hx hx0 hlow) hi hk hcell
end Go.Proofs.YtegcecpmdgljpaaGreatDoor
