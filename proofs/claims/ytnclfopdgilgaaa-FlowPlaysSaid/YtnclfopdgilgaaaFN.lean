/- Layer 11 (package flow): matches, hasRoom. Condition: the block is a builder (Bv) of at most 1000 instructions and parts. -/
import Derived.Test.YtnclfopdgilgaaaFM
namespace Go.Proofs.Ytnclfopdgilgaaa
open Go.RowKit
set_option linter.unusedVariables false

abbrev rowV (nv : Value) (wi la : Nat) (op : Bool) (f p : Nat) : Value := .agg #[nv, .int .i64 (wi : Int), .int .u8 (la : Int), .bool op, .func (.func f) #[Pt p] #[]]
theorem five_at {W : World} {b : Nat} {x y z u v : Value} {t : TypeId} (h : W.heap[b]? = some (.cells #[x, y, z, u, v] t (0, 0))) :
    W.cell? ⟨b, 0, none⟩ = some x ∧ W.cell? ⟨b, 1, none⟩ = some y ∧ W.cell? ⟨b, 2, none⟩ = some z ∧ W.cell? ⟨b, 3, none⟩ = some u ∧ W.cell? ⟨b, 4, none⟩ = some v := by
  refine ⟨?_, ?_, ?_, ?_, ?_⟩ <;> (simp only [World.cell?, h]; rfl)
set_option maxHeartbeats 2000000 in
set_option maxRecDepth 100000 in
theorem matches_calls {w : World} {p : Nat} {vc vo : Value} {O : List (Pk × Value)} {L : List Xi} (h : Bv TB TP w p vc vo O L) (hd : O.length ≤ 1000) {nv : Value} {ks : List Nat} (hk : KdAt w nv ks) (hk2 : ks.length ≤ 1000) (wi la : Nat) (op : Bool) (f : Nat) (a : Nat) :
    Calls Try.prog 28 #[Pt p, rowV nv wi la op f p] w fun e w' => e = .returned (.bool (fitsB ⟨ks, wi, la, op, a⟩ (O.map Prod.fst))) ∧ Mod [] w w' := by
  have hk0 := hk
  obtain ⟨Ak, ck, rfl, _⟩ := hk0
  obtain ⟨m, hm⟩ : ∃ m, m = ks.length := ⟨_, rfl⟩
  rw [← hm] at hk ⊢
  have mA := (Mod.refl [] w).alloc (.cells #[.slice Ak m ck, .int .i64 (wi : Int), .int .u8 (la : Int), .bool op, .func (.func f) #[Pt p] #[]] 66)
  obtain ⟨b0, b1, _, _, _⟩ := five_at (MapKept.heap_alloc w (.cells #[.slice Ak m ck, .int .i64 (wi : Int), .int .u8 (la : Int), .bool op, .func (.func f) #[Pt p] #[]] 66)).1
  have H1 := Lib.hid (ends_calls (h.far mA) hd (hk.far mA) hk2)
  have H2 := Lib.hid (topmost_calls (h.far mA) hd wi (wi : Int) rfl)
  obtain ⟨r1, hr1⟩ : ∃ r1, r1 = endsB ks (O.map Prod.fst) := ⟨_, rfl⟩
  obtain ⟨tm, htm⟩ : ∃ tm, tm = topmost wi (O.map Prod.fst) := ⟨_, rfl⟩
  have hfit : fitsB ⟨ks, wi, la, op, a⟩ (O.map Prod.fst) = (r1 && (decide (wi = 0) || decide (0 ≤ tm))) := by rw [hr1, htm]; rfl
  rw [hfit]
  rw [← hr1] at H1
  rw [← htm] at H2
  have HM := Lib.hid mA
  clear h hk hd hk2 mA hfit hr1 htm hm
  cases r1 with
  | false =>
    go_enter Try.func28, Try.ntmps28
    go_wp2_with fail
    refine (H1.out).mono ?_
    rintro e w1 ⟨rfl, rfl⟩
    go_wp2_with fail
    go_ret
    exact ⟨by simp, HM.out⟩
  | true =>
    by_cases hw : wi = 0
    · have q1 : ((wi : Int) == 0) = true := by rw [hw]; rfl
      have HW := Lib.hid hw
      clear hw
      go_enter Try.func28, Try.ntmps28
      go_wp2_with fail
      refine (H1.out).mono ?_
      rintro e w1 ⟨rfl, rfl⟩
      go_wp2_with fail
      go_ret
      exact ⟨by simp [HW.out], HM.out⟩
    · have q1 : ((wi : Int) == 0) = false := by rw [beq_eq_false_iff_ne]; omega
      have HW := Lib.hid hw
      clear hw
      go_enter Try.func28, Try.ntmps28
      go_wp2_with fail
      refine (H1.out).mono ?_
      rintro e w1 ⟨rfl, rfl⟩
      go_wp2_with fail
      refine (H2.out).mono ?_
      rintro e w2 ⟨rfl, hm2⟩
      have HM2 := Lib.hid (HM.out.trans hm2)
      clear hm2
      go_wp2_with fail
      go_ret
      exact ⟨by simp [HW.out], HM2.out⟩
set_option maxHeartbeats 2000000 in
set_option maxRecDepth 100000 in
theorem room_calls {w : World} {p : Nat} {vc vo : Value} {O : List (Pk × Value)} {L : List Xi} (h : Bv TB TP w p vc vo O L) (hd : O.length ≤ 1000) (hl : L.length ≤ 1000) (Ak : Option Addr) (m ck : Nat) (ks : List Nat) (wi la : Nat) (hla : la < 256) (op : Bool) (f : Nat) (a : Nat) :
    Calls Try.prog 29 #[Pt p, rowV (.slice Ak m ck) wi la op f p] w fun e w' => e = .returned (.bool (roomB ⟨ks, wi, la, op, a⟩ ⟨L, O.map Prod.fst⟩)) ∧ Mod [] w w' := by
  have mA := (Mod.refl [] w).alloc (.cells #[.slice Ak m ck, .int .i64 (wi : Int), .int .u8 (la : Int), .bool op, .func (.func f) #[Pt p] #[]] 66)
  obtain ⟨_, _, b2, b3, _⟩ := five_at (MapKept.heap_alloc w (.cells #[.slice Ak m ck, .int .i64 (wi : Int), .int .u8 (la : Int), .bool op, .func (.func f) #[Pt p] #[]] 66)).1
  obtain ⟨A0, cap0, hvc, _⟩ := h.code_slice
  obtain ⟨A1, cap1, hvo, _⟩ := h.open_slice
  have k0 := (h.far mA).c0
  have k1 := (h.far mA).c1
  obtain ⟨nl, hnl⟩ : ∃ nl, nl = L.length := ⟨_, rfl⟩
  obtain ⟨no, hno⟩ : ∃ no, no = O.length := ⟨_, rfl⟩
  rw [hvc, ← hnl] at k0
  rw [hvo, ← hno] at k1
  have hroom : roomB ⟨ks, wi, la, op, a⟩ ⟨L, O.map Prod.fst⟩ = ((decide (la = 0) || decide (nl < 499)) && (!op || decide (no < 32))) := by
    unfold roomB
    simp only [List.length_map]
    rw [hnl, hno]
  rw [hroom]
  have hlI : (nl : Int) ≤ 1000 := by omega
  have hoI : (no : Int) ≤ 1000 := by omega
  have HM := Lib.hid mA
  clear h mA hroom hvc hvo hnl hno hd hl
  by_cases hw : la = 0
  · have q1 : ((la : Int) == 0) = true := by rw [hw]; rfl
    have HW := Lib.hid hw
    clear hw
    cases op with
    | false =>
      go_enter Try.func29, Try.ntmps29
      go_wp2_with fail
      go_ret
      exact ⟨by simp [HW.out], HM.out⟩
    | true =>
      go_enter Try.func29, Try.ntmps29
      go_wp2_with fail
      go_ret
      exact ⟨by simp [HW.out]; omega, HM.out⟩
  · have q1 : ((la : Int) == 0) = false := by rw [beq_eq_false_iff_ne]; omega
    have HW := Lib.hid hw
    clear hw
    by_cases h9 : nl < 499
    · have h9I : (nl : Int) < 499 := by omega
      cases op with
      | false =>
        go_enter Try.func29, Try.ntmps29
        go_wp2_with fail
        go_ret
        exact ⟨by simp [h9], HM.out⟩
      | true =>
        go_enter Try.func29, Try.ntmps29
        go_wp2_with fail
        go_ret
        exact ⟨by simp [h9]; omega, HM.out⟩
    · have h9I : ¬ (nl : Int) < 499 := by omega
      go_enter Try.func29, Try.ntmps29
      go_wp2_with fail
      go_ret
      exact ⟨by simp [HW.out], HM.out⟩
end Go.Proofs.Ytnclfopdgilgaaa
