/- The contracts of package cell: One, Two, Many and Truth return what the plain functions oneV, twoV and their kin tell, for all integers. No condition. -/
import Derived.Test.YtegcecpmdgljpaaGreatDoorC1Base
namespace Go.Proofs.YtegcecpmdgljpaaGreatDoor
open Go.RowKit
set_option linter.unusedVariables false

def truth (b : Bool) : Int := if b then -1 else 0
def quo (a b : Int) : Int := if (wrap64 (wrap64 (a.tdiv b) * b) != a && (decide (a < 0) != decide (b < 0))) = true then wrap64 (wrap64 (a.tdiv b) - 1) else wrap64 (a.tdiv b)
def rem (a b : Int) : Int := if (a.tmod b != 0 && (decide (a.tmod b < 0) != decide (b < 0))) = true then wrap64 (a.tmod b + b) else a.tmod b
def shl (a b : Int) : Int := wrap64 (a * 2 ^ min (IntKind.u64.wrap b).toNat 64)
def shr (a b : Int) : Int := wrap64 (IntKind.u64.wrap a / 2 ^ min (IntKind.u64.wrap b).toNat 64)
def lower (a b : Int) : Int := if a ≤ b then a else b
def upper (a b : Int) : Int := if a ≤ b then b else a

def twoV (op a b : Int) : Int := if b = 0 ∧ (op = 14 ∨ op = 15) then 0 else if op = 11 then wrap64 (a + b) else if op = 12 then wrap64 (a - b) else if op = 13 then wrap64 (a * b) else if op = 14 then quo a b else if op = 15 then rem a b else if op = 16 then bits .and .i64 a b else if op = 17 then bits .or .i64 a b else if op = 18 then bits .xor .i64 a b else if op = 19 then shl a b else if op = 20 then shr a b else if op = 21 then truth (a == b) else if op = 22 then truth (a != b) else if op = 23 then truth (decide (a < b)) else if op = 24 then truth (decide (b < a)) else if op = 25 then truth (decide (IntKind.u64.wrap a < IntKind.u64.wrap b)) else if op = 26 then lower a b else if op = 27 then upper a b else 0
def twoE (op b : Int) : Int := if op < 11 ∨ 27 < op then 1 else if b = 0 ∧ (op = 14 ∨ op = 15) then -10 else 0

theorem truth_calls (b : Bool) (w : World) : Calls Tryz.prog 186 #[.bool b] w fun e w' => e = .returned (.int .i64 (truth b)) ∧ w = w' := by
  cases b <;> (go_enter Tryz.func186, Tryz.ntmps186; go_wp2; go_ret; exact ⟨rfl, rfl⟩)

set_option maxRecDepth 100000 in
theorem leaf11 (a b : Int) (w : World) : Calls Tryz.prog 216 #[.int .i64 a, .int .i64 b] w fun e w' => e = .returned (.int .i64 (wrap64 (a + b))) ∧ w = w' := by
  go_enter Tryz.func216, Tryz.ntmps216
  go_wp2
  go_ret
  exact ⟨rfl, rfl⟩
set_option maxRecDepth 100000 in
theorem leaf12 (a b : Int) (w : World) : Calls Tryz.prog 217 #[.int .i64 a, .int .i64 b] w fun e w' => e = .returned (.int .i64 (wrap64 (a - b))) ∧ w = w' := by
  go_enter Tryz.func217, Tryz.ntmps217
  go_wp2
  go_ret
  exact ⟨rfl, rfl⟩
set_option maxRecDepth 100000 in
theorem leaf13 (a b : Int) (w : World) : Calls Tryz.prog 218 #[.int .i64 a, .int .i64 b] w fun e w' => e = .returned (.int .i64 (wrap64 (a * b))) ∧ w = w' := by
  go_enter Tryz.func218, Tryz.ntmps218
  go_wp2
  go_ret
  exact ⟨rfl, rfl⟩
set_option maxRecDepth 100000 in
theorem leaf14 (a b : Int) (hb : (b == 0) = false) (w : World) : Calls Tryz.prog 219 #[.int .i64 a, .int .i64 b] w fun e w' => e = .returned (.int .i64 (quo a b)) ∧ w = w' := by
  have hb' : ¬ b = 0 := by simpa using hb
  go_enter Tryz.func219, Tryz.ntmps219
  go_wp2
  all_goals first | (go_ret; refine ⟨?_, rfl⟩; simp_all [quo]; done) | (exfalso; omega)
set_option maxRecDepth 100000 in
theorem leaf15 (a b : Int) (hb : (b == 0) = false) (w : World) : Calls Tryz.prog 220 #[.int .i64 a, .int .i64 b] w fun e w' => e = .returned (.int .i64 (rem a b)) ∧ w = w' := by
  have hb' : ¬ b = 0 := by simpa using hb
  go_enter Tryz.func220, Tryz.ntmps220
  go_wp2
  all_goals first | (go_ret; refine ⟨?_, rfl⟩; simp_all [rem]; done) | (exfalso; omega)
set_option maxRecDepth 100000 in
theorem leaf16 (a b : Int) (w : World) : Calls Tryz.prog 221 #[.int .i64 a, .int .i64 b] w fun e w' => e = .returned (.int .i64 (bits .and .i64 a b)) ∧ w = w' := by
  go_enter Tryz.func221, Tryz.ntmps221
  go_wp2
  go_ret
  exact ⟨rfl, rfl⟩
set_option maxRecDepth 100000 in
theorem leaf17 (a b : Int) (w : World) : Calls Tryz.prog 222 #[.int .i64 a, .int .i64 b] w fun e w' => e = .returned (.int .i64 (bits .or .i64 a b)) ∧ w = w' := by
  go_enter Tryz.func222, Tryz.ntmps222
  go_wp2
  go_ret
  exact ⟨rfl, rfl⟩
set_option maxRecDepth 100000 in
theorem leaf18 (a b : Int) (w : World) : Calls Tryz.prog 223 #[.int .i64 a, .int .i64 b] w fun e w' => e = .returned (.int .i64 (bits .xor .i64 a b)) ∧ w = w' := by
  go_enter Tryz.func223, Tryz.ntmps223
  go_wp2
  go_ret
  exact ⟨rfl, rfl⟩
set_option maxRecDepth 100000 in
theorem leaf19 (a b : Int) (w : World) : Calls Tryz.prog 224 #[.int .i64 a, .int .i64 b] w fun e w' => e = .returned (.int .i64 (shl a b)) ∧ w = w' := by
  go_enter Tryz.func224, Tryz.ntmps224
  go_wp2
  go_ret
  exact ⟨rfl, rfl⟩
set_option maxRecDepth 100000 in
theorem leaf20 (a b : Int) (w : World) : Calls Tryz.prog 225 #[.int .i64 a, .int .i64 b] w fun e w' => e = .returned (.int .i64 (shr a b)) ∧ w = w' := by
  go_enter Tryz.func225, Tryz.ntmps225
  go_wp2
  go_ret
  exact ⟨rfl, rfl⟩
set_option maxRecDepth 100000 in
theorem leaf21 (a b : Int) (w : World) : Calls Tryz.prog 226 #[.int .i64 a, .int .i64 b] w fun e w' => e = .returned (.int .i64 (truth (a == b))) ∧ w = w' := by
  go_enter Tryz.func226, Tryz.ntmps226
  go_wp2_with (go_at_call 186; refine (truth_calls _ _).mono ?_; rintro e w' ⟨rfl, rfl⟩)
  go_ret
  exact ⟨rfl, rfl⟩
set_option maxRecDepth 100000 in
theorem leaf22 (a b : Int) (w : World) : Calls Tryz.prog 227 #[.int .i64 a, .int .i64 b] w fun e w' => e = .returned (.int .i64 (truth (a != b))) ∧ w = w' := by
  go_enter Tryz.func227, Tryz.ntmps227
  go_wp2_with (go_at_call 186; refine (truth_calls _ _).mono ?_; rintro e w' ⟨rfl, rfl⟩)
  go_ret
  exact ⟨rfl, rfl⟩
set_option maxRecDepth 100000 in
theorem leaf23 (a b : Int) (w : World) : Calls Tryz.prog 228 #[.int .i64 a, .int .i64 b] w fun e w' => e = .returned (.int .i64 (truth (decide (a < b)))) ∧ w = w' := by
  go_enter Tryz.func228, Tryz.ntmps228
  go_wp2_with (go_at_call 186; refine (truth_calls _ _).mono ?_; rintro e w' ⟨rfl, rfl⟩)
  go_ret
  exact ⟨rfl, rfl⟩
set_option maxRecDepth 100000 in
theorem leaf24 (a b : Int) (w : World) : Calls Tryz.prog 229 #[.int .i64 a, .int .i64 b] w fun e w' => e = .returned (.int .i64 (truth (decide (b < a)))) ∧ w = w' := by
  go_enter Tryz.func229, Tryz.ntmps229
  go_wp2_with (go_at_call 186; refine (truth_calls _ _).mono ?_; rintro e w' ⟨rfl, rfl⟩)
  go_ret
  exact ⟨rfl, rfl⟩
set_option maxRecDepth 100000 in
theorem leaf25 (a b : Int) (w : World) : Calls Tryz.prog 230 #[.int .i64 a, .int .i64 b] w fun e w' => e = .returned (.int .i64 (truth (decide (IntKind.u64.wrap a < IntKind.u64.wrap b)))) ∧ w = w' := by
  go_enter Tryz.func230, Tryz.ntmps230
  go_wp2_with (go_at_call 186; refine (truth_calls _ _).mono ?_; rintro e w' ⟨rfl, rfl⟩)
  go_ret
  exact ⟨rfl, rfl⟩
set_option maxRecDepth 100000 in
theorem leaf26 (a b : Int) (w : World) : Calls Tryz.prog 231 #[.int .i64 a, .int .i64 b] w fun e w' => e = .returned (.int .i64 (lower a b)) ∧ w = w' := by
  go_enter Tryz.func231, Tryz.ntmps231
  go_wp2
  all_goals (go_ret; refine ⟨?_, rfl⟩; unfold lower; split <;> first | rfl | (exfalso; omega) | (obtain rfl : a = b := (by omega); rfl))
set_option maxRecDepth 100000 in
theorem leaf27 (a b : Int) (w : World) : Calls Tryz.prog 232 #[.int .i64 a, .int .i64 b] w fun e w' => e = .returned (.int .i64 (upper a b)) ∧ w = w' := by
  go_enter Tryz.func232, Tryz.ntmps232
  go_wp2
  all_goals (go_ret; refine ⟨?_, rfl⟩; unfold upper; split <;> first | rfl | (exfalso; omega) | (obtain rfl : a = b := (by omega); rfl))

theorem en11 (xs : Array Value) (w : World) : (callFunc 216 xs).run Tryz.prog w = .ok (.enter 216 xs) w := by kernel_rfl
theorem en12 (xs : Array Value) (w : World) : (callFunc 217 xs).run Tryz.prog w = .ok (.enter 217 xs) w := by kernel_rfl
theorem en13 (xs : Array Value) (w : World) : (callFunc 218 xs).run Tryz.prog w = .ok (.enter 218 xs) w := by kernel_rfl
theorem en14 (xs : Array Value) (w : World) : (callFunc 219 xs).run Tryz.prog w = .ok (.enter 219 xs) w := by kernel_rfl
theorem en15 (xs : Array Value) (w : World) : (callFunc 220 xs).run Tryz.prog w = .ok (.enter 220 xs) w := by kernel_rfl
theorem en16 (xs : Array Value) (w : World) : (callFunc 221 xs).run Tryz.prog w = .ok (.enter 221 xs) w := by kernel_rfl
theorem en17 (xs : Array Value) (w : World) : (callFunc 222 xs).run Tryz.prog w = .ok (.enter 222 xs) w := by kernel_rfl
theorem en18 (xs : Array Value) (w : World) : (callFunc 223 xs).run Tryz.prog w = .ok (.enter 223 xs) w := by kernel_rfl
theorem en19 (xs : Array Value) (w : World) : (callFunc 224 xs).run Tryz.prog w = .ok (.enter 224 xs) w := by kernel_rfl
theorem en20 (xs : Array Value) (w : World) : (callFunc 225 xs).run Tryz.prog w = .ok (.enter 225 xs) w := by kernel_rfl
theorem en21 (xs : Array Value) (w : World) : (callFunc 226 xs).run Tryz.prog w = .ok (.enter 226 xs) w := by kernel_rfl
theorem en22 (xs : Array Value) (w : World) : (callFunc 227 xs).run Tryz.prog w = .ok (.enter 227 xs) w := by kernel_rfl
theorem en23 (xs : Array Value) (w : World) : (callFunc 228 xs).run Tryz.prog w = .ok (.enter 228 xs) w := by kernel_rfl
theorem en24 (xs : Array Value) (w : World) : (callFunc 229 xs).run Tryz.prog w = .ok (.enter 229 xs) w := by kernel_rfl
theorem en25 (xs : Array Value) (w : World) : (callFunc 230 xs).run Tryz.prog w = .ok (.enter 230 xs) w := by kernel_rfl
theorem en26 (xs : Array Value) (w : World) : (callFunc 231 xs).run Tryz.prog w = .ok (.enter 231 xs) w := by kernel_rfl
theorem en27 (xs : Array Value) (w : World) : (callFunc 232 xs).run Tryz.prog w = .ok (.enter 232 xs) w := by kernel_rfl

def entries : Array MapEntry := #[⟨.int .i64 11, .func (.func 216) #[] #[], 0⟩, ⟨.int .i64 12, .func (.func 217) #[] #[], 1⟩, ⟨.int .i64 13, .func (.func 218) #[] #[], 2⟩, ⟨.int .i64 14, .func (.func 219) #[] #[], 3⟩, ⟨.int .i64 15, .func (.func 220) #[] #[], 4⟩, ⟨.int .i64 16, .func (.func 221) #[] #[], 5⟩, ⟨.int .i64 17, .func (.func 222) #[] #[], 6⟩, ⟨.int .i64 18, .func (.func 223) #[] #[], 7⟩, ⟨.int .i64 19, .func (.func 224) #[] #[], 8⟩, ⟨.int .i64 20, .func (.func 225) #[] #[], 9⟩, ⟨.int .i64 21, .func (.func 226) #[] #[], 10⟩, ⟨.int .i64 22, .func (.func 227) #[] #[], 11⟩, ⟨.int .i64 23, .func (.func 228) #[] #[], 12⟩, ⟨.int .i64 24, .func (.func 229) #[] #[], 13⟩, ⟨.int .i64 25, .func (.func 230) #[] #[], 14⟩, ⟨.int .i64 26, .func (.func 231) #[] #[], 15⟩, ⟨.int .i64 27, .func (.func 232) #[] #[], 16⟩]

set_option maxRecDepth 100000 in
theorem ops_made (w : World) : Calls Tryz.prog 188 #[] w fun e w' => e = .returned (.map (some w.heap.size)) ∧ w.alloc (.map entries 17) = w' := by
  have hmm := @run_makeMap Tryz.prog
  go_enter Tryz.func188, Tryz.ntmps188
  go_wp2
  repeat (rw [put_new (P := Tryz.prog) Tryz.underlying154 Tryz.underlying3 w _ _ _ _ (by rfl)]; go_wp2)
  go_ret
  exact ⟨rfl, rfl⟩


set_option maxRecDepth 100000 in
theorem two_viaA (op a b : Int) (i f : Nat) (r : Int) (hf : Instr.findNow (.int .i64) (.int .i64 op) entries.toList 0 = some (some (i, .func (.func f) #[] #[])))
    (hc : ∀ w, Calls Tryz.prog f #[.int .i64 a, .int .i64 b] w fun e w' => e = .returned (.int .i64 r) ∧ w = w') (hb : (b == 0) = false) (hen : ∀ (xs : Array Value) (w : World), (callFunc f xs).run Tryz.prog w = .ok (.enter f xs) w) (w : World) :
    Calls Tryz.prog 91 #[.int .i64 op, .int .i64 a, .int .i64 b] w fun e w' => e = .returned (.tuple #[.int .i64 r, .int .i64 0]) ∧ w.alloc (.map entries 17) = w' := by
  have hl := get_found (P := Tryz.prog) Tryz.underlying154 Tryz.underlying3 (w := w.alloc (.map entries 17)) (b := w.heap.size) (es := entries) (c := 17) (MapKept.heap_alloc w _).1 hf
  have HC := Lib.hid hc
  clear hc hf
  go_enter Tryz.func91, Tryz.ntmps91
  go_wp2_with (first | (go_at_call 188; refine (ops_made _).mono ?_; rintro e w' ⟨rfl, rfl⟩))
  refine (HC.out _).mono ?_
  rintro e w' ⟨rfl, rfl⟩
  go_wp2_with fail
  go_ret2
  exact ⟨rfl, rfl⟩


set_option maxRecDepth 100000 in
theorem two_viaB (op a : Int) (i f : Nat) (r : Int) (hf : Instr.findNow (.int .i64) (.int .i64 op) entries.toList 0 = some (some (i, .func (.func f) #[] #[])))
    (hc : ∀ w, Calls Tryz.prog f #[.int .i64 a, .int .i64 0] w fun e w' => e = .returned (.int .i64 r) ∧ w = w') (h14 : (op == 14) = false) (h15 : (op == 15) = false) (hen : ∀ (xs : Array Value) (w : World), (callFunc f xs).run Tryz.prog w = .ok (.enter f xs) w) (w : World) :
    Calls Tryz.prog 91 #[.int .i64 op, .int .i64 a, .int .i64 0] w fun e w' => e = .returned (.tuple #[.int .i64 r, .int .i64 0]) ∧ w.alloc (.map entries 17) = w' := by
  have hl := get_found (P := Tryz.prog) Tryz.underlying154 Tryz.underlying3 (w := w.alloc (.map entries 17)) (b := w.heap.size) (es := entries) (c := 17) (MapKept.heap_alloc w _).1 hf
  have HC := Lib.hid hc
  clear hc hf
  go_enter Tryz.func91, Tryz.ntmps91
  go_wp2_with (first | (go_at_call 188; refine (ops_made _).mono ?_; rintro e w' ⟨rfl, rfl⟩))
  refine (HC.out _).mono ?_
  rintro e w' ⟨rfl, rfl⟩
  go_wp2_with fail
  go_ret2
  exact ⟨rfl, rfl⟩


set_option maxRecDepth 100000 in
theorem two_zero (op a : Int) (i f : Nat) (hf : Instr.findNow (.int .i64) (.int .i64 op) entries.toList 0 = some (some (i, .func (.func f) #[] #[]))) (ho : op = 14 ∨ op = 15) (w : World) :
    Calls Tryz.prog 91 #[.int .i64 op, .int .i64 a, .int .i64 0] w fun e w' => e = .returned (.tuple #[.int .i64 0, .int .i64 (-10)]) ∧ w.alloc (.map entries 17) = w' := by
  have hl := get_found (P := Tryz.prog) Tryz.underlying154 Tryz.underlying3 (w := w.alloc (.map entries 17)) (b := w.heap.size) (es := entries) (c := 17) (MapKept.heap_alloc w _).1 hf
  clear hf
  rcases ho with rfl | rfl
  all_goals
    go_enter Tryz.func91, Tryz.ntmps91
    go_wp2_with (first | (go_at_call 188; refine (ops_made _).mono ?_; rintro e w' ⟨rfl, rfl⟩))
    go_ret2
    exact ⟨rfl, rfl⟩

theorem zero_fn (w : World) : (zeroValue 152).run Tryz.prog w = .ok .nilFunc w := by kernel_rfl

set_option maxRecDepth 100000 in
theorem two_none (op a b : Int) (hf : Instr.findNow (.int .i64) (.int .i64 op) entries.toList 0 = some none) (w : World) :
    Calls Tryz.prog 91 #[.int .i64 op, .int .i64 a, .int .i64 b] w fun e w' => e = .returned (.tuple #[.int .i64 0, .int .i64 1]) ∧ w.alloc (.map entries 17) = w' := by
  have hl := get_none (P := Tryz.prog) Tryz.underlying154 Tryz.underlying3 (w := w.alloc (.map entries 17)) (b := w.heap.size) (es := entries) (c := 17) (MapKept.heap_alloc w _).1 (zero_fn _) hf
  clear hf
  go_enter Tryz.func91, Tryz.ntmps91
  go_wp2_with (first | (go_at_call 188; refine (ops_made _).mono ?_; rintro e w' ⟨rfl, rfl⟩))
  go_ret2
  exact ⟨rfl, rfl⟩


theorem find_none (op : Int) (h : op < 11 ∨ 27 < op) : Instr.findNow (.int .i64) (.int .i64 op) entries.toList 0 = some none := by
  have e : ∀ k : Int, 11 ≤ k → k ≤ 27 → (op == k) = false := fun k _ _ => by simp; omega
  simp [entries, Instr.findNow, Instr.sameNow, e]


/-- cell.Two, whatever the number of the operation and the cells. -/
theorem two_calls (op a b : Int) (w : World) :
    Calls Tryz.prog 91 #[.int .i64 op, .int .i64 a, .int .i64 b] w fun e w' => e = .returned (.tuple #[.int .i64 (twoV op a b), .int .i64 (twoE op b)]) ∧ w.alloc (.map entries 17) = w' := by
  by_cases h : op < 11 ∨ 27 < op
  · have e1 : twoV op a b = 0 := by unfold twoV; repeat (rw [if_neg (by omega)])
    have e2 : twoE op b = 1 := by unfold twoE; rw [if_pos h]
    rw [e1, e2]
    exact two_none op a b (find_none op h) w
  · have h' : op = 11 ∨ op = 12 ∨ op = 13 ∨ op = 14 ∨ op = 15 ∨ op = 16 ∨ op = 17 ∨ op = 18 ∨ op = 19 ∨ op = 20 ∨ op = 21 ∨ op = 22 ∨ op = 23 ∨ op = 24 ∨ op = 25 ∨ op = 26 ∨ op = 27 := by omega
    rcases h' with rfl | rfl | rfl | rfl | rfl | rfl | rfl | rfl | rfl | rfl | rfl | rfl | rfl | rfl | rfl | rfl | rfl
    · have e1 : twoV 11 a b = wrap64 (a + b) := by simp [twoV]
      have e2 : twoE 11 b = 0 := by simp [twoE]
      rw [e1, e2]
      by_cases hb : b = 0
      · subst hb
        exact two_viaB 11 a 0 _ _ rfl (leaf11 a 0) rfl rfl en11 w
      · have hb' : (b == 0) = false := by simpa using hb
        exact two_viaA 11 a b 0 _ _ rfl (leaf11 a b) hb' en11 w
    · have e1 : twoV 12 a b = wrap64 (a - b) := by simp [twoV]
      have e2 : twoE 12 b = 0 := by simp [twoE]
      rw [e1, e2]
      by_cases hb : b = 0
      · subst hb
        exact two_viaB 12 a 1 _ _ rfl (leaf12 a 0) rfl rfl en12 w
      · have hb' : (b == 0) = false := by simpa using hb
        exact two_viaA 12 a b 1 _ _ rfl (leaf12 a b) hb' en12 w
    · have e1 : twoV 13 a b = wrap64 (a * b) := by simp [twoV]
      have e2 : twoE 13 b = 0 := by simp [twoE]
      rw [e1, e2]
      by_cases hb : b = 0
      · subst hb
        exact two_viaB 13 a 2 _ _ rfl (leaf13 a 0) rfl rfl en13 w
      · have hb' : (b == 0) = false := by simpa using hb
        exact two_viaA 13 a b 2 _ _ rfl (leaf13 a b) hb' en13 w
    · by_cases hb : b = 0
      · subst hb
        exact two_zero 14 a 3 _ rfl (by decide) w
      · have hb' : (b == 0) = false := by simpa using hb
        have e1 : twoV 14 a b = quo a b := by simp [twoV, hb]
        have e2 : twoE 14 b = 0 := by simp [twoE, hb]
        rw [e1, e2]
        exact two_viaA 14 a b 3 _ _ rfl (leaf14 a b hb') hb' en14 w
    · by_cases hb : b = 0
      · subst hb
        exact two_zero 15 a 4 _ rfl (by decide) w
      · have hb' : (b == 0) = false := by simpa using hb
        have e1 : twoV 15 a b = rem a b := by simp [twoV, hb]
        have e2 : twoE 15 b = 0 := by simp [twoE, hb]
        rw [e1, e2]
        exact two_viaA 15 a b 4 _ _ rfl (leaf15 a b hb') hb' en15 w
    · have e1 : twoV 16 a b = bits .and .i64 a b := by simp [twoV]
      have e2 : twoE 16 b = 0 := by simp [twoE]
      rw [e1, e2]
      by_cases hb : b = 0
      · subst hb
        exact two_viaB 16 a 5 _ _ rfl (leaf16 a 0) rfl rfl en16 w
      · have hb' : (b == 0) = false := by simpa using hb
        exact two_viaA 16 a b 5 _ _ rfl (leaf16 a b) hb' en16 w
    · have e1 : twoV 17 a b = bits .or .i64 a b := by simp [twoV]
      have e2 : twoE 17 b = 0 := by simp [twoE]
      rw [e1, e2]
      by_cases hb : b = 0
      · subst hb
        exact two_viaB 17 a 6 _ _ rfl (leaf17 a 0) rfl rfl en17 w
      · have hb' : (b == 0) = false := by simpa using hb
        exact two_viaA 17 a b 6 _ _ rfl (leaf17 a b) hb' en17 w
    · have e1 : twoV 18 a b = bits .xor .i64 a b := by simp [twoV]
      have e2 : twoE 18 b = 0 := by simp [twoE]
      rw [e1, e2]
      by_cases hb : b = 0
      · subst hb
        exact two_viaB 18 a 7 _ _ rfl (leaf18 a 0) rfl rfl en18 w
      · have hb' : (b == 0) = false := by simpa using hb
        exact two_viaA 18 a b 7 _ _ rfl (leaf18 a b) hb' en18 w
    · have e1 : twoV 19 a b = shl a b := by simp [twoV]
      have e2 : twoE 19 b = 0 := by simp [twoE]
      rw [e1, e2]
      by_cases hb : b = 0
      · subst hb
        exact two_viaB 19 a 8 _ _ rfl (leaf19 a 0) rfl rfl en19 w
      · have hb' : (b == 0) = false := by simpa using hb
        exact two_viaA 19 a b 8 _ _ rfl (leaf19 a b) hb' en19 w
    · have e1 : twoV 20 a b = shr a b := by simp [twoV]
      have e2 : twoE 20 b = 0 := by simp [twoE]
      rw [e1, e2]
      by_cases hb : b = 0
      · subst hb
        exact two_viaB 20 a 9 _ _ rfl (leaf20 a 0) rfl rfl en20 w
      · have hb' : (b == 0) = false := by simpa using hb
        exact two_viaA 20 a b 9 _ _ rfl (leaf20 a b) hb' en20 w
    · have e1 : twoV 21 a b = truth (a == b) := by simp [twoV]
      have e2 : twoE 21 b = 0 := by simp [twoE]
      rw [e1, e2]
      by_cases hb : b = 0
      · subst hb
        exact two_viaB 21 a 10 _ _ rfl (leaf21 a 0) rfl rfl en21 w
      · have hb' : (b == 0) = false := by simpa using hb
        exact two_viaA 21 a b 10 _ _ rfl (leaf21 a b) hb' en21 w
    · have e1 : twoV 22 a b = truth (a != b) := by simp [twoV]
      have e2 : twoE 22 b = 0 := by simp [twoE]
      rw [e1, e2]
      by_cases hb : b = 0
      · subst hb
        exact two_viaB 22 a 11 _ _ rfl (leaf22 a 0) rfl rfl en22 w
      · have hb' : (b == 0) = false := by simpa using hb
        exact two_viaA 22 a b 11 _ _ rfl (leaf22 a b) hb' en22 w
    · have e1 : twoV 23 a b = truth (decide (a < b)) := by simp [twoV]
      have e2 : twoE 23 b = 0 := by simp [twoE]
      rw [e1, e2]
      by_cases hb : b = 0
      · subst hb
        exact two_viaB 23 a 12 _ _ rfl (leaf23 a 0) rfl rfl en23 w
      · have hb' : (b == 0) = false := by simpa using hb
        exact two_viaA 23 a b 12 _ _ rfl (leaf23 a b) hb' en23 w
    · have e1 : twoV 24 a b = truth (decide (b < a)) := by simp [twoV]
      have e2 : twoE 24 b = 0 := by simp [twoE]
      rw [e1, e2]
      by_cases hb : b = 0
      · subst hb
        exact two_viaB 24 a 13 _ _ rfl (leaf24 a 0) rfl rfl en24 w
      · have hb' : (b == 0) = false := by simpa using hb
        exact two_viaA 24 a b 13 _ _ rfl (leaf24 a b) hb' en24 w
    · have e1 : twoV 25 a b = truth (decide (IntKind.u64.wrap a < IntKind.u64.wrap b)) := by simp [twoV]
      have e2 : twoE 25 b = 0 := by simp [twoE]
      rw [e1, e2]
      by_cases hb : b = 0
      · subst hb
        exact two_viaB 25 a 14 _ _ rfl (leaf25 a 0) rfl rfl en25 w
      · have hb' : (b == 0) = false := by simpa using hb
        exact two_viaA 25 a b 14 _ _ rfl (leaf25 a b) hb' en25 w
    · have e1 : twoV 26 a b = lower a b := by simp [twoV]
      have e2 : twoE 26 b = 0 := by simp [twoE]
      rw [e1, e2]
      by_cases hb : b = 0
      · subst hb
        exact two_viaB 26 a 15 _ _ rfl (leaf26 a 0) rfl rfl en26 w
      · have hb' : (b == 0) = false := by simpa using hb
        exact two_viaA 26 a b 15 _ _ rfl (leaf26 a b) hb' en26 w
    · have e1 : twoV 27 a b = upper a b := by simp [twoV]
      have e2 : twoE 27 b = 0 := by simp [twoE]
      rw [e1, e2]
      by_cases hb : b = 0
      · subst hb
        exact two_viaB 27 a 16 _ _ rfl (leaf27 a 0) rfl rfl en27 w
      · have hb' : (b == 0) = false := by simpa using hb
        exact two_viaA 27 a b 16 _ _ rfl (leaf27 a b) hb' en27 w

theorem many_calls (op : Int) (w : World) : Calls Tryz.prog 85 #[.int .i64 op] w fun e w' => e = .returned (.int .i64 (if 1 ≤ op ∧ op ≤ 10 then 1 else if 11 ≤ op ∧ op ≤ 27 then 2 else 0)) ∧ w = w' := by
  by_cases h1 : 1 ≤ op ∧ op ≤ 10
  · rw [if_pos h1]
    obtain ⟨h1, h2⟩ := h1
    go_enter Tryz.func85, Tryz.ntmps85
    go_wp2
    go_ret
    exact ⟨rfl, rfl⟩
  · rw [if_neg h1]
    by_cases h2 : 11 ≤ op ∧ op ≤ 27
    · rw [if_pos h2]
      obtain ⟨h2, h3⟩ := h2
      clear h1
      go_enter Tryz.func85, Tryz.ntmps85
      go_wp2
      go_ret
      exact ⟨rfl, rfl⟩
    · rw [if_neg h2]
      have h3 : op < 1 ∨ 27 < op := by omega
      clear h1 h2
      rcases h3 with h3 | h3
      all_goals
        go_enter Tryz.func85, Tryz.ntmps85
        go_wp2
        go_ret
        exact ⟨rfl, rfl⟩

theorem xor_ones (a : Int) : bits .xor .i64 (-1) a = wrap64 (-1 - a) := by
  have e : BitVec.ofInt 64 (-1) = BitVec.allOnes 64 := by decide
  have h : bits .xor .i64 (-1) a = IntKind.i64.wrap ((BitVec.ofInt 64 (-1) ^^^ BitVec.ofInt 64 a).toNat : Int) := rfl
  rw [h, e, BitVec.allOnes_xor, BitVec.toNat_not, BitVec.toNat_ofInt]
  unfold wrap64
  simp [IntKind.wrap, IntKind.bits, IntKind.signed]
  omega

def oneV (op a : Int) : Int := if op = 1 then wrap64 (-a) else if op = 2 then upper a (wrap64 (-a)) else if op = 3 then wrap64 (-1 - a) else if op = 4 then wrap64 (a + 1) else if op = 5 then wrap64 (a - 1) else if op = 6 then wrap64 (2 * a) else if op = 7 then a / 2 else if op = 8 then truth (a == 0) else if op = 9 then truth (decide (a < 0)) else if op = 10 then truth (a != 0) else 0
def oneE (op : Int) : Int := if 1 ≤ op ∧ op ≤ 10 then 0 else 1

set_option maxHeartbeats 1000000 in
set_option maxRecDepth 100000 in
theorem one_calls (op a : Int) (w : World) : Calls Tryz.prog 88 #[.int .i64 op, .int .i64 a] w fun e w' => e = .returned (.tuple #[.int .i64 (oneV op a), .int .i64 (oneE op)]) ∧ w = w' := by
  go_enter Tryz.func88, Tryz.ntmps88
  go_wp2_with (go_at_call 186; refine (truth_calls _ _).mono ?_; rintro e w' ⟨rfl, rfl⟩)
  all_goals (go_ret2; refine ⟨?_, rfl⟩)
  all_goals first | (simp_all [oneV, oneE]; done) | (simp_all [oneV, oneE, upper]; done) | (simp_all [oneV, oneE, upper]; omega) | (simp_all [oneV, oneE]; exact xor_ones a)

end Go.Proofs.YtegcecpmdgljpaaGreatDoor
