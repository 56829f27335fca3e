/- Layer 6: an act done to both stacks, kind by kind: the answers are the same. Conditions: both stacks have the same cells; numbers are of their kinds. -/
import Derived.Test.YtjmbmhjhnoiclaaS6Z
import Derived.Deep.RegionHeld3
namespace Go.Proofs.Ytjmbmhjhnoiclaa
open Go.RowKit
set_option linter.unusedVariables false

def Dd (w V : World) (p q : Nat) (e : Ending) (w' : World) : Prop := e = .returned (.bool true) ∧ ∃ L, Tm w V w' p q L L
/-- The block of an act. -/
structure Act3 (w : World) (b : Nat) (k o x : Int) : Prop where
  c0 : w.cell? ⟨b, 0, none⟩ = some (.int .u8 k)
  c1 : w.cell? ⟨b, 1, none⟩ = some (.int .i64 o)
  c2 : w.cell? ⟨b, 2, none⟩ = some (.int .i64 x)
theorem Act3.mod {S : List Nat} {w w' : World} {b : Nat} {k o x : Int} (h : Act3 w b k o x) (m : Mod S w w') (hb : b ∉ S) : Act3 w' b k o x := ⟨m.cell hb h.c0, m.cell hb h.c1, m.cell hb h.c2⟩
theorem Act3.last (w : World) (k o x : Int) (t : TypeId) : Act3 (w.alloc (.cells #[.int .u8 k, .int .i64 o, .int .i64 x] t)) w.heap.size k o x := by
  have hb : (w.alloc (.cells #[.int .u8 k, .int .i64 o, .int .i64 x] t)).heap[w.heap.size]? = some (.cells #[.int .u8 k, .int .i64 o, .int .i64 x] t) := (MapKept.heap_alloc w _).1
  exact ⟨by simp only [World.cell?, hb]; rfl, by simp only [World.cell?, hb]; rfl, by simp only [World.cell?, hb]; rfl⟩
theorem ret_true {b : Bool} (h : b = true) : Ending.returned (.bool b) = .returned (.bool true) := by rw [h]
set_option maxHeartbeats 2000000 in
set_option maxRecDepth 100000 in
theorem does_push {w V W : World} {p q : Nat} {L : List Int} (t : Tm w V W p q L L) (k o x : Int) (hk : 0 ≤ k ∧ k ≤ 255) (hk2 : k % 8 = 0) (ho : I64 o) (hx : I64 x) :
    Calls Try.prog 13 #[Pt p, Pt q, .agg #[.int .u8 k, .int .i64 o, .int .i64 x]] W (Dd w V p q) := by
  have act0 := Act3.last W k o x 33
  have ma := (Mod.refl [] W).alloc (.cells #[.int .u8 k, .int .i64 o, .int .i64 x] 33)
  have TD := Lib.hid (t.far ma.drew)
  have hp := Nat.ne_of_gt t.s.lp
  have hq : W.heap.size ≠ q := by obtain ⟨A, cap, hr⟩ := t.r; exact Nat.ne_of_gt hr.lq
  have HPQ := Lib.hid (And.intro hp hq)
  have HX := Lib.hid hx
  have c0 := act0.c0
  have c2 := act0.c2
  clear t ma ho hx hp hq act0
  go_enter Try.func13, Try.ntmps13
  go_wp2_with fail
  go_region_held3 (fun V => V.cell? ⟨W.heap.size, 2, none⟩ = some (.int .i64 x)) (first | assumption | go_keep) (first
    | ((with_reducible refine (TD.out.push1 x HX.out).mono ?_); rintro e w1 ⟨rfl, h1, m1⟩; have T1 := Lib.hid h1; have c21 := m1.cell (by simpa using HPQ.out.1) c2; clear h1 m1)
    | ((with_reducible refine (T1.out.push2 x HX.out).mono ?_); rintro e w2 ⟨rfl, h2, m2⟩; have T2 := Lib.hid h2; have c22 := m2.cell (by simpa using HPQ.out.2) c21; clear h2 m2))
  go_wp2
  go_ret
  exact ⟨ret_true (by simp), _, T2.out⟩
set_option maxHeartbeats 2000000 in
set_option maxRecDepth 100000 in
theorem does_pop {w V W : World} {p q : Nat} {L : List Int} (t : Tm w V W p q L L) (k o x : Int) (hk : 0 ≤ k ∧ k ≤ 255) (hk2 : k % 8 = 1) (ho : I64 o) (hx : I64 x) :
    Calls Try.prog 13 #[Pt p, Pt q, .agg #[.int .u8 k, .int .i64 o, .int .i64 x]] W (Dd w V p q) := by
  have act0 := Act3.last W k o x 33
  have ma := (Mod.refl [] W).alloc (.cells #[.int .u8 k, .int .i64 o, .int .i64 x] 33)
  have TA := Lib.hid (t.far ma)
  have TD := Lib.hid (t.far ma.drew)
  have hp := Nat.ne_of_gt t.s.lp
  have hq : W.heap.size ≠ q := by obtain ⟨A, cap, hr⟩ := t.r; exact Nat.ne_of_gt hr.lq
  have HPQ := Lib.hid (And.intro hp hq)
  have HX := Lib.hid hx
  have HO := Lib.hid ho
  have c0 := act0.c0
  have c1 := act0.c1
  have c2 := act0.c2
  clear t ma ho hx hp hq act0
  go_enter Try.func13, Try.ntmps13
  go_wp2_with fail
  refine (TA.out.pop1).mono ?_
  rintro e w1 ⟨rfl, h1⟩
  have T1 := Lib.hid h1
  obtain ⟨r, hr⟩ : ∃ r, r = popL L := ⟨_, rfl⟩
  have HR := Lib.hid hr
  rw [← hr] at T1 ⊢
  clear h1 hr
  go_wp2_with fail
  refine (T1.out.pop2).mono ?_
  rintro e w2 ⟨rfl, h2⟩
  rw [← HR.out] at h2 ⊢
  have T2 := Lib.hid h2
  clear h2
  have b1 : (r.1.1 == r.1.1) = true := by simp
  have b2 : (r.1.2 == r.1.2) = true := by simp
  go_wp2
  go_ret
  exact ⟨ret_true (by simp), _, T2.out⟩
set_option maxHeartbeats 2000000 in
set_option maxRecDepth 100000 in
theorem does_take {w V W : World} {p q : Nat} {L : List Int} (t : Tm w V W p q L L) (k o x : Int) (hk : 0 ≤ k ∧ k ≤ 255) (hk2 : k % 8 = 2) (ho : I64 o) (hx : I64 x) :
    Calls Try.prog 13 #[Pt p, Pt q, .agg #[.int .u8 k, .int .i64 o, .int .i64 x]] W (Dd w V p q) := by
  have act0 := Act3.last W k o x 33
  have ma := (Mod.refl [] W).alloc (.cells #[.int .u8 k, .int .i64 o, .int .i64 x] 33)
  have TA := Lib.hid (t.far ma)
  have TD := Lib.hid (t.far ma.drew)
  have hp := Nat.ne_of_gt t.s.lp
  have hq : W.heap.size ≠ q := by obtain ⟨A, cap, hr⟩ := t.r; exact Nat.ne_of_gt hr.lq
  have HPQ := Lib.hid (And.intro hp hq)
  have HX := Lib.hid hx
  have HO := Lib.hid ho
  have c0 := act0.c0
  have c1 := act0.c1
  have c2 := act0.c2
  obtain ⟨n, hn, hn7⟩ := and_nat 7 (by decide) o
  rw [show ((7 : Nat) : Int) = 7 from rfl] at hn
  clear t ma ho hx hp hq act0
  go_enter Try.func13, Try.ntmps13
  go_wp2_with fail
  refine (TA.out.take1 n (by omega)).mono ?_
  rintro e w1 ⟨⟨A1, d1, rfl, s1, l1, h1⟩, m1⟩
  have hrl := takeL_len n L
  obtain ⟨r, hr⟩ : ∃ r, r = takeL n L := ⟨_, rfl⟩
  have HR := Lib.hid hr
  rw [← hr] at s1 h1 hrl ⊢
  have T1 := Lib.hid h1
  have S1 := Lib.hid (And.intro s1 l1)
  have c11 := m1.cell (by simpa using HPQ.out.1) c1
  have q1 : q < (W.alloc (.cells #[.int .u8 k, .int .i64 o, .int .i64 x] 33)).heap.size := by obtain ⟨A, cap, hr⟩ := TA.out.r; exact hr.lq
  have Q1 := Lib.hid q1
  clear h1 hr s1 l1 m1 q1
  go_wp2_with fail
  refine (T1.out.take2 n (by omega)).mono ?_
  rintro e w2 ⟨⟨A2, d2, rfl, s2, l2, h2⟩, m2⟩
  rw [← HR.out] at s2 h2 ⊢
  have T2 := Lib.hid h2
  have S2 := Lib.hid (And.intro (S1.out.1.mod m2 (fun y hy => by have h3 := S1.out.2 y hy; have h4 := Q1.out; simp; omega)) s2)
  have HLn := Lib.hid hrl
  clear s2 l2 h2 m2 hrl
  go_wp2_with fail
  refine (same_calls S2.out.1 S2.out.2 rfl rfl (by have := HLn.out; omega) (by have := HLn.out; omega)).mono ?_
  rintro e w3 ⟨rfl, m3⟩
  rw [decide_eq_true rfl]
  have T3 := Lib.hid (T2.out.far m3)
  clear m3
  have b2 : (r.1.2 == r.1.2) = true := by simp
  go_wp2
  go_ret
  exact ⟨ret_true (by simp), _, T3.out⟩
set_option maxHeartbeats 4000000 in
set_option maxRecDepth 100000 in
theorem does_cut {w V W : World} {p q : Nat} {L : List Int} (t : Tm w V W p q L L) (k o x : Int) (hk : 0 ≤ k ∧ k ≤ 255) (hk2 : k % 8 = 4) (ho : I64 o) (hx : I64 x) :
    Calls Try.prog 13 #[Pt p, Pt q, .agg #[.int .u8 k, .int .i64 o, .int .i64 x]] W (Dd w V p q) := by
  have act0 := Act3.last W k o x 33
  have ma := (Mod.refl [] W).alloc (.cells #[.int .u8 k, .int .i64 o, .int .i64 x] 33)
  have TA := Lib.hid (t.far ma)
  have TD := Lib.hid (t.far ma.drew)
  have hp := Nat.ne_of_gt t.s.lp
  have hq : W.heap.size ≠ q := by obtain ⟨A, cap, hr⟩ := t.r; exact Nat.ne_of_gt hr.lq
  have HPQ := Lib.hid (And.intro hp hq)
  have HX := Lib.hid hx
  have HO := Lib.hid ho
  have c0 := act0.c0
  have c1 := act0.c1
  have c2 := act0.c2
  obtain ⟨n, hn, hn7⟩ := and_nat 255 (by decide) o
  rw [show ((255 : Nat) : Int) = 255 from rfl] at hn
  clear t ma ho hx hp hq act0
  go_enter Try.func13, Try.ntmps13
  go_wp2_with fail
  refine (TA.out.cut1 (n : Int) (by unfold I64; omega)).mono ?_
  rintro e w1 ⟨rfl, h1, m1⟩
  have T1 := Lib.hid h1
  have c11 := m1.cell (by simpa using HPQ.out.1) c1
  clear h1 m1
  go_wp2_with fail
  refine (T1.out.cut2 (n : Int) (by unfold I64; omega)).mono ?_
  rintro e w2 ⟨rfl, h2, m2⟩
  have T2 := Lib.hid h2
  clear h2 m2
  go_wp2
  go_ret
  exact ⟨rfl, _, T2.out⟩
set_option maxHeartbeats 4000000 in
set_option maxRecDepth 100000 in
theorem does_do5 {w V W : World} {p q : Nat} {L : List Int} (t : Tm w V W p q L L) (k o x : Int) (hk : 0 ≤ k ∧ k ≤ 255) (hk2 : k % 8 = 5) (ho : I64 o) (hx : I64 x) :
    Calls Try.prog 13 #[Pt p, Pt q, .agg #[.int .u8 k, .int .i64 o, .int .i64 x]] W (Dd w V p q) := by
  have act0 := Act3.last W k o x 33
  have ma := (Mod.refl [] W).alloc (.cells #[.int .u8 k, .int .i64 o, .int .i64 x] 33)
  have TA := Lib.hid (t.far ma)
  have TD := Lib.hid (t.far ma.drew)
  have hp := Nat.ne_of_gt t.s.lp
  have hq : W.heap.size ≠ q := by obtain ⟨A, cap, hr⟩ := t.r; exact Nat.ne_of_gt hr.lq
  have HPQ := Lib.hid (And.intro hp hq)
  have HX := Lib.hid hx
  have HO := Lib.hid ho
  have c0 := act0.c0
  have c1 := act0.c1
  have c2 := act0.c2
  clear t ma ho hx hp hq act0
  go_enter Try.func13, Try.ntmps13
  obtain ⟨r, hr⟩ : ∃ r, r = doL o L := ⟨_, rfl⟩
  have HR := Lib.hid hr
  clear hr
  go_wp2_with fail
  go_region_held3 (fun V => V.cell? ⟨W.heap.size, 1, none⟩ = some (.int .i64 o)) (first | assumption | go_keep) (first
    | ((with_reducible refine (TD.out.do1 o).mono ?_); rintro e w1 ⟨rfl, h1, m1⟩; rw [← HR.out] at h1 ⊢; have T1 := Lib.hid h1; have c21 := m1.cell (by simpa using HPQ.out.1) c1; clear h1 m1)
    | ((with_reducible refine (T1.out.do2 o).mono ?_); rintro e w2 ⟨rfl, h2, m2⟩; rw [← HR.out] at h2 ⊢; have T2 := Lib.hid h2; have c22 := m2.cell (by simpa using HPQ.out.2) c21; clear h2 m2))
  go_wp2
  go_ret
  exact ⟨ret_true (by simp), _, T2.out⟩
set_option maxHeartbeats 4000000 in
set_option maxRecDepth 100000 in
theorem does_do6 {w V W : World} {p q : Nat} {L : List Int} (t : Tm w V W p q L L) (k o x : Int) (hk : 0 ≤ k ∧ k ≤ 255) (hk2 : k % 8 = 6) (ho : I64 o) (hx : I64 x) :
    Calls Try.prog 13 #[Pt p, Pt q, .agg #[.int .u8 k, .int .i64 o, .int .i64 x]] W (Dd w V p q) := by
  have act0 := Act3.last W k o x 33
  have ma := (Mod.refl [] W).alloc (.cells #[.int .u8 k, .int .i64 o, .int .i64 x] 33)
  have TA := Lib.hid (t.far ma)
  have TD := Lib.hid (t.far ma.drew)
  have hp := Nat.ne_of_gt t.s.lp
  have hq : W.heap.size ≠ q := by obtain ⟨A, cap, hr⟩ := t.r; exact Nat.ne_of_gt hr.lq
  have HPQ := Lib.hid (And.intro hp hq)
  have HX := Lib.hid hx
  have HO := Lib.hid ho
  have c0 := act0.c0
  have c1 := act0.c1
  have c2 := act0.c2
  clear t ma ho hx hp hq act0
  go_enter Try.func13, Try.ntmps13
  obtain ⟨r, hr⟩ : ∃ r, r = doL o L := ⟨_, rfl⟩
  have HR := Lib.hid hr
  clear hr
  go_wp2_with fail
  go_region_held3 (fun V => V.cell? ⟨W.heap.size, 1, none⟩ = some (.int .i64 o)) (first | assumption | go_keep) (first
    | ((with_reducible refine (TD.out.do1 o).mono ?_); rintro e w1 ⟨rfl, h1, m1⟩; rw [← HR.out] at h1 ⊢; have T1 := Lib.hid h1; have c21 := m1.cell (by simpa using HPQ.out.1) c1; clear h1 m1)
    | ((with_reducible refine (T1.out.do2 o).mono ?_); rintro e w2 ⟨rfl, h2, m2⟩; rw [← HR.out] at h2 ⊢; have T2 := Lib.hid h2; have c22 := m2.cell (by simpa using HPQ.out.2) c21; clear h2 m2))
  go_wp2
  go_ret
  exact ⟨ret_true (by simp), _, T2.out⟩
set_option maxHeartbeats 4000000 in
set_option maxRecDepth 100000 in
theorem does_do7 {w V W : World} {p q : Nat} {L : List Int} (t : Tm w V W p q L L) (k o x : Int) (hk : 0 ≤ k ∧ k ≤ 255) (hk2 : k % 8 = 7) (ho : I64 o) (hx : I64 x) :
    Calls Try.prog 13 #[Pt p, Pt q, .agg #[.int .u8 k, .int .i64 o, .int .i64 x]] W (Dd w V p q) := by
  have act0 := Act3.last W k o x 33
  have ma := (Mod.refl [] W).alloc (.cells #[.int .u8 k, .int .i64 o, .int .i64 x] 33)
  have TA := Lib.hid (t.far ma)
  have TD := Lib.hid (t.far ma.drew)
  have hp := Nat.ne_of_gt t.s.lp
  have hq : W.heap.size ≠ q := by obtain ⟨A, cap, hr⟩ := t.r; exact Nat.ne_of_gt hr.lq
  have HPQ := Lib.hid (And.intro hp hq)
  have HX := Lib.hid hx
  have HO := Lib.hid ho
  have c0 := act0.c0
  have c1 := act0.c1
  have c2 := act0.c2
  clear t ma ho hx hp hq act0
  go_enter Try.func13, Try.ntmps13
  obtain ⟨r, hr⟩ : ∃ r, r = doL o L := ⟨_, rfl⟩
  have HR := Lib.hid hr
  clear hr
  go_wp2_with fail
  go_region_held3 (fun V => V.cell? ⟨W.heap.size, 1, none⟩ = some (.int .i64 o)) (first | assumption | go_keep) (first
    | ((with_reducible refine (TD.out.do1 o).mono ?_); rintro e w1 ⟨rfl, h1, m1⟩; rw [← HR.out] at h1 ⊢; have T1 := Lib.hid h1; have c21 := m1.cell (by simpa using HPQ.out.1) c1; clear h1 m1)
    | ((with_reducible refine (T1.out.do2 o).mono ?_); rintro e w2 ⟨rfl, h2, m2⟩; rw [← HR.out] at h2 ⊢; have T2 := Lib.hid h2; have c22 := m2.cell (by simpa using HPQ.out.2) c21; clear h2 m2))
  go_wp2
  go_ret
  exact ⟨ret_true (by simp), _, T2.out⟩
end Go.Proofs.Ytjmbmhjhnoiclaa
