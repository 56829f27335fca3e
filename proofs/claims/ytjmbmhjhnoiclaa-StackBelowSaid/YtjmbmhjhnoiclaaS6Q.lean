/- Layer 6: rows that came in; StackBelow's walk. Condition: the arguments are slices of cells and a number of its kind. -/
import Derived.Test.YtjmbmhjhnoiclaaS6P
import Derived.OpenShut
namespace Go.Proofs.Ytjmbmhjhnoiclaa
open Go.RowKit
set_option linter.unusedVariables false

/-- A slice that came in: nil, or a row of numbers. -/
def Row (k : IntKind) (w : World) (a : Option Addr) (len cap : Nat) (zs : List Int) : Prop :=
  (a = none ∧ len = 0 ∧ cap = 0 ∧ zs = []) ∨
  ∃ x, a = some x ∧ len ≤ cap ∧ cap ≤ maxLen ∧ zs.length = cap ∧ (∀ i, i < zs.length → w.cell? (x.add i) = some (.int k (zs.getD i 0))) ∧ ∀ n ∈ zs, (Lit.int k n).wf = true
/-- The row of a slice that came in, and its head of M cells. -/
structure Came (w : World) (A : Option Addr) (len cap M : Nat) (X : List Int) (k : Nat) : Prop where
  s : Sl w A X
  n : X.length = k
  e : k = min len M
  i : ∀ x ∈ X, I64 x
  c : k ≤ cap
  l : len ≤ cap
  m : cap ≤ 9223372036854775807
  a : A = none → cap = 0
  h : ∀ W, (Instr.sliceAt 27 (.slice A len cap) none (some (.int .i64 (k : Int))) none).run Try.prog W = .ok (.slice A k cap) W
theorem Row.came {w : World} {A : Option Addr} {len cap : Nat} {zs : List Int} (R : Row .i64 w A len cap zs) (M : Nat) : ∃ X k, Came w A len cap M X k := by
  rcases R with ⟨rfl, rfl, rfl, rfl⟩ | ⟨x, rfl, h1, h2, h3, h4, h5⟩
  · exact ⟨[], 0, Sl.nil _ _, rfl, by simp, by simp, Nat.le_refl _, Nat.le_refl _, by omega, fun _ => rfl, fun W => cells_upto W _ _ _ 0 (Nat.le_refl _)⟩
  · refine ⟨zs.take (min len M), min len M, fun j hj => ?_, by simp; omega, rfl, fun y hy => i64_of_wf (h5 y (List.mem_of_mem_take hy)), by omega, h1, by unfold maxLen at h2; omega, by simp, fun W => cells_upto W _ _ _ _ (by omega)⟩
    have hj' : j < zs.length := by simp at hj; omega
    have hc := h4 j hj'
    have e : (zs.take (min len M))[j] = zs.getD j 0 := by simp [List.getD, List.getElem?_eq_getElem hj']
    rw [e]
    have hsp : x.spot = none := by
      have h0 := h4 0 (by omega)
      rw [addr_zero] at h0
      exact World.cell?_spot h0
    obtain ⟨b, o, sp⟩ := x
    cases sp with
    | none =>
      refine ⟨b, o, rfl, ?_⟩
      have : (⟨b, o, none⟩ : Addr).add j = ⟨b, o + j, none⟩ := by unfold Addr.add; split <;> simp_all
      rw [← this]
      exact hc
    | some s => simp at hsp
theorem Came.b {w : World} {A : Option Addr} {len cap M : Nat} {X : List Int} {k : Nat} (h : Came w A len cap M X k) : ∀ x, A = some x → 0 < X.length → x.block < w.heap.size := fun x hx h0 => by
  obtain ⟨b, off, e, hc⟩ := h.s 0 h0
  rw [e] at hx
  injection hx with hx
  subst hx
  exact World.block_lt_of_cell? w _ hc
theorem putL_nil (X : List Int) (h : X.length ≤ 128) : putL X [] = (0, X) := by rw [putL_ok (by simpa using h)]; rfl
theorem bne_self (a : Int) : (a != a) = false := by simp
set_option maxHeartbeats 4000000 in
set_option maxRecDepth 100000 in
theorem below_walk (w : World) (A1 : Option Addr) (len1 cap1 : Nat) (zs1 : List Int) (A2 : Option Addr) (len2 cap2 : Nat) (zs2 : List Int) (op : Int) (R1 : Row .i64 w A1 len1 cap1 zs1) (R2 : Row .i64 w A2 len2 cap2 zs2) (ho : (Lit.int .i64 op).wf = true) :
    Calls Try.prog 4 #[.slice A1 len1 cap1, .slice A2 len2 cap2, .int .i64 op] w fun e w' => e = .returned (.bool true) ∧ Mod [] w w' := by
  obtain ⟨X, k1, C1⟩ := R1.came 60
  obtain ⟨Y, k2, C2⟩ := R2.came 60
  have HO := Lib.hid (i64_of_wf ho)
  clear R1 R2 ho
  have D1 := Lib.hid C1
  have D2 := Lib.hid C2
  go_enter Try.func4, Try.ntmps4
  go_wp2_with fail
  refine (shown_calls w).mono ?_
  rintro e w1 ⟨rfl, m1⟩
  have M1 := Lib.hid m1
  clear m1 C1 C2
  go_wp2_with fail
  refine (new_calls _).mono ?_
  rintro e w2 ⟨p, rfl, s2, m2, l2⟩
  have H2 := Lib.hid (And.intro s2 (And.intro (M1.out.far m2) (Nat.le_trans M1.out.size l2)))
  clear s2 m2 l2 M1
  go_wp2_with fail
  refine (new_calls _).mono ?_
  rintro e w3 ⟨q, rfl, s3, m3, l3⟩
  have P3 := Lib.hid (fresh2 H2.out.1 H2.out.2.1 H2.out.2.2 s3 m3 l3)
  clear s3 m3 l3 H2
  by_cases h42 : op = 42
  · subst h42
    clear D1 D2
    go_wp2
    go_ret
    exact ⟨rfl, P3.out.m⟩
  · have b42 : (op == 42) = false := by simpa using h42
    have H42 := Lib.hid h42
    have hm1 : (if (60 : Int) < (len1 : Int) then (60 : Int) else (len1 : Int)) = (k1 : Int) := by rw [D1.out.e]; split <;> omega
    have hm2 : (if (60 : Int) < (len2 : Int) then (60 : Int) else (len2 : Int)) = (k2 : Int) := by rw [D2.out.e]; split <;> omega
    have hs1 := D1.out.h
    have hs2 := D2.out.h
    clear h42
    go_wp2_with fail
    go_region
    have P4 := Lib.hid (P3.out.far (Mod.refl [] w3).drew)
    clear P3 hm1 hm2 hs1 hs2
    go_wp2_with fail
    refine (P4.out.put1 cap1 (D1.out.s.far P4.out.m) D1.out.n.symm D1.out.i (by have := D1.out.c; have := D1.out.m; omega)).mono ?_
    rintro e w5 ⟨rfl, h5⟩
    have hn1 : X.length ≤ 60 := by rw [D1.out.n, D1.out.e]; exact Nat.min_le_right _ _
    have hn2 : Y.length ≤ 60 := by rw [D2.out.n, D2.out.e]; exact Nat.min_le_right _ _
    have HN := Lib.hid (And.intro hn1 hn2)
    rw [putL_nil X (by omega)] at h5
    have P5 := Lib.hid h5
    clear h5 P4 hn1 hn2
    go_wp2_with fail
    refine (P5.out.put1 cap2 (D2.out.s.far P5.out.m) D2.out.n.symm D2.out.i (by have := D2.out.c; have := D2.out.m; omega)).mono ?_
    rintro e w6 ⟨rfl, h6⟩
    rw [putL_ok (by have := HN.out; omega)] at h6
    have P6 := Lib.hid h6
    clear h6 P5
    go_wp2_with fail
    refine (P6.out.put2 cap2 (D2.out.s.far P6.out.m) D2.out.n.symm D2.out.i (by have := D2.out.c; have := D2.out.m; omega)).mono ?_
    rintro e w7 ⟨rfl, h7⟩
    rw [putL_nil Y (by have := HN.out; omega)] at h7
    have P7 := Lib.hid h7
    clear h7 P6
    go_wp2_with fail
    refine (P7.out.do1 op).mono ?_
    rintro e w8 ⟨rfl, h8⟩
    have P8 := Lib.hid (show Pr w w8 p q (doL op (X ++ Y)).2 Y from h8)
    clear h8 P7
    obtain ⟨a, ha⟩ : ∃ a, a = (doL op (X ++ Y)).1 := ⟨_, rfl⟩
    obtain ⟨b, hb⟩ : ∃ b, b = (doL op Y).1 := ⟨_, rfl⟩
    rw [← ha]
    have HA := Lib.hid ha
    have HB := Lib.hid hb
    clear ha hb
    go_wp2_with fail
    refine (P8.out.do2 op).mono ?_
    rintro e w9 ⟨rfl, h9⟩
    rw [← HB.out]
    have P9 := Lib.hid h9
    clear h9 P8
    by_cases hb : b = -4
    · subst hb
      have hr : (28 : Int) ≤ op ∧ op ≤ 42 := by
        refine Classical.byContradiction fun hr => ?_
        have := HB.out
        rw [(doL_err op H42.out Y (by have := HN.out; omega)).2 hr] at this
        omega
      have hA := (doL_err op H42.out (X ++ Y) (by have := HN.out; simp; omega)).1 hr
      rw [← HA.out] at hA
      clear hr
      rcases hA with hA | hA
      all_goals
        subst hA
        go_wp2
        go_ret
        exact ⟨rfl, P9.out.m⟩
    · have hd := doL_below op H42.out X Y (by have := HN.out; omega) (by have := HN.out; omega) (by rw [← HB.out]; exact hb)
      have bb : (b == -4) = false := by simpa using hb
      have hab : a = b := by rw [HA.out, HB.out, hd]
      obtain ⟨Z, hZ⟩ : ∃ Z, Z = (doL op Y).2 := ⟨_, rfl⟩
      have P10 := Lib.hid (show Pr w w9 p q (X ++ Z) Z by have := P9.out; rw [hd, ← hZ] at this; exact this)
      have HZ := Lib.hid (show X.length + Z.length ≤ 128 by have := P10.out.s.n; simpa using this)
      subst hab
      clear hd hb hZ P9 HA HB
      go_wp2_with fail
      refine (P10.out.all1).mono ?_
      rintro e w11 ⟨bk, c, rfl, ho, hl, hm, h11⟩
      have P11 := Lib.hid h11
      have O11 := Lib.hid ho
      clear ho hl hm h11 P10
      have hcap : (X ++ Z).length ≤ c := by obtain ⟨cur, _, h2, h3, _⟩ := O11.out; omega
      have hXk : (X ++ Z).length = k1 + Z.length := by rw [List.length_append, D1.out.n]
      have hsl := fun W => cells_upto W (some ⟨bk, 0, none⟩) (X ++ Z).length c k1 (by omega)
      have hsl2 := fun W => cells_from_on W (some ⟨bk, 0, none⟩) (X ++ Z).length c k1 (by omega) hcap
      have hs1 := O11.out.sl.take k1
      rw [← D1.out.n, List.take_left] at hs1
      have hs2 := O11.out.sl.drop k1 c hcap
      rw [← D1.out.n, List.drop_left, D1.out.n] at hs2
      rw [hXk] at hsl hsl2 ⊢
      obtain ⟨N, hN⟩ : ∃ N, N = k1 + Z.length := ⟨_, rfl⟩
      have hN1 : k1 ≤ N := by omega
      have hN2 : (N : Int) ≤ 128 := by have := HZ.out; have := D1.out.n; omega
      rw [← hN] at hsl hsl2 ⊢
      obtain ⟨n2, hn2⟩ : ∃ n2, n2 = N - k1 := ⟨_, rfl⟩
      rw [← hn2] at hsl2
      have HN2 := Lib.hid (show n2 = Z.length by omega)
      generalize fromA (some ⟨bk, 0, none⟩) k1 c = Af at hsl2 hs2
      generalize c - k1 = cf at hsl2
      have HS1 := Lib.hid hs1
      have HS2 := Lib.hid hs2
      have bab : (a != a) = false := bne_self a
      clear hs1 hs2 hN hcap hXk hn2
      go_wp2_with fail
      refine (same_calls HS1.out (D1.out.s.far P11.out.m) D1.out.n.symm D1.out.n.symm (by have := HN.out; omega) (by have := HN.out; omega)).mono ?_
      rintro e w12 ⟨rfl, m12⟩
      rw [decide_eq_true rfl]
      have P12 := Lib.hid (P11.out.far m12)
      have HS3 := Lib.hid (HS2.out.far m12)
      clear m12 P11 HS2 HS1
      have PD := Lib.hid (P12.out.far (Mod.refl [] w12).drew)
      have SD := Lib.hid (HS3.out.far (Mod.refl [] w12).drew)
      go_wp2_with fail
      go_region_held3 (fun V => True) (exact trivial) (first
        | ((with_reducible refine (PD.out.all2).mono ?_); rintro e w13 ⟨b2, c2, rfl, ho2, hl2, hm2, h13⟩; have P13 := Lib.hid h13; have O13 := Lib.hid ho2; have S13 := Lib.hid (SD.out.far hm2); clear ho2 hl2 hm2 h13)
        | ((with_reducible refine (same_calls S13.out O13.out.sl HN2.out rfl (by have := HZ.out; omega) (by have := HZ.out; omega)).mono ?_); rintro e w14 ⟨rfl, m14⟩; have P14 := Lib.hid (P13.out.far m14); clear m14))
      go_wp2
      go_ret
      exact ⟨by simp, P14.out.m⟩
end Go.Proofs.Ytjmbmhjhnoiclaa
