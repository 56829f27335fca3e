/- Layer 13: PrimBelow's walk. Condition: the arguments are slices of cells and a number; the listed variables hold what they hold. -/
import Derived.Test.YtegcecpmdgljpaaGreatDoorVD
namespace Go.Proofs.YtegcecpmdgljpaaGreatDoor
open Go.RowKit
set_option linter.unusedVariables false

theorem Tryz.elemCellsB : Tryz.prog.elem 22 = 37 := by simp [Program.elem, Tryz.underlying22]
def fromA (A : Option Addr) (a cap : Nat) : Option Addr := if cap = a then A else A.map fun x => x.add a
theorem cells_from_on (W : World) (A : Option Addr) (len cap a : Nat) (hak : a ≤ len) (hk : len ≤ cap) :
    (Instr.sliceAt 22 (.slice A len cap) (some (.int .i64 (a : Int))) none none).run Tryz.prog W = .ok (.slice (fromA A a cap) (len - a) (cap - a)) W := by
  have ht' : Tryz.prog.underlying 22 = some (.slice (Tryz.prog.elem 22)) := by rw [Tryz.elemCellsB]; exact Tryz.underlying22
  rw [run_sliceAt_slice W 22 _ _ _ _ ht', run_slice_l W 22 A len cap ht' .i64 a (by omega) (by omega), Tryz.elemCellsB, Tryz.sizeCellIn]
  show Result.ok (sliced A (a : Int).toNat len cap 1) W = _
  unfold sliced fromA
  rw [Int.toNat_natCast, Nat.mul_one]
theorem Sl.drop {w : World} {A : Option Addr} {X : List Int} (h : Sl w A X) (a cap : Nat) (hc : X.length ≤ cap) : Sl w (fromA A a cap) (X.drop a) := fun j hj => by
  have hj' : a + j < X.length := by simp at hj; omega
  obtain ⟨b, off, rfl, hx⟩ := h (a + j) hj'
  refine ⟨b, off + a, ?_, ?_⟩
  · unfold fromA
    rw [if_neg (by omega)]
    show some ((⟨b, off, none⟩ : Addr).add a) = _
    congr 1
    unfold Addr.add
    split <;> simp_all
  · rw [Nat.add_assoc, hx]
    simp

theorem same_self {w : World} {A B : Option Addr} {n m c d : Nat} {X : List Int} (hs : Sl w A X) (ht : Sl w B X) (hn : n = X.length) (hm : m = X.length) (hb : X.length ≤ 9223372036854775807) :
    Calls Tryz.prog 19 #[.slice A n c, .slice B m d] w fun e w' => e = .returned (.bool true) ∧ Mod [] w w' :=
  (same_calls hs ht hn hm hb hb).mono fun e w' ⟨h, k⟩ => ⟨by rw [h, decide_eq_true rfl], k⟩
set_option maxHeartbeats 4000000 in
set_option maxRecDepth 100000 in
theorem below_walk {w : World} (g : Good w) (A1 : Option Addr) (len1 cap1 : Nat) (zs1 : List Int) (R1 : RowIn .i64 w A1 len1 cap1 zs1) (A2 : Option Addr) (len2 cap2 : Nat) (zs2 : List Int) (R2 : RowIn .i64 w A2 len2 cap2 zs2) (op : Int) (ho : (Lit.int .i64 op).wf = true) :
    Calls Tryz.prog 4 #[.slice A1 len1 cap1, .slice A2 len2 cap2, .int .i64 op] w fun e w' => e = .returned (.bool true) ∧ Mod [] w w' := by
  obtain ⟨X, k1, C1⟩ := R1.came 50
  obtain ⟨Y, k2, C2⟩ := R2.came 50
  have D1 := Lib.hid C1
  have D2 := Lib.hid C2
  have G := Lib.hid g
  clear R1 R2 ho C1 C2 g
  go_enter Tryz.func4, Tryz.ntmps4
  go_wp2_with fail
  refine (shown13 w G.out).mono ?_
  rintro e w1 ⟨rfl, m1⟩
  have M1 := Lib.hid m1
  clear m1
  go_wp2_with fail
  refine (lv_new 1024 M1.out (G.out.mod M1.out (by simp)) (by decide) (by decide) (by decide)).mono ?_
  rintro e w2 ⟨a, rfl, h2, _⟩
  have H2 := Lib.hid h2
  clear h2 M1
  go_wp2_with fail
  refine (lv2_new H2.out).mono ?_
  rintro e w3 ⟨b, rfl, h3⟩
  have P3 := Lib.hid h3
  clear h3 H2
  by_cases h42 : op = 42
  · subst h42
    clear D1 D2
    go_wp2
    go_ret
    exact ⟨rfl, P3.out.mod⟩
  have b42 : (op == 42) = false := by simpa using h42
  by_cases h99 : op = 99
  · subst h99
    clear D1 D2 b42
    go_wp2
    go_ret
    exact ⟨rfl, P3.out.mod⟩
  have b99 : (op == 99) = false := by simpa using h99
  have HOP := Lib.hid (And.intro h42 h99)
  have hm1 : min (len1 : Int) 50 = (k1 : Int) := by rw [D1.out.e]; omega
  have hm2 : min (len2 : Int) 50 = (k2 : Int) := by rw [D2.out.e]; omega
  have hs1 := D1.out.h
  have hs2 := D2.out.h
  clear h42 h99
  go_wp2_with fail
  go_region
  have P4 := Lib.hid (P3.out.far (Mod.refl [] w3).drew)
  clear P3 hm1 hm2 hs1 hs2
  go_wp2_with fail
  refine (P4.out.one.stack).mono ?_
  rintro e w5 ⟨rfl, rfl⟩
  have hn1 : X.length ≤ 50 := by rw [D1.out.n, D1.out.e]; exact Nat.min_le_right _ _
  have hn2 : Y.length ≤ 50 := by rw [D2.out.n, D2.out.e]; exact Nat.min_le_right _ _
  have HN := Lib.hid (And.intro hn1 hn2)
  go_wp2_with fail
  refine (P4.out.doA fun T h => h.put cap1 (D1.out.s.mod P4.out.mod (by simp)) D1.out.n.symm D1.out.i (by have := D1.out.c; have := D1.out.m; omega)).mono ?_
  rintro e w5 ⟨rfl, h5⟩
  rw [putL_nil X (by omega)] at h5
  have P5 := Lib.hid h5
  clear h5 P4 hn1 hn2
  go_wp2_with fail
  refine (P5.out.one.stack).mono ?_
  rintro e w6 ⟨rfl, rfl⟩
  go_wp2_with fail
  refine (P5.out.doA fun T h => h.put cap2 (D2.out.s.mod P5.out.mod (by simp)) D2.out.n.symm D2.out.i (by have := D2.out.c; have := D2.out.m; omega)).mono ?_
  rintro e w6 ⟨rfl, h6⟩
  rw [putL_ok (by have := HN.out; omega)] at h6
  have P6 := Lib.hid h6
  clear h6 P5
  go_wp2_with fail
  refine (P6.out.swap.one.stack).mono ?_
  rintro e w7 ⟨rfl, rfl⟩
  go_wp2_with fail
  refine (P6.out.doB fun T h => h.put cap2 (D2.out.s.mod P6.out.mod (by simp)) D2.out.n.symm D2.out.i (by have := D2.out.c; have := D2.out.m; omega)).mono ?_
  rintro e w7 ⟨rfl, h7⟩
  rw [putL_nil Y (by have := HN.out; omega)] at h7
  obtain ⟨er, Z, μ', hB, hA⟩ := below_do op HOP.out.1 HOP.out.2 X Y HN.out.1 HN.out.2 (mu0 1024) h7.one.muok D2.out.i
  have P7 := Lib.hid (show Lv2 w w7 a (X ++ Y) (mu0 1024) b Y (mu0 1024) from h7)
  have HAB := Lib.hid (And.intro hA hB)
  clear h7 P6 hA hB
  by_cases h4 : er = -4
  · subst h4
    go_wp2_with fail
    refine (P7.out.anyA op).mono ?_
    rintro e w8 ⟨e8, C8, μ8, rfl, h8⟩
    have P8 := Lib.hid h8
    clear h8 P7
    go_wp2_with fail
    refine (P8.out.doB fun T h => HAB.out.2 _ _ _ h).mono ?_
    rintro e w9 ⟨rfl, h9⟩
    have P9 := Lib.hid h9
    clear h9 P8
    go_wp2
    go_ret
    exact ⟨rfl, P9.out.mod⟩
  have b4 : (er == -4) = false := by simpa using h4
  have bab : (er != er) = false := by simp
  have bee : (er == er) = true := by simp
  go_wp2_with fail
  refine (P7.out.doA fun T h => HAB.out.1 h4 _ _ _ h).mono ?_
  rintro e w8 ⟨rfl, h8⟩
  have P8 := Lib.hid h8
  clear h8 P7 h4
  go_wp2_with fail
  refine (P8.out.doB fun T h => HAB.out.2 _ _ _ h).mono ?_
  rintro e w9 ⟨rfl, h9⟩
  have P9 := Lib.hid h9
  clear h9 P8 HAB
  go_wp2_with fail
  refine (P9.out.one.stack).mono ?_
  rintro e w10 ⟨rfl, rfl⟩
  go_wp2_with fail
  refine (P9.out.one.all).mono ?_
  rintro e w11 ⟨bk, c, rfl, ho, _, hm⟩
  have P11 := Lib.hid (P9.out.far hm)
  have O11 := Lib.hid ho
  have HZ := Lib.hid (show X.length + Z.length ≤ 128 by have := P9.out.one.n; simpa using this)
  have HZ2 := Lib.hid (show Z.length ≤ 128 from P9.out.swap.one.n)
  clear ho hm P9
  have hcap : (X ++ Z).length ≤ c := by obtain ⟨cur, _, h2, h3, _⟩ := O11.out; omega
  have hXk : (X ++ Z).length = k1 + Z.length := by rw [List.length_append, D1.out.n]
  have hsl := fun W => cells_in W (some ⟨bk, 0, none⟩) (X ++ Z).length c k1 (by omega)
  have hsl2 := fun W => cells_from_on W (some ⟨bk, 0, none⟩) (X ++ Z).length c k1 (by omega) hcap
  have hs1 := O11.out.sl.take k1
  rw [← D1.out.n, List.take_left] at hs1
  have hs2 := O11.out.sl.drop k1 c hcap
  rw [← D1.out.n, List.drop_left, D1.out.n] at hs2
  rw [hXk] at hsl hsl2 ⊢
  obtain ⟨N, hN⟩ : ∃ N, N = k1 + Z.length := ⟨_, rfl⟩
  have hN1 : k1 ≤ N := by omega
  have hN2 : (N : Int) ≤ 128 := by have := HZ.out; have := D1.out.n; omega
  rw [← hN] at hsl hsl2 ⊢
  obtain ⟨n2, hn2⟩ : ∃ n2, n2 = N - k1 := ⟨_, rfl⟩
  rw [← hn2] at hsl2
  have HN2 := Lib.hid (show n2 = Z.length by omega)
  generalize fromA (some ⟨bk, 0, none⟩) k1 c = Af at hsl2 hs2
  generalize c - k1 = cf at hsl2
  have HS1 := Lib.hid hs1
  have HS2 := Lib.hid hs2
  clear hs1 hs2 hN hcap hXk hn2
  have mD : Mod [] w11 w11.drew := (Mod.refl [] w11).drew
  have PD := Lib.hid (P11.out.far mD)
  have SD := Lib.hid (HS2.out.mod mD (by simp))
  have HQ := Lib.hid (same_self (c := c) (d := cap1) (HS1.out.mod mD (by simp)) (D1.out.s.mod PD.out.mod (by simp)) D1.out.n.symm D1.out.n.symm (by have := HN.out; omega))
  have hNI : (k1 : Int) ≤ (N : Int) := by omega
  obtain ⟨S, hS⟩ : ∃ S, S = str μ'.O := ⟨_, rfl⟩
  have HSO := Lib.hid hS
  clear hS HS1 HS2 mD P11 O11 G HOP
  go_wp2_with fail
  go_region_held3 (fun V => True) (exact trivial) (first | ((with_reducible refine (HQ.out).mono ?_); rintro e w12 ⟨rfl, m12⟩; have P12 := Lib.hid (PD.out.far m12); have S12 := Lib.hid (SD.out.mod m12 (by simp))) | ((with_reducible refine (P12.out.swap.one.stack).mono ?_); rintro e w13 ⟨rfl, rfl⟩) | ((with_reducible refine (P12.out.swap.one.all).mono ?_); rintro e w13 ⟨b2, c2, rfl, ho2, _, hm2⟩; have P13 := Lib.hid (P12.out.far hm2); have O13 := Lib.hid ho2; have S13 := Lib.hid (S12.out.mod hm2 (by simp)); clear ho2 hm2) | ((with_reducible refine (same_self S13.out O13.out.sl HN2.out rfl (by have := HZ2.out; omega)).mono ?_); rintro e w14 ⟨rfl, m14⟩; have P14 := Lib.hid (P13.out.far m14); have HO1 := Lib.hid P14.out.one.out; have HO2 := Lib.hid P14.out.swap.one.out; rw [← HSO.out] at HO1 HO2; clear m14) | ((with_reducible refine (HO1.out).mono ?_); rintro e w15 ⟨rfl, rfl⟩) | ((with_reducible refine (HO2.out).mono ?_); rintro e w15 ⟨rfl, rfl⟩) | fail)
  all_goals (go_wp2; go_ret; exact ⟨rfl, P14.out.mod⟩)
end Go.Proofs.YtegcecpmdgljpaaGreatDoor
