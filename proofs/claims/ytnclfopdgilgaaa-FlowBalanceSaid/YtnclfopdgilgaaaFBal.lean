/- Layer 11: parts are closed the last one first (FlowBalance's walk). Condition: the row of small numbers came in. -/
import Derived.Test.YtnclfopdgilgaaaFMayB
namespace Go.Proofs.Ytnclfopdgilgaaa
open Go.RowKit
set_option linter.unusedVariables false

def begN : List Int := [1, 4, 9, 10, 14]
def endN : List Int := [3, 7, 11, 12, 17]
def kdB (y : Nat) : Nat := [1, 2, 3, 3, 4].getD y 0
theorem bal_begin {B : Bd} {y : Nat} {n : Int} (hn : begN[y]? = some n) (hL : B.L.length < 499) (hP : B.P.length < 32) : (doB n B).1 = 0 ∧ (doB n B).2.P.map Pk.k = B.P.map Pk.k ++ [kdB y] := by
  have hy : y < 5 := by have := (List.getElem?_eq_some_iff.1 hn).1; simpa [begN] using this
  have hc : y = 0 ∨ y = 1 ∨ y = 2 ∨ y = 3 ∨ y = 4 := by omega
  have fine : ∀ (n : Int) (la a k : Nat), rowI n = some ⟨[], 0, la, true, a⟩ → (∀ B, ∃ q, (actB a B).P = B.P ++ [q] ∧ q.k = k) → (doB n B).1 = 0 ∧ (doB n B).2.P.map Pk.k = B.P.map Pk.k ++ [k] := fun n la a k hr ha => by
    rw [do_fine n _ hr (by unfold fitsB; simp [ends_nil]) (by unfold roomB; simp [hL, hP])]
    refine ⟨rfl, ?_⟩
    simp only
    split
    · obtain ⟨q, e, hq⟩ := ha B
      rw [e]; simp [hq]
    · obtain ⟨q, e, hq⟩ := ha (layB ⟨la, 0, 0⟩ B)
      rw [e]; simp [hq, layB]
  rcases hc with rfl | rfl | rfl | rfl | rfl
  all_goals obtain rfl := Option.some.inj hn
  · exact fine 1 4 0 1 rfl fun B => ⟨_, rfl, rfl⟩
  · exact fine 4 0 3 2 rfl fun B => ⟨_, rfl, rfl⟩
  · exact fine 9 5 7 3 rfl fun B => ⟨_, rfl, rfl⟩
  · exact fine 10 6 8 3 rfl fun B => ⟨_, rfl, rfl⟩
  · exact fine 14 0 10 4 rfl fun B => ⟨_, rfl, rfl⟩
theorem bal_end {B : Bd} {y : Nat} {n : Int} (hn : endN[y]? = some n) {C : List Pk} {q : Pk} (hB : B.P = C ++ [q]) (hL : B.L.length < 499) : (q.k = kdB y → (doB n B).1 = 0 ∧ (doB n B).2.P = C) ∧ (q.k ≠ kdB y → doB n B = (-22, B)) := by
  have hy : y < 5 := by have := (List.getElem?_eq_some_iff.1 hn).1; simpa [endN] using this
  have hc : y = 0 ∨ y = 1 ∨ y = 2 ∨ y = 3 ∨ y = 4 := by omega
  have fine : ∀ (n : Int) (k la a : Nat), rowI n = some ⟨[k], 0, la, false, a⟩ → (∀ B, (actB a B).P = B.P.dropLast) → (q.k = k → (doB n B).1 = 0 ∧ (doB n B).2.P = C) ∧ (q.k ≠ k → doB n B = (-22, B)) := fun n k la a hr ha => by
    refine ⟨fun hk => ?_, fun hk => ?_⟩
    · rw [do_fine n _ hr (by unfold fitsB; rw [hB, ← hk]; simp [ends_snoc]) (by unfold roomB; simp [hL])]
      refine ⟨rfl, ?_⟩
      simp only
      rw [ha]
      split
      · rw [hB]; simp
      · show (layB _ B).P.dropLast = C
        unfold layB
        simp [hB]
    · exact do_miss n _ hr (by unfold fitsB; rw [hB]; simp [ends_no hk])
  rcases hc with rfl | rfl | rfl | rfl | rfl
  all_goals obtain rfl := Option.some.inj hn
  · exact fine 3 1 0 2 rfl fun B => rfl
  · exact fine 7 2 4 6 rfl fun B => rfl
  · exact fine 11 3 7 6 rfl fun B => rfl
  · exact fine 12 3 8 6 rfl fun B => rfl
  · exact fine 17 4 11 2 rfl fun B => rfl
theorem u8_in {x : Int} (h : (Lit.int .u8 x).wf = true) : 0 ≤ x ∧ x ≤ 255 := by
  simpa [Lit.wf, IntKind.min, IntKind.max, IntKind.signed, IntKind.bits] using h
/-- A literal row of numbers lies at block R. -/
def LitAt (w : World) (R : Nat) (l : List Int) : Prop := ∀ i x, l[i]? = some x → w.cell? ⟨R, i, none⟩ = some (.int .i64 x)
theorem LitAt.far {w w' : World} {R : Nat} {l : List Int} (h : LitAt w R l) (m : Mod [] w w') : LitAt w' R l := fun i x hx => m.cell (by simp) (h i x hx)
def kz (x : Int) : Nat := kdB (x % 5).toNat
theorem two_lits (w : World) : ∃ w2, w2 = (w.alloc (.cells #[.int .i64 1, .int .i64 4, .int .i64 9, .int .i64 10, .int .i64 14] 3)).alloc (.cells #[.int .i64 3, .int .i64 7, .int .i64 11, .int .i64 12, .int .i64 17] 3) ∧ Mod [] w w2 ∧ LitAt w2 w.heap.size begN ∧ LitAt w2 (w.heap.size + 1) endN := by
  have m1 := (Mod.refl [] w).alloc (.cells #[.int .i64 1, .int .i64 4, .int .i64 9, .int .i64 10, .int .i64 14] 3)
  refine ⟨_, rfl, m1.alloc _, ?_, ?_⟩
  · have h : LitAt (w.alloc (.cells #[.int .i64 1, .int .i64 4, .int .i64 9, .int .i64 10, .int .i64 14] 3)) w.heap.size begN := fun i x hx => by
      have hi : i < 5 := by have := (List.getElem?_eq_some_iff.1 hx).1; simpa [begN] using this
      have hc : i = 0 ∨ i = 1 ∨ i = 2 ∨ i = 3 ∨ i = 4 := by omega
      rcases hc with rfl | rfl | rfl | rfl | rfl
      all_goals
        obtain rfl := Option.some.inj hx
        rw [World.cell?_alloc_new]
        rfl
    exact h.far ((Mod.refl [] _).alloc _)
  · have h : LitAt ((w.alloc (.cells #[.int .i64 1, .int .i64 4, .int .i64 9, .int .i64 10, .int .i64 14] 3)).alloc (.cells #[.int .i64 3, .int .i64 7, .int .i64 11, .int .i64 12, .int .i64 17] 3)) (w.alloc (.cells #[.int .i64 1, .int .i64 4, .int .i64 9, .int .i64 10, .int .i64 14] 3)).heap.size endN := fun i x hx => by
      have hi : i < 5 := by have := (List.getElem?_eq_some_iff.1 hx).1; simpa [endN] using this
      have hc : i = 0 ∨ i = 1 ∨ i = 2 ∨ i = 3 ∨ i = 4 := by omega
      rcases hc with rfl | rfl | rfl | rfl | rfl
      all_goals
        obtain rfl := Option.some.inj hx
        rw [World.cell?_alloc_new]
        rfl
    have e : (w.alloc (.cells #[.int .i64 1, .int .i64 4, .int .i64 9, .int .i64 10, .int .i64 14] 3)).heap.size = w.heap.size + 1 := by rw [size_allocI]
    rwa [e] at h
theorem drop_top {P : List Pk} {l : List Int} {i : Nat} {x : Int} (h : P.map Pk.k = (l.take (i + 1)).map kz) (hx : l[i]? = some x) : ∃ C q, P = C ++ [q] ∧ C.map Pk.k = (l.take i).map kz ∧ q.k = kz x := by
  obtain ⟨hi, rfl⟩ := List.getElem?_eq_some_iff.1 hx
  rw [List.take_succ_eq_append_getElem hi, List.map_append] at h
  rcases List.eq_nil_or_concat P with rfl | ⟨C, q, rfl⟩
  · simp at h
  · rw [List.concat_eq_append, List.map_append] at h
    obtain ⟨h1, h2⟩ := List.append_inj' h rfl
    exact ⟨C, q, by simp, h1, by simpa using h2⟩
theorem kz_y {x : Int} {y : Nat} (h : x % 5 = (y : Int)) : kz x = kdB y := by unfold kz; rw [h]; rfl
theorem kd_ne {k y : Nat} (hk : k < 5) (hy : y < 5) (hne : k ≠ y) (hc : k < 2 ∨ ¬ k < 4 ∨ y < 2 ∨ ¬ y < 4) : kdB y ≠ kdB k := by
  have h1 : k = 0 ∨ k = 1 ∨ k = 2 ∨ k = 3 ∨ k = 4 := by omega
  have h2 : y = 0 ∨ y = 1 ∨ y = 2 ∨ y = 3 ∨ y = 4 := by omega
  rcases h1 with rfl | rfl | rfl | rfl | rfl <;> rcases h2 with rfl | rfl | rfl | rfl | rfl <;> first | (exfalso; omega) | decide
set_option maxHeartbeats 8000000 in
set_option maxRecDepth 100000 in
theorem bal_walk (w : World) (a : Option Addr) (len cap : Nat) (z : List Int) (hR : RowIn .u8 w a len cap z) :
    Calls Try.prog 5 #[.slice a len cap] w fun e w' => e = .returned (.bool true) ∧ Mod [] w w' := by
  obtain ⟨q, hq⟩ : ∃ q, q = min len 30 := ⟨_, rfl⟩
  obtain ⟨l, hl, hnum⟩ := hR.nums q (by omega)
  have hc := hR.le
  have hlenI : (len : Int) ≤ 9223372036854775807 := by omega
  have HU := Lib.hid (And.intro hq (And.intro hc fun W => upto_in W 48 5 Try.underlying48 size_u8 a len cap q (by omega)))
  have HN := Lib.hid (And.intro hl (And.intro hnum (show q ≤ 30 by omega)))
  have H1 := Lib.hid (shown_calls w)
  have H2 := Lib.hid (fun W => mb_new (Mod.refl [] W))
  clear hR hl hnum hc hq
  go_enter Try.func5, Try.ntmps5
  go_wp2_with fail
  refine (H1.out).mono ?_
  rintro e w1 ⟨rfl, hm1⟩
  have HM1 := Lib.hid hm1
  clear hm1 H1
  go_wp2_with fail
  refine (H2.out _).mono ?_
  rintro e w3 ⟨b, rfl, hb⟩
  obtain ⟨w2, hw2, hm2, hl1, hl2⟩ := two_lits w1
  rw [← hw2] at hb
  have HL := Lib.hid (And.intro hl1 hl2)
  have HM2 := Lib.hid (HM1.out.trans hm2)
  have h0 := Lib.hid hb
  clear hw2 hm2 hl1 hl2 hb H2 HM1
  go_upto_region 7 with fail
  go_cut [7] (fun u wx => u = .slice a q cap ∧ wx = w3)
  case first =>
    have hu := HU.out.2.2 w3
    have h1 := HU.out.1
    by_cases h6 : len ≤ 30
    · obtain rfl : q = len := by omega
      have h6I : (q : Int) ≤ 30 := by omega
      clear h1 h6
      go_wp2_with fail
      go_meet
      case rel => exact ⟨rfl, rfl⟩
    · obtain rfl : q = 30 := by omega
      have h6I : ¬ (len : Int) ≤ 30 := by omega
      have hu : (Instr.sliceAt 48 (.slice a len cap) none (some (.int .i64 30)) none).run Try.prog w3 = .ok (.slice a 30 cap) w3 := hu
      clear h1 h6
      go_wp2_with fail
      go_meet
      case rel => exact ⟨rfl, rfl⟩
  case rest =>
  obtain ⟨rfl, rfl⟩ := hcut
  clear HU
  have hqI : (q : Int) ≤ 30 := by have := HN.out.2.2; omega
  go_wp2_with fail
  go_loopg [32] q (fun g z wr => ∃ i : Nat, z = .int .i64 (i : Int) ∧ i + g = q ∧ RowKit.Hid (∃ B, Mb w2 wr b B ∧ B.P.map Pk.k = (l.take i).map kz ∧ B.L.length ≤ i))
  case atStart => exact ⟨0, rfl, by omega, Lib.hid ⟨_, h0.out, by simp, by simp⟩⟩
  case round =>
    clear h0
    obtain ⟨i, rfl, hig, hi⟩ := hrel
    obtain ⟨B, hB, hBk, hBl⟩ := hi.out
    clear hi
    by_cases hlt : i < q
    · have hltI : (i : Int) < (q : Int) := by omega
      obtain ⟨x, hx⟩ : ∃ x, l[i]? = some x := ⟨_, List.getElem?_eq_getElem (by have := HN.out.1; omega)⟩
      obtain ⟨hil, hx'⟩ := List.getElem?_eq_some_iff.1 hx
      obtain ⟨ax, hax, hcx⟩ := HN.out.2.1.1 i hil
      rw [hx'] at hcx
      have hcx := (HM2.out.trans hB.m).cell (by simp) hcx
      have hxb := u8_in (HN.out.2.1.2 x (List.mem_of_getElem? hx))
      subst hax
      obtain ⟨y, hy⟩ := Int.eq_ofNat_of_zero_le (show 0 ≤ x % 5 by omega)
      have hy2 : x.tmod 5 = (y : Int) := by rw [Int.tmod_eq_emod_of_nonneg (by omega)]; exact hy
      have hyb : (y : Int) < 5 := by omega
      have hw1 : IntKind.u8.wrap (y : Int) = (y : Int) := by rw [IntKind.wrap_u8]; omega
      obtain ⟨n0, hn0⟩ : ∃ n0, begN[y]? = some n0 := ⟨_, List.getElem?_eq_getElem (by simp [begN]; omega)⟩
      have hcb := hB.m.cell (by simp) (HL.out.1 y n0 hn0)
      have hlen : B.P.length = i := by have := congrArg List.length hBk; simp at this; omega
      have hz := bal_begin (B := B) hn0 (by omega) (by omega)
      have k := mb_do hB n0
      rw [hz.1] at k
      have hlen2 : ((doB n0 B).2.P.length : Int) = (i : Int) + 1 := by have := congrArg List.length hz.2; simp at this; omega
      have hz2 : (doB n0 B).2.P.map Pk.k = (l.take (i + 1)).map kz := by rw [hz.2, hBk, List.take_succ_eq_append_getElem hil, List.map_append, hx']; simp [kz_y hy]
      have HK := Lib.hid (And.intro hig (And.intro hlen2 (And.intro hz2 (show (doB n0 B).2.L.length ≤ i + 1 by have := do_len n0 B; omega))))
      have K1 := Lib.hid k
      clear k hB hBk hBl hig hx hx' hil hn0 hlen hz hlen2 hz2
      go_wp2_with fail
      refine (K1.out).mono ?_
      rintro e w4 ⟨rfl, hb4⟩
      have K2 := Lib.hid (mb_open hb4 _ HK.out.2.1)
      have HB4 := Lib.hid hb4
      clear hb4 K1
      go_wp2_with fail
      refine (K2.out).mono ?_
      rintro e w5 ⟨rfl, rfl⟩
      clear K2
      go_wp2_with fail
      go_roundg (gk - 1)
      case measure => have := HK.out.1; omega
      case rel => exact ⟨i + 1, by go_num, by have := HK.out.1; omega, Lib.hid ⟨_, HB4.out, HK.out.2.2.1, HK.out.2.2.2⟩⟩
    · have hltI : ¬ (i : Int) < (q : Int) := by omega
      obtain rfl : i = q := by omega
      have h0 := Lib.hid (show ∃ B, Mb w2 wr b B ∧ B.P.map Pk.k = (l.take i).map kz ∧ B.L.length + i ≤ 60 from ⟨B, hB, hBk, by have := HN.out.2.2; omega⟩)
      clear hB hBk hBl hig hlt
      go_wp2_with fail
      go_loopg [10] i (fun g z wr => ∃ y : Int, z = .int .i64 y ∧ y + 1 = (g : Int) ∧ RowKit.Hid (g ≤ i) ∧ RowKit.Hid (∃ B, Mb w2 wr b B ∧ B.P.map Pk.k = (l.take g).map kz ∧ B.L.length + g ≤ 60))
      case atStart => exact ⟨(i : Int) - 1, by first | rfl | go_num, by omega, Lib.hid (Nat.le_refl _), h0⟩
      case round =>
        clear h0
        obtain ⟨y, rfl, hyg, hgi, hr⟩ := hrel
        obtain ⟨B, hB, hBk, hBl⟩ := hr.out
        clear hr
        by_cases h0 : 0 ≤ y
        · obtain ⟨j, rfl⟩ := Int.eq_ofNat_of_zero_le h0
          have hgj : gk = j + 1 := by omega
          rw [hgj] at hBk hBl
          have hji : j < i := by have := hgi.out; omega
          have hjI : (j : Int) < (i : Int) := by omega
          have hjI2 : (j : Int) ≤ 30 := by have := HN.out.2.2; omega
          obtain ⟨x, hx⟩ : ∃ x, l[j]? = some x := ⟨_, List.getElem?_eq_getElem (by have := HN.out.1; omega)⟩
          obtain ⟨hil, hx'⟩ := List.getElem?_eq_some_iff.1 hx
          obtain ⟨ax, hax, hcx⟩ := HN.out.2.1.1 j hil
          rw [hx'] at hcx
          have HCX := Lib.hid (HM2.out.cell (by simp) hcx)
          have hxb := u8_in (HN.out.2.1.2 x (List.mem_of_getElem? hx))
          subst hax
          obtain ⟨y, hy⟩ := Int.eq_ofNat_of_zero_le (show 0 ≤ x % 5 by omega)
          have hy2 : x.tmod 5 = (y : Int) := by rw [Int.tmod_eq_emod_of_nonneg (by omega)]; exact hy
          have hyb : (y : Int) < 5 := by omega
          have hw1 : IntKind.u8.wrap (y : Int) = (y : Int) := by rw [IntKind.wrap_u8]; omega
          have hw2 : IntKind.i64.wrap (y : Int) = (y : Int) := by rw [IntKind.wrap_i64]; omega
          obtain ⟨C, qq, hP, hC, hqk⟩ := drop_top hBk hx
          rw [kz_y hy] at hqk
          have hPl : (B.P.length : Int) = (j : Int) + 1 := by have := congrArg List.length hBk; simp at this; have := HN.out.1; omega
          have hCl : (C.length : Int) = (j : Int) := by have := hPl; rw [hP] at this; simp at this; omega
          have HF := Lib.hid (And.intro hP (And.intro hC (And.intro hqk (And.intro hPl (And.intro hCl (And.intro hBl hgj))))))
          have HB := Lib.hid hB
          obtain ⟨gO, hgO⟩ : ∃ gO, gO = gk := ⟨_, rfl⟩
          have HGO := Lib.hid hgO
          clear hgO hP hC hqk hPl hCl hB hBk hBl hyg hgi hgj h0 hx hx' hil hcx hji
          go_wp2_with fail
          go_loopg [62] 5 (fun g z wx => ∃ k : Nat, z = .int .i64 (k : Int) ∧ k + g = 5 ∧ RowKit.Hid (Mb w2 wx b B))
          case atStart => exact ⟨0, rfl, by omega, HB⟩
          case round =>
            obtain ⟨k, rfl, hkg, hk⟩ := hrel
            by_cases hlt : k < 5
            · have hltI : (k : Int) < 5 := by omega
              obtain ⟨n0, hn0⟩ : ∃ n0, endN[k]? = some n0 := ⟨_, List.getElem?_eq_getElem (by simp [endN]; omega)⟩
              have hcb := hk.out.m.cell (by simp) (HL.out.2 k n0 hn0)
              have hcx := hk.out.m.cell (by simp) HCX.out
              have HK := Lib.hid (And.intro hkg (And.intro hn0 hk.out))
              have hcase : k = y ∨ (¬ (k : Int) = (y : Int) ∧ 2 ≤ (k : Int) ∧ (k : Int) < 4 ∧ 2 ≤ (y : Int) ∧ (y : Int) < 4) ∨ (¬ (k : Int) = (y : Int) ∧ ¬ 2 ≤ (k : Int)) ∨ (¬ (k : Int) = (y : Int) ∧ 2 ≤ (k : Int) ∧ ¬ (k : Int) < 4) ∨ (¬ (k : Int) = (y : Int) ∧ 2 ≤ (k : Int) ∧ (k : Int) < 4 ∧ ¬ 2 ≤ (y : Int)) ∨ (¬ (k : Int) = (y : Int) ∧ 2 ≤ (k : Int) ∧ (k : Int) < 4 ∧ 2 ≤ (y : Int) ∧ ¬ (y : Int) < 4) := by omega
              clear hn0 hk hkg hlt
              rcases hcase with rfl | ⟨c1, c2, c3, c4, c5⟩ | hcase
              · go_wp2_with fail
                go_roundg (gk - 1)
                case measure => have := HK.out.1; omega
                case rel => exact ⟨k + 1, by go_num, by have := HK.out.1; omega, Lib.hid HK.out.2.2⟩
              · go_wp2_with fail
                go_roundg (gk - 1)
                case measure => have := HK.out.1; omega
                case rel => exact ⟨k + 1, by go_num, by have := HK.out.1; omega, Lib.hid HK.out.2.2⟩
              · have hno := (bal_end (B := B) HK.out.2.1 HF.out.1 (by have := HF.out.2.2.2.2.2.1; omega)).2 (by rw [HF.out.2.2.1]; exact kd_ne (by omega) (by omega) (by omega) (by omega))
                have kk := mb_do HK.out.2.2 n0
                rw [hno] at kk
                have K1 := Lib.hid kk
                clear kk hno
                rcases hcase with ⟨c1, c2⟩ | ⟨c1, c2, c3⟩ | ⟨c1, c2, c3, c4⟩ | ⟨c1, c2, c3, c4, c5⟩
                all_goals
                  go_wp2_with fail
                  refine (K1.out).mono ?_
                  rintro e w4 ⟨rfl, hb4⟩
                  have K2 := Lib.hid (mb_open hb4 _ HF.out.2.2.2.1)
                  have HB4 := Lib.hid hb4
                  clear hb4
                  go_wp2_with fail
                  refine (K2.out).mono ?_
                  rintro e w5 ⟨rfl, rfl⟩
                  clear K2
                  go_wp2_with fail
                  go_roundg (gk - 1)
                  case measure => have := HK.out.1; omega
                  case rel => exact ⟨k + 1, by go_num, by have := HK.out.1; omega, HB4⟩
            · have hltI : ¬ (k : Int) < 5 := by omega
              obtain rfl : k = 5 := by omega
              have HBk := Lib.hid hk.out
              obtain ⟨d, hd⟩ : ∃ d, B.L.length = d := ⟨_, rfl⟩
              have K1 := Lib.hid (mb_len HBk.out (d : Int) (by rw [hd]))
              have HD := Lib.hid hd
              have K2 := Lib.hid (mb_stay HBk.out (by have := HF.out.2.2.2.1; omega))
              clear hk hkg hlt hd
              go_wp2_with fail
              refine (K1.out).mono ?_
              rintro e w4 ⟨rfl, rfl⟩
              go_wp2_with fail
              refine (K2.out).mono ?_
              rintro e w5 ⟨rfl, hb5⟩
              have mA := (Mod.refl [] w5).alloc (.cells #[.slice none 0 0] 41)
              have hdc : (w5.alloc (.cells #[.slice none 0 0] 41)).cell? ⟨w5.heap.size, 0, none⟩ = some (.slice none 0 0) := by rw [World.cell?_alloc_new]; rfl
              have hb6 := hb5.far mA
              have K3 := Lib.hid (mb_len hb6 (d : Int) (by rw [HD.out]))
              obtain ⟨n0, hn0⟩ : ∃ n0, endN[y]? = some n0 := ⟨_, List.getElem?_eq_getElem (by simp [endN]; omega)⟩
              have hcb := hb6.m.cell (by simp) (HL.out.2 y n0 hn0)
              have hcx := hb6.m.cell (by simp) HCX.out
              have hz := (bal_end (B := B) hn0 HF.out.1 (by have := HF.out.2.2.2.2.2.1; omega)).1 HF.out.2.2.1
              have kk := mb_do hb6 n0
              rw [hz.1] at kk
              have K4 := Lib.hid kk
              have HZ := Lib.hid (And.intro hz.2 (do_len n0 B))
              clear kk hz hn0 hb6 hb5 mA K2
              go_wp2_with fail
              refine (K3.out).mono ?_
              rintro e w6 ⟨rfl, rfl⟩
              go_wp2_with fail
              refine (K4.out).mono ?_
              rintro e w7 ⟨rfl, hb7⟩
              have K5 := Lib.hid (mb_open hb7 (j : Int) (by rw [HZ.out.1]; exact HF.out.2.2.2.2.1))
              have HB7 := Lib.hid hb7
              clear hb7 K4 hdc
              go_wp2_with fail
              refine (K5.out).mono ?_
              rintro e w8 ⟨rfl, rfl⟩
              clear K5
              go_wp2_with fail
              go_roundg (gO - 1)
              case measure => have := HF.out.2.2.2.2.2.2; have := HGO.out; omega
              case rel =>
                have h7 := HF.out.2.2.2.2.2.2
                have h8 := HGO.out
                have h9 : gO - 1 = j := by omega
                rw [h9]
                exact ⟨(j : Int) - 1, by first | rfl | go_num, by omega, Lib.hid (by omega), Lib.hid ⟨_, HB7.out, by rw [HZ.out.1]; exact HF.out.2.1, by have := HZ.out.2; have := HF.out.2.2.2.2.2.1; omega⟩⟩
        · obtain rfl : y = -1 := by omega
          obtain rfl : gk = 0 := by omega
          obtain ⟨L, P⟩ := B
          obtain rfl : P = [] := by simpa using hBk
          have HE := Lib.hid (mb_end hB)
          have HL60 := Lib.hid hBl
          clear hB hBk hBl hyg hgi h0
          go_wp2_with fail
          refine (HE.out).mono ?_
          rintro e w5 ⟨A, cp, rfl, hme⟩
          obtain ⟨n, hn⟩ : ∃ n, n = (L ++ [(⟨15, 0, 0⟩ : Xi)]).length := ⟨_, rfl⟩
          obtain ⟨k, hk⟩ : ∃ k, k = L.length := ⟨_, rfl⟩
          rw [← hn]
          have mA := (Mod.refl [] w5).alloc (.cells #[.slice A n cp] 41)
          have hdc : (w5.alloc (.cells #[.slice A n cp] 41)).cell? ⟨w5.heap.size, 0, none⟩ = some (.slice A n cp) := by rw [World.cell?_alloc_new]; rfl
          have hnk : (n : Int) - 1 = (k : Int) := by rw [hn, hk]; simp
          have hkn : (k : Int) < (n : Int) := by omega
          have hn0 : (0 : Int) < (n : Int) := by omega
          have hkI : (k : Int) ≤ 1000 := by have h : L.length + 0 ≤ 60 := HL60.out; omega
          obtain ⟨bA, oA, rfl, hat, _⟩ := (hme.ins.far mA).get (i := k) (x := ⟨15, 0, 0⟩) (by rw [hk]; simp)
          have hc0 := hat.c0
          have hbA := hme.b.far mA
          have K1 := Lib.hid (mb_len hbA 0 rfl)
          have k2 := mb_do hbA 2
          rw [show doB 2 ⟨[], []⟩ = (-22, ⟨[], []⟩) by kernel_rfl] at k2
          have K2 := Lib.hid k2
          clear hme mA hn hk hat hbA k2 HE
          go_wp2_with fail
          refine (K1.out).mono ?_
          rintro e w6 ⟨rfl, rfl⟩
          clear K1
          go_wp2_with fail
          refine (K2.out).mono ?_
          rintro e w7 ⟨rfl, hb7⟩
          have k3 := mb_do hb7 13
          rw [show doB 13 ⟨[], []⟩ = (-22, ⟨[], []⟩) by kernel_rfl] at k3
          have K3 := Lib.hid k3
          clear hb7 k3 K2 hc0 hdc
          go_wp2_with fail
          refine (K3.out).mono ?_
          rintro e w8 ⟨rfl, hb8⟩
          have HM8 := Lib.hid (HM2.out.trans hb8.m)
          clear hb8 K3
          go_wp2_with fail
          go_ret
          exact ⟨by simp, HM8.out⟩
end Go.Proofs.Ytnclfopdgilgaaa
