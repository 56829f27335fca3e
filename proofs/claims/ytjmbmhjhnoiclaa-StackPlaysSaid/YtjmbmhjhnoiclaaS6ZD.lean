/- Layer 6: StackPlays's walk. Condition: the argument is a slice of acts. -/
import Derived.Test.YtjmbmhjhnoiclaaS6ZC
import Derived.Test.YtjmbmhjhnoiclaaS6O
import Derived.Deep.Cut
import Derived.Deep.DeepCutAuto
namespace Go.Proofs.Ytjmbmhjhnoiclaa
open Go.RowKit
set_option linter.unusedVariables false

theorem bounds8 {a : Int} (h : (Lit.int .u8 a).wf = true) : 0 ≤ a ∧ a ≤ 255 := bounds_u8 h
set_option maxHeartbeats 8000000 in
set_option maxRecDepth 100000 in
theorem plays_walk (w : World) (A : Option Addr) (len cap : Nat) (R : IsActs w A len cap) :
    Calls Try.prog 3 #[.slice A len cap] w fun e w' => e = .returned (.bool true) ∧ Mod [] w w' := by
  have HR := Lib.hid R
  obtain ⟨K, hK⟩ : ∃ K, K = min len 200 := ⟨_, rfl⟩
  have HK := Lib.hid hK
  have hK1 : K ≤ 200 := by omega
  clear R hK
  go_enter Try.func3, Try.ntmps3
  go_wp2_with fail
  refine (shown_calls w).mono ?_
  rintro e w1 ⟨rfl, m1⟩
  have M1 := Lib.hid m1
  clear m1
  go_wp2_with fail
  refine (new_calls _).mono ?_
  rintro e w2 ⟨p, rfl, s2, m2, l2⟩
  have hT : Tm w w (w2.alloc (.cells #[.slice none 0 0] 29)) p w2.heap.size [] [] := by
    have ma := (Mod.refl [] w2).alloc (.cells #[.slice none 0 0] 29)
    have hb : (w2.alloc (.cells #[.slice none 0 0] 29)).heap[w2.heap.size]? = some (.cells #[.slice none 0 0] 29) := (MapKept.heap_alloc w2 _).1
    refine ⟨s2.far ma, ⟨none, 0, ?_, Sl.nil _ _, fun _ => rfl, by simp, ?_, by rw [size_alloc']; omega, Nat.ne_of_gt s2.lp, by simp, by simp, by simp⟩, Nat.le_trans M1.out.size l2, Nat.le_trans M1.out.size m2.size, (M1.out.trans m2).far ma, ((M1.out.trans m2).far ma).up (by simp)⟩
    · simp only [World.cell?, hb]; rfl
    · simp only [World.frozen?, hb]; simp
  have HT := Lib.hid hT
  clear hT s2 m2 l2 M1
  go_wp2_with fail
  generalize w2.heap.size = q at HT ⊢
  generalize w2.alloc (.cells #[.slice none 0 0] 29) = w3 at HT ⊢
  refine (few_acts w3 A len cap K ⟨HR.out.1, HR.out.2.1⟩ HK.out).mono ?_
  rintro e w4 ⟨rfl, rfl⟩
  go_wp2_with fail
  go_loopw [17] (fun i wr => ∃ (j : Nat) (L : List Int), j ≤ K ∧ i = .int .i64 (j : Int) ∧ RowKit.Hid (Tm w w wr p q L L)) (fun i _ => K - (intOf i).toNat)
  case atStart => exact ⟨0, [], by omega, rfl, HT⟩
  case round =>
    clear HT
    obtain ⟨j, L, hj, rfl, HT⟩ := hrel
    by_cases hlt : j < K
    · obtain ⟨b, o, hA, k, x, y, c0, c1, c2, wk, wx, wy⟩ := HR.out.2.2 j (by have := HK.out; omega)
      subst hA
      have d0 := HT.out.m.cell (by simp) c0
      have d1 := HT.out.m.cell (by simp) c1
      have d2 := HT.out.m.cell (by simp) c2
      have ma := (Mod.refl [] wr).alloc (.cells #[.int .u8 k, .int .i64 x, .int .i64 y] 33)
      have T1 := Lib.hid (HT.out.far ma)
      have T2 := Lib.hid (HT.out.far ma.drew)
      have HD := Lib.hid (And.intro (bounds8 wk) (And.intro (i64_of_wf wx) (i64_of_wf wy)))
      clear c0 c1 c2 wk wx wy ma
      go_wp2_with fail
      go_cut [35] (fun u wx => u = .bool false ∧ ∃ L', RowKit.Hid (Tm w w wx p q L' L'))
      case first =>
        clear HR HT d0 d1 d2
        go_region_with (first
          | (go_at_call 13; refine (does_any T2.out k x y HD.out.1 HD.out.2.1 HD.out.2.2).mono ?_; rintro e w5 ⟨rfl, L5, h5⟩; have T5 := Lib.hid h5; obtain ⟨A5, cap5, hr5⟩ := h5.r; have hq5 := hr5.c; clear h5 hr5)
          | (go_at_call 14; refine (depth_calls T5.out.s).mono ?_; rintro e w6 ⟨rfl, rfl⟩))
        all_goals
          go_wp2_with fail
          go_meet
          exact ⟨by simp, _, T5⟩
      case rest =>
        obtain ⟨rfl, L2, HT2⟩ := hcut
        clear T1 T2 HD d0 d1 d2 HT HR
        go_wp2_with fail
        go_roundw
        case rel => exact ⟨j + 1, L2, by omega, by go_num, HT2⟩
        case measure => simp [intOf]; omega
    · have hjk : j = K := by omega
      subst hjk
      obtain ⟨A1, cap1, hr⟩ := HT.out.r
      have hq := hr.c
      have hL := hr.n
      have rd := hr.far (Mod.refl [] wr).drew
      have hqd := rd.c
      have TD := Lib.hid (HT.out.far (Mod.refl [] wr).drew)
      have RD := Lib.hid rd
      have HL := Lib.hid hL
      clear hr rd hL HR HT hj hlt
      go_wp2_with fail
      go_region_held3 (fun V => V.cell? ⟨q, 0, none⟩ = some (.slice A1 L.length cap1)) (first | assumption | go_keep) (first
        | ((with_reducible refine (all_calls TD.out.s).mono ?_); rintro e w5 ⟨b5, c5, rfl, ho5, hl5, hm5⟩; have T5 := Lib.hid (TD.out.far hm5); have r5 := RD.out.far hm5; have hq5 := r5.c; have R5 := Lib.hid r5; have O5 := Lib.hid ho5; clear ho5 hl5 hm5 r5)
        | ((with_reducible refine (same_row O5.out R5.out.s rfl (by have := HL.out; omega) (by have := HL.out; omega)).mono ?_); rintro e w6 ⟨rfl, m6⟩; have T6 := Lib.hid (T5.out.far m6); have hq6 := (R5.out.far m6).c; clear m6)
        | fail)
      go_wp2
      go_ret
      exact ⟨by simp, T6.out.m⟩
end Go.Proofs.Ytjmbmhjhnoiclaa
