/- Layer 11: whatever parts come, what is told, and laid, is the document's (FlowPlays' walk). Condition: the row of small numbers came in. -/
import Derived.Test.YtnclfopdgilgaaaFRC
import Derived.Deep.Cut
import Derived.Deep.DeepCutAuto
import Derived.Deep.RegionHeld3
import Derived.BigQuiet
namespace Go.Proofs.Ytnclfopdgilgaaa
open Go.RowKit
set_option linter.unusedVariables false

theorem i8_in {x : Int} (h : (Lit.int .i8 x).wf = true) : -128 ≤ x ∧ x ≤ 127 := by
  simpa [Lit.wf, IntKind.min, IntKind.max, IntKind.signed, IntKind.bits] using h
set_option maxHeartbeats 2000000 in
theorem few_calls (w : World) (a : Option Addr) (len cap q : Nat) (hc : len ≤ cap) (hcap : cap ≤ 9223372036854775807) (hq : q = min len 100) : Calls Try.prog 12 #[.slice a len cap] w fun e w' => e = .returned (.slice a q cap) ∧ w = w' := by
  have hu := upto_in w 22 32 Try.underlying22 size_i8 a len cap q (by omega)
  have hlenI : (len : Int) ≤ 9223372036854775807 := by omega
  by_cases h6 : len ≤ 100
  · obtain rfl : q = len := by omega
    have h6I : (q : Int) ≤ 100 := by omega
    clear hq h6 hc hcap
    go_enter Try.func12, Try.ntmps12
    go_upto_region 1 with fail
    go_cut [2] (fun u wx => u = .slice a q cap ∧ wx = w)
    case first =>
      go_wp2_with fail
      go_meet
      case rel => exact ⟨rfl, rfl⟩
    case rest =>
      obtain ⟨rfl, rfl⟩ := hcut
      go_wp2_with fail
      go_ret
      exact ⟨rfl, rfl⟩
  · obtain rfl : q = 100 := by omega
    have h6I : ¬ (len : Int) ≤ 100 := by omega
    have hu : (Instr.sliceAt 22 (.slice a len cap) none (some (.int .i64 100)) none).run Try.prog w = .ok (.slice a 100 cap) w := hu
    clear hq h6 hc hcap
    go_enter Try.func12, Try.ntmps12
    go_upto_region 1 with fail
    go_cut [2] (fun u wx => u = .slice a 100 cap ∧ wx = w)
    case first =>
      go_wp2_with fail
      go_meet
      case rel => exact ⟨rfl, rfl⟩
    case rest =>
      obtain ⟨rfl, rfl⟩ := hcut
      go_wp2_with fail
      go_ret
      exact ⟨rfl, rfl⟩
theorem zero_rb (W : World) : (zeroValue TRB).run Try.prog W = .ok (.agg #[.slice none 0 0, .slice none 0 0]) W := by kernel_rfl
/-- Two builders that are new. -/
theorem pl_new {w0 w : World} {b : Nat} (h : Bl w b [b] ⟨[], []⟩) (m : Mod [] w0 w) (hb : w0.heap.size ≤ b) : Pl w0 (w.alloc (.cells #[.slice none 0 0, .slice none 0 0] TRB)) b ⟨[], []⟩ w.heap.size ⟨[], []⟩ := by
  have hk := (MapKept.heap_alloc w (.cells #[.slice none 0 0, .slice none 0 0] TRB)).1
  have hl := h.lt b (by simp)
  refine ⟨[b], [w.heap.size], h.far ((Mod.refl [] w).alloc _), ok_new, ⟨fun x hx => ?_, ⟨.slice none 0 0, .slice none 0 0, [], ⟨hk, Xr.nil _ _, World.ownsRow_nil _ _ _ _, by simp, by simp [Value.ownBlock], by simp [Value.ownBlock], by simp [Value.ownBlock], by simp, by simp⟩, rfl, by simp [Sof, Value.ownBlock], fun b hb => by cases hb⟩, Ir.nil _ _, fun b hb => by cases hb⟩, ok_new, m.trans ((Mod.refl [] w).alloc _), fun x hx => ?_, fun x hx => ?_⟩
  · rw [List.mem_singleton.1 hx, size_allocI]; omega
  · rw [List.mem_singleton.1 hx]; exact ⟨hb, by simp; omega⟩
  · rw [List.mem_singleton.1 hx]; exact m.size
set_option maxHeartbeats 8000000 in
set_option maxRecDepth 100000 in
theorem plays_walk (w : World) (a : Option Addr) (len cap : Nat) (z : List Int) (hR : RowIn .i8 w a len cap z) :
    Calls Try.prog 3 #[.slice a len cap] w fun e w' => e = .returned (.bool true) ∧ Mod [] w w' := by
  obtain ⟨q, hq⟩ : ∃ q, q = min len 100 := ⟨_, rfl⟩
  obtain ⟨l, hl, hnum⟩ := hR.nums q (by omega)
  have hc := hR.le
  have HN := Lib.hid (And.intro hl (And.intro hnum (show q ≤ 100 by omega)))
  have HF := Lib.hid (fun W => few_calls W a len cap q hc.1 hc.2 hq)
  have H1 := Lib.hid (shown_calls w)
  clear hR hl hnum hc hq
  go_enter Try.func3, Try.ntmps3
  go_wp2_with fail
  refine (H1.out).mono ?_
  rintro e w1 ⟨rfl, hm1⟩
  have H2 := Lib.hid (new_calls w1)
  have HM1 := Lib.hid hm1
  clear hm1 H1
  go_wp2_with fail
  refine (H2.out).mono ?_
  rintro e w2 ⟨b, rfl, hb, hm2, hbl⟩
  have HP := Lib.hid (pl_new hb (HM1.out.trans hm2) (Nat.le_trans HM1.out.size hbl))
  clear hb hm2 hbl H2
  go_upto_region 3 with fail
  obtain ⟨v, hv⟩ : ∃ v, v = w2.heap.size := ⟨_, rfl⟩
  rw [← hv] at HP ⊢
  clear hv
  generalize w2.alloc (.cells #[.slice none 0 0, .slice none 0 0] TRB) = w3 at *
  go_wp2_with fail
  refine (HF.out _).mono ?_
  rintro e w4 ⟨rfl, rfl⟩
  go_wp2_with fail
  have hqI : (q : Int) ≤ 100 := by have := HN.out.2.2; omega
  go_loopg [22] q (fun g z wr => ∃ i : Nat, z = .int .i64 (i : Int) ∧ i + g = q ∧ RowKit.Hid (∃ B, Pl w wr b B v B))
  case atStart => exact ⟨0, rfl, by omega, Lib.hid ⟨_, HP.out⟩⟩
  case round =>
    clear HP
    obtain ⟨i, rfl, hig, hi⟩ := hrel
    obtain ⟨B, hB⟩ := hi.out
    clear hi
    by_cases hlt : i < q
    · have hltI : (i : Int) < (q : Int) := by omega
      obtain ⟨x, hx⟩ : ∃ x, l[i]? = some x := ⟨_, List.getElem?_eq_getElem (by have := HN.out.1; omega)⟩
      obtain ⟨hil, hx'⟩ := List.getElem?_eq_some_iff.1 hx
      obtain ⟨ax, hax, hcx⟩ := HN.out.2.1.1 i hil
      rw [hx'] at hcx
      have hcx := hB.m.cell (by simp) hcx
      have hxb := i8_in (HN.out.2.1.2 x (List.mem_of_getElem? hx))
      subst hax
      have HIG := Lib.hid hig
      have HB := Lib.hid hB
      clear hig hx hx' hil hlt hB
      by_cases hneg : x < 0
      · have hwx : IntKind.i64.wrap x = x := by rw [IntKind.wrap_i64]; omega
        have hwl : WellX (⟨1, 0, x⟩ : Xi) := ⟨show 1 < 256 by decide, by unfold I64; simp, by unfold I64; constructor <;> simp only <;> omega⟩
        obtain ⟨r, hr⟩ : ∃ r, r = (putB (⟨1, 0, x⟩ : Xi) B).1 := ⟨_, rfl⟩
        obtain ⟨B1, hB1⟩ : ∃ B1, B1 = (putB (⟨1, 0, x⟩ : Xi) B).2 := ⟨_, rfl⟩
        have k1 := fun (W : World) (m : Mod [] wr W) => pl_put1 HB.out m ⟨1, 0, x⟩ hwl
        have k2 := fun (W : World) (h : Pl w W b B1 v B) => pl_put2 h (Mod.refl _ _) ⟨1, 0, x⟩ hwl
        rw [← hr, ← hB1] at k1 k2
        have K1 := Lib.hid k1
        have K2 := Lib.hid k2
        have x0 : (wr.alloc (.cells #[.int .u8 1, .int .i64 0, .int .i64 x] 35)).cell? ⟨wr.heap.size, 0, none⟩ = some (.int .u8 1) := by rw [World.cell?_alloc_new]; rfl
        have x1 : (wr.alloc (.cells #[.int .u8 1, .int .i64 0, .int .i64 x] 35)).cell? ⟨wr.heap.size, 1, none⟩ = some (.int .i64 0) := by rw [World.cell?_alloc_new]; rfl
        have x2 : (wr.alloc (.cells #[.int .u8 1, .int .i64 0, .int .i64 x] 35)).cell? ⟨wr.heap.size, 2, none⟩ = some (.int .i64 x) := by rw [World.cell?_alloc_new]; rfl
        have MX := Lib.hid ((Mod.refl [] wr).alloc (.cells #[.int .u8 1, .int .i64 0, .int .i64 x] 35))
        clear k1 k2 hwl hr hB1 HB
        go_upto_region 10 with fail
        clear hcx
        generalize wr.alloc (.cells #[.int .u8 1, .int .i64 0, .int .i64 x] 35) = X at *
        go_cut [37] (fun u wx => u = .bool false ∧ RowKit.Hid (Pl w wx b B1 v B1))
        case first =>
          go_region_with (first
            | (go_at_call 13; refine (K1.out _ MX.out.drew).mono ?_; rintro e w5 ⟨rfl, h5, hst⟩; have y0 := hst ⟨wr.heap.size, 0, none⟩ _ (Nat.le_refl _) x0; have y1 := hst ⟨wr.heap.size, 1, none⟩ _ (Nat.le_refl _) x1; have y2 := hst ⟨wr.heap.size, 2, none⟩ _ (Nat.le_refl _) x2; have K3 := Lib.hid (K2.out _ h5); clear h5 hst)
            | (go_at_call 14; refine (K3.out).mono ?_; rintro e w6 ⟨rfl, h6⟩; have H6 := Lib.hid h6; clear h6)
            | fail)
          all_goals
            go_wp2_with fail
            go_meet
            case rel => exact ⟨by simp, H6⟩
        case rest =>
        obtain ⟨rfl, H6⟩ := hcut
        clear x0 x1 x2 K1 K2 MX
        obtain ⟨A0, c0, A1, c1, k0, k1⟩ := H6.out.rows
        obtain ⟨n1, hn1⟩ : ∃ n, B1.L.length = n := ⟨_, rfl⟩
        obtain ⟨n2, hn2⟩ : ∃ n, B1.P.length = n := ⟨_, rfl⟩
        rw [hn1] at k0
        rw [hn2] at k1
        have KL := Lib.hid (fun n => (pl_len (H6.out.far ((Mod.refl [] wc).drewN n)) (n1 : Int) (by rw [hn1])).mono fun e w' (h : _ ∧ _) => (⟨h.1, n, h.2.symm⟩ : _ ∧ ∃ m, w' = _))
        have KO := Lib.hid (fun n => (pl_open (H6.out.far ((Mod.refl [] wc).drewN n)) (n2 : Int) (by rw [hn2])).mono fun e w' (h : _ ∧ _) => (⟨h.1, n, h.2.symm⟩ : _ ∧ ∃ m, w' = _))
        clear hn1 hn2
        go_upto_region 14 with fail
        go_quiet ((first | (go_at_call 17; exact KL.out _) | (go_at_call 18; exact KO.out _)))
        have H7 := Lib.hid (H6.out.far ((Mod.refl [] wc).drewN nq))
        clear k0 k1 KL KO H6
        go_wp2_with fail
        go_roundg (gk - 1)
        case measure => have := HIG.out; omega
        case rel => exact ⟨i + 1, by go_num, by have := HIG.out; omega, Lib.hid ⟨B1, H7.out⟩⟩
      · have hwx : IntKind.i64.wrap x = x := by rw [IntKind.wrap_i64]; omega
        obtain ⟨r, hr⟩ : ∃ r, r = (doB x B).1 := ⟨_, rfl⟩
        obtain ⟨B1, hB1⟩ : ∃ B1, B1 = (doB x B).2 := ⟨_, rfl⟩
        have k1 := pl_do1 HB.out x
        have k2 := fun (W : World) (h : Pl w W b B1 v B) => pl_do2 h x
        rw [← hr, ← hB1] at k1 k2
        have K1 := Lib.hid k1
        have K2 := Lib.hid k2
        clear k1 k2 hr hB1 HB
        go_wp2_with fail
        refine (K1.out).mono ?_
        rintro e w5 ⟨rfl, h5⟩
        have K3 := Lib.hid (K2.out _ h5)
        clear h5 K1 K2 hcx
        go_wp2_with fail
        refine (K3.out).mono ?_
        rintro e w6 ⟨rfl, h6⟩
        have H6 := Lib.hid h6
        clear h6 K3
        obtain ⟨A0, c0, A1, c1, k0, k1⟩ := H6.out.rows
        obtain ⟨n1, hn1⟩ : ∃ n, B1.L.length = n := ⟨_, rfl⟩
        obtain ⟨n2, hn2⟩ : ∃ n, B1.P.length = n := ⟨_, rfl⟩
        rw [hn1] at k0
        rw [hn2] at k1
        have KL := Lib.hid (fun n => (pl_len (H6.out.far ((Mod.refl [] w6).drewN n)) (n1 : Int) (by rw [hn1])).mono fun e w' (h : _ ∧ _) => (⟨h.1, n, h.2.symm⟩ : _ ∧ ∃ m, w' = _))
        have KO := Lib.hid (fun n => (pl_open (H6.out.far ((Mod.refl [] w6).drewN n)) (n2 : Int) (by rw [hn2])).mono fun e w' (h : _ ∧ _) => (⟨h.1, n, h.2.symm⟩ : _ ∧ ∃ m, w' = _))
        clear hn1 hn2
        go_upto_region 14 with fail
        go_quiet ((first | (go_at_call 17; exact KL.out _) | (go_at_call 18; exact KO.out _)))
        have H7 := Lib.hid (H6.out.far ((Mod.refl [] w6).drewN nq))
        clear k0 k1 KL KO H6
        go_wp2_with fail
        go_roundg (gk - 1)
        case measure => have := HIG.out; omega
        case rel => exact ⟨i + 1, by go_num, by have := HIG.out; omega, Lib.hid ⟨B1, H7.out⟩⟩
    · have hltI : ¬ (i : Int) < (q : Int) := by omega
      clear hig hlt HF HN
      by_cases hP : B.P.length = 0
      · obtain ⟨L, P⟩ := B
        obtain rfl : P = [] := List.eq_nil_of_length_eq_zero hP
        have hL : L.length ≤ 499 := by obtain ⟨_, _, _, ok, _⟩ := hB; exact ok.len
        have K1 := Lib.hid (pl_end1 hB)
        clear hB hP
        go_wp2_with fail
        refine (K1.out).mono ?_
        rintro e w5 ⟨A1, c1, rfl, hI, h5⟩
        have m5 := (Mod.refl [] w5).alloc (.cells #[.slice A1 (L ++ [(⟨15, 0, 0⟩ : Xi)]).length c1] 41)
        have d0 : (w5.alloc (.cells #[.slice A1 (L ++ [(⟨15, 0, 0⟩ : Xi)]).length c1] 41)).cell? ⟨w5.heap.size, 0, none⟩ = some (.slice A1 (L ++ [(⟨15, 0, 0⟩ : Xi)]).length c1) := by rw [World.cell?_alloc_new]; rfl
        have K2 := pl_end2 h5 m5 (hI.far m5) (by simp)
        obtain ⟨K, hK⟩ : ∃ K, K = L ++ [(⟨15, 0, 0⟩ : Xi)] := ⟨_, rfl⟩
        rw [← hK] at K2 d0 m5 ⊢
        obtain ⟨n, hn⟩ : ∃ n, n = K.length := ⟨_, rfl⟩
        rw [← hn] at K2 d0 m5 ⊢
        have hn2 : K.length ≤ 1000 := by rw [hK]; simp; omega
        have HKN := Lib.hid (And.intro hn hn2)
        have K2 := Lib.hid K2
        clear hK hn hn2 hI h5 m5 K1 hL
        go_wp2_with fail
        refine (K2.out).mono ?_
        rintro e w6 ⟨A2, c2, rfl, hI2, hI1, h6, hst⟩
        have d1 := hst ⟨w5.heap.size, 0, none⟩ _ (Nat.le_refl _) d0
        clear K2 hst d0
        go_upto_region 19 with fail
        have dd1 := (Mod.refl [] w6).alloc (.cells #[.slice A2 n c2] 41)
        have d1' := dd1.cell (by simp) d1
        have d2 : (w6.alloc (.cells #[.slice A2 n c2] 41)).cell? ⟨w6.heap.size, 0, none⟩ = some (.slice A2 n c2) := by rw [World.cell?_alloc_new]; rfl
        have H7 := Lib.hid (h6.far dd1)
        have HS := Lib.hid (fun (W : World) (m : Mod [] (w6.alloc (.cells #[.slice A2 n c2] 41)) W) => same_calls (c := c1) (d := c2) (n := n) ((hI1.far dd1).far m) ((hI2.far dd1).far m) HKN.out.1 HKN.out.2)
        obtain ⟨A5, c5, A6, c6, k5, _⟩ := H7.out.rows
        have k5 : (w6.alloc (.cells #[.slice A2 n c2] 41)).cell? ⟨v, 0, none⟩ = some (.slice A5 0 c5) := k5
        clear d1 dd1 hI1 hI2 h6
        generalize w6.alloc (.cells #[.slice A2 n c2] 41) = w7 at *
        go_region_held3 (fun V => V.cell? ⟨w5.heap.size, 0, none⟩ = some (.slice A1 n c1) ∧ V.cell? ⟨w6.heap.size, 0, none⟩ = some (.slice A2 n c2) ∧ V.cell? ⟨v, 0, none⟩ = some (.slice A5 0 c5)) (first | exact ⟨d1', d2, k5⟩ | exact ⟨e1, e2, e3⟩ | fail) (first
          | (go_at_call 21; (with_reducible refine (HS.out _ (Mod.refl _ _).drew).mono ?_); rintro e w8 ⟨rfl, m8⟩; have M8 := Lib.hid ((Mod.refl [] w7).drew.trans m8); have e1 := M8.out.cell (by simp) d1'; have e2 := M8.out.cell (by simp) d2; have e3 := M8.out.cell (by simp) k5; have KL := Lib.hid (pl_len (H7.out.far M8.out) 0 rfl); clear m8)
          | (go_at_call 17; (with_reducible refine (KL.out).mono ?_); rintro e w9 ⟨rfl, rfl⟩)
          | fail)
        all_goals
          go_wp2_with fail
          go_ret
          exact ⟨by first | rfl | simp, H7.out.m.trans M8.out⟩
      · obtain ⟨n, hn⟩ : ∃ n, n = B.L.length := ⟨_, rfl⟩
        have K1 := Lib.hid (pl_stay1 hB (by omega))
        have hP2 : 0 < B.P.length := by omega
        have HNN := Lib.hid (And.intro hn hP2)
        clear hB hP hP2 hn
        go_wp2_with fail
        refine (K1.out).mono ?_
        rintro e w5 ⟨rfl, h5⟩
        have m5 := (Mod.refl [] w5).alloc (.cells #[.slice none 0 0] 41)
        have d0 : (w5.alloc (.cells #[.slice none 0 0] 41)).cell? ⟨w5.heap.size, 0, none⟩ = some (.slice none 0 0) := by rw [World.cell?_alloc_new]; rfl
        have K2 := Lib.hid (pl_stay2 (h5.far m5) HNN.out.2)
        clear h5 m5 K1
        go_wp2_with fail
        refine (K2.out).mono ?_
        rintro e w6 ⟨rfl, h6, hm6⟩
        have d1 := hm6.cell (by simp) d0
        have hI1 : InsAt w6 none [] := fun i hi => absurd hi (by simp)
        have hI2 := hI1
        clear K2 hm6 d0
        go_upto_region 19 with fail
        have dd1 := (Mod.refl [] w6).alloc (.cells #[.slice none 0 0] 41)
        have d1' := dd1.cell (by simp) d1
        have d2 : (w6.alloc (.cells #[.slice none 0 0] 41)).cell? ⟨w6.heap.size, 0, none⟩ = some (.slice none 0 0) := by rw [World.cell?_alloc_new]; rfl
        have H7 := Lib.hid (h6.far dd1)
        have HS := Lib.hid (fun (W : World) (m : Mod [] (w6.alloc (.cells #[.slice none 0 0] 41)) W) => same_calls (c := 0) (d := 0) (n := 0) ((hI1.far dd1).far m) ((hI2.far dd1).far m) rfl (by simp))
        obtain ⟨A5, c5, A6, c6, k5, _⟩ := H7.out.rows
        rw [← HNN.out.1] at k5
        clear d1 dd1 hI1 hI2 h6
        generalize w6.alloc (.cells #[.slice none 0 0] 41) = w7 at *
        go_region_held3 (fun V => V.cell? ⟨w5.heap.size, 0, none⟩ = some (.slice none 0 0) ∧ V.cell? ⟨w6.heap.size, 0, none⟩ = some (.slice none 0 0) ∧ V.cell? ⟨v, 0, none⟩ = some (.slice A5 n c5)) (first | exact ⟨d1', d2, k5⟩ | exact ⟨e1, e2, e3⟩ | fail) (first
          | (go_at_call 21; (with_reducible refine (HS.out _ (Mod.refl _ _).drew).mono ?_); rintro e w8 ⟨rfl, m8⟩; have M8 := Lib.hid ((Mod.refl [] w7).drew.trans m8); have e1 := M8.out.cell (by simp) d1'; have e2 := M8.out.cell (by simp) d2; have e3 := M8.out.cell (by simp) k5; have KL := Lib.hid (pl_len (H7.out.far M8.out) (n : Int) (by rw [HNN.out.1])); clear m8)
          | (go_at_call 17; (with_reducible refine (KL.out).mono ?_); rintro e w9 ⟨rfl, rfl⟩)
          | fail)
        all_goals
          go_wp2_with fail
          go_ret
          exact ⟨by first | rfl | simp, H7.out.m.trans M8.out⟩
end Go.Proofs.Ytnclfopdgilgaaa
