/- Layer 10: InsBounds, walked. Condition: the table reads as the program's text lays it. -/
import Derived.Test.YtheealjhmndbgaaDoorIV
import Derived.Deep.LoopGhost
import Derived.Test.YtheealjhmndbgaaDoorIZA
import Derived.Laws.MakeOwn
namespace Go.Proofs.YtheealjhmndbgaaDoor
open Go.RowKit
set_option linter.unusedVariables false

theorem flatsX_set (K : List Xi) (i : Nat) (x : Xi) (hi : i < K.length) : flatsX (K.set i x) = (((flatsX K).set (i * 3) (.int .u8 (x.op : Int))).set (i * 3 + 1) (.int .i64 x.a)).set (i * 3 + 2) (.int .i64 x.w) := by
  induction K generalizing i with
  | nil => simp at hi
  | cons a r ih =>
    cases i with
    | zero => rfl
    | succ i =>
      have h := ih i (by simpa using hi)
      have e1 : flatsX (a :: r.set i x) = flatX a ++ flatsX (r.set i x) := rfl
      have e2 : flatsX (a :: r) = flatX a ++ flatsX r := rfl
      rw [List.set_cons_succ, e1, e2, h, show (i + 1) * 3 = i * 3 + 3 by omega]
      rfl
theorem Xm.set {w0 w : World} {g n cap : Nat} {K : List Xi} (h : Xm w0 w (.slice (some ⟨g, 0, none⟩) n cap) K) (i : Nat) (hi : i < K.length) (x : Xi) (hx : WellX x) :
    Xm w0 (((w.setCell ⟨g, i * 3, none⟩ (.int .u8 (x.op : Int))).setCell ⟨g, i * 3 + 1, none⟩ (.int .i64 x.a)).setCell ⟨g, i * 3 + 2, none⟩ (.int .i64 x.w)) (.slice (some ⟨g, 0, none⟩) n cap) (K.set i x) := by
  obtain rfl := h.row.len.1
  have hg := (h.row.own g rfl).1
  have h1 := (World.ownsRow.stored h.row (i * 3) (.int .u8 (x.op : Int))).1
  have h2 := (World.ownsRow.stored h1 (i * 3 + 1) (.int .i64 x.a)).1
  have h3 := (World.ownsRow.stored h2 (i * 3 + 2) (.int .i64 x.w)).1
  refine ⟨?_, ((h.m.set (x := ⟨g, i * 3, none⟩) (Or.inr hg) _).set (x := ⟨g, i * 3 + 1, none⟩) (Or.inr hg) _).set (x := ⟨g, i * 3 + 2, none⟩) (Or.inr hg) _, fun y hy => ?_⟩
  · unfold Xr
    rw [List.length_set, flatsX_set K i x hi]
    exact h3
  · rcases List.mem_or_eq_of_mem_set hy with hy | rfl
    · exact h.well y hy
    · exact hx
theorem Xm.block {w0 w : World} {A : Option Addr} {n cap : Nat} {K : List Xi} (h : Xm w0 w (.slice A n cap) K) (h0 : 0 < K.length) : ∃ g, A = some ⟨g, 0, none⟩ := by
  rcases h.row.2 with ⟨e, he⟩ | ⟨g, cap', cur, e, _⟩
  · omega
  · simp only [Value.slice.injEq] at e
    exact ⟨g, e.1⟩
theorem Xm.free {w0 w : World} {g n cap : Nat} {K : List Xi} (h : Xm w0 w (.slice (some ⟨g, 0, none⟩) n cap) K) (k : Nat) : w.frozen? ⟨g, k, none⟩ = false := by
  obtain rfl := h.row.len.1
  exact World.ownsRow.frozenAt h.row k
theorem Xm.start (w : World) (x : Xi) (hx : WellX x) : Xm w (w.alloc (.cells #[.int .u8 (x.op : Int), .int .i64 x.a, .int .i64 x.w] 36)) (.slice (some ⟨w.heap.size, 0, none⟩) 1 1) [x] :=
  ⟨Xr.lit w w.heap.size (Nat.le_refl _) [x] (by simp) _ rfl, (Mod.refl [] w).alloc _, fun y hy => by rw [List.mem_singleton.1 hy]; exact hx⟩
/-- Instructions laid in a new block, at any place. -/
theorem at_new (w : World) (K : List Xi) (t : TypeId) (cs : Array Value) (hcs : cs = (flatsX K).toArray) (i : Nat) (x : Xi) (hx : K[i]? = some x) : AtX (w.alloc (.cells cs t)) w.heap.size (i * 3) x := by
  subst hcs
  obtain ⟨hi, rfl⟩ := List.getElem?_eq_some_iff.1 hx
  have get : ∀ k, k < 3 → (w.alloc (.cells (flatsX K).toArray t)).cell? ⟨w.heap.size, i * 3 + k, none⟩ = (flatX K[i])[k]? := fun k hk => by
    rw [World.cell?_alloc_new, ← flatsX_get K i k hi hk]
    simp
  exact ⟨get 0 (by decide), get 1 (by decide), get 2 (by decide)⟩
theorem make_ins (w : World) : (Instr.makeSlice 22 (.int .i64 501) (.int .i64 501)).run Tryd.prog w = .ok (.slice (some ⟨w.heap.size, 0, none⟩) 501 501) (w.alloc (.cells (madeCells (Value.agg #[.int .u8 0, .int .i64 0, .int .i64 0]).cells 1503) 36)) := by
  obtain ⟨i, hi, hz0, hz1, hz2⟩ := info_parts infoIns
  have := run_make (P := Tryd.prog) w 22 36 i _ Tryd.underlying22 hi hz0 .i64 .i64 501 501 (by omega) (Int.le_refl _) (by rw [hz2]; omega) (by omega)
  rw [this, hz1]
  rfl
set_option maxHeartbeats 8000000 in
set_option maxRecDepth 100000 in
theorem bounds_walk {w : World} (g : Good w) (c0 c1 c2 : Nat) (h0 : c0 < 256) (h1 : c1 < 256) (h2 : c2 < 256) :
    Calls Tryd.prog 7 #[.int .u8 (c0 : Int), .int .u8 (c1 : Int), .int .u8 (c2 : Int)] w fun e w' => e = .returned (.bool true) ∧ Mod [] w w' := by
  have H1 := Lib.hid (shown_calls g)
  have HG := Lib.hid g
  obtain ⟨m, hm⟩ : ∃ m, m = c0 % 51 := ⟨_, rfl⟩
  have hm50 : m ≤ 50 := by omega
  have hmI : (c0 : Int) % 51 = (m : Int) := by omega
  have hmB : (m : Int) ≤ 50 := by omega
  have hc0I : (c0 : Int) < 256 := by omega
  have hc1I : (c1 : Int) < 256 := by omega
  have hc2I : (c2 : Int) < 256 := by omega
  obtain ⟨idx, hidx⟩ : ∃ idx, idx = c1 % (m + 2) := ⟨_, rfl⟩
  obtain ⟨h, hh⟩ : ∃ h, h = c2 % 14 := ⟨_, rfl⟩
  have hxl : idx < m + 2 := by rw [hidx]; exact Nat.mod_lt _ (by omega)
  have hhl : h < 14 := by omega
  have hxI : (c1 : Int) % ((m : Int) + 2) = (idx : Int) := by have := Int.natCast_emod c1 (m + 2); rw [hidx, this]; rfl
  have hhI : (c2 : Int) % 14 = (h : Int) := by omega
  clear g h0 h1 h2 hm hidx hh
  go_enter Tryd.func7, Tryd.ntmps7
  go_wp2_with fail
  refine (H1.out).mono ?_
  rintro e w1 ⟨rfl, hm1⟩
  have HM1 := Lib.hid hm1
  have HS := Lib.hid (Xm.start w1 ⟨12, 2, 0⟩ ⟨by decide, by unfold I64; decide, by unfold I64; decide⟩)
  clear hm1
  go_wp2_with fail
  go_loopg [9, 21] m (fun g z y wr => ∃ (i : Nat) (A : Option Addr) (n cap : Nat), z = .slice A n cap ∧ y = .int .i64 (i : Int) ∧ i + g = m ∧ RowKit.Hid (Xm w1 wr (.slice A n cap) (boH i)))
  case atStart => exact ⟨0, _, _, _, rfl, rfl, by omega, HS⟩
  case round =>
    clear HS
    obtain ⟨i, A, n, cap, rfl, rfl, hig, hi⟩ := hrel
    by_cases hlt : i < m
    · have hltI : (i : Int) < (m : Int) := by omega
      have HK := Lib.hid hig
      obtain ⟨r, hr⟩ : ∃ r, r = i % 5 := ⟨_, rfl⟩
      have hrI : (i : Int) % 5 = (r : Int) := by omega
      have hr5 : (r : Int) < 5 := by omega
      obtain ⟨x, hx⟩ : ∃ x, x = ptX r := ⟨_, rfl⟩
      have hat := at_new wr [⟨1, 0, -3⟩, ⟨2, 4, 0⟩, ⟨13, 1, 0⟩, ⟨14, 0, 0⟩, ⟨11, 0, 0⟩] 36 #[.int .u8 1, .int .i64 0, .int .i64 (-3), .int .u8 2, .int .i64 4, .int .i64 0, .int .u8 13, .int .i64 1, .int .i64 0, .int .u8 14, .int .i64 0, .int .i64 0, .int .u8 11, .int .i64 0, .int .i64 0] rfl r x (by
        rw [hx]
        have h5 : r = 0 ∨ r = 1 ∨ r = 2 ∨ r = 3 ∨ r = 4 := by omega
        rcases h5 with h | h | h | h | h <;> rw [h] <;> rfl)
      have hc0 := hat.c0
      have hc1 := hat.c1
      have hc2 := hat.c2
      have hW := hi.out.far ((Mod.refl [] wr).alloc (.cells #[.int .u8 1, .int .i64 0, .int .i64 (-3), .int .u8 2, .int .i64 4, .int .i64 0, .int .u8 13, .int .i64 1, .int .i64 0, .int .u8 14, .int .i64 0, .int .i64 0, .int .u8 11, .int .i64 0, .int .i64 0] 36))
      obtain ⟨A2, n2, cap2, w2, e2, hdrop, hX2⟩ := hW.app (by rw [boH_len]; omega) x (by rw [hx]; exact pt_well _)
      rw [size_allocI] at e2
      have HX2 := Lib.hid (show Xm w1 w2 (.slice A2 n2 cap2) (boH (i + 1)) by rw [← boH_next, ← hr, ← hx]; exact hX2)
      clear hi hig hr hx hat hW hX2 hdrop
      go_wp2_with fail
      go_roundg (gk - 1)
      case measure => have := HK.out; omega
      case rel => exact ⟨i + 1, A2, n2, cap2, rfl, by go_num, by have := HK.out; omega, HX2⟩
    · have hltI : ¬ (i : Int) < (m : Int) := by omega
      obtain rfl : i = m := by omega
      obtain ⟨A2, n2, cap2, w2, e2, hdrop, hX2⟩ := hi.out.app (by rw [boH_len]; omega) ⟨15, 0, 0⟩ ⟨by decide, by unfold I64; decide, by unfold I64; decide⟩
      have hX2' : Xm w1 w2 (.slice A2 n2 cap2) (boL i) := hX2
      replace e2 : (appIns 22 #[.slice A n cap, .slice (some ⟨wr.heap.size, 0, none⟩) 1 1]).run Tryd.prog (wr.alloc (.cells #[.int .u8 15, .int .i64 0, .int .i64 0] 36)) = .ok (.slice A2 n2 cap2) w2 := e2
      clear hdrop
      obtain ⟨g2, rfl⟩ := hX2'.block (by rw [boL_len]; omega)
      obtain rfl : n2 = i + 2 := by rw [hX2'.row.len.1, boL_len]
      have HX2 := Lib.hid hX2'
      have HN2 := Lib.hid (show i + 2 = (boL i).length ∧ i + 2 ≤ 1000000 from ⟨hX2'.row.len.1, by omega⟩)
      have H4 := Lib.hid ((may_calls (cap := cap2) (HG.out.far (HM1.out.trans hX2'.m)) hX2'.ins HN2.out.1 HN2.out.2 4).mono fun e w' k => may_at (may_yes ((bo_may i hm50 4).2 (Or.inr (by decide)))) k)
      clear hi hX2 hX2' hltI hlt hig
      go_wp2_with fail
      refine (H4.out).mono ?_
      rintro e w3 ⟨rfl, hm3⟩
      have hX3 := HX2.out.far hm3
      obtain ⟨r3, hr3⟩ : ∃ r3, r3 = decide ((i : Int) + 2 < 4) := ⟨_, rfl⟩
      have H5 := Lib.hid ((may_calls (cap := cap2) (HG.out.far (HM1.out.trans hX3.m)) hX3.ins HN2.out.1 HN2.out.2 3).mono fun e w' k => may_at (r := r3) (by
        rw [bo_may i hm50 3, hr3, decide_eq_true_eq]
        omega) k)
      have HX3 := Lib.hid hX3
      have hr3b := hr3.symm
      clear hm3 hX3 hr3 H4
      go_wp2_with fail
      refine (H5.out).mono ?_
      rintro e w4 ⟨rfl, hm4⟩
      have hX4 := HX3.out.far hm4
      have HX4 := Lib.hid hX4
      clear hm4 hX4 H5
      obtain ⟨x, hx⟩ : ∃ x, (badL ((i : Int) + 2))[h]? = some x := ⟨_, List.getElem?_eq_getElem (by show h < 14; exact hhl)⟩
      have hat := at_new w4 (badL ((i : Int) + 2)) 36 #[.int .u8 0, .int .i64 0, .int .i64 0, .int .u8 16, .int .i64 0, .int .i64 0, .int .u8 255, .int .i64 0, .int .i64 0, .int .u8 2, .int .i64 0, .int .i64 0, .int .u8 2, .int .i64 5, .int .i64 0, .int .u8 3, .int .i64 ((i : Int) + 2), .int .i64 0, .int .u8 4, .int .i64 (-1), .int .i64 0, .int .u8 13, .int .i64 2, .int .i64 0, .int .u8 14, .int .i64 (-1), .int .i64 0, .int .u8 12, .int .i64 17, .int .i64 0, .int .u8 11, .int .i64 0, .int .i64 1, .int .u8 11, .int .i64 1, .int .i64 0, .int .u8 1, .int .i64 1, .int .i64 0, .int .u8 15, .int .i64 1, .int .i64 0] rfl h x hx
      have hc0 := hat.c0
      have hc1 := hat.c1
      have hc2 := hat.c2
      have hX5 := HX4.out.far ((Mod.refl [] w4).alloc (.cells #[.int .u8 0, .int .i64 0, .int .i64 0, .int .u8 16, .int .i64 0, .int .i64 0, .int .u8 255, .int .i64 0, .int .i64 0, .int .u8 2, .int .i64 0, .int .i64 0, .int .u8 2, .int .i64 5, .int .i64 0, .int .u8 3, .int .i64 ((i : Int) + 2), .int .i64 0, .int .u8 4, .int .i64 (-1), .int .i64 0, .int .u8 13, .int .i64 2, .int .i64 0, .int .u8 14, .int .i64 (-1), .int .i64 0, .int .u8 12, .int .i64 17, .int .i64 0, .int .u8 11, .int .i64 0, .int .i64 1, .int .u8 11, .int .i64 1, .int .i64 0, .int .u8 1, .int .i64 1, .int .i64 0, .int .u8 15, .int .i64 1, .int .i64 0] 36))
      obtain ⟨y, hy⟩ : ∃ y, (boL i)[idx]? = some y := ⟨_, List.getElem?_eq_getElem (by rw [boL_len]; exact hxl)⟩
      obtain ⟨b5, o5, e5, hat5, _⟩ := hX5.ins.get hy
      obtain ⟨rfl, rfl⟩ : g2 = b5 ∧ 0 = o5 := by injection e5 with e5; injection e5 with e6 e7; exact ⟨e6, e7⟩
      rw [Nat.zero_add] at hat5
      have hd0 := hat5.c0
      have hd1 := hat5.c1
      have hd2 := hat5.c2
      have hf0 := hX5.free (idx * 3)
      have hf1 := hX5.free (idx * 3 + 1)
      have hf2 := hX5.free (idx * 3 + 2)
      have t1 : (c1 : Int).tmod ((i : Int) + 2) = (idx : Int) := by rw [Int.tmod_eq_emod_of_nonneg (by omega)]; exact hxI
      have t2 : (c2 : Int).tmod 14 = (h : Int) := by rw [Int.tmod_eq_emod_of_nonneg (by omega)]; exact hhI
      have t3 : IntKind.i64.wrap (idx : Int) = (idx : Int) := by rw [IntKind.wrap_i64]; omega
      have t4 : IntKind.i64.wrap (h : Int) = (h : Int) := by rw [IntKind.wrap_i64]; omega
      have t5 : (idx : Int) < (i : Int) + 2 := by omega
      have t6 : (h : Int) < 14 := by omega
      have HX5 := Lib.hid ((hX5.set idx (by rw [boL_len]; exact hxl) x (bad_well _ (by omega) x (List.mem_of_getElem? hx))).far (Mod.refl [] _).drew)
      have HNO := Lib.hid (bad_may i idx h hxl x hx)
      have H6 := Lib.hid (fun (W : World) (k : Xm w1 W (.slice (some ⟨g2, 0, none⟩) (i + 2) cap2) ((boL i).set idx x)) => (may_calls (cap := cap2) (HG.out.far (HM1.out.trans k.m)) k.ins (by rw [List.length_set, boL_len]) HN2.out.2 4).mono fun e w' q => may_at (may_no HNO.out) q)
      have H7 := Lib.hid (fun (W : World) (k : Mod [] w W) => (may_calls (A := none) (n := 0) (cap := 0) (L := []) (HG.out.far k) (fun i hi => absurd hi (by simp)) rfl (by decide) 4).mono fun e w' q => may_at (may_no (MayP.bad bad_nil)) q)
      have H8 := Lib.hid (fun (W : World) (A : Option Addr) => may_long W A 501 501 (by decide) 4)
      have hmk := make_ins
      clear hx hat hX5 hy hat5 e5
      go_wp2_with fail
      go_region
      all_goals
        go_wp2_with fail
        refine (H6.out _ HX5.out).mono ?_
        rintro e w6 ⟨rfl, hm6⟩
        have HM6 := Lib.hid ((HM1.out.trans HX5.out.m).trans hm6)
        clear hm6
        go_wp2_with fail
        refine (H7.out _ HM6.out).mono ?_
        rintro e w7 ⟨rfl, hm7⟩
        have HM7 := Lib.hid (HM6.out.trans hm7)
        clear hm7
        go_wp2_with fail
        refine (H8.out _ _).mono ?_
        rintro e w8 ⟨rfl, hm8⟩
        have HM8 := Lib.hid ((HM7.out.alloc _).trans hm8)
        clear hm8
        go_wp2_with fail
        go_ret
        exact ⟨by simp, HM8.out⟩
end Go.Proofs.YtheealjhmndbgaaDoor
